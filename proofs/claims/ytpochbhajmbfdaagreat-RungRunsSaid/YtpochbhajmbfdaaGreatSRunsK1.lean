/-
  My own texts, without what this claim does not need. My own text.
-/
import Derived.WalkKit
import Derived.WalkSpells
import Derived.Lib.Hide
import Derived.BigQuiet
import Derived.BigGuardPart
import Derived.Deep.RegionHeld3
import Derived.Test.YtpochbhajmbfdaaGreatRows
set_option maxRecDepth 100000
set_option maxHeartbeats 64000000
set_option linter.unusedVariables false
set_option linter.unusedSimpArgs false
set_option linter.unusedSectionVars false
open Go.Proofs.Tryz renaming prog → aj
namespace Go.Proofs.YtpochbhajmbfdaaGreat
theorem bg : type_of% @decide_eq_true := @decide_eq_true
theorem bl : type_of% @decide_eq_false := @decide_eq_false
theorem bV : type_of% @List.getElem?_eq_some_iff := @List.getElem?_eq_some_iff
theorem cl : type_of% @List.getElem?_eq_getElem := @List.getElem?_eq_getElem
theorem cC : type_of% @List.all_eq_true := @List.all_eq_true
theorem c0 : type_of% @decide_eq_true_eq := @decide_eq_true_eq
theorem dl : type_of% @List.length_append := @List.length_append
theorem dv : type_of% @Nat.le_of_ble_eq_true := @Nat.le_of_ble_eq_true
theorem dJ : type_of% @List.mem_of_getElem? := @List.mem_of_getElem?
theorem dU : type_of% @Nat.le_refl := @Nat.le_refl
theorem eo : type_of% @Bool.and_eq_true := @Bool.and_eq_true
theorem ez : type_of% @Nat.zero_le := @Nat.zero_le
theorem eI : type_of% @List.length_take := @List.length_take
theorem eJ : type_of% @List.getElem?_map := @List.getElem?_map
theorem gm : type_of% @List.getElem?_take_of_lt := @List.getElem?_take_of_lt
theorem gF : type_of% @List.getElem?_drop := @List.getElem?_drop
theorem gG : type_of% @List.getElem?_append_left := @List.getElem?_append_left
theorem gH : type_of% @List.getElem?_append_right := @List.getElem?_append_right
theorem hf : type_of% @List.mem_cons := @List.mem_cons
theorem hD : type_of% @Option.map_some := @Option.map_some
theorem hE : type_of% @Nat.eq_of_beq_eq_true := @Nat.eq_of_beq_eq_true
theorem ib : type_of% @Option.some.injEq := @Option.some.injEq
theorem ix : type_of% @List.mem_map := @List.mem_map
theorem iy : type_of% @List.take_of_length_le := @List.take_of_length_le
theorem iP : type_of% @Nat.ne_of_gt := @Nat.ne_of_gt
theorem iQ : type_of% @Nat.ne_of_lt := @Nat.ne_of_lt
theorem jn : type_of% @Nat.lt_or_ge := @Nat.lt_or_ge
theorem jo : type_of% @List.append_assoc := @List.append_assoc
theorem jq : type_of% @Int.mul_nonneg := @Int.mul_nonneg
theorem jr : type_of% @Nat.zero_add := @Nat.zero_add
theorem js : type_of% @List.pairwise_cons := @List.pairwise_cons
theorem jF : type_of% @List.length_drop := @List.length_drop
theorem jG : type_of% @Nat.zero_lt_succ := @Nat.zero_lt_succ
theorem j9 : type_of% @List.take_append_drop := @List.take_append_drop
theorem ka : type_of% @Int.mul_comm := @Int.mul_comm
theorem kb : type_of% @Int.pow_pos := @Int.pow_pos
theorem kw : type_of% @List.getElem?_of_mem := @List.getElem?_of_mem
theorem kx : type_of% @Nat.add_mul := @Nat.add_mul
theorem ky : type_of% @Nat.mul_le_mul_right := @Nat.mul_le_mul_right
theorem kz : type_of% @Option.bind_some := @Option.bind_some
theorem kA : type_of% @List.all_cons := @List.all_cons
theorem kB : type_of% @Rat.mul_nonneg := @Rat.mul_nonneg
theorem kW : type_of% @Int.toNat_natCast := @Int.toNat_natCast
theorem ln : type_of% @Array.getElem?_eq_some_iff := @Array.getElem?_eq_some_iff
theorem lp : type_of% @List.map_cons := @List.map_cons
theorem lS : type_of% @List.mem_cons_self := @List.mem_cons_self
theorem lT : type_of% @Nat.le_trans := @Nat.le_trans
theorem lU : type_of% @Int.mul_assoc := @Int.mul_assoc
theorem mq : type_of% @List.length_cons := @List.length_cons
theorem mr : type_of% @List.drop_eq_getElem_cons := @List.drop_eq_getElem_cons
theorem ms : type_of% @List.mem_append := @List.mem_append
theorem mu : type_of% @List.mem_singleton := @List.mem_singleton
theorem mW : type_of% @Int.eq_ofNat_of_zero_le := @Int.eq_ofNat_of_zero_le
theorem mX : type_of% @decide_eq_false_iff_not := @decide_eq_false_iff_not
theorem mY : type_of% @Option.some.inj := @Option.some.inj
theorem mZ : type_of% @List.length_map := @List.length_map
theorem na : type_of% @List.eq_nil_of_length_eq_zero := @List.eq_nil_of_length_eq_zero
theorem nb : type_of% @List.all_nil := @List.all_nil
theorem ob : type_of% @List.mem_of_mem_drop := @List.mem_of_mem_drop
theorem oc : type_of% @List.length_set := @List.length_set
theorem od : type_of% @Bool.false_eq_true := @Bool.false_eq_true
theorem oe : type_of% @Int.emod_lt_of_pos := @Int.emod_lt_of_pos
theorem pg : type_of% @Int.le_refl := @Int.le_refl
theorem pi : type_of% @List.take_succ_eq_append_getElem := @List.take_succ_eq_append_getElem
theorem pj : type_of% @Int.emod_nonneg := @Int.emod_nonneg
theorem qc : type_of% @List.mem_cons_of_mem := @List.mem_cons_of_mem
theorem qd : type_of% @List.mem_of_mem_take := @List.mem_of_mem_take
theorem qe : type_of% @List.append_nil := @List.append_nil
theorem qf : type_of% @List.map_congr_left := @List.map_congr_left
theorem qg : type_of% @Int.mul_le_mul_of_nonneg_right := @Int.mul_le_mul_of_nonneg_right
theorem qh : type_of% @Nat.min_eq_left := @Nat.min_eq_left
theorem qi : type_of% @Int.lt_or_le := @Int.lt_or_le
theorem qj : type_of% @Int.ediv_nonneg := @Int.ediv_nonneg
theorem qk : type_of% @Int.le_of_lt := @Int.le_of_lt
theorem ql : type_of% @Int.le_ediv_iff_mul_le := @Int.le_ediv_iff_mul_le
theorem rj : type_of% @List.not_mem_nil := @List.not_mem_nil
theorem rk : type_of% @List.getElem?_eq_none := @List.getElem?_eq_none
theorem rl : type_of% @Bool.or_eq_true := @Bool.or_eq_true
theorem rp : type_of% @Int.mul_le_mul_of_nonneg_left := @Int.mul_le_mul_of_nonneg_left
theorem rq : type_of% @Bool.true_and := @Bool.true_and
theorem sR : type_of% @Bool.eq_iff_iff := @Bool.eq_iff_iff
theorem sS : type_of% @List.getElem?_cons_zero := @List.getElem?_cons_zero
theorem sT : type_of% @Int.mul_eq_zero := @Int.mul_eq_zero
theorem sU : type_of% @Int.mul_ediv_add_emod := @Int.mul_ediv_add_emod
theorem sV : type_of% @Option.map_none := @Option.map_none
theorem sW : type_of% @Rat.intCast_add := @Rat.intCast_add
theorem uG : type_of% @Array.getElem?_modify := @Array.getElem?_modify
theorem uH : type_of% @Bool.not_eq_true' := @Bool.not_eq_true'
theorem uI : type_of% @Nat.lt_of_lt_of_le := @Nat.lt_of_lt_of_le
theorem uJ : type_of% @List.drop_of_length_le := @List.drop_of_length_le
theorem vV : type_of% @Array.getElem?_eq_none := @Array.getElem?_eq_none
theorem vW : type_of% @Nat.eq_zero_or_pos := @Nat.eq_zero_or_pos
theorem xQ : type_of% @List.getElem?_cons_succ := @List.getElem?_cons_succ
theorem xR : type_of% @Array.getD_eq_getD_getElem? := @Array.getD_eq_getD_getElem?
theorem xS : type_of% @Int.ediv_ediv_of_nonneg := @Int.ediv_ediv_of_nonneg
theorem AA : type_of% @List.take_append_of_le_length := @List.take_append_of_le_length
end Go.Proofs.YtpochbhajmbfdaaGreat
namespace Go.Proofs.YtpochbhajmbfdaaGreat
theorem bB : (∀ b : Bool, ((!b) = true) = (b = false)) ∧ (∀ b : Bool, ((!b) = false) = (b = true)) ∧ (∀ (p : Prop) [Decidable p], (decide p = true) = p) ∧ ∀ (p : Prop) [Decidable p], (decide p = false) = ¬ p := ⟨by simp, by simp, by simp, by simp⟩
end Go.Proofs.YtpochbhajmbfdaaGreat
namespace Go.Proofs.YtpochbhajmbfdaaGreat
open Go.RowKit
@[go_sem] theorem NK (w : World) (a b : Addr) (v : Value) : ((w.setCell a v).cell? b).isSome = (w.cell? b).isSome := by
  unfold World.setCell World.cell?;simp only [uG]
  by_cases e : a.block = b.block
  · rw [if_pos e]
    cases w.heap[b.block]? with
    | none => rfl
    | some o =>
      cases o <;> simp only [hD]
      by_cases s : a.spot.isSome = true
      · simp [s]
      · by_cases t : b.spot.isSome = true
        · simp [t]
        · simp only [if_neg s, if_neg t]
          rw [Array.getElem?_setIfInBounds]
          split
          · rename_i h1
            rw [← h1]
            split
            · rename_i h2; simp [h2]
            · rename_i h2; simp [h2]
          · rfl
  · rw [if_neg e]
theorem b6 {w W aP : World} (h : Below w.heap.size w W) (ab : Below W.heap.size W aP) : Below w.heap.size w aP := h.trans (ab.mono h.size)
theorem c6 {w W : World} (h : Below w.heap.size w W) (o : Obj) : Below w.heap.size w (W.alloc o) := h.alloc h.size o
theorem eW {w W : World} (h : Below w.heap.size w W) (b o : Nat) (v : Value) (ab : w.heap.size ≤ b) : Below w.heap.size w (W.setCell ⟨b, o, none⟩ v) := h.setCell (p := ⟨b, o, none⟩) ab v
def ah (w : World) (b : Nat) (u v : Value) : Prop := (w.cell? ⟨b, 0, none⟩ = some u ∧ w.cell? ⟨b, 1, none⟩ = some v) ∧ (w.frozen? ⟨b, 0, none⟩ = false ∧ w.frozen? ⟨b, 1, none⟩ = false)
theorem ah.lt {w : World} {b : Nat} {u v : Value} (h : ah w b u v) : b < w.heap.size := World.block_lt_of_cell? w _ h.1.1
theorem ah.call {W aP : World} {b : Nat} {u v : Value} (h : ah W b u v) (ab : Below W.heap.size W aP) : ah aP b u v := by
  have ao := h.lt;obtain ⟨⟨h1, h2⟩, aq, aK⟩ := h;exact ⟨⟨(ab.cell (p := ⟨b, 0, none⟩) ao).trans h1, (ab.cell (p := ⟨b, 1, none⟩) ao).trans h2⟩, (ab.frozen (p := ⟨b, 0, none⟩) ao).trans aq, (ab.frozen (p := ⟨b, 1, none⟩) ao).trans aK⟩
theorem ah.alloc {W : World} {b : Nat} {u v : Value} (h : ah W b u v) (o : Obj) : ah (W.alloc o) b u v := h.call ((Below.refl _ _).alloc (dU _) o)
theorem ah.drew {W : World} {b : Nat} {u v : Value} (h : ah W b u v) : ah W.drew b u v := h.call ((Below.refl _ _).drew)
theorem ah.new {W : World} {b : Nat} {u v : Value} {t : TypeId} (e : b = W.heap.size) : ah (W.alloc (.cells #[u, v] t)) b u v := by
  subst e;unfold ah
  go_simp
theorem ah.set {W : World} {b g : Nat} {u v x : Value} (h : ah W b u v) (o : Nat) (ne : g ≠ b) : ah (W.setCell ⟨g, o, none⟩ x) b u v := by
  obtain ⟨⟨h1, h2⟩, aq, aK⟩ := h;have mU : (⟨g, o, none⟩ : Addr) ≠ ⟨b, 0, none⟩ := fun e => ne (congrArg Addr.block e);have hy : (⟨g, o, none⟩ : Addr) ≠ ⟨b, 1, none⟩ := fun e => ne (congrArg Addr.block e);refine ⟨⟨?_, ?_⟩, ?_, ?_⟩
  · rw [World.cell?_setCell_other _ _ _ _ mU]; exact h1
  · rw [World.cell?_setCell_other _ _ _ _ hy]; exact h2
  · go_simp
  · go_simp
def fB (w : World) (b : Nat) : Prop := ((w.cell? ⟨b, 0, none⟩).isSome = true ∧ (w.cell? ⟨b, 1, none⟩).isSome = true) ∧ (w.frozen? ⟨b, 0, none⟩ = false ∧ w.frozen? ⟨b, 1, none⟩ = false)
theorem fB.of {W : World} {b : Nat} {u v : Value} (h : ah W b u v) : fB W b := by
  obtain ⟨⟨h1, h2⟩, aq, aK⟩ := h;exact ⟨⟨by rw [h1]; rfl, by rw [h2]; rfl⟩, aq, aK⟩
theorem fB.box {W : World} {b : Nat} (h : fB W b) : ∃ u v, ah W b u v := by
  obtain ⟨⟨h1, h2⟩, aq, aK⟩ := h;obtain ⟨u, hu⟩ := Option.isSome_iff_exists.1 h1;obtain ⟨v, hv⟩ := Option.isSome_iff_exists.1 h2;exact ⟨u, v, ⟨hu, hv⟩, aq, aK⟩
theorem fB.set {W : World} {b : Nat} (h : fB W b) (a : Addr) (x : Value) : fB (W.setCell a x) b := by
  obtain ⟨⟨h1, h2⟩, aq, aK⟩ := h;refine ⟨⟨by rw [NK]; exact h1, by rw [NK]; exact h2⟩, ?_, ?_⟩
  · go_simp
  · go_simp
theorem ah.put {W : World} {b : Nat} {kF aW : Value} (h : fB W b) : ah ((W.setCell ⟨b, 0, none⟩ kF).setCell ⟨b, 1, none⟩ aW) b kF aW := by
  obtain ⟨u, v, k⟩ := h.box;obtain ⟨⟨h1, h2⟩, aq, aK⟩ := k;unfold ah
  go_simp
theorem yC {P : Program} {F : Func} {Q : Ending → World → Prop} {e : Exit} {a : Act} {W : World} (h : ∀ bq, bq = W → bodyPost P F Q e a bq) : bodyPost P F Q e a W := h W rfl
theorem lC {p q : Prop} (h : p) (k : p → q) : q := k h
def ga (a b c d : Int) : Bool := a == c && b == d
theorem LZ (a b c d : Int) (w : World) : (Op.equalIn 10000 159 (.agg #[.int .i64 a, .int .u64 b]) (.agg #[.int .i64 c, .int .u64 d])).run aj w = .ok (ga a b c d) w := by
  unfold ga
  go_simp
  by_cases h : a = c <;> by_cases k : b = d <;> simp [h, k]
@[go_sem ↓ high] theorem ag9 (a b c d : Int) (w : World) : (binOp .eql 159 (.agg #[.int .i64 a, .int .u64 b]) (.agg #[.int .i64 c, .int .u64 d])).run aj w = .ok (.bool (ga a b c d)) w := by
  rw [run_eql_struct, LZ]; rfl
@[go_sem ↓ high] theorem ai0 (a b c d : Int) (w : World) : (binOp .neq 159 (.agg #[.int .i64 a, .int .u64 b]) (.agg #[.int .i64 c, .int .u64 d])).run aj w = .ok (.bool (!ga a b c d)) w := by
  rw [run_neq_struct, LZ]; rfl
theorem We (a b c d : Int) (w : World) : (Op.equalIn 10000 311 (.agg #[.int .u64 a, .int .u64 b]) (.agg #[.int .u64 c, .int .u64 d])).run aj w = .ok (ga a b c d) w := by
  unfold ga
  go_simp
  by_cases h : a = c <;> by_cases k : b = d <;> simp [h, k]
@[go_sem ↓ high] theorem aiZ (a b c d : Int) (w : World) : (binOp .neq 311 (.agg #[.int .u64 a, .int .u64 b]) (.agg #[.int .u64 c, .int .u64 d])).run aj w = .ok (.bool (!ga a b c d)) w := by
  rw [run_neq_struct, We]; rfl
def bx (H L n : Int) : Prop := (-9223372036854775808 ≤ H ∧ H < 9223372036854775808) ∧ (0 ≤ L ∧ L < 18446744073709551616) ∧ n = H * 18446744073709551616 + L
def cR (H L n : Int) : Prop := (0 ≤ H ∧ H < 18446744073709551616) ∧ (0 ≤ L ∧ L < 18446744073709551616) ∧ n = H * 18446744073709551616 + L
def wr (n : Int) : Int := (n + 170141183460469231731687303715884105728) % 340282366920938463463374607431768211456 - 170141183460469231731687303715884105728
def fits (n : Int) : Bool := decide (-170141183460469231731687303715884105728 ≤ n ∧ n < 170141183460469231731687303715884105728)
def px (n : Int) (w : World) (e : Ending) (w' : World) : Prop := ∃ H L, e = .returned (.agg #[.int .i64 H, .int .u64 L]) ∧ bx H L n ∧ Below w.heap.size w w'
def mA (n : Int) (w : World) (e : Ending) (w' : World) : Prop := ∃ H L, e = .returned (.tuple #[.agg #[.int .i64 H, .int .u64 L], .bool (fits n)]) ∧ bx H L (if fits n then n else 0) ∧ Below w.heap.size w w'
def aX (n : Int) (w : World) (e : Ending) (w' : World) : Prop := ∃ H L, e = .returned (.agg #[.int .u64 H, .int .u64 L]) ∧ cR H L n ∧ Below w.heap.size w w'
def hj (v : Value) (w : World) (e : Ending) (w' : World) : Prop := e = .returned v ∧ Below w.heap.size w w'
def gb (n m : Int) : Int := if n = m then 0 else if n < m then -1 else 1
theorem oX : bx 0 0 0 := by unfold bx; omega
theorem bx.fits {H L n : Int} (h : bx H L n) : fits n = true := by
  obtain ⟨a, b, rfl⟩ := h;unfold Proofs.YtpochbhajmbfdaaGreat.fits;rw [c0];omega
theorem bx.inj {H L ft L' n : Int} (h : bx H L n) (k : bx ft L' n) : H = ft ∧ L = L' := by
  obtain ⟨a, b, rfl⟩ := h;obtain ⟨c, d, e⟩ := k;omega
theorem bx.neg {H L n : Int} (h : bx H L n) : H < 0 ↔ n < 0 := by
  obtain ⟨a, b, rfl⟩ := h;omega
theorem bx.ga {H L ft L' n m : Int} (h : bx H L n) (k : bx ft L' m) : ga H L ft L' = decide (n = m) := by
  obtain ⟨a, b, rfl⟩ := h;obtain ⟨c, d, rfl⟩ := k;unfold Proofs.YtpochbhajmbfdaaGreat.ga;rw [sR];simp only [eo, beq_iff_eq, c0];omega
theorem cR.ga {H L ft L' n m : Int} (h : cR H L n) (k : cR ft L' m) : ga H L ft L' = decide (n = m) := by
  obtain ⟨a, b, rfl⟩ := h;obtain ⟨c, d, rfl⟩ := k;unfold Proofs.YtpochbhajmbfdaaGreat.ga;rw [sR];simp only [eo, beq_iff_eq, c0];omega
theorem zT : cR 0 0 0 := by unfold cR; omega
theorem bx.conv {H L n m : Int} (h : bx H L n) (e : n = m) : bx H L m := e ▸ h
theorem JF {n : Int} (h : fits n = true) : wr n = n := by (try (unfold Proofs.YtpochbhajmbfdaaGreat.fits wr at *)); grind
theorem s5 {n H L : Int} {w w' : World} (h : fits n = true) (k : bx H L n) (b : Below w.heap.size w w') : mA n w (.returned (.tuple #[.agg #[.int .i64 H, .int .u64 L], .bool true])) w' := ⟨H, L, by rw [h], by rw [h]; exact k, b⟩
theorem v8 {n : Int} {w w' : World} (h : fits n = false) (b : Below w.heap.size w w') : mA n w (.returned (.tuple #[.agg #[.int .i64 0, .int .u64 0], .bool false])) w' := ⟨0, 0, by rw [h], by rw [h]; exact oX, b⟩
theorem BW (x y c : Int) (aa : 0 ≤ x) (ag : 0 ≤ y) (Ha : 0 ≤ c) (ak : c ≤ 1) (w : World) :
    (callFunc 293 #[.int .u64 x, .int .u64 y, .int .u64 c]).run aj w =
      .ok (.value (.tuple #[.int .u64 ((x + y + c) % 18446744073709551616), .int .u64 ((x + y + c) / 18446744073709551616)])) w := by
  rw [run_callFunc_extern Tryz.func293 (by kernel_rfl) (by kernel_rfl) (by kernel_rfl) (e := add64Entry) (by kernel_rfl), run_add64 x y c aa ag Ha ak];rfl
def Rh : Array Value → Sem Value := fun args => do
  let (x, y, b) ← Extern.MathBitsCarry.three "Sub64" args
  pure (Extern.MathBitsCarry.pair ((x + Extern.MathBitsCarry.m64 - y - b) % Extern.MathBitsCarry.m64) (if x < y + b then 1 else 0))
theorem aeJ {P : Program} (x y b : Nat) (ab : b ≤ 1) (w : World) :
    (Rh #[.int .u64 x, .int .u64 y, .int .u64 b]).run P w =
      .ok (.tuple #[.int .u64 (((x + 18446744073709551616 - y - b) % 18446744073709551616 : Nat) : Int), .int .u64 ((if x < y + b then 1 else 0 : Nat) : Int)]) w := by
  have : b = 0 ∨ b = 1 := by omega
  rcases this with rfl | rfl <;> rfl
theorem E0 (x y c : Int) (aa : 0 ≤ x) (HT : x < 18446744073709551616) (ag : 0 ≤ y) (zM : y < 18446744073709551616) (Ha : 0 ≤ c) (ak : c ≤ 1) (w : World) :
    (callFunc 277 #[.int .u64 x, .int .u64 y, .int .u64 c]).run aj w =
      .ok (.value (.tuple #[.int .u64 ((x - y - c) % 18446744073709551616), .int .u64 (-((x - y - c) / 18446744073709551616))])) w := by
  obtain ⟨X, rfl⟩ := mW aa;obtain ⟨Y, rfl⟩ := mW ag;obtain ⟨C, rfl⟩ := mW Ha;rw [run_callFunc_extern Tryz.func277 (by kernel_rfl) (by kernel_rfl) (by kernel_rfl) (e := Rh) (by kernel_rfl), aeJ X Y C (by omega)];simp only [Result.andThen];have aG : (((X + 18446744073709551616 - Y - C) % 18446744073709551616 : Nat) : Int) = ((X : Int) - Y - C) % 18446744073709551616 := by omega
  have aO : ((if X < Y + C then 1 else 0 : Nat) : Int) = -(((X : Int) - Y - C) / 18446744073709551616) := by split <;> omega
  rw [aG, aO]
theorem adI (h1 l1 h2 l2 : Int) (b1 : -9223372036854775808 ≤ h1 ∧ h1 < 9223372036854775808) (b2 : 0 ≤ l1 ∧ l1 < 18446744073709551616)
   (eF : -9223372036854775808 ≤ h2 ∧ h2 < 9223372036854775808) (dV : 0 ≤ l2 ∧ l2 < 18446744073709551616) :
   bx (wrap64 ((IntKind.u64.wrap h1 + IntKind.u64.wrap h2 + (l1 + l2 + 0) / 18446744073709551616) % 18446744073709551616)) ((l1 + l2 + 0) % 18446744073709551616) (wr ((h1 * 18446744073709551616 + l1) + (h2 * 18446744073709551616 + l2))) := by
  unfold bx wr wrap64;rw [IntKind.wrap_u64, IntKind.wrap_u64];omega
theorem abg (h1 l1 h2 l2 : Int) (b1 : -9223372036854775808 ≤ h1 ∧ h1 < 9223372036854775808) (b2 : 0 ≤ l1 ∧ l1 < 18446744073709551616)
   (eF : -9223372036854775808 ≤ h2 ∧ h2 < 9223372036854775808) (dV : 0 ≤ l2 ∧ l2 < 18446744073709551616) :
   bx (wrap64 ((IntKind.u64.wrap h1 - IntKind.u64.wrap h2 - -((l1 - l2 - 0) / 18446744073709551616)) % 18446744073709551616)) ((l1 - l2 - 0) % 18446744073709551616) (wr ((h1 * 18446744073709551616 + l1) - (h2 * 18446744073709551616 + l2))) := by
  unfold bx wr wrap64;rw [IntKind.wrap_u64, IntKind.wrap_u64];omega
theorem wj (h : Int) : 0 ≤ IntKind.u64.wrap h ∧ IntKind.u64.wrap h < 18446744073709551616 := by rw [IntKind.wrap_u64]; omega
theorem P3 (h1 l1 h2 l2 n m : Int) (w : World) (H1 : bx h1 l1 n) (cm : bx h2 l2 m) :
    Calls aj 299 #[.agg #[.int .i64 h1, .int .u64 l1], .agg #[.int .i64 h2, .int .u64 l2]] w (px (wr (n + m)) w) := by
  obtain ⟨b1, b2, rfl⟩ := H1;obtain ⟨eF, dV, rfl⟩ := cm;have hv := adI h1 l1 h2 l2 b1 b2 eF dV;have aG := fun w => BW l1 l2 0 b2.1 dV.1 (by omega) (by omega) w;have aO := fun w => BW (IntKind.u64.wrap h1) (IntKind.u64.wrap h2) ((l1 + l2 + 0) / 18446744073709551616) (wj h1).1 (wj h2).1 (by omega) (by omega) w;generalize (l1 + l2 + 0) / 18446744073709551616 = c at *;generalize (l1 + l2 + 0) % 18446744073709551616 = s at *;generalize (IntKind.u64.wrap h1 + IntKind.u64.wrap h2 + c) % 18446744073709551616 = s' at *;generalize (IntKind.u64.wrap h1 + IntKind.u64.wrap h2 + c) / 18446744073709551616 = c' at *;generalize (h1 * 18446744073709551616 + l1) + (h2 * 18446744073709551616 + l2) = O5 at *;clear b1 b2 eF dV
  go_enter Tryz.func299, Tryz.ntmps299
  go_wp2
  refine bodyPost_ret (v := .agg #[.int .i64 (wrap64 s'), .int .u64 s]) (by simp only [results, Tryz.results299]; go_simp) rfl ⟨_, _, rfl, hv, ?_⟩;(repeat first | with_reducible exact Below.refl _ _ | with_reducible refine c6 ?_ _)
theorem Ag (h1 l1 h2 l2 n m : Int) (w : World) (H1 : bx h1 l1 n) (cm : bx h2 l2 m) :
    Calls aj 245 #[.agg #[.int .i64 h1, .int .u64 l1], .agg #[.int .i64 h2, .int .u64 l2]] w (px (wr (n - m)) w) := by
  obtain ⟨b1, b2, rfl⟩ := H1;obtain ⟨eF, dV, rfl⟩ := cm;have hv := abg h1 l1 h2 l2 b1 b2 eF dV;have aG := fun w => E0 l1 l2 0 b2.1 b2.2 dV.1 dV.2 (by omega) (by omega) w;have aO := fun w => E0 (IntKind.u64.wrap h1) (IntKind.u64.wrap h2) (-((l1 - l2 - 0) / 18446744073709551616)) (wj h1).1 (wj h1).2 (wj h2).1 (wj h2).2 (by omega) (by omega) w;generalize -((l1 - l2 - 0) / 18446744073709551616) = c at *;generalize (l1 - l2 - 0) % 18446744073709551616 = s at *;generalize (IntKind.u64.wrap h1 - IntKind.u64.wrap h2 - c) % 18446744073709551616 = s' at *;generalize -((IntKind.u64.wrap h1 - IntKind.u64.wrap h2 - c) / 18446744073709551616) = c' at *;generalize (h1 * 18446744073709551616 + l1) - (h2 * 18446744073709551616 + l2) = O5 at *;clear b1 b2 eF dV
  go_enter Tryz.func245, Tryz.ntmps245
  go_wp2
  refine bodyPost_ret (v := .agg #[.int .i64 (wrap64 s'), .int .u64 s]) (by simp only [results, Tryz.results245]; go_simp) rfl ⟨_, _, rfl, hv, ?_⟩;(repeat first | with_reducible exact Below.refl _ _ | with_reducible refine c6 ?_ _)
theorem BX {h1 l1 h2 l2 gz ij n m : Int} (H1 : bx h1 l1 n) (cm : bx h2 l2 m) (yb : bx gz ij (wr (n + m))) (h : ¬ (decide (h1 < 0) = decide (h2 < 0)) ∨ (!decide (gz < 0) == decide (h2 < 0)) = false) : fits (n + m) = true ∧ bx gz ij (n + m) := by (try (unfold wr fits bx at *)); grind
theorem Tv {h1 l1 h2 l2 gz ij n m : Int} (H1 : bx h1 l1 n) (cm : bx h2 l2 m) (yb : bx gz ij (wr (n + m))) (h : (decide (h1 < 0) = decide (h2 < 0))) (k : (!decide (gz < 0) == decide (h2 < 0)) = true) : fits (n + m) = false := by
  obtain ⟨b1, b2, rfl⟩ := H1;obtain ⟨eF, dV, rfl⟩ := cm;obtain ⟨Up, Uq, e⟩ := yb;unfold wr at e;unfold fits;simp only [decide_eq_decide, uH, beq_eq_false_iff_ne, ne_eq] at h k;rw [mX];omega
theorem RT (h1 l1 h2 l2 n m : Int) (w : World) (H1 : bx h1 l1 n) (cm : bx h2 l2 m) :
    Calls aj 290 #[.agg #[.int .i64 h1, .int .u64 l1], .agg #[.int .i64 h2, .int .u64 l2]] w (mA (n + m) w) := by
  go_enter Tryz.func290, Tryz.ntmps290
  go_wp2_with (go_at_call 299; refine (P3 _ _ _ _ _ _ _ H1 cm).mono ?_; rintro e aP ⟨gz, ij, rfl, hs, ab⟩; have yD := Below.cell ab (p := ⟨w.heap.size, 0, none⟩) (by (simp; omega)); have yX := Below.frozen ab (p := ⟨w.heap.size, 0, none⟩) (by (simp; omega)); have yE := Below.cell ab (p := ⟨w.heap.size, 1, none⟩) (by (simp; omega)); have yY := Below.frozen ab (p := ⟨w.heap.size, 1, none⟩) (by (simp; omega)); have Ce := Below.cell ab (p := ⟨w.heap.size + 1, 0, none⟩) (by (simp; done)); have CF := Below.frozen ab (p := ⟨w.heap.size + 1, 0, none⟩) (by (simp; done)); have Cf := Below.cell ab (p := ⟨w.heap.size + 1, 1, none⟩) (by (simp; done)); have CG := Below.frozen ab (p := ⟨w.heap.size + 1, 1, none⟩) (by (simp; done)); have UF := Below.cell ab (p := ⟨w.heap.size + 1 + 1, 0, none⟩) (by (simp; done)); have Wo := Below.frozen ab (p := ⟨w.heap.size + 1 + 1, 0, none⟩) (by (simp; done)); have UG := Below.cell ab (p := ⟨w.heap.size + 1 + 1, 1, none⟩) (by (simp; done)); have Wp := Below.frozen ab (p := ⟨w.heap.size + 1 + 1, 1, none⟩) (by (simp; done)); have n4 := Below.size ab; (try simp at n4); have xH : ¬ aP.heap.size = w.heap.size := (by omega); have Al : ¬ aP.heap.size = w.heap.size + 1 := (by omega); have abD : ¬ aP.heap.size = w.heap.size + 1 + 1 := (by omega))
  · refine bodyPost_ret (v := .tuple #[.agg #[.int .i64 0, .int .u64 0], .bool false]) (by simp only [results, Tryz.results290]; go_simp) rfl (v8 (Tv H1 cm hs ‹_› ‹_›) ?_)
    (repeat first | with_reducible exact Below.refl _ _ | with_reducible refine c6 ?_ _ | focus ((with_reducible refine eW ?_ _ _ _ ?_); rotate_left; omega) | with_reducible refine b6 ?_ ab)
  · refine bodyPost_ret (v := .tuple #[.agg #[.int .i64 gz, .int .u64 ij], .bool true]) (by simp only [results, Tryz.results290]; go_simp) rfl (s5 (BX H1 cm hs (.inr ‹_›)).1 (BX H1 cm hs (.inr ‹_›)).2 ?_)
    (repeat first | with_reducible exact Below.refl _ _ | with_reducible refine c6 ?_ _ | focus ((with_reducible refine eW ?_ _ _ _ ?_); rotate_left; omega) | with_reducible refine b6 ?_ ab)
  · refine bodyPost_ret (v := .tuple #[.agg #[.int .i64 gz, .int .u64 ij], .bool true]) (by simp only [results, Tryz.results290]; go_simp) rfl (s5 (BX H1 cm hs (.inl ‹_›)).1 (BX H1 cm hs (.inl ‹_›)).2 ?_)
    (repeat first | with_reducible exact Below.refl _ _ | with_reducible refine c6 ?_ _ | focus ((with_reducible refine eW ?_ _ _ _ ?_); rotate_left; omega) | with_reducible refine b6 ?_ ab)
theorem E1 {h1 l1 h2 l2 gz ij n m : Int} (H1 : bx h1 l1 n) (cm : bx h2 l2 m) (yb : bx gz ij (wr (n - m))) (h : (decide (h1 < 0) = decide (h2 < 0)) ∨ (!decide (gz < 0) == decide (h1 < 0)) = false) : fits (n - m) = true ∧ bx gz ij (n - m) := by (try (unfold wr fits bx at *)); grind
theorem afy {h1 l1 h2 l2 gz ij n m : Int} (H1 : bx h1 l1 n) (cm : bx h2 l2 m) (yb : bx gz ij (wr (n - m))) (h : ¬ (decide (h1 < 0) = decide (h2 < 0))) (k : (!decide (gz < 0) == decide (h1 < 0)) = true) : fits (n - m) = false := by
  obtain ⟨b1, b2, rfl⟩ := H1;obtain ⟨eF, dV, rfl⟩ := cm;obtain ⟨Up, Uq, e⟩ := yb;unfold wr at e;unfold fits;simp only [decide_eq_decide, uH, beq_eq_false_iff_ne, ne_eq] at h k;rw [mX];omega
theorem Ke (h1 l1 h2 l2 n m : Int) (w : World) (H1 : bx h1 l1 n) (cm : bx h2 l2 m) :
    Calls aj 221 #[.agg #[.int .i64 h1, .int .u64 l1], .agg #[.int .i64 h2, .int .u64 l2]] w (mA (n - m) w) := by
  go_enter Tryz.func221, Tryz.ntmps221
  go_wp2_with (go_at_call 245; refine (Ag _ _ _ _ _ _ _ H1 cm).mono ?_; rintro e aP ⟨gz, ij, rfl, hs, ab⟩; have yD := Below.cell ab (p := ⟨w.heap.size, 0, none⟩) (by (simp; omega)); have yX := Below.frozen ab (p := ⟨w.heap.size, 0, none⟩) (by (simp; omega)); have yE := Below.cell ab (p := ⟨w.heap.size, 1, none⟩) (by (simp; omega)); have yY := Below.frozen ab (p := ⟨w.heap.size, 1, none⟩) (by (simp; omega)); have Ce := Below.cell ab (p := ⟨w.heap.size + 1, 0, none⟩) (by (simp; done)); have CF := Below.frozen ab (p := ⟨w.heap.size + 1, 0, none⟩) (by (simp; done)); have Cf := Below.cell ab (p := ⟨w.heap.size + 1, 1, none⟩) (by (simp; done)); have CG := Below.frozen ab (p := ⟨w.heap.size + 1, 1, none⟩) (by (simp; done)); have UF := Below.cell ab (p := ⟨w.heap.size + 1 + 1, 0, none⟩) (by (simp; done)); have Wo := Below.frozen ab (p := ⟨w.heap.size + 1 + 1, 0, none⟩) (by (simp; done)); have UG := Below.cell ab (p := ⟨w.heap.size + 1 + 1, 1, none⟩) (by (simp; done)); have Wp := Below.frozen ab (p := ⟨w.heap.size + 1 + 1, 1, none⟩) (by (simp; done)); have n4 := Below.size ab; (try simp at n4); have xH : ¬ aP.heap.size = w.heap.size := (by omega); have Al : ¬ aP.heap.size = w.heap.size + 1 := (by omega); have abD : ¬ aP.heap.size = w.heap.size + 1 + 1 := (by omega))
  · refine bodyPost_ret (v := .tuple #[.agg #[.int .i64 0, .int .u64 0], .bool false]) (by simp only [results, Tryz.results221]; go_simp) rfl (v8 (afy H1 cm hs ‹_› ‹_›) ?_)
    (repeat first | with_reducible exact Below.refl _ _ | with_reducible refine c6 ?_ _ | focus ((with_reducible refine eW ?_ _ _ _ ?_); rotate_left; omega) | with_reducible refine b6 ?_ ab)
  · refine bodyPost_ret (v := .tuple #[.agg #[.int .i64 gz, .int .u64 ij], .bool true]) (by simp only [results, Tryz.results221]; go_simp) rfl (s5 (E1 H1 cm hs (.inr ‹_›)).1 (E1 H1 cm hs (.inr ‹_›)).2 ?_)
    (repeat first | with_reducible exact Below.refl _ _ | with_reducible refine c6 ?_ _ | focus ((with_reducible refine eW ?_ _ _ _ ?_); rotate_left; omega) | with_reducible refine b6 ?_ ab)
  · refine bodyPost_ret (v := .tuple #[.agg #[.int .i64 gz, .int .u64 ij], .bool true]) (by simp only [results, Tryz.results221]; go_simp) rfl (s5 (E1 H1 cm hs (.inl ‹_›)).1 (E1 H1 cm hs (.inl ‹_›)).2 ?_)
    (repeat first | with_reducible exact Below.refl _ _ | with_reducible refine c6 ?_ _ | focus ((with_reducible refine eW ?_ _ _ _ ?_); rotate_left; omega) | with_reducible refine b6 ?_ ab)
end Go.Proofs.YtpochbhajmbfdaaGreat
namespace Go.Proofs.YtpochbhajmbfdaaGreat
open Go.RowKit
theorem ad8 {k : IntKind} {a b : Int} (h : a = b) : Ending.returned (.int k a) = .returned (.int k b) := by rw [h]
theorem Qy {a b : Bool} (h : a = b) : Ending.returned (.bool a) = .returned (.bool b) := by rw [h]
theorem ZJ : bx (-9223372036854775808) 0 (-170141183460469231731687303715884105728) := by unfold bx; omega
theorem abF {n : Int} (H : fits n = true) : fits (0 - n) = !decide (n = -170141183460469231731687303715884105728) := by (try (unfold fits at *)); grind
theorem JY (h1 l1 n : Int) (w : World) (H1 : bx h1 l1 n) :
    Calls aj 248 #[.agg #[.int .i64 h1, .int .u64 l1]] w (mA (-n) w) := by
  have BC := Lib.hid (abF H1.fits);have he := H1.ga ZJ;rw [← Int.zero_sub]
  by_cases e : n = -170141183460469231731687303715884105728
  · have hd : ga h1 l1 (-9223372036854775808) 0 = true := by rw [he]; exact bg e
    have BB : Hid (fits (0 - n) = false) := by have := BC.out; rw [bg e] at this; exact this
    clear he BC e
    go_enter Tryz.func248, Tryz.ntmps248
    go_wp2
    refine bodyPost_ret (v := .tuple #[.agg #[.int .i64 0, .int .u64 0], .bool false]) (by simp only [results, Tryz.results248]; go_simp) rfl (v8 BB.out ?_);(repeat first | with_reducible exact Below.refl _ _ | with_reducible refine c6 ?_ _)
  · have hd : ga h1 l1 (-9223372036854775808) 0 = false := by rw [he]; exact bl e
    have BB : Hid (fits (0 - n) = true) := by have := BC.out; rw [bl e] at this; exact this
    clear he BC e
    go_enter Tryz.func248, Tryz.ntmps248
    go_wp2_with (go_at_call 245; refine (Ag _ _ _ _ _ _ _ oX H1).mono ?_; rintro e aP ⟨gz, ij, rfl, hs, ab⟩; have yD := Below.cell ab (p := ⟨w.heap.size, 0, none⟩) (by (simp; omega)); have yX := Below.frozen ab (p := ⟨w.heap.size, 0, none⟩) (by (simp; omega)); have yE := Below.cell ab (p := ⟨w.heap.size, 1, none⟩) (by (simp; omega)); have yY := Below.frozen ab (p := ⟨w.heap.size, 1, none⟩) (by (simp; omega)); have Ce := Below.cell ab (p := ⟨w.heap.size + 1, 0, none⟩) (by (simp; done)); have CF := Below.frozen ab (p := ⟨w.heap.size + 1, 0, none⟩) (by (simp; done)); have Cf := Below.cell ab (p := ⟨w.heap.size + 1, 1, none⟩) (by (simp; done)); have CG := Below.frozen ab (p := ⟨w.heap.size + 1, 1, none⟩) (by (simp; done)); have n4 := Below.size ab; (try simp at n4); have xH : ¬ aP.heap.size = w.heap.size := (by omega); have Al : ¬ aP.heap.size = w.heap.size + 1 := (by omega))
    rw [JF BB.out] at hs;refine bodyPost_ret (v := .tuple #[.agg #[.int .i64 gz, .int .u64 ij], .bool true]) (by simp only [results, Tryz.results248]; go_simp) rfl (s5 BB.out hs ?_);(repeat first | with_reducible exact Below.refl _ _ | with_reducible refine c6 ?_ _ | focus ((with_reducible refine eW ?_ _ _ _ ?_); rotate_left; omega) | with_reducible refine b6 ?_ ab)
theorem JO (h1 l1 h2 l2 n m : Int) (w : World) (H1 : bx h1 l1 n) (cm : bx h2 l2 m) :
    Calls aj 281 #[.agg #[.int .i64 h1, .int .u64 l1], .agg #[.int .i64 h2, .int .u64 l2]] w (hj (.int .i64 (gb n m)) w) := by
  go_enter Tryz.func281, Tryz.ntmps281
  go_wp2
  all_goals
    go_ret
    refine ⟨ad8 ?_, by (repeat first | with_reducible exact Below.refl _ _ | with_reducible refine c6 ?_ _)⟩;simp only [H1.ga cm, c0, mX] at *;obtain ⟨b1, b2, aG⟩ := H1;obtain ⟨eF, dV, aO⟩ := cm;unfold gb
    repeat' split
    all_goals omega
theorem BQ (h1 l1 n : Int) (w : World) (H1 : bx h1 l1 n) :
    Calls aj 247 #[.agg #[.int .i64 h1, .int .u64 l1]] w (hj (.int .i64 (gb n 0)) w) := by
  go_enter Tryz.func247, Tryz.ntmps247
  go_wp2_with (go_at_call 281; refine (JO _ _ _ _ _ _ _ H1 oX).mono ?_; rintro e aP ⟨rfl, ab⟩)
  go_ret
  exact ⟨rfl, by (repeat first | with_reducible exact Below.refl _ _ | with_reducible refine c6 ?_ _ | with_reducible refine b6 ?_ ab)⟩
theorem ab8 (n : Int) (aI : -9223372036854775808 ≤ n) (h1 : n < 9223372036854775808) : bx (n / 9223372036854775808) (IntKind.u64.wrap n) n := by
  unfold bx;rw [IntKind.wrap_u64];omega
theorem rT (n : Int) (w : World) (aI : -9223372036854775808 ≤ n) (h1 : n < 9223372036854775808) :
    Calls aj 224 #[.int .i64 n] w (px n w) := by
  have hv := ab8 n aI h1
  go_enter Tryz.func224, Tryz.ntmps224
  go_wp2
  refine bodyPost_ret (v := .agg #[.int .i64 (n / 9223372036854775808), .int .u64 (IntKind.u64.wrap n)]) (by simp only [results, Tryz.results224]; go_simp) rfl ⟨_, _, rfl, hv, ?_⟩;(repeat first | with_reducible exact Below.refl _ _ | with_reducible refine c6 ?_ _)
def small (n : Int) : Bool := decide (-9223372036854775808 ≤ n ∧ n < 9223372036854775808)
theorem Re (l : Int) : -9223372036854775808 ≤ wrap64 l ∧ wrap64 l < 9223372036854775808 := by unfold wrap64; omega
theorem afh {h l n a b : Int} (H : bx h l n) (K : bx a b (wrap64 l)) (e : ga a b h l = true) : small n = true ∧ wrap64 l = n := by
  rw [K.ga H, c0] at e;have VZ := e; clear e;obtain ⟨b1, b2, rfl⟩ := H;obtain ⟨eF, dV, e⟩ := K;unfold wrap64 at *;unfold small;rw [c0];omega
theorem afg {h l n a b : Int} (H : bx h l n) (K : bx a b (wrap64 l)) (e : ga a b h l = false) : small n = false := by
  rw [K.ga H, mX] at e;have VZ := e; clear e;obtain ⟨b1, b2, rfl⟩ := H;obtain ⟨eF, dV, e⟩ := K;unfold wrap64 at *;unfold small;rw [mX];omega
def wG (n : Int) (w : World) (e : Ending) (w' : World) : Prop := e = .returned (.tuple #[.int .i64 (if small n then n else 0), .bool (small n)]) ∧ Below w.heap.size w w'
theorem aeB {n m : Int} {w w' : World} (h : small n = true) (e : m = n) (b : Below w.heap.size w w') : wG n w (.returned (.tuple #[.int .i64 m, .bool true])) w' := ⟨by rw [h, e]; rfl, b⟩
theorem aeA {n : Int} {w w' : World} (h : small n = false) (b : Below w.heap.size w w') : wG n w (.returned (.tuple #[.int .i64 0, .bool false])) w' := ⟨by rw [h]; rfl, b⟩
theorem FL (h1 l1 n : Int) (w : World) (H1 : bx h1 l1 n) :
    Calls aj 241 #[.agg #[.int .i64 h1, .int .u64 l1]] w (wG n w) := by
  go_enter Tryz.func241, Tryz.ntmps241
  go_wp2_with fail
  go_region_held3 (fun w' => w'.cell? ⟨w.heap.size, 0, none⟩ = some (.int .i64 h1) ∧ w'.cell? ⟨w.heap.size, 1, none⟩ = some (.int .u64 l1)) (go_keep)
    ((go_at_call 224; refine (rT _ _ (Re l1).1 (Re l1).2).mono ?_; rintro e aP ⟨gz, ij, rfl, hs, ab⟩; have yD := Below.cell ab (p := ⟨w.heap.size, 0, none⟩) (by (simp; done)); have yX := Below.frozen ab (p := ⟨w.heap.size, 0, none⟩) (by (simp; done)); have yE := Below.cell ab (p := ⟨w.heap.size, 1, none⟩) (by (simp; done)); have yY := Below.frozen ab (p := ⟨w.heap.size, 1, none⟩) (by (simp; done)); have n4 := Below.size ab; (try simp at n4); have xH : ¬ aP.heap.size = w.heap.size := (by omega)))
  go_wp2
  · go_ret2
    exact aeA (afg H1 hs (by simpa using ‹(!ga gz ij h1 l1) = true›)) (by (repeat first | with_reducible exact Below.refl _ _ | with_reducible refine c6 ?_ _ | with_reducible refine Below.drew ?_ | with_reducible refine b6 ?_ ab))
  · go_ret2
    have ag := afh H1 hs (by simpa using ‹(!ga gz ij h1 l1) = false›);exact aeB ag.1 ag.2 (by (repeat first | with_reducible exact Below.refl _ _ | with_reducible refine c6 ?_ _ | with_reducible refine Below.drew ?_ | with_reducible refine b6 ?_ ab))
end Go.Proofs.YtpochbhajmbfdaaGreat
namespace Go.Proofs.YtpochbhajmbfdaaGreat.bF
structure c4 (α : Type) where
 C7 : α → α → α → Bool
 gP : α → α → List α → List α
 cut : α × α → α × α → Option α
 n : Nat
 P : Nat → α
 Q : Nat → α
 uE : Nat → Nat → Option α
 R : Nat
 ho : α → Prop
structure aX (α : Type) where
 ph : Nat
 I : Nat
 J : Nat
 T : Nat
 dirty : Bool
 hot : List α
 fnd : List α
 ch : List (List α × List Int)
variable {α : Type} [DecidableEq α]
def jl : List α → List (α × α)
 | p :: q :: W => (p, q) :: jl (q :: W)
 | _ => []
def bb (ch : List (List α × List Int)) : List (α × α) := ch.flatMap fun c => jl c.1
def dk (V : List α) (j : Nat) (l : List α) : List α := V.take (j + 1) ++ l ++ V.drop (j + 1)
def eG (D : List Int) (j : Nat) (n : Nat) : List Int := D.take j ++ List.replicate (n + 1) (D.getD j 0 + 1) ++ D.drop (j + 1)
def hz (p q : α) : List α × List Int := if p = q then ([p], []) else ([p, q], [1])
def fF (s : aX α) (ph I J : Nat) : aX α := { s with ph := ph, I := I, J := J, T := 0, fnd := [] }
def dQ (o : c4 α) (s : aX α) (q : α) : aX α :=
 if q ∈ s.hot then s else if s.hot.length < o.R then { s with hot := s.hot ++ [q] } else fF s 5 0 0
def uM : List (List α × List Int) → Nat → Nat → Option (Nat × Nat)
 | [], _, _ => none
 | c :: cs, i, j => if j + 1 < c.1.length then some (i, j) else uM cs (i + 1) 0
def mv (s : aX α) : aX α :=
 match uM (s.ch.drop s.I) s.I s.J with
 | some Dt => { s with I := Dt.1, J := Dt.2 }
 | none => if (bb s.ch).length < 2 then fF s 4 0 0 else fF s 3 0 1
def nC (s : aX α) : aX α := if s.dirty = true then mv (fF { s with dirty := false } 2 0 0) else fF s 4 0 0
def lO (o : c4 α) (s : aX α) : aX α := mv (fF { s with ch := (List.range o.n).map fun k => hz (o.P k) (o.Q k) } 2 0 0)
def tG (o : c4 α) (s : aX α) : aX α :=
 if (dQ o s (o.P s.I)).ph = 5 then dQ o s (o.P s.I) else
 if (dQ o (dQ o s (o.P s.I)) (o.Q s.I)).ph = 5 then dQ o (dQ o s (o.P s.I)) (o.Q s.I) else
 if s.I + 1 < o.n then { dQ o (dQ o s (o.P s.I)) (o.Q s.I) with I := s.I + 1 } else
 if o.n < 2 then lO o (dQ o (dQ o s (o.P s.I)) (o.Q s.I)) else fF (dQ o (dQ o s (o.P s.I)) (o.Q s.I)) 1 0 1
def cr (many I J : Nat) : Nat × Nat := if many ≤ J + 1 then (I + 1, I + 2) else (I, J + 1)
def kQ (o : c4 α) (s : aX α) : Option α → aX α
 | some x => dQ o s x
 | none => s
def uD (o : c4 α) (s : aX α) : aX α :=
 if (kQ o s (o.uE s.I s.J)).ph = 5 then kQ o s (o.uE s.I s.J) else
 if (cr o.n s.I s.J).2 < o.n then { kQ o s (o.uE s.I s.J) with I := (cr o.n s.I s.J).1, J := (cr o.n s.I s.J).2 } else lO o (kQ o s (o.uE s.I s.J))
def jy (o : c4 α) (p q x : α) : Bool := decide (x ≠ p) && decide (x ≠ q) && o.C7 p q x
def lF (o : c4 α) (p q x : α) (fnd : List α) : List α := if jy o p q x = true then fnd ++ [x] else fnd
def sF (o : c4 α) (s : aX α) (c : List α × List Int) (p q : α) (fnd : List α) : aX α :=
 if s.T + 1 < s.hot.length then { s with fnd := fnd, T := s.T + 1 } else
 if fnd = [] then mv { s with T := 0, fnd := [], J := s.J + 1 } else
 { s with T := 0, fnd := [], ch := s.ch.set s.I (dk c.1 s.J (o.gP p q fnd), eG c.2 s.J fnd.length) }
def xT (o : c4 α) (s : aX α) : aX α :=
 match s.ch[s.I]? with
 | some c =>
  match c.1[s.J]?, c.1[s.J + 1]?, s.hot[s.T]? with
  | some p, some q, some x => sF o s c p q (lF o p q x s.fnd)
  | _, _, _ => s
 | none => s
def dW (o : c4 α) (s : aX α) : Option α → aX α
 | some x => if (dQ o s x).ph = 5 then dQ o s x else { dQ o s x with dirty := true }
 | none => s
def sH (o : c4 α) (s : aX α) : aX α :=
 match (bb s.ch)[s.I]?, (bb s.ch)[s.J]? with
 | some a, some b =>
  if (dW o s (o.cut a b)).ph = 5 then dW o s (o.cut a b) else
  if (cr (bb s.ch).length s.I s.J).2 < (bb s.ch).length then { dW o s (o.cut a b) with I := (cr (bb s.ch).length s.I s.J).1, J := (cr (bb s.ch).length s.I s.J).2 } else nC (dW o s (o.cut a b))
 | _, _ => s
def dS (o : c4 α) (s : aX α) : aX α :=
 match s.ph with
 | 0 => tG o s
 | 1 => uD o s
 | 2 => xT o s
 | 3 => sH o s
 | _ => s
def rW (o : c4 α) (hot : List α) (p q : α) : Prop := ∀ x ∈ hot, jy o p q x = false
structure l5 (o : c4 α) (ok : Nat → List α × List Int → Prop) : Prop where
 nodup : ∀ i c, ok i c → c.1.Nodup
 new : ∀ i, i < o.n → ok i (hz (o.P i) (o.Q i))
 split : ∀ (i : Nat) (c : List α × List Int) (j : Nat) (p q : α) (bm : List α), ok i c → c.1.length = c.2.length + 1 → c.1[j]? = some p → c.1[j + 1]? = some q → bm.Nodup → bm ≠ [] → (∀ x ∈ bm, jy o p q x = true) → ok i (dk c.1 j (o.gP p q bm), eG c.2 j bm.length)
 gP : ∀ (p q : α) (bm : List α), (o.gP p q bm).Perm bm
 GI : ∀ i, i < o.n → o.ho (o.P i) ∧ o.ho (o.Q i)
 Mm : ∀ i j x, i < j → j < o.n → o.uE i j = some x → o.ho x
 Mk : ∀ (p q fU cK x : α), o.ho p → o.ho q → o.ho fU → o.ho cK → o.cut (p, q) (fU, cK) = some x → o.ho x
 cut : ∀ (hot : List α) (p q fU cK x : α), (∀ y ∈ hot, o.ho y) → p ≠ q → fU ≠ cK → p ∈ hot → q ∈ hot → fU ∈ hot → cK ∈ hot → rW o hot p q → rW o hot fU cK → o.cut (p, q) (fU, cK) = some x → x ∉ hot
structure km (o : c4 α) (s : aX α) : Prop where
 nd : s.hot.Nodup
 room : s.hot.length ≤ o.R
 gW : ∀ x ∈ s.hot, o.ho x
structure Br (o : c4 α) (ok : Nat → List α × List Int → Prop) (hot : List α) (i : Nat) (c : List α × List Int) : Prop where
 ho : ok i c
 len : c.1.length = c.2.length + 1
 head : c.1.head? = some (o.P i)
 last : c.1.getLast? = some (o.Q i)
 hot : ∀ v ∈ c.1, v ∈ hot
 deep : ∀ d ∈ c.2, 1 ≤ d ∧ d ≤ c.2.length
structure ly (o : c4 α) (ok : Nat → List α × List Int → Prop) (s : aX α) : Prop where
 len : s.ch.length = o.n
 iE : ∀ i c, s.ch[i]? = some c → Br o ok s.hot i c
def Be (o : c4 α) (hot : List α) (ch : List (List α × List Int)) (I J : Nat) : Prop :=
 ∀ i c j p q, ch[i]? = some c → c.1[j]? = some p → c.1[j + 1]? = some q → (i < I ∨ (i = I ∧ j < J)) → rW o hot p q
def JZ (o : c4 α) (ch : List (List α × List Int)) (I J : Nat) : Prop :=
 ∀ a b l m, (bb ch)[a]? = some l → (bb ch)[b]? = some m → a < b → (a < I ∨ (a = I ∧ b < J)) → o.cut l m = none
def Bf (o : c4 α) (s : aX α) : Prop := ∀ l ∈ bb s.ch, rW o s.hot l.1 l.2
def BU (o : c4 α) (s : aX α) (I : Nat) : Prop := ∀ i, i < I → o.P i ∈ s.hot ∧ o.Q i ∈ s.hot
structure JW (o : c4 α) (s : aX α) : Prop where
 ph : s.ph = 0
 dirty : s.dirty = false
 fnd : s.fnd = []
 ch : s.ch = []
 I : s.I < o.n
 J : s.J = 0
 T : s.T = 0
 A8 : BU o s s.I
structure Inv1 (o : c4 α) (s : aX α) : Prop where
 ph : s.ph = 1
 dirty : s.dirty = false
 fnd : s.fnd = []
 ch : s.ch = []
 yh : s.I < s.J
 J : s.J < o.n
 T : s.T = 0
 A8 : BU o s o.n
structure Inv2 (o : c4 α) (ok : Nat → List α × List Int → Prop) (s : aX α) : Prop where
 ph : s.ph = 2
 dirty : s.dirty = false
 laid : ly o ok s
 link : ∃ c p q, s.ch[s.I]? = some c ∧ c.1[s.J]? = some p ∧ c.1[s.J + 1]? = some q ∧ s.fnd = (s.hot.take s.T).filter (jy o p q)
 T : s.T < s.hot.length
 B0 : Be o s.hot s.ch s.I s.J
structure Fy (o : c4 α) (ok : Nat → List α × List Int → Prop) (s : aX α) : Prop where
 ph : s.ph = 3
 laid : ly o ok s
 yh : s.I < s.J
 J : s.J < (bb s.ch).length
 T : s.T = 0
 fnd : s.fnd = []
 clean : s.dirty = false → Bf o s ∧ JZ o s.ch s.I s.J
structure Sz (o : c4 α) (ok : Nat → List α × List Int → Prop) (s : aX α) : Prop where
 ph : s.ph = 4
 dirty : s.dirty = false
 laid : ly o ok s
 I : s.I = 0
 J : s.J = 0
 T : s.T = 0
 fnd : s.fnd = []
 ajk : Bf o s
 ai4 : JZ o s.ch (bb s.ch).length 0
structure SA (o : c4 α) (ok : Nat → List α × List Int → Prop) (s : aX α) : Prop where
 ph : s.ph = 5
 I : s.I = 0
 J : s.J = 0
 T : s.T = 0
 fnd : s.fnd = []
 full : s.hot.length = o.R
 ch : (s.ch = [] ∧ s.dirty = false) ∨ ly o ok s
def jO (o : c4 α) (ok : Nat → List α × List Int → Prop) (s : aX α) : Prop := km o s ∧ (JW o s ∨ Inv1 o s ∨ Inv2 o ok s ∨ Fy o ok s ∨ Sz o ok s ∨ SA o ok s)
def ei (o : c4 α) : Nat := 2 * (o.n * o.R) * o.R + o.n * o.R * (o.n * o.R) + 1
def n8 (s : aX α) : Nat := (bb (s.ch.take s.I)).length + s.J
def fl (o : c4 α) (s : aX α) : Nat :=
 match s.ph with
 | 0 => (o.n - s.I) + o.n * o.n + (o.R + 1) * ei o
 | 1 => ((o.n - s.I) * o.n - s.J) + (o.R + 1) * ei o
 | 2 => (o.R - s.hot.length) * ei o + (2 * (o.n * o.R) - n8 s - (bb s.ch).length) * o.R + (s.hot.length - s.T) + o.n * o.R * (o.n * o.R)
 | 3 => (o.R - s.hot.length) * ei o + (if s.dirty = true then ei o else 0) + (((bb s.ch).length - s.I) * (bb s.ch).length - s.J)
 | _ => 0
theorem IJ : ∀ {l m : List α}, l.Nodup → (∀ x ∈ l, x ∈ m) → l.length ≤ m.length
 | [], _, _, _ => ez _
 | a :: l, m, h, hs => by
  have ak := List.nodup_cons.1 h;have aL := hs a (lS ..);have := IJ (l := l) (m := m.erase a) ak.2 fun x aa => (List.mem_erase_of_ne (fun e => ak.1 (by rw [← e]; exact aa))).2 (hs x (qc _ aa));rw [List.length_erase_of_mem aL] at this;have := List.length_pos_of_mem aL;simp only [mq]; omega
theorem uh : ∀ V : List α, (jl V).length = V.length - 1
 | [] => rfl
 | [_] => rfl
 | p :: q :: W => by
  have := uh (q :: W);simp only [jl, mq] at this ⊢; omega
theorem Oh : ∀ {V : List α} {l : α × α}, l ∈ jl V → ∃ j, V[j]? = some l.1 ∧ V[j + 1]? = some l.2
 | p :: q :: W, l, h => by
  rcases hf.1 (show l ∈ (p, q) :: jl (q :: W) from h) with rfl | h
  ·exact ⟨0, rfl, rfl⟩
  ·obtain ⟨j, h1, h2⟩ := Oh h;exact ⟨j + 1, h1, h2⟩
theorem DL (A B : List (List α × List Int)) : bb (A ++ B) = bb A ++ bb B := List.flatMap_append ..
theorem DM (c : List α × List Int) (B : List (List α × List Int)) : bb (c :: B) = jl c.1 ++ bb B := rfl
theorem Ij {ch : List (List α × List Int)} {l : α × α} (h : l ∈ bb ch) : ∃ (i : Nat) (c : List α × List Int) (j : Nat), ch[i]? = some c ∧ c.1[j]? = some l.1 ∧ c.1[j + 1]? = some l.2 := by
 obtain ⟨c, ak, ao⟩ := List.mem_flatMap.1 h;obtain ⟨i, hi⟩ := kw ak;obtain ⟨j, h1, h2⟩ := Oh ao;exact ⟨i, c, j, hi, h1, h2⟩
theorem DN {m : Nat} : ∀ {ch : List (List α × List Int)}, (∀ c ∈ ch, c.1.length ≤ m) → (bb ch).length ≤ ch.length * m
 | [], _ => ez _
 | c :: B, h => by
  have cF := DN (ch := B) fun c ak => h c (qc _ ak);have h1 := h c (lS ..);rw [DM, dl, uh, mq, kx, Nat.one_mul]; omega
theorem W7 {β : Type} {l : List β} {i : Nat} {c : β} (h : l[i]? = some c) : l = l.take i ++ c :: l.drop (i + 1) ∧ (l.take i).length = i := by
 obtain ⟨ao, e⟩ := bV.1 h;refine ⟨?_, by rw [eI]; omega⟩
 conv => lhs; rw [← j9 i l, mr ao, e]
end Go.Proofs.YtpochbhajmbfdaaGreat.bF
namespace Go.Proofs.YtpochbhajmbfdaaGreat.bF
variable {α : Type} [DecidableEq α]
theorem Q5 : ∀ (cs : List (List α × List Int)) (i j fN e4 : Nat), uM cs i j = some (fN, e4) → (∀ c, cs[0]? = some c → j ≤ (jl c.1).length) →
  ∃ (k : Nat) (c : List α × List Int), fN = i + k ∧ cs[k]? = some c ∧ e4 + 1 < c.1.length ∧ j ≤ (bb (cs.take k)).length + e4 ∧ (∀ (m : Nat) (d : List α × List Int) (l : Nat), cs[m]? = some d → l + 1 < d.1.length → (m < k ∨ (m = k ∧ l < e4)) → m = 0 ∧ l < j)
 | [], i, j, fN, e4, h, _ => by cases h
 | c :: cs, i, j, fN, e4, h, ae => by
  have aI : j ≤ (jl c.1).length := ae c rfl;rw [uh] at aI;unfold uM at h
  split at h
  ·rename_i ak;cases h;refine ⟨0, c, rfl, rfl, ak, by simp, fun m d l _ _ a6 => ?_⟩;omega
  ·rename_i ak;obtain ⟨k, c', aG, aO, cz, eX, lD⟩ := Q5 cs (i + 1) 0 fN e4 h (fun _ _ => ez _);refine ⟨k + 1, c', by omega, aO, cz, ?_, fun m d l hd ao a6 => ?_⟩
   ·rw [List.take_succ_cons, DM, dl, uh]; omega
   ·match m, hd, a6 with
    | 0, hd, a6 =>
     simp only [sS, ib] at hd;subst hd;exact ⟨rfl, by omega⟩
    | m + 1, hd, a6 =>
     have := lD m d l hd ao (by omega);omega
theorem Q4 : ∀ (cs : List (List α × List Int)) (i j : Nat), uM cs i j = none → ∀ (m : Nat) (d : List α × List Int) (l : Nat), cs[m]? = some d → l + 1 < d.1.length → m = 0 ∧ l < j
 | [], _, _, _, m, d, l, hd, _ => by simp at hd
 | c :: cs, i, j, h, m, d, l, hd, ao => by
  unfold uM at h
  split at h
  ·cases h
  ·rename_i ak
   match m, hd with
   | 0, hd =>
    simp only [sS, ib] at hd;subst hd;exact ⟨rfl, by omega⟩
   | m + 1, hd =>
    have := Q4 cs (i + 1) 0 h m d l hd ao;omega
theorem ly.many {o : c4 α} {ok : Nat → List α × List Int → Prop} (af : l5 o ok) {s : aX α} (ab : km o s) (h : ly o ok s) : (bb s.ch).length ≤ o.n * o.R := by
 rw [← h.len];refine DN fun c ak => ?_;obtain ⟨i, hi⟩ := kw ak;have a6 := h.iE i c hi;exact lT (IJ (af.nodup _ _ a6.ho) a6.hot) ab.room
theorem Ub {o : c4 α} {s : aX α} {I J : Nat} (aL : Be o s.hot s.ch I J) (aE : ∀ (i : Nat) (d : List α × List Int) (l : Nat), s.ch[i]? = some d → l + 1 < d.1.length → i < I ∨ (i = I ∧ l < J)) : Bf o s := fun l ao => by
 obtain ⟨i, c, j, hi, h1, h2⟩ := Ij ao;have := (bV.1 h2).1;exact aL i c j l.1 l.2 hi h1 h2 (aE i c j hi this)
theorem Jk {o : c4 α} {ok : Nat → List α × List Int → Prop} (af : l5 o ok) {s : aX α} (ab : km o s) (ao : ly o ok s) (ht : s.ph = 2) (hd : s.dirty = false) (en : s.T = 0) (au : s.fnd = []) (a6 : 0 < s.hot.length) (aL : Be o s.hot s.ch s.I s.J) (ae : ∀ c, s.ch[s.I]? = some c → s.J ≤ (jl c.1).length) :
  jO o ok (mv s) ∧ fl o (mv s) ≤ (o.R - s.hot.length) * ei o + (2 * (o.n * o.R) - n8 s - (bb s.ch).length) * o.R + s.hot.length + o.n * o.R * (o.n * o.R) := by
 have hm := ao.many af ab;unfold mv;cases h : uM (s.ch.drop s.I) s.I s.J with
 | some Dt =>
  obtain ⟨fN, e4⟩ := Dt;obtain ⟨k, c, aG, aO, cz, eX, lD⟩ := Q5 _ _ _ _ _ h (fun c ak => ae c (by rw [gF] at ak; exact ak));rw [gF] at aO;rw [← aG] at aO;show jO o ok ({ s with I := fN, J := e4 } : aX α) ∧ fl o ({ s with I := fN, J := e4 } : aX α) ≤ _;have xl : e4 < c.1.length := by omega
  refine ⟨⟨⟨ab.nd, ab.room, ab.gW⟩, .inr (.inr (.inl ⟨ht, hd, ⟨ao.len, ao.iE⟩, ⟨c, c.1[e4], c.1[e4 + 1], aO, cl xl, cl cz, ?_⟩, ?_, ?_⟩))⟩, ?_⟩
  ·show s.fnd = (s.hot.take s.T).filter _;rw [en, au]; rfl
  ·show s.T < s.hot.length;omega
  ·show Be o s.hot s.ch fN e4;intro i d j p q hi hp al gL;have C9 := (bV.1 al).1;refine aL i d j p q hi hp al ?_
   by_cases dq : i < s.I
   ·exact .inl dq
   ·have := lD (i - s.I) d j (by rw [gF, show s.I + (i - s.I) = i by omega]; exact hi) C9 (by omega);omega
  ·have hp : n8 s ≤ n8 ({ s with I := fN, J := e4 } : aX α) := by
    unfold n8;show (bb (s.ch.take s.I)).length + s.J ≤ (bb (s.ch.take fN)).length + e4;rw [aG, List.take_add, DL, dl]; omega
   show fl o ({ s with I := fN, J := e4 } : aX α) ≤ _;unfold fl;show (match s.ph with | 0 => _ | 1 => _ | 2 => _ | 3 => _ | _ => _) ≤ _;rw [ht];show (o.R - s.hot.length) * ei o + (2 * (o.n * o.R) - n8 ({ s with I := fN, J := e4 } : aX α) - (bb s.ch).length) * o.R + (s.hot.length - s.T) + o.n * o.R * (o.n * o.R) ≤ _;generalize n8 ({ s with I := fN, J := e4 } : aX α) = SP at *;have := ky o.R (show 2 * (o.n * o.R) - SP - (bb s.ch).length ≤ 2 * (o.n * o.R) - n8 s - (bb s.ch).length by omega);omega
 | none =>
  have dp : Bf o s := Ub aL fun i d l hi h4 => by
   by_cases dq : i < s.I
   ·exact .inl dq
   ·have := Q4 _ _ _ h (i - s.I) d l (by rw [gF, show s.I + (i - s.I) = i by omega]; exact hi) h4;omega
  show jO o ok (if (bb s.ch).length < 2 then fF s 4 0 0 else fF s 3 0 1) ∧ fl o (if (bb s.ch).length < 2 then fF s 4 0 0 else fF s 3 0 1) ≤ _
  split
  ·rename_i h2;refine ⟨⟨⟨ab.nd, ab.room, ab.gW⟩, .inr (.inr (.inr (.inr (.inl ⟨rfl, hd, ⟨ao.len, ao.iE⟩, rfl, rfl, rfl, rfl, dp, ?_⟩))))⟩, ez _⟩;intro a b l m aq aK nr _;have := (bV.1 aK).1;have : b < (bb s.ch).length := this;omega
  ·rename_i h2;refine ⟨⟨⟨ab.nd, ab.room, ab.gW⟩, .inr (.inr (.inr (.inl ⟨rfl, ⟨ao.len, ao.iE⟩, Nat.zero_lt_one, show 1 < (bb s.ch).length by omega, rfl, rfl, fun _ => ⟨dp, ?_⟩⟩)))⟩, ?_⟩
   ·intro a b l m aq aK nr Hh;have : a < 0 ∨ (a = 0 ∧ b < 1) := Hh;omega
   ·show (o.R - s.hot.length) * ei o + (if s.dirty = true then ei o else 0) + (((bb s.ch).length - 0) * (bb s.ch).length - 1) ≤ _;rw [hd, if_neg (by decide), Nat.sub_zero];have := Nat.mul_le_mul hm hm;omega
theorem C6 (o : c4 α) {s : aX α} (ab : km o s) (q : α) (al : o.ho q) : (dQ o s q = fF s 5 0 0 ∧ s.hot.length = o.R) ∨
  ∃ hot', dQ o s q = { s with hot := hot' } ∧ km o ({ s with hot := hot' } : aX α) ∧ q ∈ hot' ∧ (∀ x ∈ s.hot, x ∈ hot') ∧ s.hot.length ≤ hot'.length ∧ (q ∉ s.hot → hot'.length = s.hot.length + 1) ∧ (q ∈ s.hot → hot' = s.hot) := by
 have := ab.room;unfold dQ
 by_cases h : q ∈ s.hot
 ·rw [if_pos h];exact .inr ⟨s.hot, rfl, ab, h, fun x aa => aa, dU _, fun aF => absurd h aF, fun _ => rfl⟩
 ·rw [if_neg h]
  by_cases h2 : s.hot.length < o.R
  ·rw [if_pos h2];refine .inr ⟨s.hot ++ [q], rfl, ⟨?_, ?_, fun x aa => (ms.1 aa).elim (ab.gW x) fun h => by rw [mu.1 h]; exact al⟩, by simp, fun x aa => List.mem_append_left _ aa, by simp, fun _ => by simp, fun aF => absurd aF h⟩
   ·show (s.hot ++ [q]).Nodup;refine List.nodup_append.2 ⟨ab.nd, by simp, fun a aL b du => ?_⟩;rw [mu] at du;subst du;exact fun e => h (by rw [← e]; exact aL)
   ·show (s.hot ++ [q]).length ≤ o.R;rw [dl, List.length_singleton]; omega
  ·rw [if_neg h2];exact .inl ⟨rfl, by omega⟩
theorem Vb {o : c4 α} (aE : 0 < o.n) (ap : 0 < o.R) : o.R ≤ ei o := by
 have h1 : o.R ≤ o.n * o.R := Nat.le_mul_of_pos_left _ aE;have h2 : o.n * o.R ≤ o.n * o.R * o.R := Nat.le_mul_of_pos_right _ ap;unfold ei;rw [Nat.mul_assoc 2];omega
theorem Oa {o : c4 α} {ok : Nat → List α × List Int → Prop} (af : l5 o ok) {s : aX α} (ab : km o s) (hd : s.dirty = false) (aE : 0 < o.n) (hw : BU o s o.n) : jO o ok (lO o s) ∧ fl o (lO o s) < (o.R + 1) * ei o := by
 have a6 : 0 < s.hot.length := List.length_pos_of_mem (hw 0 aE).1;have key := Jk (s := fF { s with ch := (List.range o.n).map fun k => hz (o.P k) (o.Q k) } 2 0 0) af ⟨ab.nd, ab.room, ab.gW⟩ ⟨?_, ?_⟩ rfl hd rfl rfl a6 ?_ ?_
 ·refine ⟨key.1, Nat.lt_of_le_of_lt key.2 ?_⟩;show (o.R - s.hot.length) * ei o + (2 * (o.n * o.R) - (0 + 0) - (bb ((List.range o.n).map fun k => hz (o.P k) (o.Q k))).length) * o.R + s.hot.length + o.n * o.R * (o.n * o.R) < (o.R + 1) * ei o;generalize (bb ((List.range o.n).map fun k => hz (o.P k) (o.Q k))).length = L;have ap := ab.room;have ak := Vb aE (show 0 < o.R by omega);have h1 := ky (ei o) (show o.R - s.hot.length ≤ o.R - 1 by omega);have h2 := ky o.R (show 2 * (o.n * o.R) - (0 + 0) - L ≤ 2 * (o.n * o.R) by omega);have aG : (o.R + 1) * ei o = (o.R - 1) * ei o + 2 * ei o := by rw [← kx]; congr 1; omega
  have aO : ei o = 2 * (o.n * o.R) * o.R + o.n * o.R * (o.n * o.R) + 1 := rfl;omega
 ·show ((List.range o.n).map fun k => hz (o.P k) (o.Q k)).length = o.n;simp
 ·intro i c hi;have hi : ((List.range o.n).map fun k => hz (o.P k) (o.Q k))[i]? = some c := hi;have lJ : i < o.n := by have := (bV.1 hi).1; simpa using this
  rw [eJ, List.getElem?_range lJ] at hi;have hi : hz (o.P i) (o.Q i) = c := mY hi;have aw := af.new i lJ;subst hi;refine ⟨aw, ?_, ?_, ?_, fun v hv => ?_, fun d hd => ?_⟩
  ·unfold hz; split <;> rfl
  ·unfold hz; split <;> rfl
  ·unfold hz
   split
   ·rename_i e; rw [e]; rfl
   ·rfl
  ·show v ∈ s.hot;unfold hz at hv
   split at hv
   ·rw [mu.1 hv]; exact (hw i lJ).1
   ·rcases hf.1 hv with rfl | hv
    ·exact (hw i lJ).1
    ·rw [mu.1 hv]; exact (hw i lJ).2
  ·unfold hz at hd ⊢
   split at hd
   ·cases hd
   ·rename_i e;rw [if_neg e];rw [mu.1 hd];exact ⟨pg 1, pg 1⟩
 ·intro i c j p q _ _ _ gL;have : i < 0 ∨ (i = 0 ∧ j < 0) := gL;omega
 ·intro c _;exact ez _
theorem Dx {o : c4 α} {ok : Nat → List α × List Int → Prop} {s : aX α} (ab : km o s) (au : s.hot.length = o.R) (ak : (s.ch = [] ∧ s.dirty = false) ∨ ly o ok s) : jO o ok (fF s 5 0 0) ∧ fl o (fF s 5 0 0) = 0 :=
 ⟨⟨⟨ab.nd, ab.room, ab.gW⟩, .inr (.inr (.inr (.inr (.inr ⟨rfl, rfl, rfl, rfl, rfl, au, ak.imp id fun h => ⟨h.len, h.iE⟩⟩))))⟩, rfl⟩
theorem V8 {o : c4 α} {ok : Nat → List α × List Int → Prop} (af : l5 o ok) {s : aX α} (ab : km o s) (h : JW o s) : jO o ok (tG o s) ∧ fl o (tG o s) < fl o s := by
 have bu := h.I;have vB : fl o s = (o.n - s.I) + o.n * o.n + (o.R + 1) * ei o := by simp only [fl, h.ph]
 rw [vB];unfold tG;rcases C6 o ab (o.P s.I) (af.GI _ bu).1 with ⟨aG, f1⟩ | ⟨h1, aG, b1, m1, s1, l1, _, _⟩
 ·rw [aG, if_pos (show (fF s 5 0 0).ph = 5 from rfl)];have := Dx (ok := ok) ab f1 (.inl ⟨h.ch, h.dirty⟩);exact ⟨this.1, by rw [this.2]; omega⟩
 ·rw [aG, if_neg (show ({ s with hot := h1 } : aX α).ph ≠ 5 by show s.ph ≠ 5; rw [h.ph]; decide)];rcases C6 o b1 (o.Q s.I) (af.GI _ bu).2 with ⟨aO, f2⟩ | ⟨h2, aO, b2, m2, s2, l2, _, _⟩
  ·rw [aO, if_pos (show (fF ({ s with hot := h1 } : aX α) 5 0 0).ph = 5 from rfl)];have := Dx (ok := ok) b1 f2 (.inl ⟨h.ch, h.dirty⟩);exact ⟨this.1, by rw [this.2]; omega⟩
  ·have s2 : ∀ x ∈ h1, x ∈ h2 := s2;rw [aO, if_neg (show ({ s with hot := h2 } : aX α).ph ≠ 5 by show s.ph ≠ 5; rw [h.ph]; decide)]
   have hw : ∀ i, i < s.I + 1 → o.P i ∈ h2 ∧ o.Q i ∈ h2 := fun i hi => by
    rcases jn i s.I with g | g
    ·exact ⟨s2 _ (s1 _ (h.A8 i g).1), s2 _ (s1 _ (h.A8 i g).2)⟩
    ·rw [show i = s.I by omega]; exact ⟨s2 _ m1, m2⟩
   split
   ·rename_i bj;refine ⟨⟨⟨b2.nd, b2.room, b2.gW⟩, .inl ⟨h.ph, h.dirty, h.fnd, h.ch, bj, h.J, h.T, hw⟩⟩, ?_⟩;show fl o ({ s with hot := h2, I := s.I + 1 } : aX α) < _;unfold fl;show (match s.ph with | 0 => (o.n - (s.I + 1)) + o.n * o.n + (o.R + 1) * ei o | 1 => _ | 2 => _ | 3 => _ | _ => _) < _;rw [h.ph];show (o.n - (s.I + 1)) + o.n * o.n + (o.R + 1) * ei o < _;omega
   ·rename_i lI;have aE : o.n = s.I + 1 := by omega
    split
    ·have := Oa af (s := ({ s with hot := h2 } : aX α)) ⟨b2.nd, b2.room, b2.gW⟩ h.dirty (by omega) (by rw [aE]; exact hw);exact ⟨this.1, uI this.2 (by omega)⟩
    ·rename_i ahD;refine ⟨⟨⟨b2.nd, b2.room, b2.gW⟩, .inr (.inl ⟨rfl, h.dirty, rfl, h.ch, Nat.zero_lt_one, show 1 < o.n by omega, rfl, by rw [aE]; exact hw⟩)⟩, ?_⟩;show ((o.n - 0) * o.n - 1) + (o.R + 1) * ei o < _;rw [Nat.sub_zero]; omega
theorem Pj {I J L : Nat} (pS : I < J) (kO : J < L) : (L - I) * L - J ≥ 1 ∧ ((cr L I J).2 < L → (cr L I J).1 < (cr L I J).2 ∧ (L - (cr L I J).1) * L - (cr L I J).2 < (L - I) * L - J) := by
 have e : (L - I) * L = (L - I - 1) * L + L := by rw [← Nat.succ_mul]; congr 1; omega
 refine ⟨by omega, fun h => ?_⟩;unfold cr at h ⊢
 by_cases ao : L ≤ J + 1
 ·rw [if_pos ao] at h ⊢;refine ⟨by show I + 1 < I + 2; omega, ?_⟩;show (L - (I + 1)) * L - (I + 2) < _;rw [show L - (I + 1) = L - I - 1 by omega]; omega
 ·rw [if_neg ao] at h ⊢;refine ⟨by show I < J + 1; omega, ?_⟩;show (L - I) * L - (J + 1) < _;omega
theorem abZ {I J L a b : Nat} (pS : I < J) (kO : J < L) (nr : a < b) (ab : b < L) (h : a < (cr L I J).1 ∨ (a = (cr L I J).1 ∧ b < (cr L I J).2)) : (a < I ∨ (a = I ∧ b < J)) ∨ (a = I ∧ b = J) := by (try (unfold cr at *)); grind
theorem ab0 {I J L : Nat} (pS : I < J) (kO : J < L) (h : ¬ (cr L I J).2 < L) {a b : Nat} (nr : a < b) (ab : b < L) : (a < I ∨ (a = I ∧ b < J)) ∨ (a = I ∧ b = J) := by (try (unfold cr at *)); grind
theorem adu {o : c4 α} {ok : Nat → List α × List Int → Prop} (af : l5 o ok) {s : aX α} (ab : km o s) (h : Inv1 o s) : jO o ok (uD o s) ∧ fl o (uD o s) < fl o s := by
 have pS := h.yh;have kO := h.J;have vB : fl o s = ((o.n - s.I) * o.n - s.J) + (o.R + 1) * ei o := by simp only [fl, h.ph]
 rw [vB];obtain ⟨hy, j2⟩ := Pj pS kO
 have main : ∀ h2, km o ({ s with hot := h2 } : aX α) → (∀ x ∈ s.hot, x ∈ h2) → jO o ok (if ({ s with hot := h2 } : aX α).ph = 5 then ({ s with hot := h2 } : aX α) else if (cr o.n s.I s.J).2 < o.n then { ({ s with hot := h2 } : aX α) with I := (cr o.n s.I s.J).1, J := (cr o.n s.I s.J).2 } else lO o ({ s with hot := h2 } : aX α)) ∧ fl o (if ({ s with hot := h2 } : aX α).ph = 5 then ({ s with hot := h2 } : aX α) else if (cr o.n s.I s.J).2 < o.n then { ({ s with hot := h2 } : aX α) with I := (cr o.n s.I s.J).1, J := (cr o.n s.I s.J).2 } else lO o ({ s with hot := h2 } : aX α)) < ((o.n - s.I) * o.n - s.J) + (o.R + 1) * ei o := fun h2 b2 s2 => by
  rw [if_neg (show ({ s with hot := h2 } : aX α).ph ≠ 5 by show s.ph ≠ 5; rw [h.ph]; decide)];have hw : BU o ({ s with hot := h2 } : aX α) o.n := fun i hi => ⟨s2 _ (h.A8 i hi).1, s2 _ (h.A8 i hi).2⟩
  split
  ·rename_i bj;obtain ⟨sI, sJ⟩ := j2 bj;refine ⟨⟨⟨b2.nd, b2.room, b2.gW⟩, .inr (.inl ⟨h.ph, h.dirty, h.fnd, h.ch, sI, bj, h.T, hw⟩)⟩, ?_⟩;unfold fl;show (match s.ph with | 0 => _ | 1 => ((o.n - (cr o.n s.I s.J).1) * o.n - (cr o.n s.I s.J).2) + (o.R + 1) * ei o | 2 => _ | 3 => _ | _ => _) < _;rw [h.ph];show ((o.n - (cr o.n s.I s.J).1) * o.n - (cr o.n s.I s.J).2) + (o.R + 1) * ei o < _;omega
  ·have := Oa af (s := ({ s with hot := h2 } : aX α)) ⟨b2.nd, b2.room, b2.gW⟩ h.dirty (by omega) hw;exact ⟨this.1, uI this.2 (by omega)⟩
 unfold uD;cases hp : o.uE s.I s.J with
 | none => exact main s.hot ab fun x aa => aa
 | some x =>
  show jO o ok (if (dQ o s x).ph = 5 then _ else if _ then { dQ o s x with I := _, J := _ } else lO o (dQ o s x)) ∧ fl o (if (dQ o s x).ph = 5 then _ else if _ then { dQ o s x with I := _, J := _ } else lO o (dQ o s x)) < _;rcases C6 o ab x (af.Mm _ _ x pS kO hp) with ⟨aG, f1⟩ | ⟨h2, aG, b2, m2, s2, _⟩
  ·rw [show kQ o s (some x) = dQ o s x from rfl, aG, if_pos (show (fF s 5 0 0).ph = 5 from rfl)];have := Dx (ok := ok) ab f1 (.inl ⟨h.ch, h.dirty⟩);exact ⟨this.1, by rw [this.2]; omega⟩
  ·rw [show kQ o s (some x) = dQ o s x from rfl, aG];exact main h2 b2 s2
end Go.Proofs.YtpochbhajmbfdaaGreat.bF
namespace Go.Proofs.YtpochbhajmbfdaaGreat.bF
variable {α : Type} [DecidableEq α]
theorem yL {V : List α} {j : Nat} {l : List α} : (dk V j l).length = V.length + l.length := by unfold dk; grind
theorem Gh {D : List Int} {j n : Nat} (h : j < D.length) : (eG D j n).length = D.length + n := by unfold eG; grind
theorem Lq {V : List α} {j : Nat} {l : List α} {x : α} (h : x ∈ dk V j l) : x ∈ V ∨ x ∈ l := by (try (unfold dk at *)); grind
theorem Vi {V : List α} {j : Nat} {l : List α} (h : V ≠ []) : (dk V j l).head? = V.head? := by
  match V, h with
  | v :: W, _ => rfl
theorem Vj {V : List α} {j : Nat} {l : List α} (h : j + 1 < V.length) : (dk V j l).getLast? = V.getLast? := by
  unfold dk;rw [List.getLast?_append, List.getLast?_drop, if_neg (by omega)];cases pT : V.getLast? with
  | none => rw [List.getLast?_eq_none_iff.1 pT] at h; simp at h
  | some z => rfl
theorem Lp {V : List α} {j i : Nat} {l : List α} (h : i < j + 1) (ae : j + 1 ≤ V.length) : (dk V j l)[i]? = V[i]? := by unfold dk; grind
theorem Vk {V : List α} {j : Nat} {l : List α} (h : j + 1 < V.length) : ∃ x, (dk V j l)[j + 1]? = some x := by
  have : j + 1 < (dk V j l).length := by rw [yL]; omega
  exact ⟨_, cl this⟩
theorem Vg {D : List Int} {j n : Nat} {d : Int} (ae : j < D.length) (h : d ∈ eG D j n) : ∃ e ∈ D, d = e ∨ d = e + 1 := by
  unfold eG at h;rcases ms.1 h with h | h
  · rcases ms.1 h with h | h
    · exact ⟨d, qd h, .inl rfl⟩
    · refine ⟨D[j], List.getElem_mem ae, .inr ?_⟩
      rw [List.eq_of_mem_replicate h, List.getD_eq_getElem?_getD, cl ae]; rfl
  · exact ⟨d, ob h, .inl rfl⟩
theorem Br.cut {o : c4 α} {ok : Nat → List α × List Int → Prop} (af : l5 o ok) {hot : List α} {i j : Nat} {c : List α × List Int} {p q : α} {bm : List α} (h : Br o ok hot i c) (hp : c.1[j]? = some p) (al : c.1[j + 1]? = some q) (aE : bm.Nodup) (au : ∀ x ∈ bm, x ∈ hot ∧ jy o p q x = true) (ck : bm ≠ []) : Br o ok hot i (dk c.1 j (o.gP p q bm), eG c.2 j bm.length) := by
  have hs := af.gP p q bm;have ae : j + 1 < c.1.length := (bV.1 al).1;have ao := h.len;have C8 : j < c.2.length := by omega
  have ahU : 0 < bm.length := List.length_pos_iff.2 ck;refine ⟨af.split _ _ _ _ _ _ h.ho h.len hp al aE ck (fun x aa => (au x aa).2), ?_, ?_, ?_, fun v hv => ?_, fun d hd => ?_⟩
  · show (dk c.1 j (o.gP p q bm)).length = (eG c.2 j bm.length).length + 1
    rw [yL, Gh C8, hs.length_eq]; omega
  · rw [← h.head]; exact Vi (fun e => by rw [e] at ae; simp at ae)
  · rw [← h.last]; exact Vj ae
  · rcases Lq hv with hv | hv
    · exact h.hot v hv
    · exact (au v (hs.mem_iff.1 hv)).1
  · show 1 ≤ d ∧ d ≤ ((eG c.2 j bm.length).length : Int)
    obtain ⟨e, he, mb⟩ := Vg C8 hd;have := h.deep e he;rw [Gh C8]; omega
theorem L7 {f : α → Bool} {l : List α} {n : Nat} {x : α} (h : l[n]? = some x) : (l.take (n + 1)).filter f = if f x = true then (l.take n).filter f ++ [x] else (l.take n).filter f := by
  obtain ⟨ao, e⟩ := bV.1 h;rw [pi ao, e, List.filter_append];cases aa : f x with
  | true => rw [if_pos rfl, List.filter_cons_of_pos aa]; rfl
  | false => rw [if_neg (by decide), List.filter_cons_of_neg (by rw [aa]; decide)]; exact qe _
theorem aes {o : c4 α} {ok : Nat → List α × List Int → Prop} (af : l5 o ok) {s : aX α} (ab : km o s) (h : Inv2 o ok s) : jO o ok (xT o s) ∧ fl o (xT o s) < fl o s := by
  obtain ⟨c, p, q, ak, hp, al, au⟩ := h.link;have en := h.T;have aa : s.hot[s.T]? = some s.hot[s.T] := cl en;generalize s.hot[s.T] = x at aa;have vB : fl o s = (o.R - s.hot.length) * ei o + (2 * (o.n * o.R) - n8 s - (bb s.ch).length) * o.R + (s.hot.length - s.T) + o.n * o.R * (o.n * o.R) := by simp only [fl, h.ph]
  have zh := h.laid.iE s.I c ak;have ae : s.J + 1 < c.1.length := (bV.1 al).1;have hm := h.laid.many af ab
  have Yi : lF o p q x s.fnd = (s.hot.take (s.T + 1)).filter (jy o p q) := by
    unfold lF;rw [L7 aa, au]
  obtain ⟨afr, aaD⟩ := W7 ak;have bu : s.I < s.ch.length := (bV.1 ak).1
  have ag0 : (bb s.ch).length = (bb (s.ch.take s.I)).length + ((c.1.length - 1) + (bb (s.ch.drop (s.I + 1))).length) := by
    conv => lhs; rw [afr]
    rw [DL, DM, dl, dl, uh]
  have HC : n8 s = (bb (s.ch.take s.I)).length + s.J := rfl;have me := ab.room;rw [vB];unfold xT;rw [ak];show jO o ok (match c.1[s.J]?, c.1[s.J + 1]?, s.hot[s.T]? with | some p, some q, some x => sF o s c p q (lF o p q x s.fnd) | _, _, _ => s) ∧ fl o (match c.1[s.J]?, c.1[s.J + 1]?, s.hot[s.T]? with | some p, some q, some x => sF o s c p q (lF o p q x s.fnd) | _, _, _ => s) < _;rw [hp, al, aa];show jO o ok (sF o s c p q (lF o p q x s.fnd)) ∧ fl o (sF o s c p q (lF o p q x s.fnd)) < _;rw [Yi];unfold sF
  by_cases bj : s.T + 1 < s.hot.length
  · rw [if_pos bj]
    refine ⟨⟨⟨ab.nd, ab.room, ab.gW⟩, .inr (.inr (.inl ⟨h.ph, h.dirty, ⟨h.laid.len, h.laid.iE⟩, ⟨c, p, q, ak, hp, al, rfl⟩, bj, h.B0⟩))⟩, ?_⟩;unfold fl;show (match s.ph with | 0 => _ | 1 => _ | 2 => (o.R - s.hot.length) * ei o + (2 * (o.n * o.R) - n8 s - (bb s.ch).length) * o.R + (s.hot.length - (s.T + 1)) + o.n * o.R * (o.n * o.R) | 3 => _ | _ => _) < _;rw [h.ph];show (o.R - s.hot.length) * ei o + (2 * (o.n * o.R) - n8 s - (bb s.ch).length) * o.R + (s.hot.length - (s.T + 1)) + o.n * o.R * (o.n * o.R) < _;omega
  · rw [if_neg bj]
    have XC : s.T + 1 = s.hot.length := by omega
    rw [XC, List.take_length]
    by_cases he : s.hot.filter (jy o p q) = []
    · rw [if_pos he]
      have j1 : rW o s.hot p q := fun y ag => by
        cases aw : jy o p q y with
        | false => rfl
        | true => have := List.mem_filter.2 ⟨ag, aw⟩; rw [he] at this; cases this
      have key := Jk (s := { s with T := 0, fnd := [], J := s.J + 1 }) af ⟨ab.nd, ab.room, ab.gW⟩ ⟨h.laid.len, h.laid.iE⟩ h.ph h.dirty rfl rfl (show 0 < s.hot.length by omega) ?_ ?_
      · refine ⟨key.1, Nat.lt_of_le_of_lt key.2 ?_⟩
        show (o.R - s.hot.length) * ei o + (2 * (o.n * o.R) - ((bb (s.ch.take s.I)).length + (s.J + 1)) - (bb s.ch).length) * o.R + s.hot.length + o.n * o.R * (o.n * o.R) < _;rw [HC];have := ky o.R (show 2 * (o.n * o.R) - ((bb (s.ch.take s.I)).length + (s.J + 1)) - (bb s.ch).length + 1 ≤ 2 * (o.n * o.R) - ((bb (s.ch.take s.I)).length + s.J) - (bb s.ch).length by omega);rw [kx, Nat.one_mul] at this;omega
      · intro i d j fU cK hi oP qZ gL
        have gL : i < s.I ∨ (i = s.I ∧ j < s.J + 1) := gL
        by_cases Yw : i = s.I ∧ j = s.J
        · obtain ⟨rfl, rfl⟩ := Yw
          have e : some c = some d := by rw [← ak]; exact hi
          cases e;have e : some p = some fU := by rw [← hp]; exact oP
          cases e;have e : some q = some cK := by rw [← al]; exact qZ
          cases e;exact j1
        · exact h.B0 i d j fU cK hi oP qZ (by omega)
      · intro d hd
        have e : some c = some d := by rw [← ak]; exact hd
        cases e;rw [uh];show s.J + 1 ≤ _;omega
    · rw [if_neg he]
      have hr : (s.hot.filter (jy o p q)).Nodup := ab.nd.filter _;have hcut := zh.cut af hp al hr (fun y ag => ⟨(List.mem_filter.1 ag).1, (List.mem_filter.1 ag).2⟩) he;have hlen := (af.gP p q (s.hot.filter (jy o p q))).length_eq;have ahY : 0 < (s.hot.filter (jy o p q)).length := List.length_pos_iff.2 he;generalize s.hot.filter (jy o p q) = bm at *
      have HL : ∀ i, (s.ch.set s.I (dk c.1 s.J (o.gP p q bm), eG c.2 s.J bm.length))[i]? = if i = s.I then some (dk c.1 s.J (o.gP p q bm), eG c.2 s.J bm.length) else s.ch[i]? := fun i => by
        by_cases hi : i = s.I
        · rw [if_pos hi, hi, List.getElem?_set_self bu]
        · rw [if_neg hi, List.getElem?_set_ne (Ne.symm hi)]
      have MW : ly o ok ({ s with T := 0, fnd := [], ch := s.ch.set s.I (dk c.1 s.J (o.gP p q bm), eG c.2 s.J bm.length) } : aX α) := ⟨by show (s.ch.set s.I _).length = o.n; rw [oc]; exact h.laid.len, fun i d hd => by
        have hd : (s.ch.set s.I (dk c.1 s.J (o.gP p q bm), eG c.2 s.J bm.length))[i]? = some d := hd;rw [HL] at hd
        split at hd
        · rename_i hi
          cases hd;rw [hi]; exact hcut
        · exact h.laid.iE i d hd⟩
      have du : km o ({ s with T := 0, fnd := [], ch := s.ch.set s.I (dk c.1 s.J (o.gP p q bm), eG c.2 s.J bm.length) } : aX α) := ⟨ab.nd, ab.room, ab.gW⟩;have gl : (bb (s.ch.set s.I (dk c.1 s.J (o.gP p q bm), eG c.2 s.J bm.length))).length ≤ o.n * o.R := MW.many af du;obtain ⟨y, ag⟩ := Vk (l := o.gP p q bm) ae;have oP : (dk c.1 s.J (o.gP p q bm))[s.J]? = some p := by rw [Lp (by omega) (by omega)]; exact hp
      refine ⟨⟨du, .inr (.inr (.inl ⟨h.ph, h.dirty, MW, ⟨(dk c.1 s.J (o.gP p q bm), eG c.2 s.J bm.length), p, y, ?_, oP, ag, rfl⟩, show 0 < s.hot.length by omega, ?_⟩))⟩, ?_⟩
      · show (s.ch.set s.I (dk c.1 s.J (o.gP p q bm), eG c.2 s.J bm.length))[s.I]? = _
        rw [HL, if_pos rfl]
      · intro i d j fU cK hi oP qZ gL
        have hi : (s.ch.set s.I (dk c.1 s.J (o.gP p q bm), eG c.2 s.J bm.length))[i]? = some d := hi;have gL : i < s.I ∨ (i = s.I ∧ j < s.J) := gL;rw [HL] at hi
        split at hi
        · rename_i gi
          cases hi;rw [Lp (by omega) (by omega)] at oP qZ;exact h.B0 i c j fU cK (by rw [gi]; exact ak) oP qZ gL
        · exact h.B0 i d j fU cK hi oP qZ gL
      · have L0 : s.ch.set s.I (dk c.1 s.J (o.gP p q bm), eG c.2 s.J bm.length) = s.ch.take s.I ++ (dk c.1 s.J (o.gP p q bm), eG c.2 s.J bm.length) :: s.ch.drop (s.I + 1) := List.set_eq_take_append_cons_drop.trans (if_pos bu)
        have ag1 : (bb (s.ch.set s.I (dk c.1 s.J (o.gP p q bm), eG c.2 s.J bm.length))).length = (bb (s.ch.take s.I)).length + ((c.1.length + bm.length - 1) + (bb (s.ch.drop (s.I + 1))).length) := by
          rw [L0, DL, DM, dl, dl, uh, yL, hlen]
        have sb : n8 ({ s with T := 0, fnd := [], ch := s.ch.set s.I (dk c.1 s.J (o.gP p q bm), eG c.2 s.J bm.length) } : aX α) = (bb (s.ch.take s.I)).length + s.J := by
          show (bb ((s.ch.set s.I (dk c.1 s.J (o.gP p q bm), eG c.2 s.J bm.length)).take s.I)).length + s.J = _;rw [L0, List.take_left' aaD]
        unfold fl;rw [sb];show (match s.ph with | 0 => _ | 1 => _ | 2 => (o.R - s.hot.length) * ei o + (2 * (o.n * o.R) - ((bb (s.ch.take s.I)).length + s.J) - (bb (s.ch.set s.I (dk c.1 s.J (o.gP p q bm), eG c.2 s.J bm.length))).length) * o.R + (s.hot.length - 0) + o.n * o.R * (o.n * o.R) | 3 => _ | _ => _) < _;rw [h.ph];show (o.R - s.hot.length) * ei o + (2 * (o.n * o.R) - ((bb (s.ch.take s.I)).length + s.J) - (bb (s.ch.set s.I (dk c.1 s.J (o.gP p q bm), eG c.2 s.J bm.length))).length) * o.R + (s.hot.length - 0) + o.n * o.R * (o.n * o.R) < _;rw [HC];generalize (bb (s.ch.set s.I (dk c.1 s.J (o.gP p q bm), eG c.2 s.J bm.length))).length = L' at *;have := ky o.R (show 2 * (o.n * o.R) - ((bb (s.ch.take s.I)).length + s.J) - L' + 1 ≤ 2 * (o.n * o.R) - ((bb (s.ch.take s.I)).length + s.J) - (bb s.ch).length by omega);rw [kx, Nat.one_mul] at this;omega
theorem DJ {o : c4 α} {ok : Nat → List α × List Int → Prop} (af : l5 o ok) {s : aX α} (ao : ly o ok s) {l : α × α} (h : l ∈ bb s.ch) : l.1 ≠ l.2 ∧ l.1 ∈ s.hot ∧ l.2 ∈ s.hot := by
  obtain ⟨i, c, j, hi, h1, h2⟩ := Ij h;have zh := ao.iE i c hi;have aE := af.nodup _ _ zh.ho;refine ⟨fun e => ?_, zh.hot _ (dJ h1), zh.hot _ (dJ h2)⟩;obtain ⟨g1, bC⟩ := bV.1 h1;obtain ⟨g2, cf⟩ := bV.1 h2;exact (List.pairwise_iff_getElem.1 aE) j (j + 1) g1 g2 (by omega) (by rw [bC, cf]; exact e)
theorem Vl {o : c4 α} {ok : Nat → List α × List Int → Prop} (af : l5 o ok) {s : aX α} (ab : km o s) (ao : ly o ok s) {i j : Nat} {a b : α × α} (aL : (bb s.ch)[i]? = some a) (du : (bb s.ch)[j]? = some b) {x : α} (ak : o.cut a b = some x) : o.ho x := by
  obtain ⟨_, a2, a3⟩ := DJ af ao (dJ aL);obtain ⟨_, b2, eF⟩ := DJ af ao (dJ du);exact af.Mk a.1 a.2 b.1 b.2 x (ab.gW _ a2) (ab.gW _ a3) (ab.gW _ b2) (ab.gW _ eF) ak
theorem YJ {o : c4 α} {ok : Nat → List α × List Int → Prop} (af : l5 o ok) {s : aX α} (ab : km o s) (h : Fy o ok s) {a b : α × α} (aL : (bb s.ch)[s.I]? = some a) (du : (bb s.ch)[s.J]? = some b) :
    (dW o s (o.cut a b) = fF s 5 0 0 ∧ s.hot.length = o.R) ∨ (o.cut a b = none ∧ dW o s (o.cut a b) = s) ∨
    ∃ hot', dW o s (o.cut a b) = { s with hot := hot', dirty := true } ∧ km o ({ s with hot := hot', dirty := true } : aX α) ∧ (∀ x ∈ s.hot, x ∈ hot') ∧ s.hot.length ≤ hot'.length ∧ (s.dirty = false → hot'.length = s.hot.length + 1) := by
  cases hcut : o.cut a b with
  | none => exact .inr (.inl ⟨rfl, rfl⟩)
  | some x =>
    unfold dW;rcases C6 o ab x (Vl af ab h.laid aL du hcut) with ⟨aG, f1⟩ | ⟨h2, aG, b2, m2, s2, l2, j2, _⟩
    · left
      show (if (dQ o s x).ph = 5 then dQ o s x else { dQ o s x with dirty := true }) = _ ∧ _;rw [aG, if_pos (show (fF s 5 0 0).ph = 5 from rfl)];exact ⟨rfl, f1⟩
    · refine .inr (.inr ⟨h2, ?_, ⟨b2.nd, b2.room, b2.gW⟩, s2, l2, fun hd => j2 ?_⟩)
      · show (if (dQ o s x).ph = 5 then dQ o s x else { dQ o s x with dirty := true }) = _
        rw [aG, if_neg (show ({ s with hot := h2 } : aX α).ph ≠ 5 by show s.ph ≠ 5; rw [h.ph]; decide)]
      · have hs := (h.clean hd).1
        have key : ∀ l, l ∈ bb s.ch → l.1 ≠ l.2 ∧ l.1 ∈ s.hot ∧ l.2 ∈ s.hot ∧ rW o s.hot l.1 l.2 := fun l ao => by
          obtain ⟨cP, cw, ig⟩ := DJ af h.laid ao;exact ⟨cP, cw, ig, hs l ao⟩
        obtain ⟨a1, a2, a3, a4⟩ := key a (dJ aL);obtain ⟨b1, b2, eF, dV⟩ := key b (dJ du);exact af.cut s.hot a.1 a.2 b.1 b.2 x ab.gW a1 b1 a2 a3 b2 eF a4 dV hcut
theorem ly.mono {o : c4 α} {ok : Nat → List α × List Int → Prop} {s t : aX α} (h : ly o ok s) (ak : t.ch = s.ch) (a6 : ∀ x ∈ s.hot, x ∈ t.hot) : ly o ok t :=
  ⟨by rw [ak]; exact h.len, fun i c hi => by
    have := h.iE i c (by rw [← ak]; exact hi);exact ⟨this.ho, this.len, this.head, this.last, fun v hv => a6 v (this.hot v hv), this.deep⟩⟩
theorem abb {o : c4 α} {ok : Nat → List α × List Int → Prop} (af : l5 o ok) {s : aX α} (ab : km o s) (h : Fy o ok s) : jO o ok (sH o s) ∧ fl o (sH o s) < fl o s := by
  have pS := h.yh;have kO := h.J;have me := ab.room;have hm := h.laid.many af ab;obtain ⟨hy, j2⟩ := Pj pS kO;have vB : fl o s = (o.R - s.hot.length) * ei o + (if s.dirty = true then ei o else 0) + (((bb s.ch).length - s.I) * (bb s.ch).length - s.J) := by simp only [fl, h.ph]
  have aL : (bb s.ch)[s.I]? = some (bb s.ch)[s.I] := cl (by omega);have du : (bb s.ch)[s.J]? = some (bb s.ch)[s.J] := cl kO;generalize (bb s.ch)[s.I] = a at aL;generalize (bb s.ch)[s.J] = b at du
  have ahW : 0 < s.hot.length := by
    obtain ⟨i, c, j, hi, h1, h2⟩ := Ij (dJ aL);exact List.length_pos_of_mem ((h.laid.iE i c hi).hot _ (dJ h1))
  rw [vB];unfold sH;rw [aL, du];show jO o ok (if (dW o s (o.cut a b)).ph = 5 then dW o s (o.cut a b) else if (cr (bb s.ch).length s.I s.J).2 < (bb s.ch).length then { dW o s (o.cut a b) with I := (cr (bb s.ch).length s.I s.J).1, J := (cr (bb s.ch).length s.I s.J).2 } else nC (dW o s (o.cut a b))) ∧ fl o (if (dW o s (o.cut a b)).ph = 5 then dW o s (o.cut a b) else if (cr (bb s.ch).length s.I s.J).2 < (bb s.ch).length then { dW o s (o.cut a b) with I := (cr (bb s.ch).length s.I s.J).1, J := (cr (bb s.ch).length s.I s.J).2 } else nC (dW o s (o.cut a b))) < _
 
  have main : ∀ hot', km o ({ s with hot := hot', dirty := true } : aX α) → (∀ x ∈ s.hot, x ∈ hot') → s.hot.length ≤ hot'.length → (s.dirty = false → hot'.length = s.hot.length + 1) →
      jO o ok (if ({ s with hot := hot', dirty := true } : aX α).ph = 5 then ({ s with hot := hot', dirty := true } : aX α) else if (cr (bb s.ch).length s.I s.J).2 < (bb s.ch).length then { ({ s with hot := hot', dirty := true } : aX α) with I := (cr (bb s.ch).length s.I s.J).1, J := (cr (bb s.ch).length s.I s.J).2 } else nC ({ s with hot := hot', dirty := true } : aX α)) ∧ fl o (if ({ s with hot := hot', dirty := true } : aX α).ph = 5 then ({ s with hot := hot', dirty := true } : aX α) else if (cr (bb s.ch).length s.I s.J).2 < (bb s.ch).length then { ({ s with hot := hot', dirty := true } : aX α) with I := (cr (bb s.ch).length s.I s.J).1, J := (cr (bb s.ch).length s.I s.J).2 } else nC ({ s with hot := hot', dirty := true } : aX α)) < (o.R - s.hot.length) * ei o + (if s.dirty = true then ei o else 0) + (((bb s.ch).length - s.I) * (bb s.ch).length - s.J) := fun hot' b2 s2 l2 d2 => by
    have ao : ly o ok ({ s with hot := hot', dirty := true } : aX α) := h.laid.mono rfl s2;have ec : hot'.length ≤ o.R := b2.room
    have ahK : (o.R - hot'.length) * ei o + ei o ≤ (o.R - s.hot.length) * ei o + (if s.dirty = true then ei o else 0) := by
      cases hd : s.dirty with
      | true =>
        rw [if_pos rfl];have := ky (ei o) (show o.R - hot'.length ≤ o.R - s.hot.length by omega);omega
      | false =>
        rw [if_neg (by decide)];have := d2 hd;have := ky (ei o) (show o.R - hot'.length + 1 ≤ o.R - s.hot.length by omega);rw [kx, Nat.one_mul] at this;omega
    rw [if_neg (show ({ s with hot := hot', dirty := true } : aX α).ph ≠ 5 by show s.ph ≠ 5; rw [h.ph]; decide)]
    split
    · rename_i bj
      obtain ⟨sI, sJ⟩ := j2 bj;refine ⟨⟨⟨b2.nd, b2.room, b2.gW⟩, .inr (.inr (.inr (.inl ⟨h.ph, ⟨ao.len, ao.iE⟩, sI, bj, h.T, h.fnd, fun hd => by cases hd⟩)))⟩, ?_⟩;unfold fl;show (match s.ph with | 0 => _ | 1 => _ | 2 => _ | 3 => (o.R - hot'.length) * ei o + (if true = true then ei o else 0) + (((bb s.ch).length - (cr (bb s.ch).length s.I s.J).1) * (bb s.ch).length - (cr (bb s.ch).length s.I s.J).2) | _ => _) < _;rw [h.ph];show (o.R - hot'.length) * ei o + (if true = true then ei o else 0) + (((bb s.ch).length - (cr (bb s.ch).length s.I s.J).1) * (bb s.ch).length - (cr (bb s.ch).length s.I s.J).2) < _;rw [if_pos rfl];omega
    · unfold nC
      rw [if_pos rfl]
      have key := Jk (s := fF ({ s with hot := hot', dirty := false } : aX α) 2 0 0) af ⟨b2.nd, b2.room, b2.gW⟩ (ao.mono rfl fun x aa => aa) rfl rfl rfl rfl (show 0 < hot'.length by omega) (fun i c j p q _ _ _ gL => by
        have : i < 0 ∨ (i = 0 ∧ j < 0) := gL;omega) (fun c _ => ez _)
      refine ⟨key.1, Nat.lt_of_le_of_lt key.2 ?_⟩;show (o.R - hot'.length) * ei o + (2 * (o.n * o.R) - (0 + 0) - (bb s.ch).length) * o.R + hot'.length + o.n * o.R * (o.n * o.R) < _;have aO : ei o = 2 * (o.n * o.R) * o.R + o.n * o.R * (o.n * o.R) + 1 := rfl;have := ky o.R (show 2 * (o.n * o.R) - (0 + 0) - (bb s.ch).length + 1 ≤ 2 * (o.n * o.R) by omega);rw [kx, Nat.one_mul] at this;omega
  rcases YJ af ab h aL du with ⟨aG, f1⟩ | ⟨wV, aG⟩ | ⟨hot', aG, b2, s2, l2, d2⟩
  · rw [aG, if_pos (show (fF s 5 0 0).ph = 5 from rfl)]
    have := Dx (ok := ok) ab f1 (.inr h.laid);exact ⟨this.1, by rw [this.2]; omega⟩
  · cases hd : s.dirty with
    | true =>
      have es : ({ s with hot := s.hot, dirty := true } : aX α) = s := by cases s; cases hd; rfl
      rw [aG];have := main s.hot (by rw [es]; exact ab) (fun x aa => aa) (dU _) (fun a6 => by rw [hd] at a6; cases a6);rw [es, hd] at this;exact this
    | false =>
      rw [aG, if_neg (show ¬ s.ph = 5 by rw [h.ph]; decide), if_neg (show ¬ (false = true) by decide)];obtain ⟨c1, c2⟩ := h.clean hd
      have M1 : ∀ x y l m, (bb s.ch)[x]? = some l → (bb s.ch)[y]? = some m → ((x < s.I ∨ (x = s.I ∧ y < s.J)) ∨ (x = s.I ∧ y = s.J)) → x < y → o.cut l m = none := fun x y l m aa ag a6 lh => by
        rcases a6 with a6 | ⟨rfl, rfl⟩
        · exact c2 x y l m aa ag lh a6
        · rw [aL] at aa; rw [du] at ag
          cases aa; cases ag;exact wV
      by_cases bj : (cr (bb s.ch).length s.I s.J).2 < (bb s.ch).length
      · rw [if_pos bj]
        obtain ⟨sI, sJ⟩ := j2 bj;refine ⟨⟨⟨ab.nd, ab.room, ab.gW⟩, .inr (.inr (.inr (.inl ⟨h.ph, ⟨h.laid.len, h.laid.iE⟩, sI, bj, h.T, h.fnd, fun _ => ⟨c1, fun x y l m aa ag lh a6 => M1 x y l m aa ag (abZ pS kO lh (bV.1 ag).1 a6) lh⟩⟩)))⟩, ?_⟩;unfold fl;show (match s.ph with | 0 => _ | 1 => _ | 2 => _ | 3 => (o.R - s.hot.length) * ei o + (if s.dirty = true then ei o else 0) + (((bb s.ch).length - (cr (bb s.ch).length s.I s.J).1) * (bb s.ch).length - (cr (bb s.ch).length s.I s.J).2) | _ => _) < _;rw [h.ph];show (o.R - s.hot.length) * ei o + (if s.dirty = true then ei o else 0) + (((bb s.ch).length - (cr (bb s.ch).length s.I s.J).1) * (bb s.ch).length - (cr (bb s.ch).length s.I s.J).2) < _;rw [hd, if_neg (by decide)];omega
      · rw [if_neg bj]
        unfold nC;rw [if_neg (show ¬ s.dirty = true by rw [hd]; decide)];refine ⟨⟨⟨ab.nd, ab.room, ab.gW⟩, .inr (.inr (.inr (.inr (.inl ⟨rfl, hd, ⟨h.laid.len, h.laid.iE⟩, rfl, rfl, rfl, rfl, c1, fun x y l m aa ag lh _ => ?_⟩))))⟩, ?_⟩
        · exact M1 x y l m aa ag (ab0 pS kO bj lh (bV.1 ag).1) lh
        · show 0 < _
          omega
  · rw [aG]
    exact main hot' b2 s2 l2 d2
theorem EZ {o : c4 α} {ok : Nat → List α × List Int → Prop} (af : l5 o ok) {s : aX α} (h : jO o ok s) : jO o ok (dS o s) ∧ (s.ph < 4 → fl o (dS o s) < fl o s) ∧ (4 ≤ s.ph → dS o s = s) := by
  obtain ⟨ab, aI | h1 | h2 | aq | aK | cO⟩ := h
  · have e : dS o s = tG o s := by simp only [dS, aI.ph]
    have := V8 af ab aI;rw [e]; exact ⟨this.1, fun _ => this.2, fun a6 => by rw [aI.ph] at a6; omega⟩
  · have e : dS o s = uD o s := by simp only [dS, h1.ph]
    have := adu af ab h1;rw [e]; exact ⟨this.1, fun _ => this.2, fun a6 => by rw [h1.ph] at a6; omega⟩
  · have e : dS o s = xT o s := by simp only [dS, h2.ph]
    have := aes af ab h2;rw [e]; exact ⟨this.1, fun _ => this.2, fun a6 => by rw [h2.ph] at a6; omega⟩
  · have e : dS o s = sH o s := by simp only [dS, aq.ph]
    have := abb af ab aq;rw [e]; exact ⟨this.1, fun _ => this.2, fun a6 => by rw [aq.ph] at a6; omega⟩
  · have e : dS o s = s := by simp only [dS, aK.ph]
    rw [e]; exact ⟨⟨ab, .inr (.inr (.inr (.inr (.inl aK))))⟩, fun a6 => by rw [aK.ph] at a6; omega, fun _ => rfl⟩
  · have e : dS o s = s := by simp only [dS, cO.ph]
    rw [e]; exact ⟨⟨ab, .inr (.inr (.inr (.inr (.inr cO))))⟩, fun a6 => by rw [cO.ph] at a6; omega, fun _ => rfl⟩
def q3 (o : c4 α) : Nat → aX α → aX α
  | 0, s => s
  | n + 1, s => q3 o n (dS o s)
theorem NS {o : c4 α} {ok : Nat → List α × List Int → Prop} (af : l5 o ok) : ∀ (n : Nat) {s : aX α}, jO o ok s → jO o ok (q3 o n s) ∧ (fl o s ≤ n → 4 ≤ (q3 o n s).ph)
  | 0, s, h => ⟨h, fun aE => by
    refine Nat.not_lt.1 fun bj => ?_;have := (EZ af h).2.1 bj;show False;have aE : fl o s ≤ 0 := aE;omega⟩
  | n + 1, s, h => by
    obtain ⟨h1, h2, aq⟩ := EZ af h;obtain ⟨g1, g2⟩ := NS af n h1;refine ⟨g1, fun aE => ?_⟩
    by_cases bj : s.ph < 4
    · exact g2 (by have := h2 bj; omega)
    · have e := aq (by omega)
      show 4 ≤ (q3 o n (dS o s)).ph;rw [e]
      have key : ∀ m, q3 o m s = s := fun m => by
        induction m with
        | zero => rfl
        | succ m cF => show q3 o m (dS o s) = s; rw [e]; exact cF
      rw [key]; omega
def hA (o : c4 α) : aX α := ⟨if o.n = 0 then 4 else 0, 0, 0, 0, false, [], [], []⟩
theorem An (o : c4 α) (ok : Nat → List α × List Int → Prop) : jO o ok (hA o) := by
  refine ⟨⟨List.nodup_nil, ez _, fun x aa => absurd aa rj⟩, ?_⟩
  by_cases h : o.n = 0
  · refine .inr (.inr (.inr (.inr (.inl ⟨by simp [hA, h], rfl, ⟨h.symm, fun i c hi => by simp [hA] at hi⟩, rfl, rfl, rfl, rfl, (fun l ao => by cases ao), (fun a b l m aL => by simp [hA, bb] at aL)⟩))))
  · exact .inl ⟨by simp [hA, h], rfl, rfl, rfl, show 0 < o.n by omega, rfl, rfl, fun i hi => by cases hi⟩
end Go.Proofs.YtpochbhajmbfdaaGreat.bF
namespace Go.Proofs.YtpochbhajmbfdaaGreat.bF
variable {α : Type} [DecidableEq α]
def r5 (N : Int → Rat → α → Prop) : Rat → List α → List Int → Prop
 | t, p :: q :: V, d :: D => ∃ oj, t ≤ oj ∧ oj ≤ 1 ∧ N d t p ∧ N d oj q ∧ r5 N oj (q :: V) D
 | _, _, _ => True
def Ck (N : Int → Rat → α → Prop) (d : Int) (t2 : Rat) : Rat → List α → Prop
 | t1, [] => t1 ≤ t2
 | t1, x :: l => ∃ t, t1 ≤ t ∧ t ≤ t2 ∧ N d t x ∧ Ck N d t2 t l
theorem Lj {N : Int → Rat → α → Prop} {d : Int} {t2 : Rat} {q : α} {V : List α} {D : List Int} (h1 : t2 ≤ 1) (al : N d t2 q) (pT : r5 N t2 (q :: V) D) : ∀ (l : List α) (t1 : Rat) (p : α), N d t1 p → Ck N d t2 t1 l → r5 N t1 (p :: (l ++ q :: V)) (List.replicate (l.length + 1) d ++ D)
 | [], t1, p, hp, ab => ⟨t2, ab, h1, hp, al, pT⟩
 | x :: l, t1, p, hp, ⟨t, g1, g2, g3, g4⟩ => by
  have cF := Lj h1 al pT l t x g3 g4;exact ⟨t, g1, Rat.le_trans g2 h1, hp, g3, cF⟩
theorem Li {N : Int → Rat → α → Prop} (kr : ∀ d t x, N d t x → N (d + 1) t x) {l : List α} {p q : α} (ao : ∀ d t1 t2, t1 ≤ t2 → t2 ≤ 1 → N d t1 p → N d t2 q → Ck N (d + 1) t2 t1 l) : ∀ (V : List α) (D : List Int) (j : Nat) (t : Rat), V.length = D.length + 1 → V[j]? = some p → V[j + 1]? = some q → r5 N t V D → r5 N t (dk V j l) (eG D j l.length)
 | [], D, j, t, _, h, _, _ => by simp at h
 | [_], D, j, t, _, _, h, _ => by simp at h
 | _ :: _ :: _, [], j, t, h, _, _, _ => by simp at h
 | a :: b :: V, d :: D, 0, t, hlen, hp, al, ⟨oj, h1, h2, aq, aK, cO⟩ => by
  simp only [sS, ib] at hp;simp only [xQ, sS, ib] at al;subst hp; subst al;have aG : dk (a :: b :: V) 0 l = a :: (l ++ b :: V) := by unfold dk; simp
  have aO : eG (d :: D) 0 l.length = List.replicate (l.length + 1) (d + 1) ++ D := by unfold eG; simp
  rw [aG, aO];exact Lj h2 (kr _ _ _ aK) cO l t a (kr _ _ _ aq) (ao d t oj h1 h2 aq aK)
 | a :: b :: V, d :: D, j + 1, t, hlen, hp, al, ⟨oj, h1, h2, aq, aK, cO⟩ => by
  have cF := Li kr ao (b :: V) D j oj (by simp at hlen ⊢; omega) hp al cO;have aG : dk (a :: b :: V) (j + 1) l = a :: dk (b :: V) j l := by unfold dk; simp
  have aO : eG (d :: D) (j + 1) l.length = d :: eG D j l.length := by unfold eG; simp
  rw [aG, aO];have cz : dk (b :: V) j l = b :: (V.take j ++ l ++ V.drop j) := by unfold dk; simp
  rw [cz] at cF ⊢;exact ⟨oj, h1, h2, aq, aK, cF⟩
end Go.Proofs.YtpochbhajmbfdaaGreat.bF
namespace Go.Proofs.YtpochbhajmbfdaaGreat.bF
variable {α : Type} [DecidableEq α]
theorem LB {o : c4 α} {ok : Nat → List α × List Int → Prop} (af : l5 o ok) {s : aX α} (ab : km o s) (ao : ly o ok s) {c : List α × List Int} (ak : c ∈ s.ch) : c.1.length ≤ o.R ∧ ∀ d ∈ c.2, 1 ≤ d ∧ d + 1 ≤ o.R := by
 obtain ⟨i, hi⟩ := kw ak;have h := ao.iE i c hi;have h1 := lT (IJ (af.nodup _ _ h.ho) h.hot) ab.room;refine ⟨h1, fun d hd => ?_⟩;have := h.deep d hd;have := h.len;omega
theorem U4 {N : Int → Rat → α → Prop} {p q : α} (hp : N 1 0 p) (al : N 1 1 q) : r5 N 0 (hz p q).1 (hz p q).2 := by
 unfold hz
 split
 ·trivial
 ·exact ⟨1, by decide, Rat.le_refl, hp, al, trivial⟩
end Go.Proofs.YtpochbhajmbfdaaGreat.bF
