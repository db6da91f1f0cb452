/-
  My own texts, without what this claim does not need. My own text.
-/
import Derived.WalkKit
import Derived.WalkSpells
import Derived.Lib.Hide
import Derived.BigQuiet
import Derived.BigGuardPart
import Derived.Deep.RegionHeld3
import Derived.Test.YtpochbhajmbfdaaGreatRows
set_option maxRecDepth 100000
set_option maxHeartbeats 64000000
set_option linter.unusedVariables false
set_option linter.unusedSimpArgs false
set_option linter.unusedSectionVars false
open Go.Proofs.Tryz renaming prog → aj
namespace Go.Proofs.YtpochbhajmbfdaaGreat
theorem bB : type_of% @decide_eq_true := @decide_eq_true
theorem bR : type_of% @decide_eq_false := @decide_eq_false
theorem bS : type_of% @List.getElem?_eq_some_iff := @List.getElem?_eq_some_iff
theorem cm : type_of% @List.getElem?_eq_getElem := @List.getElem?_eq_getElem
theorem cu : type_of% @List.all_eq_true := @List.all_eq_true
theorem cB : type_of% @decide_eq_true_eq := @decide_eq_true_eq
theorem cR : type_of% @List.length_append := @List.length_append
theorem dh : type_of% @Nat.le_of_ble_eq_true := @Nat.le_of_ble_eq_true
theorem dF : type_of% @List.mem_of_getElem? := @List.mem_of_getElem?
theorem dL : type_of% @Nat.le_refl := @Nat.le_refl
theorem dQ : type_of% @Bool.and_eq_true := @Bool.and_eq_true
theorem eg : type_of% @List.length_take := @List.length_take
theorem eC : type_of% @Nat.zero_le := @Nat.zero_le
theorem eD : type_of% @List.getElem?_map := @List.getElem?_map
theorem fK : type_of% @List.getElem?_take_of_lt := @List.getElem?_take_of_lt
theorem fV : type_of% @List.getElem?_append_left := @List.getElem?_append_left
theorem gj : type_of% @List.getElem?_drop := @List.getElem?_drop
theorem gr : type_of% @List.getElem?_append_right := @List.getElem?_append_right
theorem gH : type_of% @Option.map_some := @Option.map_some
theorem gI : type_of% @List.mem_cons := @List.mem_cons
theorem gS : type_of% @Nat.eq_of_beq_eq_true := @Nat.eq_of_beq_eq_true
theorem hA : type_of% @List.take_of_length_le := @List.take_of_length_le
theorem hR : type_of% @Option.some.injEq := @Option.some.injEq
theorem hT : type_of% @List.length_drop := @List.length_drop
theorem hU : type_of% @List.mem_map := @List.mem_map
theorem ig : type_of% @List.append_assoc := @List.append_assoc
theorem ih : type_of% @Nat.ne_of_gt := @Nat.ne_of_gt
theorem ij : type_of% @Nat.ne_of_lt := @Nat.ne_of_lt
theorem iL : type_of% @Nat.lt_or_ge := @Nat.lt_or_ge
theorem iM : type_of% @Int.mul_nonneg := @Int.mul_nonneg
theorem iN : type_of% @List.pairwise_cons := @List.pairwise_cons
theorem jc : type_of% @List.mem_singleton := @List.mem_singleton
theorem jd : type_of% @Nat.zero_lt_succ := @Nat.zero_lt_succ
theorem jE : type_of% @Int.mul_comm := @Int.mul_comm
theorem jF : type_of% @Nat.zero_add := @Nat.zero_add
theorem jG : type_of% @Int.pow_pos := @Int.pow_pos
theorem jX : type_of% @List.getElem?_of_mem := @List.getElem?_of_mem
theorem jY : type_of% @Nat.add_mul := @Nat.add_mul
theorem jZ : type_of% @Nat.mul_le_mul_right := @Nat.mul_le_mul_right
theorem j0 : type_of% @Option.bind_some := @Option.bind_some
theorem j1 : type_of% @List.all_cons := @List.all_cons
theorem j2 : type_of% @Rat.mul_nonneg := @Rat.mul_nonneg
theorem kr : type_of% @List.mem_cons_self := @List.mem_cons_self
theorem ks : type_of% @List.take_append_drop := @List.take_append_drop
theorem kt : type_of% @List.mem_append := @List.mem_append
theorem ku : type_of% @Array.getElem?_eq_some_iff := @Array.getElem?_eq_some_iff
theorem kv : type_of% @List.map_cons := @List.map_cons
theorem kw : type_of% @Int.toNat_natCast := @Int.toNat_natCast
theorem ll : type_of% @decide_eq_false_iff_not := @decide_eq_false_iff_not
theorem lm : type_of% @List.length_cons := @List.length_cons
theorem ln : type_of% @Nat.le_trans := @Nat.le_trans
theorem lp : type_of% @Int.mul_assoc := @Int.mul_assoc
theorem lU : type_of% @List.length_map := @List.length_map
theorem mn : type_of% @Int.eq_ofNat_of_zero_le := @Int.eq_ofNat_of_zero_le
theorem mo : type_of% @Option.some.inj := @Option.some.inj
theorem mq : type_of% @List.eq_nil_of_length_eq_zero := @List.eq_nil_of_length_eq_zero
theorem mr : type_of% @List.all_nil := @List.all_nil
theorem mO : type_of% @List.mem_of_mem_drop := @List.mem_of_mem_drop
theorem nD : type_of% @List.mem_cons_of_mem := @List.mem_cons_of_mem
theorem nE : type_of% @List.drop_eq_getElem_cons := @List.drop_eq_getElem_cons
theorem nF : type_of% @List.take_succ_eq_append_getElem := @List.take_succ_eq_append_getElem
theorem nG : type_of% @Bool.false_eq_true := @Bool.false_eq_true
theorem nH : type_of% @Int.emod_lt_of_pos := @Int.emod_lt_of_pos
theorem oK : type_of% @Bool.eq_iff_iff := @Bool.eq_iff_iff
theorem oL : type_of% @Int.le_refl := @Int.le_refl
theorem oM : type_of% @List.mem_of_mem_take := @List.mem_of_mem_take
theorem oN : type_of% @Int.emod_nonneg := @Int.emod_nonneg
theorem pF : type_of% @List.append_nil := @List.append_nil
theorem pG : type_of% @List.map_congr_left := @List.map_congr_left
theorem pH : type_of% @Int.mul_le_mul_of_nonneg_left := @Int.mul_le_mul_of_nonneg_left
theorem pI : type_of% @Int.mul_le_mul_of_nonneg_right := @Int.mul_le_mul_of_nonneg_right
theorem pJ : type_of% @Nat.min_eq_left := @Nat.min_eq_left
theorem pK : type_of% @Int.lt_or_le := @Int.lt_or_le
theorem pL : type_of% @Int.ediv_nonneg := @Int.ediv_nonneg
theorem pM : type_of% @Int.le_of_lt := @Int.le_of_lt
theorem pN : type_of% @Int.le_ediv_iff_mul_le := @Int.le_ediv_iff_mul_le
theorem qK : type_of% @List.not_mem_nil := @List.not_mem_nil
theorem qL : type_of% @List.getElem?_eq_none := @List.getElem?_eq_none
theorem qM : type_of% @Bool.or_eq_true := @Bool.or_eq_true
theorem qN : type_of% @List.mem_range := @List.mem_range
theorem qO : type_of% @Bool.true_and := @Bool.true_and
theorem so : type_of% @Bool.not_eq_true' := @Bool.not_eq_true'
theorem sq : type_of% @List.foldl_cons := @List.foldl_cons
theorem sr : type_of% @Int.mul_eq_zero := @Int.mul_eq_zero
theorem ss : type_of% @Int.mul_ediv_add_emod := @Int.mul_ediv_add_emod
theorem su : type_of% @Option.map_none := @Option.map_none
theorem sv : type_of% @Rat.intCast_add := @Rat.intCast_add
theorem tW : type_of% @Array.getElem?_modify := @Array.getElem?_modify
theorem tX : type_of% @List.getElem?_cons_zero := @List.getElem?_cons_zero
theorem tY : type_of% @Nat.lt_of_lt_of_le := @Nat.lt_of_lt_of_le
theorem vo : type_of% @Array.getElem?_eq_none := @Array.getElem?_eq_none
theorem vp : type_of% @Nat.eq_zero_or_pos := @Nat.eq_zero_or_pos
theorem vq : type_of% @List.drop_of_length_le := @List.drop_of_length_le
theorem xp : type_of% @List.getD_eq_getElem?_getD := @List.getD_eq_getElem?_getD
theorem xq : type_of% @Array.getD_eq_getD_getElem? := @Array.getD_eq_getD_getElem?
theorem xr : type_of% @Int.ediv_ediv_of_nonneg := @Int.ediv_ediv_of_nonneg
theorem z7 : type_of% @List.take_append_of_le_length := @List.take_append_of_le_length
end Go.Proofs.YtpochbhajmbfdaaGreat
namespace Go.Proofs.YtpochbhajmbfdaaGreat
theorem iz : (∀ b : Bool, ((!b) = true) = (b = false)) ∧ (∀ b : Bool, ((!b) = false) = (b = true)) ∧ (∀ (p : Prop) [Decidable p], (decide p = true) = p) ∧ ∀ (p : Prop) [Decidable p], (decide p = false) = ¬ p := ⟨by simp, by simp, by simp, by simp⟩
end Go.Proofs.YtpochbhajmbfdaaGreat
namespace Go.Proofs.YtpochbhajmbfdaaGreat
open Go.RowKit
@[go_sem] theorem Nd (w : World) (a b : Addr) (v : Value) : ((w.setCell a v).cell? b).isSome = (w.cell? b).isSome := by
  unfold World.setCell World.cell?;simp only [tW]
  by_cases e : a.block = b.block
  · rw [if_pos e]
    cases w.heap[b.block]? with
    | none => rfl
    | some o =>
      cases o <;> simp only [gH]
      by_cases s : a.spot.isSome = true
      · simp [s]
      · by_cases t : b.spot.isSome = true
        · simp [t]
        · simp only [if_neg s, if_neg t]
          rw [Array.getElem?_setIfInBounds]
          split
          · rename_i h1
            rw [← h1]
            split
            · rename_i h2; simp [h2]
            · rename_i h2; simp [h2]
          · rfl
  · rw [if_neg e]
theorem b0 {w W aO : World} (h : Below w.heap.size w W) (ab : Below W.heap.size W aO) : Below w.heap.size w aO := h.trans (ab.mono h.size)
theorem cT {w W : World} (h : Below w.heap.size w W) (o : Obj) : Below w.heap.size w (W.alloc o) := h.alloc h.size o
theorem eG {w W : World} (h : Below w.heap.size w W) (b o : Nat) (v : Value) (ab : w.heap.size ≤ b) : Below w.heap.size w (W.setCell ⟨b, o, none⟩ v) := h.setCell (p := ⟨b, o, none⟩) ab v
def ah (w : World) (b : Nat) (u v : Value) : Prop := (w.cell? ⟨b, 0, none⟩ = some u ∧ w.cell? ⟨b, 1, none⟩ = some v) ∧ (w.frozen? ⟨b, 0, none⟩ = false ∧ w.frozen? ⟨b, 1, none⟩ = false)
theorem ah.lt {w : World} {b : Nat} {u v : Value} (h : ah w b u v) : b < w.heap.size := World.block_lt_of_cell? w _ h.1.1
theorem ah.call {W aO : World} {b : Nat} {u v : Value} (h : ah W b u v) (ab : Below W.heap.size W aO) : ah aO b u v := by
  have an := h.lt;obtain ⟨⟨h1, h2⟩, ap, aL⟩ := h;exact ⟨⟨(ab.cell (p := ⟨b, 0, none⟩) an).trans h1, (ab.cell (p := ⟨b, 1, none⟩) an).trans h2⟩, (ab.frozen (p := ⟨b, 0, none⟩) an).trans ap, (ab.frozen (p := ⟨b, 1, none⟩) an).trans aL⟩
theorem ah.alloc {W : World} {b : Nat} {u v : Value} (h : ah W b u v) (o : Obj) : ah (W.alloc o) b u v := h.call ((Below.refl _ _).alloc (dL _) o)
theorem ah.drew {W : World} {b : Nat} {u v : Value} (h : ah W b u v) : ah W.drew b u v := h.call ((Below.refl _ _).drew)
theorem ah.new {W : World} {b : Nat} {u v : Value} {t : TypeId} (e : b = W.heap.size) : ah (W.alloc (.cells #[u, v] t)) b u v := by
  subst e;unfold ah
  go_simp
theorem ah.set {W : World} {b g : Nat} {u v x : Value} (h : ah W b u v) (o : Nat) (ne : g ≠ b) : ah (W.setCell ⟨g, o, none⟩ x) b u v := by
  obtain ⟨⟨h1, h2⟩, ap, aL⟩ := h;have mj : (⟨g, o, none⟩ : Addr) ≠ ⟨b, 0, none⟩ := fun e => ne (congrArg Addr.block e);have hP : (⟨g, o, none⟩ : Addr) ≠ ⟨b, 1, none⟩ := fun e => ne (congrArg Addr.block e);refine ⟨⟨?_, ?_⟩, ?_, ?_⟩
  · rw [World.cell?_setCell_other _ _ _ _ mj]; exact h1
  · rw [World.cell?_setCell_other _ _ _ _ hP]; exact h2
  · go_simp
  · go_simp
def fg (w : World) (b : Nat) : Prop := ((w.cell? ⟨b, 0, none⟩).isSome = true ∧ (w.cell? ⟨b, 1, none⟩).isSome = true) ∧ (w.frozen? ⟨b, 0, none⟩ = false ∧ w.frozen? ⟨b, 1, none⟩ = false)
theorem fg.of {W : World} {b : Nat} {u v : Value} (h : ah W b u v) : fg W b := by
  obtain ⟨⟨h1, h2⟩, ap, aL⟩ := h;exact ⟨⟨by rw [h1]; rfl, by rw [h2]; rfl⟩, ap, aL⟩
theorem fg.box {W : World} {b : Nat} (h : fg W b) : ∃ u v, ah W b u v := by
  obtain ⟨⟨h1, h2⟩, ap, aL⟩ := h;obtain ⟨u, hu⟩ := Option.isSome_iff_exists.1 h1;obtain ⟨v, hv⟩ := Option.isSome_iff_exists.1 h2;exact ⟨u, v, ⟨hu, hv⟩, ap, aL⟩
theorem fg.set {W : World} {b : Nat} (h : fg W b) (a : Addr) (x : Value) : fg (W.setCell a x) b := by
  obtain ⟨⟨h1, h2⟩, ap, aL⟩ := h;refine ⟨⟨by rw [Nd]; exact h1, by rw [Nd]; exact h2⟩, ?_, ?_⟩
  · go_simp
  · go_simp
theorem ah.put {W : World} {b : Nat} {kx aZ : Value} (h : fg W b) : ah ((W.setCell ⟨b, 0, none⟩ kx).setCell ⟨b, 1, none⟩ aZ) b kx aZ := by
  obtain ⟨u, v, k⟩ := h.box;obtain ⟨⟨h1, h2⟩, ap, aL⟩ := k;unfold ah
  go_simp
theorem yd {P : Program} {F : Func} {Q : Ending → World → Prop} {e : Exit} {a : Act} {W : World} (h : ∀ W', W' = W → bodyPost P F Q e a W') : bodyPost P F Q e a W := h W rfl
theorem k5 {p q : Prop} (h : p) (k : p → q) : q := k h
def fI (a b c d : Int) : Bool := a == c && b == d
theorem Ln (a b c d : Int) (w : World) : (Op.equalIn 10000 159 (.agg #[.int .i64 a, .int .u64 b]) (.agg #[.int .i64 c, .int .u64 d])).run aj w = .ok (fI a b c d) w := by
  unfold fI
  go_simp
  by_cases h : a = c <;> by_cases k : b = d <;> simp [h, k]
@[go_sem ↓ high] theorem agu (a b c d : Int) (w : World) : (binOp .eql 159 (.agg #[.int .i64 a, .int .u64 b]) (.agg #[.int .i64 c, .int .u64 d])).run aj w = .ok (.bool (fI a b c d)) w := by
  rw [run_eql_struct, Ln]; rfl
@[go_sem ↓ high] theorem aik (a b c d : Int) (w : World) : (binOp .neq 159 (.agg #[.int .i64 a, .int .u64 b]) (.agg #[.int .i64 c, .int .u64 d])).run aj w = .ok (.bool (!fI a b c d)) w := by
  rw [run_neq_struct, Ln]; rfl
theorem Vy (a b c d : Int) (w : World) : (Op.equalIn 10000 311 (.agg #[.int .u64 a, .int .u64 b]) (.agg #[.int .u64 c, .int .u64 d])).run aj w = .ok (fI a b c d) w := by
  unfold fI
  go_simp
  by_cases h : a = c <;> by_cases k : b = d <;> simp [h, k]
@[go_sem ↓ high] theorem aij (a b c d : Int) (w : World) : (binOp .neq 311 (.agg #[.int .u64 a, .int .u64 b]) (.agg #[.int .u64 c, .int .u64 d])).run aj w = .ok (.bool (!fI a b c d)) w := by
  rw [run_neq_struct, Vy]; rfl
def bt (H L n : Int) : Prop := (-9223372036854775808 ≤ H ∧ H < 9223372036854775808) ∧ (0 ≤ L ∧ L < 18446744073709551616) ∧ n = H * 18446744073709551616 + L
def cJ (H L n : Int) : Prop := (0 ≤ H ∧ H < 18446744073709551616) ∧ (0 ≤ L ∧ L < 18446744073709551616) ∧ n = H * 18446744073709551616 + L
def wr (n : Int) : Int := (n + 170141183460469231731687303715884105728) % 340282366920938463463374607431768211456 - 170141183460469231731687303715884105728
def fits (n : Int) : Bool := decide (-170141183460469231731687303715884105728 ≤ n ∧ n < 170141183460469231731687303715884105728)
def oY (n : Int) (w : World) (e : Ending) (w' : World) : Prop := ∃ H L, e = .returned (.agg #[.int .i64 H, .int .u64 L]) ∧ bt H L n ∧ Below w.heap.size w w'
def lZ (n : Int) (w : World) (e : Ending) (w' : World) : Prop := ∃ H L, e = .returned (.tuple #[.agg #[.int .i64 H, .int .u64 L], .bool (fits n)]) ∧ bt H L (if fits n then n else 0) ∧ Below w.heap.size w w'
def aT (n : Int) (w : World) (e : Ending) (w' : World) : Prop := ∃ H L, e = .returned (.agg #[.int .u64 H, .int .u64 L]) ∧ cJ H L n ∧ Below w.heap.size w w'
def gL (v : Value) (w : World) (e : Ending) (w' : World) : Prop := e = .returned v ∧ Below w.heap.size w w'
def fJ (n m : Int) : Int := if n = m then 0 else if n < m then -1 else 1
theorem oq : bt 0 0 0 := by unfold bt; omega
theorem bt.fits {H L n : Int} (h : bt H L n) : fits n = true := by
  obtain ⟨a, b, rfl⟩ := h;unfold Proofs.YtpochbhajmbfdaaGreat.fits;rw [cB];omega
theorem bt.inj {H L e6 L' n : Int} (h : bt H L n) (k : bt e6 L' n) : H = e6 ∧ L = L' := by
  obtain ⟨a, b, rfl⟩ := h;obtain ⟨c, d, e⟩ := k;omega
theorem bt.neg {H L n : Int} (h : bt H L n) : H < 0 ↔ n < 0 := by
  obtain ⟨a, b, rfl⟩ := h;omega
theorem bt.fI {H L e6 L' n m : Int} (h : bt H L n) (k : bt e6 L' m) : fI H L e6 L' = decide (n = m) := by
  obtain ⟨a, b, rfl⟩ := h;obtain ⟨c, d, rfl⟩ := k;unfold Proofs.YtpochbhajmbfdaaGreat.fI;rw [oK];simp only [dQ, beq_iff_eq, cB];omega
theorem cJ.fI {H L e6 L' n m : Int} (h : cJ H L n) (k : cJ e6 L' m) : fI H L e6 L' = decide (n = m) := by
  obtain ⟨a, b, rfl⟩ := h;obtain ⟨c, d, rfl⟩ := k;unfold Proofs.YtpochbhajmbfdaaGreat.fI;rw [oK];simp only [dQ, beq_iff_eq, cB];omega
theorem zr : cJ 0 0 0 := by unfold cJ; omega
theorem bt.conv {H L n m : Int} (h : bt H L n) (e : n = m) : bt H L m := e ▸ h
theorem I8 {n : Int} (h : fits n = true) : wr n = n := by
  unfold Proofs.YtpochbhajmbfdaaGreat.fits at h;unfold wr;rw [cB] at h;omega
theorem sE {n H L : Int} {w w' : World} (h : fits n = true) (k : bt H L n) (b : Below w.heap.size w w') : lZ n w (.returned (.tuple #[.agg #[.int .i64 H, .int .u64 L], .bool true])) w' := ⟨H, L, by rw [h], by rw [h]; exact k, b⟩
theorem vw {n : Int} {w w' : World} (h : fits n = false) (b : Below w.heap.size w w') : lZ n w (.returned (.tuple #[.agg #[.int .i64 0, .int .u64 0], .bool false])) w' := ⟨0, 0, by rw [h], by rw [h]; exact oq, b⟩
theorem Bm (x y c : Int) (aa : 0 ≤ x) (ag : 0 ≤ y) (GB : 0 ≤ c) (ak : c ≤ 1) (w : World) :
    (callFunc 293 #[.int .u64 x, .int .u64 y, .int .u64 c]).run aj w =
      .ok (.value (.tuple #[.int .u64 ((x + y + c) % 18446744073709551616), .int .u64 ((x + y + c) / 18446744073709551616)])) w := by
  rw [run_callFunc_extern Tryz.func293 (by kernel_rfl) (by kernel_rfl) (by kernel_rfl) (e := add64Entry) (by kernel_rfl), run_add64 x y c aa ag GB ak];rfl
def Qy : Array Value → Sem Value := fun args => do
  let (x, y, b) ← Extern.MathBitsCarry.three "Sub64" args
  pure (Extern.MathBitsCarry.pair ((x + Extern.MathBitsCarry.m64 - y - b) % Extern.MathBitsCarry.m64) (if x < y + b then 1 else 0))
theorem ad8 {P : Program} (x y b : Nat) (ab : b ≤ 1) (w : World) :
    (Qy #[.int .u64 x, .int .u64 y, .int .u64 b]).run P w =
      .ok (.tuple #[.int .u64 (((x + 18446744073709551616 - y - b) % 18446744073709551616 : Nat) : Int), .int .u64 ((if x < y + b then 1 else 0 : Nat) : Int)]) w := by
  have : b = 0 ∨ b = 1 := by omega
  rcases this with rfl | rfl <;> rfl
theorem Eo (x y c : Int) (aa : 0 ≤ x) (Hm : x < 18446744073709551616) (ag : 0 ≤ y) (zk : y < 18446744073709551616) (GB : 0 ≤ c) (ak : c ≤ 1) (w : World) :
    (callFunc 277 #[.int .u64 x, .int .u64 y, .int .u64 c]).run aj w =
      .ok (.value (.tuple #[.int .u64 ((x - y - c) % 18446744073709551616), .int .u64 (-((x - y - c) / 18446744073709551616))])) w := by
  obtain ⟨X, rfl⟩ := mn aa;obtain ⟨Y, rfl⟩ := mn ag;obtain ⟨C, rfl⟩ := mn GB;rw [run_callFunc_extern Tryz.func277 (by kernel_rfl) (by kernel_rfl) (by kernel_rfl) (e := Qy) (by kernel_rfl), ad8 X Y C (by omega)];simp only [Result.andThen];have aI : (((X + 18446744073709551616 - Y - C) % 18446744073709551616 : Nat) : Int) = ((X : Int) - Y - C) % 18446744073709551616 := by omega
  have aN : ((if X < Y + C then 1 else 0 : Nat) : Int) = -(((X : Int) - Y - C) / 18446744073709551616) := by split <;> omega
  rw [aI, aN]
theorem ac6 (h1 l1 h2 l2 : Int) (b1 : -9223372036854775808 ≤ h1 ∧ h1 < 9223372036854775808) (b2 : 0 ≤ l1 ∧ l1 < 18446744073709551616)
   (ed : -9223372036854775808 ≤ h2 ∧ h2 < 9223372036854775808) (dD : 0 ≤ l2 ∧ l2 < 18446744073709551616) :
   bt (wrap64 ((IntKind.u64.wrap h1 + IntKind.u64.wrap h2 + (l1 + l2 + 0) / 18446744073709551616) % 18446744073709551616)) ((l1 + l2 + 0) % 18446744073709551616) (wr ((h1 * 18446744073709551616 + l1) + (h2 * 18446744073709551616 + l2))) := by
  unfold bt wr wrap64;rw [IntKind.wrap_u64, IntKind.wrap_u64];omega
theorem aaF (h1 l1 h2 l2 : Int) (b1 : -9223372036854775808 ≤ h1 ∧ h1 < 9223372036854775808) (b2 : 0 ≤ l1 ∧ l1 < 18446744073709551616)
   (ed : -9223372036854775808 ≤ h2 ∧ h2 < 9223372036854775808) (dD : 0 ≤ l2 ∧ l2 < 18446744073709551616) :
   bt (wrap64 ((IntKind.u64.wrap h1 - IntKind.u64.wrap h2 - -((l1 - l2 - 0) / 18446744073709551616)) % 18446744073709551616)) ((l1 - l2 - 0) % 18446744073709551616) (wr ((h1 * 18446744073709551616 + l1) - (h2 * 18446744073709551616 + l2))) := by
  unfold bt wr wrap64;rw [IntKind.wrap_u64, IntKind.wrap_u64];omega
theorem vB (h : Int) : 0 ≤ IntKind.u64.wrap h ∧ IntKind.u64.wrap h < 18446744073709551616 := by rw [IntKind.wrap_u64]; omega
theorem Pw (h1 l1 h2 l2 n m : Int) (w : World) (H1 : bt h1 l1 n) (b8 : bt h2 l2 m) :
    Calls aj 299 #[.agg #[.int .i64 h1, .int .u64 l1], .agg #[.int .i64 h2, .int .u64 l2]] w (oY (wr (n + m)) w) := by
  obtain ⟨b1, b2, rfl⟩ := H1;obtain ⟨ed, dD, rfl⟩ := b8;have hv := ac6 h1 l1 h2 l2 b1 b2 ed dD;have aI := fun w => Bm l1 l2 0 b2.1 dD.1 (by omega) (by omega) w;have aN := fun w => Bm (IntKind.u64.wrap h1) (IntKind.u64.wrap h2) ((l1 + l2 + 0) / 18446744073709551616) (vB h1).1 (vB h2).1 (by omega) (by omega) w;generalize (l1 + l2 + 0) / 18446744073709551616 = c at *;generalize (l1 + l2 + 0) % 18446744073709551616 = s at *;generalize (IntKind.u64.wrap h1 + IntKind.u64.wrap h2 + c) % 18446744073709551616 = s' at *;generalize (IntKind.u64.wrap h1 + IntKind.u64.wrap h2 + c) / 18446744073709551616 = c' at *;generalize (h1 * 18446744073709551616 + l1) + (h2 * 18446744073709551616 + l2) = OA at *;clear b1 b2 ed dD
  go_enter Tryz.func299, Tryz.ntmps299
  go_wp2
  refine bodyPost_ret (v := .agg #[.int .i64 (wrap64 s'), .int .u64 s]) (by simp only [results, Tryz.results299]; go_simp) rfl ⟨_, _, rfl, hv, ?_⟩;(repeat first | with_reducible exact Below.refl _ _ | with_reducible refine cT ?_ _)
theorem zJ (h1 l1 h2 l2 n m : Int) (w : World) (H1 : bt h1 l1 n) (b8 : bt h2 l2 m) :
    Calls aj 245 #[.agg #[.int .i64 h1, .int .u64 l1], .agg #[.int .i64 h2, .int .u64 l2]] w (oY (wr (n - m)) w) := by
  obtain ⟨b1, b2, rfl⟩ := H1;obtain ⟨ed, dD, rfl⟩ := b8;have hv := aaF h1 l1 h2 l2 b1 b2 ed dD;have aI := fun w => Eo l1 l2 0 b2.1 b2.2 dD.1 dD.2 (by omega) (by omega) w;have aN := fun w => Eo (IntKind.u64.wrap h1) (IntKind.u64.wrap h2) (-((l1 - l2 - 0) / 18446744073709551616)) (vB h1).1 (vB h1).2 (vB h2).1 (vB h2).2 (by omega) (by omega) w;generalize -((l1 - l2 - 0) / 18446744073709551616) = c at *;generalize (l1 - l2 - 0) % 18446744073709551616 = s at *;generalize (IntKind.u64.wrap h1 - IntKind.u64.wrap h2 - c) % 18446744073709551616 = s' at *;generalize -((IntKind.u64.wrap h1 - IntKind.u64.wrap h2 - c) / 18446744073709551616) = c' at *;generalize (h1 * 18446744073709551616 + l1) - (h2 * 18446744073709551616 + l2) = OA at *;clear b1 b2 ed dD
  go_enter Tryz.func245, Tryz.ntmps245
  go_wp2
  refine bodyPost_ret (v := .agg #[.int .i64 (wrap64 s'), .int .u64 s]) (by simp only [results, Tryz.results245]; go_simp) rfl ⟨_, _, rfl, hv, ?_⟩;(repeat first | with_reducible exact Below.refl _ _ | with_reducible refine cT ?_ _)
theorem Bn {h1 l1 h2 l2 fX hE n m : Int} (H1 : bt h1 l1 n) (b8 : bt h2 l2 m) (ug : bt fX hE (wr (n + m))) (h : ¬ (decide (h1 < 0) = decide (h2 < 0)) ∨ (!decide (fX < 0) == decide (h2 < 0)) = false) : fits (n + m) = true ∧ bt fX hE (n + m) := by
  obtain ⟨b1, b2, rfl⟩ := H1;obtain ⟨ed, dD, rfl⟩ := b8;obtain ⟨Ft, Fu, e⟩ := ug;unfold wr at e;unfold fits bt;simp only [decide_eq_decide, Bool.not_eq_false', beq_iff_eq] at h;rw [cB];omega
theorem SM {h1 l1 h2 l2 fX hE n m : Int} (H1 : bt h1 l1 n) (b8 : bt h2 l2 m) (ug : bt fX hE (wr (n + m))) (h : (decide (h1 < 0) = decide (h2 < 0))) (k : (!decide (fX < 0) == decide (h2 < 0)) = true) : fits (n + m) = false := by
  obtain ⟨b1, b2, rfl⟩ := H1;obtain ⟨ed, dD, rfl⟩ := b8;obtain ⟨Ft, Fu, e⟩ := ug;unfold wr at e;unfold fits;simp only [decide_eq_decide, so, beq_eq_false_iff_ne, ne_eq] at h k;rw [ll];omega
theorem Rc (h1 l1 h2 l2 n m : Int) (w : World) (H1 : bt h1 l1 n) (b8 : bt h2 l2 m) :
    Calls aj 290 #[.agg #[.int .i64 h1, .int .u64 l1], .agg #[.int .i64 h2, .int .u64 l2]] w (lZ (n + m) w) := by
  go_enter Tryz.func290, Tryz.ntmps290
  go_wp2_with (go_at_call 299; refine (Pw _ _ _ _ _ _ _ H1 b8).mono ?_; rintro e aO ⟨fX, hE, rfl, hs, ab⟩; have ye := Below.cell ab (p := ⟨w.heap.size, 0, none⟩) (by (simp; omega)); have yx := Below.frozen ab (p := ⟨w.heap.size, 0, none⟩) (by (simp; omega)); have yf := Below.cell ab (p := ⟨w.heap.size, 1, none⟩) (by (simp; omega)); have yy := Below.frozen ab (p := ⟨w.heap.size, 1, none⟩) (by (simp; omega)); have BG := Below.cell ab (p := ⟨w.heap.size + 1, 0, none⟩) (by (simp; done)); have B7 := Below.frozen ab (p := ⟨w.heap.size + 1, 0, none⟩) (by (simp; done)); have BH := Below.cell ab (p := ⟨w.heap.size + 1, 1, none⟩) (by (simp; done)); have B8 := Below.frozen ab (p := ⟨w.heap.size + 1, 1, none⟩) (by (simp; done)); have TX := Below.cell ab (p := ⟨w.heap.size + 1 + 1, 0, none⟩) (by (simp; done)); have VI := Below.frozen ab (p := ⟨w.heap.size + 1 + 1, 0, none⟩) (by (simp; done)); have TY := Below.cell ab (p := ⟨w.heap.size + 1 + 1, 1, none⟩) (by (simp; done)); have VJ := Below.frozen ab (p := ⟨w.heap.size + 1 + 1, 1, none⟩) (by (simp; done)); have nu := Below.size ab; (try simp at nu); have xe : ¬ aO.heap.size = w.heap.size := (by omega); have zO : ¬ aO.heap.size = w.heap.size + 1 := (by omega); have aa1 : ¬ aO.heap.size = w.heap.size + 1 + 1 := (by omega))
  · refine bodyPost_ret (v := .tuple #[.agg #[.int .i64 0, .int .u64 0], .bool false]) (by simp only [results, Tryz.results290]; go_simp) rfl (vw (SM H1 b8 hs ‹_› ‹_›) ?_)
    (repeat first | with_reducible exact Below.refl _ _ | with_reducible refine cT ?_ _ | focus ((with_reducible refine eG ?_ _ _ _ ?_); rotate_left; omega) | with_reducible refine b0 ?_ ab)
  · refine bodyPost_ret (v := .tuple #[.agg #[.int .i64 fX, .int .u64 hE], .bool true]) (by simp only [results, Tryz.results290]; go_simp) rfl (sE (Bn H1 b8 hs (.inr ‹_›)).1 (Bn H1 b8 hs (.inr ‹_›)).2 ?_)
    (repeat first | with_reducible exact Below.refl _ _ | with_reducible refine cT ?_ _ | focus ((with_reducible refine eG ?_ _ _ _ ?_); rotate_left; omega) | with_reducible refine b0 ?_ ab)
  · refine bodyPost_ret (v := .tuple #[.agg #[.int .i64 fX, .int .u64 hE], .bool true]) (by simp only [results, Tryz.results290]; go_simp) rfl (sE (Bn H1 b8 hs (.inl ‹_›)).1 (Bn H1 b8 hs (.inl ‹_›)).2 ?_)
    (repeat first | with_reducible exact Below.refl _ _ | with_reducible refine cT ?_ _ | focus ((with_reducible refine eG ?_ _ _ _ ?_); rotate_left; omega) | with_reducible refine b0 ?_ ab)
theorem Ep {h1 l1 h2 l2 fX hE n m : Int} (H1 : bt h1 l1 n) (b8 : bt h2 l2 m) (ug : bt fX hE (wr (n - m))) (h : (decide (h1 < 0) = decide (h2 < 0)) ∨ (!decide (fX < 0) == decide (h1 < 0)) = false) : fits (n - m) = true ∧ bt fX hE (n - m) := by
  obtain ⟨b1, b2, rfl⟩ := H1;obtain ⟨ed, dD, rfl⟩ := b8;obtain ⟨Ft, Fu, e⟩ := ug;unfold wr at e;unfold fits bt;simp only [decide_eq_decide, Bool.not_eq_false', beq_iff_eq] at h;rw [cB];omega
theorem aeV {h1 l1 h2 l2 fX hE n m : Int} (H1 : bt h1 l1 n) (b8 : bt h2 l2 m) (ug : bt fX hE (wr (n - m))) (h : ¬ (decide (h1 < 0) = decide (h2 < 0))) (k : (!decide (fX < 0) == decide (h1 < 0)) = true) : fits (n - m) = false := by
  obtain ⟨b1, b2, rfl⟩ := H1;obtain ⟨ed, dD, rfl⟩ := b8;obtain ⟨Ft, Fu, e⟩ := ug;unfold wr at e;unfold fits;simp only [decide_eq_decide, so, beq_eq_false_iff_ne, ne_eq] at h k;rw [ll];omega
theorem JH (h1 l1 h2 l2 n m : Int) (w : World) (H1 : bt h1 l1 n) (b8 : bt h2 l2 m) :
    Calls aj 221 #[.agg #[.int .i64 h1, .int .u64 l1], .agg #[.int .i64 h2, .int .u64 l2]] w (lZ (n - m) w) := by
  go_enter Tryz.func221, Tryz.ntmps221
  go_wp2_with (go_at_call 245; refine (zJ _ _ _ _ _ _ _ H1 b8).mono ?_; rintro e aO ⟨fX, hE, rfl, hs, ab⟩; have ye := Below.cell ab (p := ⟨w.heap.size, 0, none⟩) (by (simp; omega)); have yx := Below.frozen ab (p := ⟨w.heap.size, 0, none⟩) (by (simp; omega)); have yf := Below.cell ab (p := ⟨w.heap.size, 1, none⟩) (by (simp; omega)); have yy := Below.frozen ab (p := ⟨w.heap.size, 1, none⟩) (by (simp; omega)); have BG := Below.cell ab (p := ⟨w.heap.size + 1, 0, none⟩) (by (simp; done)); have B7 := Below.frozen ab (p := ⟨w.heap.size + 1, 0, none⟩) (by (simp; done)); have BH := Below.cell ab (p := ⟨w.heap.size + 1, 1, none⟩) (by (simp; done)); have B8 := Below.frozen ab (p := ⟨w.heap.size + 1, 1, none⟩) (by (simp; done)); have TX := Below.cell ab (p := ⟨w.heap.size + 1 + 1, 0, none⟩) (by (simp; done)); have VI := Below.frozen ab (p := ⟨w.heap.size + 1 + 1, 0, none⟩) (by (simp; done)); have TY := Below.cell ab (p := ⟨w.heap.size + 1 + 1, 1, none⟩) (by (simp; done)); have VJ := Below.frozen ab (p := ⟨w.heap.size + 1 + 1, 1, none⟩) (by (simp; done)); have nu := Below.size ab; (try simp at nu); have xe : ¬ aO.heap.size = w.heap.size := (by omega); have zO : ¬ aO.heap.size = w.heap.size + 1 := (by omega); have aa1 : ¬ aO.heap.size = w.heap.size + 1 + 1 := (by omega))
  · refine bodyPost_ret (v := .tuple #[.agg #[.int .i64 0, .int .u64 0], .bool false]) (by simp only [results, Tryz.results221]; go_simp) rfl (vw (aeV H1 b8 hs ‹_› ‹_›) ?_)
    (repeat first | with_reducible exact Below.refl _ _ | with_reducible refine cT ?_ _ | focus ((with_reducible refine eG ?_ _ _ _ ?_); rotate_left; omega) | with_reducible refine b0 ?_ ab)
  · refine bodyPost_ret (v := .tuple #[.agg #[.int .i64 fX, .int .u64 hE], .bool true]) (by simp only [results, Tryz.results221]; go_simp) rfl (sE (Ep H1 b8 hs (.inr ‹_›)).1 (Ep H1 b8 hs (.inr ‹_›)).2 ?_)
    (repeat first | with_reducible exact Below.refl _ _ | with_reducible refine cT ?_ _ | focus ((with_reducible refine eG ?_ _ _ _ ?_); rotate_left; omega) | with_reducible refine b0 ?_ ab)
  · refine bodyPost_ret (v := .tuple #[.agg #[.int .i64 fX, .int .u64 hE], .bool true]) (by simp only [results, Tryz.results221]; go_simp) rfl (sE (Ep H1 b8 hs (.inl ‹_›)).1 (Ep H1 b8 hs (.inl ‹_›)).2 ?_)
    (repeat first | with_reducible exact Below.refl _ _ | with_reducible refine cT ?_ _ | focus ((with_reducible refine eG ?_ _ _ _ ?_); rotate_left; omega) | with_reducible refine b0 ?_ ab)
end Go.Proofs.YtpochbhajmbfdaaGreat
namespace Go.Proofs.YtpochbhajmbfdaaGreat
open Go.RowKit
theorem ady {k : IntKind} {a b : Int} (h : a = b) : Ending.returned (.int k a) = .returned (.int k b) := by rw [h]
theorem PZ {a b : Bool} (h : a = b) : Ending.returned (.bool a) = .returned (.bool b) := by rw [h]
theorem Za : bt (-9223372036854775808) 0 (-170141183460469231731687303715884105728) := by unfold bt; omega
theorem aa3 {n : Int} (H : fits n = true) : fits (0 - n) = !decide (n = -170141183460469231731687303715884105728) := by
  unfold fits at *;rw [cB] at H;rw [oK];simp only [cB, so, ll];omega
theorem Js (h1 l1 n : Int) (w : World) (H1 : bt h1 l1 n) :
    Calls aj 248 #[.agg #[.int .i64 h1, .int .u64 l1]] w (lZ (-n) w) := by
  have A5 := Lib.hid (aa3 H1.fits);have he := H1.fI Za;rw [← Int.zero_sub]
  by_cases e : n = -170141183460469231731687303715884105728
  · have hd : fI h1 l1 (-9223372036854775808) 0 = true := by rw [he]; exact bB e
    have A4 : Hid (fits (0 - n) = false) := by have := A5.out; rw [bB e] at this; exact this
    clear he A5 e
    go_enter Tryz.func248, Tryz.ntmps248
    go_wp2
    refine bodyPost_ret (v := .tuple #[.agg #[.int .i64 0, .int .u64 0], .bool false]) (by simp only [results, Tryz.results248]; go_simp) rfl (vw A4.out ?_);(repeat first | with_reducible exact Below.refl _ _ | with_reducible refine cT ?_ _)
  · have hd : fI h1 l1 (-9223372036854775808) 0 = false := by rw [he]; exact bR e
    have A4 : Hid (fits (0 - n) = true) := by have := A5.out; rw [bR e] at this; exact this
    clear he A5 e
    go_enter Tryz.func248, Tryz.ntmps248
    go_wp2_with (go_at_call 245; refine (zJ _ _ _ _ _ _ _ oq H1).mono ?_; rintro e aO ⟨fX, hE, rfl, hs, ab⟩; have ye := Below.cell ab (p := ⟨w.heap.size, 0, none⟩) (by (simp; omega)); have yx := Below.frozen ab (p := ⟨w.heap.size, 0, none⟩) (by (simp; omega)); have yf := Below.cell ab (p := ⟨w.heap.size, 1, none⟩) (by (simp; omega)); have yy := Below.frozen ab (p := ⟨w.heap.size, 1, none⟩) (by (simp; omega)); have BG := Below.cell ab (p := ⟨w.heap.size + 1, 0, none⟩) (by (simp; done)); have B7 := Below.frozen ab (p := ⟨w.heap.size + 1, 0, none⟩) (by (simp; done)); have BH := Below.cell ab (p := ⟨w.heap.size + 1, 1, none⟩) (by (simp; done)); have B8 := Below.frozen ab (p := ⟨w.heap.size + 1, 1, none⟩) (by (simp; done)); have nu := Below.size ab; (try simp at nu); have xe : ¬ aO.heap.size = w.heap.size := (by omega); have zO : ¬ aO.heap.size = w.heap.size + 1 := (by omega))
    rw [I8 A4.out] at hs;refine bodyPost_ret (v := .tuple #[.agg #[.int .i64 fX, .int .u64 hE], .bool true]) (by simp only [results, Tryz.results248]; go_simp) rfl (sE A4.out hs ?_);(repeat first | with_reducible exact Below.refl _ _ | with_reducible refine cT ?_ _ | focus ((with_reducible refine eG ?_ _ _ _ ?_); rotate_left; omega) | with_reducible refine b0 ?_ ab)
theorem Ji (h1 l1 h2 l2 n m : Int) (w : World) (H1 : bt h1 l1 n) (b8 : bt h2 l2 m) :
    Calls aj 281 #[.agg #[.int .i64 h1, .int .u64 l1], .agg #[.int .i64 h2, .int .u64 l2]] w (gL (.int .i64 (fJ n m)) w) := by
  go_enter Tryz.func281, Tryz.ntmps281
  go_wp2
  all_goals
    go_ret
    refine ⟨ady ?_, by (repeat first | with_reducible exact Below.refl _ _ | with_reducible refine cT ?_ _)⟩;simp only [H1.fI b8, cB, ll] at *;obtain ⟨b1, b2, aI⟩ := H1;obtain ⟨ed, dD, aN⟩ := b8;unfold fJ
    repeat' split
    all_goals omega
theorem Bh (h1 l1 n : Int) (w : World) (H1 : bt h1 l1 n) :
    Calls aj 247 #[.agg #[.int .i64 h1, .int .u64 l1]] w (gL (.int .i64 (fJ n 0)) w) := by
  go_enter Tryz.func247, Tryz.ntmps247
  go_wp2_with (go_at_call 281; refine (Ji _ _ _ _ _ _ _ H1 oq).mono ?_; rintro e aO ⟨rfl, ab⟩)
  go_ret
  exact ⟨rfl, by (repeat first | with_reducible exact Below.refl _ _ | with_reducible refine cT ?_ _ | with_reducible refine b0 ?_ ab)⟩
theorem aby (n : Int) (aG : -9223372036854775808 ≤ n) (h1 : n < 9223372036854775808) : bt (n / 9223372036854775808) (IntKind.u64.wrap n) n := by
  unfold bt;rw [IntKind.wrap_u64];omega
theorem rj (n : Int) (w : World) (aG : -9223372036854775808 ≤ n) (h1 : n < 9223372036854775808) :
    Calls aj 224 #[.int .i64 n] w (oY n w) := by
  have hv := aby n aG h1
  go_enter Tryz.func224, Tryz.ntmps224
  go_wp2
  refine bodyPost_ret (v := .agg #[.int .i64 (n / 9223372036854775808), .int .u64 (IntKind.u64.wrap n)]) (by simp only [results, Tryz.results224]; go_simp) rfl ⟨_, _, rfl, hv, ?_⟩;(repeat first | with_reducible exact Below.refl _ _ | with_reducible refine cT ?_ _)
def small (n : Int) : Bool := decide (-9223372036854775808 ≤ n ∧ n < 9223372036854775808)
theorem Qv (l : Int) : -9223372036854775808 ≤ wrap64 l ∧ wrap64 l < 9223372036854775808 := by unfold wrap64; omega
theorem aeD {h l n a b : Int} (H : bt h l n) (K : bt a b (wrap64 l)) (e : fI a b h l = true) : small n = true ∧ wrap64 l = n := by
  rw [K.fI H, cB] at e;have Vj := e; clear e;obtain ⟨b1, b2, rfl⟩ := H;obtain ⟨ed, dD, e⟩ := K;unfold wrap64 at *;unfold small;rw [cB];omega
theorem aeC {h l n a b : Int} (H : bt h l n) (K : bt a b (wrap64 l)) (e : fI a b h l = false) : small n = false := by
  rw [K.fI H, ll] at e;have Vj := e; clear e;obtain ⟨b1, b2, rfl⟩ := H;obtain ⟨ed, dD, e⟩ := K;unfold wrap64 at *;unfold small;rw [ll];omega
def vT (n : Int) (w : World) (e : Ending) (w' : World) : Prop := e = .returned (.tuple #[.int .i64 (if small n then n else 0), .bool (small n)]) ∧ Below w.heap.size w w'
theorem adZ {n m : Int} {w w' : World} (h : small n = true) (e : m = n) (b : Below w.heap.size w w') : vT n w (.returned (.tuple #[.int .i64 m, .bool true])) w' := ⟨by rw [h, e]; rfl, b⟩
theorem adY {n : Int} {w w' : World} (h : small n = false) (b : Below w.heap.size w w') : vT n w (.returned (.tuple #[.int .i64 0, .bool false])) w' := ⟨by rw [h]; rfl, b⟩
theorem E7 (h1 l1 n : Int) (w : World) (H1 : bt h1 l1 n) :
    Calls aj 241 #[.agg #[.int .i64 h1, .int .u64 l1]] w (vT n w) := by
  go_enter Tryz.func241, Tryz.ntmps241
  go_wp2_with fail
  go_region_held3 (fun w' => w'.cell? ⟨w.heap.size, 0, none⟩ = some (.int .i64 h1) ∧ w'.cell? ⟨w.heap.size, 1, none⟩ = some (.int .u64 l1)) (go_keep)
    ((go_at_call 224; refine (rj _ _ (Qv l1).1 (Qv l1).2).mono ?_; rintro e aO ⟨fX, hE, rfl, hs, ab⟩; have ye := Below.cell ab (p := ⟨w.heap.size, 0, none⟩) (by (simp; done)); have yx := Below.frozen ab (p := ⟨w.heap.size, 0, none⟩) (by (simp; done)); have yf := Below.cell ab (p := ⟨w.heap.size, 1, none⟩) (by (simp; done)); have yy := Below.frozen ab (p := ⟨w.heap.size, 1, none⟩) (by (simp; done)); have nu := Below.size ab; (try simp at nu); have xe : ¬ aO.heap.size = w.heap.size := (by omega)))
  go_wp2
  · go_ret2
    exact adY (aeC H1 hs (by simpa using ‹(!fI fX hE h1 l1) = true›)) (by (repeat first | with_reducible exact Below.refl _ _ | with_reducible refine cT ?_ _ | with_reducible refine Below.drew ?_ | with_reducible refine b0 ?_ ab))
  · go_ret2
    have ag := aeD H1 hs (by simpa using ‹(!fI fX hE h1 l1) = false›);exact adZ ag.1 ag.2 (by (repeat first | with_reducible exact Below.refl _ _ | with_reducible refine cT ?_ _ | with_reducible refine Below.drew ?_ | with_reducible refine b0 ?_ ab))
end Go.Proofs.YtpochbhajmbfdaaGreat
namespace Go.Proofs.YtpochbhajmbfdaaGreat.bx
structure cG (α : Type) where
 CD : α → α → α → Bool
 gu : α → α → List α → List α
 cut : α × α → α × α → Option α
 n : Nat
 P : Nat → α
 Q : Nat → α
 mM : Nat → Nat → Option α
 R : Nat
 gb : α → Prop
structure aT (α : Type) where
 ph : Nat
 I : Nat
 J : Nat
 T : Nat
 dirty : Bool
 hot : List α
 fnd : List α
 ch : List (List α × List Int)
variable {α : Type} [DecidableEq α]
def iH : List α → List (α × α)
 | p :: q :: W => (p, q) :: iH (q :: W)
 | _ => []
def bb (ch : List (List α × List Int)) : List (α × α) := ch.flatMap fun c => iH c.1
def c9 (V : List α) (j : Nat) (l : List α) : List α := V.take (j + 1) ++ l ++ V.drop (j + 1)
def eo (D : List Int) (j : Nat) (n : Nat) : List Int := D.take j ++ List.replicate (n + 1) (D.getD j 0 + 1) ++ D.drop (j + 1)
def fS (p q : α) : List α × List Int := if p = q then ([p], []) else ([p, q], [1])
def e3 (s : aT α) (ph I J : Nat) : aT α := { s with ph := ph, I := I, J := J, T := 0, fnd := [] }
def df (o : cG α) (s : aT α) (q : α) : aT α :=
 if q ∈ s.hot then s else if s.hot.length < o.R then { s with hot := s.hot ++ [q] } else e3 s 5 0 0
def pR : List (List α × List Int) → Nat → Nat → Option (Nat × Nat)
 | [], _, _ => none
 | c :: cs, i, j => if j + 1 < c.1.length then some (i, j) else pR cs (i + 1) 0
def kW (s : aT α) : aT α :=
 match pR (s.ch.drop s.I) s.I s.J with
 | some zp => { s with I := zp.1, J := zp.2 }
 | none => if (bb s.ch).length < 2 then e3 s 4 0 0 else e3 s 3 0 1
def mP (s : aT α) : aT α := if s.dirty = true then kW (e3 { s with dirty := false } 2 0 0) else e3 s 4 0 0
def kQ (o : cG α) (s : aT α) : aT α := kW (e3 { s with ch := (List.range o.n).map fun k => fS (o.P k) (o.Q k) } 2 0 0)
def qj (o : cG α) (s : aT α) : aT α :=
 if (df o s (o.P s.I)).ph = 5 then df o s (o.P s.I) else
 if (df o (df o s (o.P s.I)) (o.Q s.I)).ph = 5 then df o (df o s (o.P s.I)) (o.Q s.I) else
 if s.I + 1 < o.n then { df o (df o s (o.P s.I)) (o.Q s.I) with I := s.I + 1 } else
 if o.n < 2 then kQ o (df o (df o s (o.P s.I)) (o.Q s.I)) else e3 (df o (df o s (o.P s.I)) (o.Q s.I)) 1 0 1
def cb (many I J : Nat) : Nat × Nat := if many ≤ J + 1 then (I + 1, I + 2) else (I, J + 1)
def jS (o : cG α) (s : aT α) : Option α → aT α
 | some x => df o s x
 | none => s
def qJ (o : cG α) (s : aT α) : aT α :=
 if (jS o s (o.mM s.I s.J)).ph = 5 then jS o s (o.mM s.I s.J) else
 if (cb o.n s.I s.J).2 < o.n then { jS o s (o.mM s.I s.J) with I := (cb o.n s.I s.J).1, J := (cb o.n s.I s.J).2 } else kQ o (jS o s (o.mM s.I s.J))
def iV (o : cG α) (p q x : α) : Bool := decide (x ≠ p) && decide (x ≠ q) && o.CD p q x
def k9 (o : cG α) (p q x : α) (fnd : List α) : List α := if iV o p q x = true then fnd ++ [x] else fnd
def r9 (o : cG α) (s : aT α) (c : List α × List Int) (p q : α) (fnd : List α) : aT α :=
 if s.T + 1 < s.hot.length then { s with fnd := fnd, T := s.T + 1 } else
 if fnd = [] then kW { s with T := 0, fnd := [], J := s.J + 1 } else
 { s with T := 0, fnd := [], ch := s.ch.set s.I (c9 c.1 s.J (o.gu p q fnd), eo c.2 s.J fnd.length) }
def xu (o : cG α) (s : aT α) : aT α :=
 match s.ch[s.I]? with
 | some c =>
  match c.1[s.J]?, c.1[s.J + 1]?, s.hot[s.T]? with
  | some p, some q, some x => r9 o s c p q (k9 o p q x s.fnd)
  | _, _, _ => s
 | none => s
def dJ (o : cG α) (s : aT α) : Option α → aT α
 | some x => if (df o s x).ph = 5 then df o s x else { df o s x with dirty := true }
 | none => s
def sc (o : cG α) (s : aT α) : aT α :=
 match (bb s.ch)[s.I]?, (bb s.ch)[s.J]? with
 | some a, some b =>
  if (dJ o s (o.cut a b)).ph = 5 then dJ o s (o.cut a b) else
  if (cb (bb s.ch).length s.I s.J).2 < (bb s.ch).length then { dJ o s (o.cut a b) with I := (cb (bb s.ch).length s.I s.J).1, J := (cb (bb s.ch).length s.I s.J).2 } else mP (dJ o s (o.cut a b))
 | _, _ => s
def eh (o : cG α) (s : aT α) : aT α :=
 match s.ph with
 | 0 => qj o s
 | 1 => qJ o s
 | 2 => xu o s
 | 3 => sc o s
 | _ => s
def rl (o : cG α) (hot : List α) (p q : α) : Prop := ∀ x ∈ hot, iV o p q x = false
structure jM (o : cG α) (ok : Nat → List α × List Int → Prop) : Prop where
 nodup : ∀ i c, ok i c → c.1.Nodup
 new : ∀ i, i < o.n → ok i (fS (o.P i) (o.Q i))
 split : ∀ (i : Nat) (c : List α × List Int) (j : Nat) (p q : α) (bl : List α), ok i c → c.1.length = c.2.length + 1 → c.1[j]? = some p → c.1[j + 1]? = some q → bl.Nodup → bl ≠ [] → (∀ x ∈ bl, iV o p q x = true) → ok i (c9 c.1 j (o.gu p q bl), eo c.2 j bl.length)
 gu : ∀ (p q : α) (bl : List α), (o.gu p q bl).Perm bl
 Cg : ∀ i, i < o.n → o.gb (o.P i) ∧ o.gb (o.Q i)
 LQ : ∀ i j x, i < j → j < o.n → o.mM i j = some x → o.gb x
 LK : ∀ (p q fF cy x : α), o.gb p → o.gb q → o.gb fF → o.gb cy → o.cut (p, q) (fF, cy) = some x → o.gb x
 cut : ∀ (hot : List α) (p q fF cy x : α), (∀ y ∈ hot, o.gb y) → p ≠ q → fF ≠ cy → p ∈ hot → q ∈ hot → fF ∈ hot → cy ∈ hot → rl o hot p q → rl o hot fF cy → o.cut (p, q) (fF, cy) = some x → x ∉ hot
structure hW (o : cG α) (s : aT α) : Prop where
 nd : s.hot.Nodup
 room : s.hot.length ≤ o.R
 gz : ∀ x ∈ s.hot, o.gb x
structure AU (o : cG α) (ok : Nat → List α × List Int → Prop) (hot : List α) (i : Nat) (c : List α × List Int) : Prop where
 gb : ok i c
 len : c.1.length = c.2.length + 1
 head : c.1.head? = some (o.P i)
 last : c.1.getLast? = some (o.Q i)
 hot : ∀ v ∈ c.1, v ∈ hot
 deep : ∀ d ∈ c.2, 1 ≤ d ∧ d ≤ c.2.length
structure k1 (o : cG α) (ok : Nat → List α × List Int → Prop) (s : aT α) : Prop where
 len : s.ch.length = o.n
 hY : ∀ i c, s.ch[i]? = some c → AU o ok s.hot i c
def AF (o : cG α) (hot : List α) (ch : List (List α × List Int)) (I J : Nat) : Prop :=
 ∀ i c j p q, ch[i]? = some c → c.1[j]? = some p → c.1[j + 1]? = some q → (i < I ∨ (i = I ∧ j < J)) → rl o hot p q
def Jt (o : cG α) (ch : List (List α × List Int)) (I J : Nat) : Prop :=
 ∀ a b l m, (bb ch)[a]? = some l → (bb ch)[b]? = some m → a < b → (a < I ∨ (a = I ∧ b < J)) → o.cut l m = none
def AG (o : cG α) (s : aT α) : Prop := ∀ l ∈ bb s.ch, rl o s.hot l.1 l.2
def Bj (o : cG α) (s : aT α) (I : Nat) : Prop := ∀ i, i < I → o.P i ∈ s.hot ∧ o.Q i ∈ s.hot
structure EU (o : cG α) (s : aT α) : Prop where
 ph : s.ph = 0
 dirty : s.dirty = false
 fnd : s.fnd = []
 ch : s.ch = []
 I : s.I < o.n
 J : s.J = 0
 T : s.T = 0
 xG : Bj o s s.I
structure Inv1 (o : cG α) (s : aT α) : Prop where
 ph : s.ph = 1
 dirty : s.dirty = false
 fnd : s.fnd = []
 ch : s.ch = []
 sR : s.I < s.J
 J : s.J < o.n
 T : s.T = 0
 xG : Bj o s o.n
structure Inv2 (o : cG α) (ok : Nat → List α × List Int → Prop) (s : aT α) : Prop where
 ph : s.ph = 2
 dirty : s.dirty = false
 laid : k1 o ok s
 link : ∃ c p q, s.ch[s.I]? = some c ∧ c.1[s.J]? = some p ∧ c.1[s.J + 1]? = some q ∧ s.fnd = (s.hot.take s.T).filter (iV o p q)
 T : s.T < s.hot.length
 Bp : AF o s.hot s.ch s.I s.J
structure EV (o : cG α) (ok : Nat → List α × List Int → Prop) (s : aT α) : Prop where
 ph : s.ph = 3
 laid : k1 o ok s
 sR : s.I < s.J
 J : s.J < (bb s.ch).length
 T : s.T = 0
 fnd : s.fnd = []
 clean : s.dirty = false → AG o s ∧ Jt o s.ch s.I s.J
structure RS (o : cG α) (ok : Nat → List α × List Int → Prop) (s : aT α) : Prop where
 ph : s.ph = 4
 dirty : s.dirty = false
 laid : k1 o ok s
 I : s.I = 0
 J : s.J = 0
 T : s.T = 0
 fnd : s.fnd = []
 aiE : AG o s
 aio : Jt o s.ch (bb s.ch).length 0
structure RT (o : cG α) (ok : Nat → List α × List Int → Prop) (s : aT α) : Prop where
 ph : s.ph = 5
 I : s.I = 0
 J : s.J = 0
 T : s.T = 0
 fnd : s.fnd = []
 full : s.hot.length = o.R
 ch : (s.ch = [] ∧ s.dirty = false) ∨ k1 o ok s
def hG (o : cG α) (ok : Nat → List α × List Int → Prop) (s : aT α) : Prop := hW o s ∧ (EU o s ∨ Inv1 o s ∨ Inv2 o ok s ∨ EV o ok s ∨ RS o ok s ∨ RT o ok s)
def dW (o : cG α) : Nat := 2 * (o.n * o.R) * o.R + o.n * o.R * (o.n * o.R) + 1
def nA (s : aT α) : Nat := (bb (s.ch.take s.I)).length + s.J
def eX (o : cG α) (s : aT α) : Nat :=
 match s.ph with
 | 0 => (o.n - s.I) + o.n * o.n + (o.R + 1) * dW o
 | 1 => ((o.n - s.I) * o.n - s.J) + (o.R + 1) * dW o
 | 2 => (o.R - s.hot.length) * dW o + (2 * (o.n * o.R) - nA s - (bb s.ch).length) * o.R + (s.hot.length - s.T) + o.n * o.R * (o.n * o.R)
 | 3 => (o.R - s.hot.length) * dW o + (if s.dirty = true then dW o else 0) + (((bb s.ch).length - s.I) * (bb s.ch).length - s.J)
 | _ => 0
theorem zQ : ∀ {l m : List α}, l.Nodup → (∀ x ∈ l, x ∈ m) → l.length ≤ m.length
 | [], _, _, _ => eC _
 | a :: l, m, h, hs => by
  have ak := List.nodup_cons.1 h;have aK := hs a (kr ..);have := zQ (l := l) (m := m.erase a) ak.2 fun x aa => (List.mem_erase_of_ne (fun e => ak.1 (by rw [← e]; exact aa))).2 (hs x (nD _ aa));rw [List.length_erase_of_mem aK] at this;have := List.length_pos_of_mem aK;simp only [lm]; omega
theorem sb : ∀ V : List α, (iH V).length = V.length - 1
 | [] => rfl
 | [_] => rfl
 | p :: q :: W => by
  have := sb (q :: W);simp only [iH, lm] at this ⊢; omega
theorem NO : ∀ {V : List α} {l : α × α}, l ∈ iH V → ∃ j, V[j]? = some l.1 ∧ V[j + 1]? = some l.2
 | p :: q :: W, l, h => by
  rcases gI.1 (show l ∈ (p, q) :: iH (q :: W) from h) with rfl | h
  ·exact ⟨0, rfl, rfl⟩
  ·obtain ⟨j, h1, h2⟩ := NO h;exact ⟨j + 1, h1, h2⟩
theorem De (A B : List (List α × List Int)) : bb (A ++ B) = bb A ++ bb B := List.flatMap_append ..
theorem Df (c : List α × List Int) (B : List (List α × List Int)) : bb (c :: B) = iH c.1 ++ bb B := rfl
theorem HK {ch : List (List α × List Int)} {l : α × α} (h : l ∈ bb ch) : ∃ (i : Nat) (c : List α × List Int) (j : Nat), ch[i]? = some c ∧ c.1[j]? = some l.1 ∧ c.1[j + 1]? = some l.2 := by
 obtain ⟨c, ak, an⟩ := List.mem_flatMap.1 h;obtain ⟨i, hi⟩ := jX ak;obtain ⟨j, h1, h2⟩ := NO an;exact ⟨i, c, j, hi, h1, h2⟩
theorem Dg {m : Nat} : ∀ {ch : List (List α × List Int)}, (∀ c ∈ ch, c.1.length ≤ m) → (bb ch).length ≤ ch.length * m
 | [], _ => eC _
 | c :: B, h => by
  have cp := Dg (ch := B) fun c ak => h c (nD _ ak);have h1 := h c (kr ..);rw [Df, cR, sb, lm, jY, Nat.one_mul]; omega
theorem Wp {β : Type} {l : List β} {i : Nat} {c : β} (h : l[i]? = some c) : l = l.take i ++ c :: l.drop (i + 1) ∧ (l.take i).length = i := by
 obtain ⟨an, e⟩ := bS.1 h;refine ⟨?_, by rw [eg]; omega⟩
 conv => lhs; rw [← ks i l, nE an, e]
end Go.Proofs.YtpochbhajmbfdaaGreat.bx
namespace Go.Proofs.YtpochbhajmbfdaaGreat.bx
variable {α : Type} [DecidableEq α]
theorem Qn : ∀ (cs : List (List α × List Int)) (i j ft eL : Nat), pR cs i j = some (ft, eL) → (∀ c, cs[0]? = some c → j ≤ (iH c.1).length) →
  ∃ (k : Nat) (c : List α × List Int), ft = i + k ∧ cs[k]? = some c ∧ eL + 1 < c.1.length ∧ j ≤ (bb (cs.take k)).length + eL ∧ (∀ (m : Nat) (d : List α × List Int) (l : Nat), cs[m]? = some d → l + 1 < d.1.length → (m < k ∨ (m = k ∧ l < eL)) → m = 0 ∧ l < j)
 | [], i, j, ft, eL, h, _ => by cases h
 | c :: cs, i, j, ft, eL, h, ae => by
  have aG : j ≤ (iH c.1).length := ae c rfl;rw [sb] at aG;unfold pR at h
  split at h
  ·rename_i ak;cases h;refine ⟨0, c, rfl, rfl, ak, by simp, fun m d l _ _ aY => ?_⟩;omega
  ·rename_i ak;obtain ⟨k, c', aI, aN, cC, eH, k6⟩ := Qn cs (i + 1) 0 ft eL h (fun _ _ => eC _);refine ⟨k + 1, c', by omega, aN, cC, ?_, fun m d l hd an aY => ?_⟩
   ·rw [List.take_succ_cons, Df, cR, sb]; omega
   ·match m, hd, aY with
    | 0, hd, aY =>
     simp only [tX, hR] at hd;subst hd;exact ⟨rfl, by omega⟩
    | m + 1, hd, aY =>
     have := k6 m d l hd an (by omega);omega
theorem Qm : ∀ (cs : List (List α × List Int)) (i j : Nat), pR cs i j = none → ∀ (m : Nat) (d : List α × List Int) (l : Nat), cs[m]? = some d → l + 1 < d.1.length → m = 0 ∧ l < j
 | [], _, _, _, m, d, l, hd, _ => by simp at hd
 | c :: cs, i, j, h, m, d, l, hd, an => by
  unfold pR at h
  split at h
  ·cases h
  ·rename_i ak
   match m, hd with
   | 0, hd =>
    simp only [tX, hR] at hd;subst hd;exact ⟨rfl, by omega⟩
   | m + 1, hd =>
    have := Qm cs (i + 1) 0 h m d l hd an;omega
theorem k1.many {o : cG α} {ok : Nat → List α × List Int → Prop} (af : jM o ok) {s : aT α} (ab : hW o s) (h : k1 o ok s) : (bb s.ch).length ≤ o.n * o.R := by
 rw [← h.len];refine Dg fun c ak => ?_;obtain ⟨i, hi⟩ := jX ak;have aY := h.hY i c hi;exact ln (zQ (af.nodup _ _ aY.gb) aY.hot) ab.room
theorem Tx {o : cG α} {s : aT α} {I J : Nat} (aK : AF o s.hot s.ch I J) (aF : ∀ (i : Nat) (d : List α × List Int) (l : Nat), s.ch[i]? = some d → l + 1 < d.1.length → i < I ∨ (i = I ∧ l < J)) : AG o s := fun l an => by
 obtain ⟨i, c, j, hi, h1, h2⟩ := HK an;have := (bS.1 h2).1;exact aK i c j l.1 l.2 hi h1 h2 (aF i c j hi this)
theorem II {o : cG α} {ok : Nat → List α × List Int → Prop} (af : jM o ok) {s : aT α} (ab : hW o s) (an : k1 o ok s) (gO : s.ph = 2) (hd : s.dirty = false) (dY : s.T = 0) (au : s.fnd = []) (aY : 0 < s.hot.length) (aK : AF o s.hot s.ch s.I s.J) (ae : ∀ c, s.ch[s.I]? = some c → s.J ≤ (iH c.1).length) :
  hG o ok (kW s) ∧ eX o (kW s) ≤ (o.R - s.hot.length) * dW o + (2 * (o.n * o.R) - nA s - (bb s.ch).length) * o.R + s.hot.length + o.n * o.R * (o.n * o.R) := by
 have hm := an.many af ab;unfold kW;cases h : pR (s.ch.drop s.I) s.I s.J with
 | some zp =>
  obtain ⟨ft, eL⟩ := zp;obtain ⟨k, c, aI, aN, cC, eH, k6⟩ := Qn _ _ _ _ _ h (fun c ak => ae c (by rw [gj] at ak; exact ak));rw [gj] at aN;rw [← aI] at aN;show hG o ok ({ s with I := ft, J := eL } : aT α) ∧ eX o ({ s with I := ft, J := eL } : aT α) ≤ _;have wS : eL < c.1.length := by omega
  refine ⟨⟨⟨ab.nd, ab.room, ab.gz⟩, .inr (.inr (.inl ⟨gO, hd, ⟨an.len, an.hY⟩, ⟨c, c.1[eL], c.1[eL + 1], aN, cm wS, cm cC, ?_⟩, ?_, ?_⟩))⟩, ?_⟩
  ·show s.fnd = (s.hot.take s.T).filter _;rw [dY, au]; rfl
  ·show s.T < s.hot.length;omega
  ·show AF o s.hot s.ch ft eL;intro i d j p q hi hp al gg;have CF := (bS.1 al).1;refine aK i d j p q hi hp al ?_
   by_cases de : i < s.I
   ·exact .inl de
   ·have := k6 (i - s.I) d j (by rw [gj, show s.I + (i - s.I) = i by omega]; exact hi) CF (by omega);omega
  ·have hp : nA s ≤ nA ({ s with I := ft, J := eL } : aT α) := by
    unfold nA;show (bb (s.ch.take s.I)).length + s.J ≤ (bb (s.ch.take ft)).length + eL;rw [aI, List.take_add, De, cR]; omega
   show eX o ({ s with I := ft, J := eL } : aT α) ≤ _;unfold eX;show (match s.ph with | 0 => _ | 1 => _ | 2 => _ | 3 => _ | _ => _) ≤ _;rw [gO];show (o.R - s.hot.length) * dW o + (2 * (o.n * o.R) - nA ({ s with I := ft, J := eL } : aT α) - (bb s.ch).length) * o.R + (s.hot.length - s.T) + o.n * o.R * (o.n * o.R) ≤ _;generalize nA ({ s with I := ft, J := eL } : aT α) = Sb at *;have := jZ o.R (show 2 * (o.n * o.R) - Sb - (bb s.ch).length ≤ 2 * (o.n * o.R) - nA s - (bb s.ch).length by omega);omega
 | none =>
  have cX : AG o s := Tx aK fun i d l hi hq => by
   by_cases de : i < s.I
   ·exact .inl de
   ·have := Qm _ _ _ h (i - s.I) d l (by rw [gj, show s.I + (i - s.I) = i by omega]; exact hi) hq;omega
  show hG o ok (if (bb s.ch).length < 2 then e3 s 4 0 0 else e3 s 3 0 1) ∧ eX o (if (bb s.ch).length < 2 then e3 s 4 0 0 else e3 s 3 0 1) ≤ _
  split
  ·rename_i h2;refine ⟨⟨⟨ab.nd, ab.room, ab.gz⟩, .inr (.inr (.inr (.inr (.inl ⟨rfl, hd, ⟨an.len, an.hY⟩, rfl, rfl, rfl, rfl, cX, ?_⟩))))⟩, eC _⟩;intro a b l m ap aL mD _;have := (bS.1 aL).1;have : b < (bb s.ch).length := this;omega
  ·rename_i h2;refine ⟨⟨⟨ab.nd, ab.room, ab.gz⟩, .inr (.inr (.inr (.inl ⟨rfl, ⟨an.len, an.hY⟩, Nat.zero_lt_one, show 1 < (bb s.ch).length by omega, rfl, rfl, fun _ => ⟨cX, ?_⟩⟩)))⟩, ?_⟩
   ·intro a b l m ap aL mD GJ;have : a < 0 ∨ (a = 0 ∧ b < 1) := GJ;omega
   ·show (o.R - s.hot.length) * dW o + (if s.dirty = true then dW o else 0) + (((bb s.ch).length - 0) * (bb s.ch).length - 1) ≤ _;rw [hd, if_neg (by decide), Nat.sub_zero];have := Nat.mul_le_mul hm hm;omega
theorem CC (o : cG α) {s : aT α} (ab : hW o s) (q : α) (al : o.gb q) : (df o s q = e3 s 5 0 0 ∧ s.hot.length = o.R) ∨
  ∃ hot', df o s q = { s with hot := hot' } ∧ hW o ({ s with hot := hot' } : aT α) ∧ q ∈ hot' ∧ (∀ x ∈ s.hot, x ∈ hot') ∧ s.hot.length ≤ hot'.length ∧ (q ∉ s.hot → hot'.length = s.hot.length + 1) ∧ (q ∈ s.hot → hot' = s.hot) := by
 have := ab.room;unfold df
 by_cases h : q ∈ s.hot
 ·rw [if_pos h];exact .inr ⟨s.hot, rfl, ab, h, fun x aa => aa, dL _, fun aC => absurd h aC, fun _ => rfl⟩
 ·rw [if_neg h]
  by_cases h2 : s.hot.length < o.R
  ·rw [if_pos h2];refine .inr ⟨s.hot ++ [q], rfl, ⟨?_, ?_, fun x aa => (kt.1 aa).elim (ab.gz x) fun h => by rw [jc.1 h]; exact al⟩, by simp, fun x aa => List.mem_append_left _ aa, by simp, fun _ => by simp, fun aC => absurd aC h⟩
   ·show (s.hot ++ [q]).Nodup;refine List.nodup_append.2 ⟨ab.nd, by simp, fun a aK b c5 => ?_⟩;rw [jc] at c5;subst c5;exact fun e => h (by rw [← e]; exact aK)
   ·show (s.hot ++ [q]).length ≤ o.R;rw [cR, List.length_singleton]; omega
  ·rw [if_neg h2];exact .inl ⟨rfl, by omega⟩
theorem Ur {o : cG α} (aF : 0 < o.n) (aq : 0 < o.R) : o.R ≤ dW o := by
 have h1 : o.R ≤ o.n * o.R := Nat.le_mul_of_pos_left _ aF;have h2 : o.n * o.R ≤ o.n * o.R * o.R := Nat.le_mul_of_pos_right _ aq;unfold dW;rw [Nat.mul_assoc 2];omega
theorem NG {o : cG α} {ok : Nat → List α × List Int → Prop} (af : jM o ok) {s : aT α} (ab : hW o s) (hd : s.dirty = false) (aF : 0 < o.n) (hw : Bj o s o.n) : hG o ok (kQ o s) ∧ eX o (kQ o s) < (o.R + 1) * dW o := by
 have aY : 0 < s.hot.length := List.length_pos_of_mem (hw 0 aF).1;have key := II (s := e3 { s with ch := (List.range o.n).map fun k => fS (o.P k) (o.Q k) } 2 0 0) af ⟨ab.nd, ab.room, ab.gz⟩ ⟨?_, ?_⟩ rfl hd rfl rfl aY ?_ ?_
 ·refine ⟨key.1, Nat.lt_of_le_of_lt key.2 ?_⟩;show (o.R - s.hot.length) * dW o + (2 * (o.n * o.R) - (0 + 0) - (bb ((List.range o.n).map fun k => fS (o.P k) (o.Q k))).length) * o.R + s.hot.length + o.n * o.R * (o.n * o.R) < (o.R + 1) * dW o;generalize (bb ((List.range o.n).map fun k => fS (o.P k) (o.Q k))).length = L;have aq := ab.room;have ak := Ur aF (show 0 < o.R by omega);have h1 := jZ (dW o) (show o.R - s.hot.length ≤ o.R - 1 by omega);have h2 := jZ o.R (show 2 * (o.n * o.R) - (0 + 0) - L ≤ 2 * (o.n * o.R) by omega);have aI : (o.R + 1) * dW o = (o.R - 1) * dW o + 2 * dW o := by rw [← jY]; congr 1; omega
  have aN : dW o = 2 * (o.n * o.R) * o.R + o.n * o.R * (o.n * o.R) + 1 := rfl;omega
 ·show ((List.range o.n).map fun k => fS (o.P k) (o.Q k)).length = o.n;simp
 ·intro i c hi;have hi : ((List.range o.n).map fun k => fS (o.P k) (o.Q k))[i]? = some c := hi;have lf : i < o.n := by have := (bS.1 hi).1; simpa using this
  rw [eD, List.getElem?_range lf] at hi;have hi : fS (o.P i) (o.Q i) = c := mo hi;have aw := af.new i lf;subst hi;refine ⟨aw, ?_, ?_, ?_, fun v hv => ?_, fun d hd => ?_⟩
  ·unfold fS; split <;> rfl
  ·unfold fS; split <;> rfl
  ·unfold fS
   split
   ·rename_i e; rw [e]; rfl
   ·rfl
  ·show v ∈ s.hot;unfold fS at hv
   split at hv
   ·rw [jc.1 hv]; exact (hw i lf).1
   ·rcases gI.1 hv with rfl | hv
    ·exact (hw i lf).1
    ·rw [jc.1 hv]; exact (hw i lf).2
  ·unfold fS at hd ⊢
   split at hd
   ·cases hd
   ·rename_i e;rw [if_neg e];rw [jc.1 hd];exact ⟨oL 1, oL 1⟩
 ·intro i c j p q _ _ _ gg;have : i < 0 ∨ (i = 0 ∧ j < 0) := gg;omega
 ·intro c _;exact eC _
theorem C1 {o : cG α} {ok : Nat → List α × List Int → Prop} {s : aT α} (ab : hW o s) (au : s.hot.length = o.R) (ak : (s.ch = [] ∧ s.dirty = false) ∨ k1 o ok s) : hG o ok (e3 s 5 0 0) ∧ eX o (e3 s 5 0 0) = 0 :=
 ⟨⟨⟨ab.nd, ab.room, ab.gz⟩, .inr (.inr (.inr (.inr (.inr ⟨rfl, rfl, rfl, rfl, rfl, au, ak.imp id fun h => ⟨h.len, h.hY⟩⟩))))⟩, rfl⟩
theorem Vs {o : cG α} {ok : Nat → List α × List Int → Prop} (af : jM o ok) {s : aT α} (ab : hW o s) (h : EU o s) : hG o ok (qj o s) ∧ eX o (qj o s) < eX o s := by
 have bq := h.I;have uZ : eX o s = (o.n - s.I) + o.n * o.n + (o.R + 1) * dW o := by simp only [eX, h.ph]
 rw [uZ];unfold qj;rcases CC o ab (o.P s.I) (af.Cg _ bq).1 with ⟨aI, f1⟩ | ⟨h1, aI, b1, m1, s1, l1, _, _⟩
 ·rw [aI, if_pos (show (e3 s 5 0 0).ph = 5 from rfl)];have := C1 (ok := ok) ab f1 (.inl ⟨h.ch, h.dirty⟩);exact ⟨this.1, by rw [this.2]; omega⟩
 ·rw [aI, if_neg (show ({ s with hot := h1 } : aT α).ph ≠ 5 by show s.ph ≠ 5; rw [h.ph]; decide)];rcases CC o b1 (o.Q s.I) (af.Cg _ bq).2 with ⟨aN, f2⟩ | ⟨h2, aN, b2, m2, s2, l2, _, _⟩
  ·rw [aN, if_pos (show (e3 ({ s with hot := h1 } : aT α) 5 0 0).ph = 5 from rfl)];have := C1 (ok := ok) b1 f2 (.inl ⟨h.ch, h.dirty⟩);exact ⟨this.1, by rw [this.2]; omega⟩
  ·have s2 : ∀ x ∈ h1, x ∈ h2 := s2;rw [aN, if_neg (show ({ s with hot := h2 } : aT α).ph ≠ 5 by show s.ph ≠ 5; rw [h.ph]; decide)]
   have hw : ∀ i, i < s.I + 1 → o.P i ∈ h2 ∧ o.Q i ∈ h2 := fun i hi => by
    rcases iL i s.I with g | g
    ·exact ⟨s2 _ (s1 _ (h.xG i g).1), s2 _ (s1 _ (h.xG i g).2)⟩
    ·rw [show i = s.I by omega]; exact ⟨s2 _ m1, m2⟩
   split
   ·rename_i bi;refine ⟨⟨⟨b2.nd, b2.room, b2.gz⟩, .inl ⟨h.ph, h.dirty, h.fnd, h.ch, bi, h.J, h.T, hw⟩⟩, ?_⟩;show eX o ({ s with hot := h2, I := s.I + 1 } : aT α) < _;unfold eX;show (match s.ph with | 0 => (o.n - (s.I + 1)) + o.n * o.n + (o.R + 1) * dW o | 1 => _ | 2 => _ | 3 => _ | _ => _) < _;rw [h.ph];show (o.n - (s.I + 1)) + o.n * o.n + (o.R + 1) * dW o < _;omega
   ·rename_i ld;have aF : o.n = s.I + 1 := by omega
    split
    ·have := NG af (s := ({ s with hot := h2 } : aT α)) ⟨b2.nd, b2.room, b2.gz⟩ h.dirty (by omega) (by rw [aF]; exact hw);exact ⟨this.1, tY this.2 (by omega)⟩
    ·rename_i agY;refine ⟨⟨⟨b2.nd, b2.room, b2.gz⟩, .inr (.inl ⟨rfl, h.dirty, rfl, h.ch, Nat.zero_lt_one, show 1 < o.n by omega, rfl, by rw [aF]; exact hw⟩)⟩, ?_⟩;show ((o.n - 0) * o.n - 1) + (o.R + 1) * dW o < _;rw [Nat.sub_zero]; omega
theorem DA {I J L : Nat} (pn : I < J) (ki : J < L) : (L - I) * L - J ≥ 1 ∧ ((cb L I J).2 < L → (cb L I J).1 < (cb L I J).2 ∧ (L - (cb L I J).1) * L - (cb L I J).2 < (L - I) * L - J) := by
 have e : (L - I) * L = (L - I - 1) * L + L := by rw [← Nat.succ_mul]; congr 1; omega
 refine ⟨by omega, fun h => ?_⟩;unfold cb at h ⊢
 by_cases an : L ≤ J + 1
 ·rw [if_pos an] at h ⊢;refine ⟨by show I + 1 < I + 2; omega, ?_⟩;show (L - (I + 1)) * L - (I + 2) < _;rw [show L - (I + 1) = L - I - 1 by omega]; omega
 ·rw [if_neg an] at h ⊢;refine ⟨by show I < J + 1; omega, ?_⟩;show (L - I) * L - (J + 1) < _;omega
theorem abo {I J L a b : Nat} (pn : I < J) (ki : J < L) (mD : a < b) (ab : b < L) (h : a < (cb L I J).1 ∨ (a = (cb L I J).1 ∧ b < (cb L I J).2)) : (a < I ∨ (a = I ∧ b < J)) ∨ (a = I ∧ b = J) := by
 unfold cb at h
 split at h
 ·have h : a < I + 1 ∨ (a = I + 1 ∧ b < I + 2) := h;omega
 ·have h : a < I ∨ (a = I ∧ b < J + 1) := h;omega
theorem abp {I J L : Nat} (pn : I < J) (ki : J < L) (h : ¬ (cb L I J).2 < L) {a b : Nat} (mD : a < b) (ab : b < L) : (a < I ∨ (a = I ∧ b < J)) ∨ (a = I ∧ b = J) := by
 unfold cb at h
 split at h
 ·have h : ¬ I + 2 < L := h;omega
 ·have h : ¬ J + 1 < L := h;omega
theorem acS {o : cG α} {ok : Nat → List α × List Int → Prop} (af : jM o ok) {s : aT α} (ab : hW o s) (h : Inv1 o s) : hG o ok (qJ o s) ∧ eX o (qJ o s) < eX o s := by
 have pn := h.sR;have ki := h.J;have uZ : eX o s = ((o.n - s.I) * o.n - s.J) + (o.R + 1) * dW o := by simp only [eX, h.ph]
 rw [uZ];obtain ⟨hP, iI⟩ := DA pn ki
 have main : ∀ h2, hW o ({ s with hot := h2 } : aT α) → (∀ x ∈ s.hot, x ∈ h2) → hG o ok (if ({ s with hot := h2 } : aT α).ph = 5 then ({ s with hot := h2 } : aT α) else if (cb o.n s.I s.J).2 < o.n then { ({ s with hot := h2 } : aT α) with I := (cb o.n s.I s.J).1, J := (cb o.n s.I s.J).2 } else kQ o ({ s with hot := h2 } : aT α)) ∧ eX o (if ({ s with hot := h2 } : aT α).ph = 5 then ({ s with hot := h2 } : aT α) else if (cb o.n s.I s.J).2 < o.n then { ({ s with hot := h2 } : aT α) with I := (cb o.n s.I s.J).1, J := (cb o.n s.I s.J).2 } else kQ o ({ s with hot := h2 } : aT α)) < ((o.n - s.I) * o.n - s.J) + (o.R + 1) * dW o := fun h2 b2 s2 => by
  rw [if_neg (show ({ s with hot := h2 } : aT α).ph ≠ 5 by show s.ph ≠ 5; rw [h.ph]; decide)];have hw : Bj o ({ s with hot := h2 } : aT α) o.n := fun i hi => ⟨s2 _ (h.xG i hi).1, s2 _ (h.xG i hi).2⟩
  split
  ·rename_i bi;obtain ⟨sd, se⟩ := iI bi;refine ⟨⟨⟨b2.nd, b2.room, b2.gz⟩, .inr (.inl ⟨h.ph, h.dirty, h.fnd, h.ch, sd, bi, h.T, hw⟩)⟩, ?_⟩;unfold eX;show (match s.ph with | 0 => _ | 1 => ((o.n - (cb o.n s.I s.J).1) * o.n - (cb o.n s.I s.J).2) + (o.R + 1) * dW o | 2 => _ | 3 => _ | _ => _) < _;rw [h.ph];show ((o.n - (cb o.n s.I s.J).1) * o.n - (cb o.n s.I s.J).2) + (o.R + 1) * dW o < _;omega
  ·have := NG af (s := ({ s with hot := h2 } : aT α)) ⟨b2.nd, b2.room, b2.gz⟩ h.dirty (by omega) hw;exact ⟨this.1, tY this.2 (by omega)⟩
 unfold qJ;cases hp : o.mM s.I s.J with
 | none => exact main s.hot ab fun x aa => aa
 | some x =>
  show hG o ok (if (df o s x).ph = 5 then _ else if _ then { df o s x with I := _, J := _ } else kQ o (df o s x)) ∧ eX o (if (df o s x).ph = 5 then _ else if _ then { df o s x with I := _, J := _ } else kQ o (df o s x)) < _;rcases CC o ab x (af.LQ _ _ x pn ki hp) with ⟨aI, f1⟩ | ⟨h2, aI, b2, m2, s2, _⟩
  ·rw [show jS o s (some x) = df o s x from rfl, aI, if_pos (show (e3 s 5 0 0).ph = 5 from rfl)];have := C1 (ok := ok) ab f1 (.inl ⟨h.ch, h.dirty⟩);exact ⟨this.1, by rw [this.2]; omega⟩
  ·rw [show jS o s (some x) = df o s x from rfl, aI];exact main h2 b2 s2
end Go.Proofs.YtpochbhajmbfdaaGreat.bx
namespace Go.Proofs.YtpochbhajmbfdaaGreat.bx
variable {α : Type} [DecidableEq α]
theorem yl {V : List α} {j : Nat} {l : List α} : (c9 V j l).length = V.length + l.length := by
  unfold c9;rw [cR, cR, eg, hT]; omega
theorem FH {D : List Int} {j n : Nat} (h : j < D.length) : (eo D j n).length = D.length + n := by
  unfold eo;rw [cR, cR, eg, hT, List.length_replicate]; omega
theorem KS {V : List α} {j : Nat} {l : List α} {x : α} (h : x ∈ c9 V j l) : x ∈ V ∨ x ∈ l := by
  unfold c9 at h;rcases kt.1 h with h | h
  · rcases kt.1 h with h | h
    · exact .inl (oM h)
    · exact .inr h
  · exact .inl (mO h)
theorem UC {V : List α} {j : Nat} {l : List α} (h : V ≠ []) : (c9 V j l).head? = V.head? := by
  match V, h with
  | v :: W, _ => rfl
theorem UD {V : List α} {j : Nat} {l : List α} (h : j + 1 < V.length) : (c9 V j l).getLast? = V.getLast? := by
  unfold c9;rw [List.getLast?_append, List.getLast?_drop, if_neg (by omega)];cases po : V.getLast? with
  | none => rw [List.getLast?_eq_none_iff.1 po] at h; simp at h
  | some z => rfl
theorem KR {V : List α} {j i : Nat} {l : List α} (h : i < j + 1) (ae : j + 1 ≤ V.length) : (c9 V j l)[i]? = V[i]? := by
  unfold c9;rw [ig, fV (by rw [eg]; omega), fK h]
theorem UE {V : List α} {j : Nat} {l : List α} (h : j + 1 < V.length) : ∃ x, (c9 V j l)[j + 1]? = some x := by
  have : j + 1 < (c9 V j l).length := by rw [yl]; omega
  exact ⟨_, cm this⟩
theorem UA {D : List Int} {j n : Nat} {d : Int} (ae : j < D.length) (h : d ∈ eo D j n) : ∃ e ∈ D, d = e ∨ d = e + 1 := by
  unfold eo at h;rcases kt.1 h with h | h
  · rcases kt.1 h with h | h
    · exact ⟨d, oM h, .inl rfl⟩
    · refine ⟨D[j], List.getElem_mem ae, .inr ?_⟩
      rw [List.eq_of_mem_replicate h, xp, cm ae]; rfl
  · exact ⟨d, mO h, .inl rfl⟩
theorem AU.cut {o : cG α} {ok : Nat → List α × List Int → Prop} (af : jM o ok) {hot : List α} {i j : Nat} {c : List α × List Int} {p q : α} {bl : List α} (h : AU o ok hot i c) (hp : c.1[j]? = some p) (al : c.1[j + 1]? = some q) (aF : bl.Nodup) (au : ∀ x ∈ bl, x ∈ hot ∧ iV o p q x = true) (cn : bl ≠ []) : AU o ok hot i (c9 c.1 j (o.gu p q bl), eo c.2 j bl.length) := by
  have hs := af.gu p q bl;have ae : j + 1 < c.1.length := (bS.1 al).1;have an := h.len;have CE : j < c.2.length := by omega
  have ahe : 0 < bl.length := List.length_pos_iff.2 cn;refine ⟨af.split _ _ _ _ _ _ h.gb h.len hp al aF cn (fun x aa => (au x aa).2), ?_, ?_, ?_, fun v hv => ?_, fun d hd => ?_⟩
  · show (c9 c.1 j (o.gu p q bl)).length = (eo c.2 j bl.length).length + 1
    rw [yl, FH CE, hs.length_eq]; omega
  · rw [← h.head]; exact UC (fun e => by rw [e] at ae; simp at ae)
  · rw [← h.last]; exact UD ae
  · rcases KS hv with hv | hv
    · exact h.hot v hv
    · exact (au v (hs.mem_iff.1 hv)).1
  · show 1 ≤ d ∧ d ≤ ((eo c.2 j bl.length).length : Int)
    obtain ⟨e, he, lI⟩ := UA CE hd;have := h.deep e he;rw [FH CE]; omega
theorem Lv {f : α → Bool} {l : List α} {n : Nat} {x : α} (h : l[n]? = some x) : (l.take (n + 1)).filter f = if f x = true then (l.take n).filter f ++ [x] else (l.take n).filter f := by
  obtain ⟨an, e⟩ := bS.1 h;rw [nF an, e, List.filter_append];cases aa : f x with
  | true => rw [if_pos rfl, List.filter_cons_of_pos aa]; rfl
  | false => rw [if_neg (by decide), List.filter_cons_of_neg (by rw [aa]; decide)]; exact pF _
theorem adR {o : cG α} {ok : Nat → List α × List Int → Prop} (af : jM o ok) {s : aT α} (ab : hW o s) (h : Inv2 o ok s) : hG o ok (xu o s) ∧ eX o (xu o s) < eX o s := by
  obtain ⟨c, p, q, ak, hp, al, au⟩ := h.link;have dY := h.T;have aa : s.hot[s.T]? = some s.hot[s.T] := cm dY;generalize s.hot[s.T] = x at aa;have uZ : eX o s = (o.R - s.hot.length) * dW o + (2 * (o.n * o.R) - nA s - (bb s.ch).length) * o.R + (s.hot.length - s.T) + o.n * o.R * (o.n * o.R) := by simp only [eX, h.ph]
  have yP := h.laid.hY s.I c ak;have ae : s.J + 1 < c.1.length := (bS.1 al).1;have hm := h.laid.many af ab
  have XG : k9 o p q x s.fnd = (s.hot.take (s.T + 1)).filter (iV o p q) := by
    unfold k9;rw [Lv aa, au]
  obtain ⟨aeN, Z4⟩ := Wp ak;have bq : s.I < s.ch.length := (bS.1 ak).1
  have agm : (bb s.ch).length = (bb (s.ch.take s.I)).length + ((c.1.length - 1) + (bb (s.ch.drop (s.I + 1))).length) := by
    conv => lhs; rw [aeN]
    rw [De, Df, cR, cR, sb]
  have G5 : nA s = (bb (s.ch.take s.I)).length + s.J := rfl;have lK := ab.room;rw [uZ];unfold xu;rw [ak];show hG o ok (match c.1[s.J]?, c.1[s.J + 1]?, s.hot[s.T]? with | some p, some q, some x => r9 o s c p q (k9 o p q x s.fnd) | _, _, _ => s) ∧ eX o (match c.1[s.J]?, c.1[s.J + 1]?, s.hot[s.T]? with | some p, some q, some x => r9 o s c p q (k9 o p q x s.fnd) | _, _, _ => s) < _;rw [hp, al, aa];show hG o ok (r9 o s c p q (k9 o p q x s.fnd)) ∧ eX o (r9 o s c p q (k9 o p q x s.fnd)) < _;rw [XG];unfold r9
  by_cases bi : s.T + 1 < s.hot.length
  · rw [if_pos bi]
    refine ⟨⟨⟨ab.nd, ab.room, ab.gz⟩, .inr (.inr (.inl ⟨h.ph, h.dirty, ⟨h.laid.len, h.laid.hY⟩, ⟨c, p, q, ak, hp, al, rfl⟩, bi, h.Bp⟩))⟩, ?_⟩;unfold eX;show (match s.ph with | 0 => _ | 1 => _ | 2 => (o.R - s.hot.length) * dW o + (2 * (o.n * o.R) - nA s - (bb s.ch).length) * o.R + (s.hot.length - (s.T + 1)) + o.n * o.R * (o.n * o.R) | 3 => _ | _ => _) < _;rw [h.ph];show (o.R - s.hot.length) * dW o + (2 * (o.n * o.R) - nA s - (bb s.ch).length) * o.R + (s.hot.length - (s.T + 1)) + o.n * o.R * (o.n * o.R) < _;omega
  · rw [if_neg bi]
    have WY : s.T + 1 = s.hot.length := by omega
    rw [WY, List.take_length]
    by_cases he : s.hot.filter (iV o p q) = []
    · rw [if_pos he]
      have jx : rl o s.hot p q := fun y ag => by
        cases aw : iV o p q y with
        | false => rfl
        | true => have := List.mem_filter.2 ⟨ag, aw⟩; rw [he] at this; cases this
      have key := II (s := { s with T := 0, fnd := [], J := s.J + 1 }) af ⟨ab.nd, ab.room, ab.gz⟩ ⟨h.laid.len, h.laid.hY⟩ h.ph h.dirty rfl rfl (show 0 < s.hot.length by omega) ?_ ?_
      · refine ⟨key.1, Nat.lt_of_le_of_lt key.2 ?_⟩
        show (o.R - s.hot.length) * dW o + (2 * (o.n * o.R) - ((bb (s.ch.take s.I)).length + (s.J + 1)) - (bb s.ch).length) * o.R + s.hot.length + o.n * o.R * (o.n * o.R) < _;rw [G5];have := jZ o.R (show 2 * (o.n * o.R) - ((bb (s.ch.take s.I)).length + (s.J + 1)) - (bb s.ch).length + 1 ≤ 2 * (o.n * o.R) - ((bb (s.ch.take s.I)).length + s.J) - (bb s.ch).length by omega);rw [jY, Nat.one_mul] at this;omega
      · intro i d j fF cy hi oe qw gg
        have gg : i < s.I ∨ (i = s.I ∧ j < s.J + 1) := gg
        by_cases XV : i = s.I ∧ j = s.J
        · obtain ⟨rfl, rfl⟩ := XV
          have e : some c = some d := by rw [← ak]; exact hi
          cases e;have e : some p = some fF := by rw [← hp]; exact oe
          cases e;have e : some q = some cy := by rw [← al]; exact qw
          cases e;exact jx
        · exact h.Bp i d j fF cy hi oe qw (by omega)
      · intro d hd
        have e : some c = some d := by rw [← ak]; exact hd
        cases e;rw [sb];show s.J + 1 ≤ _;omega
    · rw [if_neg he]
      have gN : (s.hot.filter (iV o p q)).Nodup := ab.nd.filter _;have hcut := yP.cut af hp al gN (fun y ag => ⟨(List.mem_filter.1 ag).1, (List.mem_filter.1 ag).2⟩) he;have hlen := (af.gu p q (s.hot.filter (iV o p q))).length_eq;have ahi : 0 < (s.hot.filter (iV o p q)).length := List.length_pos_iff.2 he;generalize s.hot.filter (iV o p q) = bl at *
      have He : ∀ i, (s.ch.set s.I (c9 c.1 s.J (o.gu p q bl), eo c.2 s.J bl.length))[i]? = if i = s.I then some (c9 c.1 s.J (o.gu p q bl), eo c.2 s.J bl.length) else s.ch[i]? := fun i => by
        by_cases hi : i = s.I
        · rw [if_pos hi, hi, List.getElem?_set_self bq]
        · rw [if_neg hi, List.getElem?_set_ne (Ne.symm hi)]
      have Mr : k1 o ok ({ s with T := 0, fnd := [], ch := s.ch.set s.I (c9 c.1 s.J (o.gu p q bl), eo c.2 s.J bl.length) } : aT α) := ⟨by show (s.ch.set s.I _).length = o.n; rw [List.length_set]; exact h.laid.len, fun i d hd => by
        have hd : (s.ch.set s.I (c9 c.1 s.J (o.gu p q bl), eo c.2 s.J bl.length))[i]? = some d := hd;rw [He] at hd
        split at hd
        · rename_i hi
          cases hd;rw [hi]; exact hcut
        · exact h.laid.hY i d hd⟩
      have c5 : hW o ({ s with T := 0, fnd := [], ch := s.ch.set s.I (c9 c.1 s.J (o.gu p q bl), eo c.2 s.J bl.length) } : aT α) := ⟨ab.nd, ab.room, ab.gz⟩;have fR : (bb (s.ch.set s.I (c9 c.1 s.J (o.gu p q bl), eo c.2 s.J bl.length))).length ≤ o.n * o.R := Mr.many af c5;obtain ⟨y, ag⟩ := UE (l := o.gu p q bl) ae;have oe : (c9 c.1 s.J (o.gu p q bl))[s.J]? = some p := by rw [KR (by omega) (by omega)]; exact hp
      refine ⟨⟨c5, .inr (.inr (.inl ⟨h.ph, h.dirty, Mr, ⟨(c9 c.1 s.J (o.gu p q bl), eo c.2 s.J bl.length), p, y, ?_, oe, ag, rfl⟩, show 0 < s.hot.length by omega, ?_⟩))⟩, ?_⟩
      · show (s.ch.set s.I (c9 c.1 s.J (o.gu p q bl), eo c.2 s.J bl.length))[s.I]? = _
        rw [He, if_pos rfl]
      · intro i d j fF cy hi oe qw gg
        have hi : (s.ch.set s.I (c9 c.1 s.J (o.gu p q bl), eo c.2 s.J bl.length))[i]? = some d := hi;have gg : i < s.I ∨ (i = s.I ∧ j < s.J) := gg;rw [He] at hi
        split at hi
        · rename_i gX
          cases hi;rw [KR (by omega) (by omega)] at oe qw;exact h.Bp i c j fF cy (by rw [gX]; exact ak) oe qw gg
        · exact h.Bp i d j fF cy hi oe qw gg
      · have Lo : s.ch.set s.I (c9 c.1 s.J (o.gu p q bl), eo c.2 s.J bl.length) = s.ch.take s.I ++ (c9 c.1 s.J (o.gu p q bl), eo c.2 s.J bl.length) :: s.ch.drop (s.I + 1) := List.set_eq_take_append_cons_drop.trans (if_pos bq)
        have agn : (bb (s.ch.set s.I (c9 c.1 s.J (o.gu p q bl), eo c.2 s.J bl.length))).length = (bb (s.ch.take s.I)).length + ((c.1.length + bl.length - 1) + (bb (s.ch.drop (s.I + 1))).length) := by
          rw [Lo, De, Df, cR, cR, sb, yl, hlen]
        have rJ : nA ({ s with T := 0, fnd := [], ch := s.ch.set s.I (c9 c.1 s.J (o.gu p q bl), eo c.2 s.J bl.length) } : aT α) = (bb (s.ch.take s.I)).length + s.J := by
          show (bb ((s.ch.set s.I (c9 c.1 s.J (o.gu p q bl), eo c.2 s.J bl.length)).take s.I)).length + s.J = _;rw [Lo, List.take_left' Z4]
        unfold eX;rw [rJ];show (match s.ph with | 0 => _ | 1 => _ | 2 => (o.R - s.hot.length) * dW o + (2 * (o.n * o.R) - ((bb (s.ch.take s.I)).length + s.J) - (bb (s.ch.set s.I (c9 c.1 s.J (o.gu p q bl), eo c.2 s.J bl.length))).length) * o.R + (s.hot.length - 0) + o.n * o.R * (o.n * o.R) | 3 => _ | _ => _) < _;rw [h.ph];show (o.R - s.hot.length) * dW o + (2 * (o.n * o.R) - ((bb (s.ch.take s.I)).length + s.J) - (bb (s.ch.set s.I (c9 c.1 s.J (o.gu p q bl), eo c.2 s.J bl.length))).length) * o.R + (s.hot.length - 0) + o.n * o.R * (o.n * o.R) < _;rw [G5];generalize (bb (s.ch.set s.I (c9 c.1 s.J (o.gu p q bl), eo c.2 s.J bl.length))).length = L' at *;have := jZ o.R (show 2 * (o.n * o.R) - ((bb (s.ch.take s.I)).length + s.J) - L' + 1 ≤ 2 * (o.n * o.R) - ((bb (s.ch.take s.I)).length + s.J) - (bb s.ch).length by omega);rw [jY, Nat.one_mul] at this;omega
theorem Dc {o : cG α} {ok : Nat → List α × List Int → Prop} (af : jM o ok) {s : aT α} (an : k1 o ok s) {l : α × α} (h : l ∈ bb s.ch) : l.1 ≠ l.2 ∧ l.1 ∈ s.hot ∧ l.2 ∈ s.hot := by
  obtain ⟨i, c, j, hi, h1, h2⟩ := HK h;have yP := an.hY i c hi;have aF := af.nodup _ _ yP.gb;refine ⟨fun e => ?_, yP.hot _ (dF h1), yP.hot _ (dF h2)⟩;obtain ⟨g1, bA⟩ := bS.1 h1;obtain ⟨g2, b9⟩ := bS.1 h2;exact (List.pairwise_iff_getElem.1 aF) j (j + 1) g1 g2 (by omega) (by rw [bA, b9]; exact e)
theorem UF {o : cG α} {ok : Nat → List α × List Int → Prop} (af : jM o ok) {s : aT α} (ab : hW o s) (an : k1 o ok s) {i j : Nat} {a b : α × α} (aK : (bb s.ch)[i]? = some a) (c5 : (bb s.ch)[j]? = some b) {x : α} (ak : o.cut a b = some x) : o.gb x := by
  obtain ⟨_, a2, a3⟩ := Dc af an (dF aK);obtain ⟨_, b2, ed⟩ := Dc af an (dF c5);exact af.LK a.1 a.2 b.1 b.2 x (ab.gz _ a2) (ab.gz _ a3) (ab.gz _ b2) (ab.gz _ ed) ak
theorem X8 {o : cG α} {ok : Nat → List α × List Int → Prop} (af : jM o ok) {s : aT α} (ab : hW o s) (h : EV o ok s) {a b : α × α} (aK : (bb s.ch)[s.I]? = some a) (c5 : (bb s.ch)[s.J]? = some b) :
    (dJ o s (o.cut a b) = e3 s 5 0 0 ∧ s.hot.length = o.R) ∨ (o.cut a b = none ∧ dJ o s (o.cut a b) = s) ∨
    ∃ hot', dJ o s (o.cut a b) = { s with hot := hot', dirty := true } ∧ hW o ({ s with hot := hot', dirty := true } : aT α) ∧ (∀ x ∈ s.hot, x ∈ hot') ∧ s.hot.length ≤ hot'.length ∧ (s.dirty = false → hot'.length = s.hot.length + 1) := by
  cases hcut : o.cut a b with
  | none => exact .inr (.inl ⟨rfl, rfl⟩)
  | some x =>
    unfold dJ;rcases CC o ab x (UF af ab h.laid aK c5 hcut) with ⟨aI, f1⟩ | ⟨h2, aI, b2, m2, s2, l2, iI, _⟩
    · left
      show (if (df o s x).ph = 5 then df o s x else { df o s x with dirty := true }) = _ ∧ _;rw [aI, if_pos (show (e3 s 5 0 0).ph = 5 from rfl)];exact ⟨rfl, f1⟩
    · refine .inr (.inr ⟨h2, ?_, ⟨b2.nd, b2.room, b2.gz⟩, s2, l2, fun hd => iI ?_⟩)
      · show (if (df o s x).ph = 5 then df o s x else { df o s x with dirty := true }) = _
        rw [aI, if_neg (show ({ s with hot := h2 } : aT α).ph ≠ 5 by show s.ph ≠ 5; rw [h.ph]; decide)]
      · have hs := (h.clean hd).1
        have key : ∀ l, l ∈ bb s.ch → l.1 ≠ l.2 ∧ l.1 ∈ s.hot ∧ l.2 ∈ s.hot ∧ rl o s.hot l.1 l.2 := fun l an => by
          obtain ⟨cE, cF, jj⟩ := Dc af h.laid an;exact ⟨cE, cF, jj, hs l an⟩
        obtain ⟨a1, a2, a3, a4⟩ := key a (dF aK);obtain ⟨b1, b2, ed, dD⟩ := key b (dF c5);exact af.cut s.hot a.1 a.2 b.1 b.2 x ab.gz a1 b1 a2 a3 b2 ed a4 dD hcut
theorem k1.mono {o : cG α} {ok : Nat → List α × List Int → Prop} {s t : aT α} (h : k1 o ok s) (ak : t.ch = s.ch) (aY : ∀ x ∈ s.hot, x ∈ t.hot) : k1 o ok t :=
  ⟨by rw [ak]; exact h.len, fun i c hi => by
    have := h.hY i c (by rw [← ak]; exact hi);exact ⟨this.gb, this.len, this.head, this.last, fun v hv => aY v (this.hot v hv), this.deep⟩⟩
theorem aaA {o : cG α} {ok : Nat → List α × List Int → Prop} (af : jM o ok) {s : aT α} (ab : hW o s) (h : EV o ok s) : hG o ok (sc o s) ∧ eX o (sc o s) < eX o s := by
  have pn := h.sR;have ki := h.J;have lK := ab.room;have hm := h.laid.many af ab;obtain ⟨hP, iI⟩ := DA pn ki;have uZ : eX o s = (o.R - s.hot.length) * dW o + (if s.dirty = true then dW o else 0) + (((bb s.ch).length - s.I) * (bb s.ch).length - s.J) := by simp only [eX, h.ph]
  have aK : (bb s.ch)[s.I]? = some (bb s.ch)[s.I] := cm (by omega);have c5 : (bb s.ch)[s.J]? = some (bb s.ch)[s.J] := cm ki;generalize (bb s.ch)[s.I] = a at aK;generalize (bb s.ch)[s.J] = b at c5
  have ahg : 0 < s.hot.length := by
    obtain ⟨i, c, j, hi, h1, h2⟩ := HK (dF aK);exact List.length_pos_of_mem ((h.laid.hY i c hi).hot _ (dF h1))
  rw [uZ];unfold sc;rw [aK, c5];show hG o ok (if (dJ o s (o.cut a b)).ph = 5 then dJ o s (o.cut a b) else if (cb (bb s.ch).length s.I s.J).2 < (bb s.ch).length then { dJ o s (o.cut a b) with I := (cb (bb s.ch).length s.I s.J).1, J := (cb (bb s.ch).length s.I s.J).2 } else mP (dJ o s (o.cut a b))) ∧ eX o (if (dJ o s (o.cut a b)).ph = 5 then dJ o s (o.cut a b) else if (cb (bb s.ch).length s.I s.J).2 < (bb s.ch).length then { dJ o s (o.cut a b) with I := (cb (bb s.ch).length s.I s.J).1, J := (cb (bb s.ch).length s.I s.J).2 } else mP (dJ o s (o.cut a b))) < _
 
  have main : ∀ hot', hW o ({ s with hot := hot', dirty := true } : aT α) → (∀ x ∈ s.hot, x ∈ hot') → s.hot.length ≤ hot'.length → (s.dirty = false → hot'.length = s.hot.length + 1) →
      hG o ok (if ({ s with hot := hot', dirty := true } : aT α).ph = 5 then ({ s with hot := hot', dirty := true } : aT α) else if (cb (bb s.ch).length s.I s.J).2 < (bb s.ch).length then { ({ s with hot := hot', dirty := true } : aT α) with I := (cb (bb s.ch).length s.I s.J).1, J := (cb (bb s.ch).length s.I s.J).2 } else mP ({ s with hot := hot', dirty := true } : aT α)) ∧ eX o (if ({ s with hot := hot', dirty := true } : aT α).ph = 5 then ({ s with hot := hot', dirty := true } : aT α) else if (cb (bb s.ch).length s.I s.J).2 < (bb s.ch).length then { ({ s with hot := hot', dirty := true } : aT α) with I := (cb (bb s.ch).length s.I s.J).1, J := (cb (bb s.ch).length s.I s.J).2 } else mP ({ s with hot := hot', dirty := true } : aT α)) < (o.R - s.hot.length) * dW o + (if s.dirty = true then dW o else 0) + (((bb s.ch).length - s.I) * (bb s.ch).length - s.J) := fun hot' b2 s2 l2 d2 => by
    have an : k1 o ok ({ s with hot := hot', dirty := true } : aT α) := h.laid.mono rfl s2;have ea : hot'.length ≤ o.R := b2.room
    have ag5 : (o.R - hot'.length) * dW o + dW o ≤ (o.R - s.hot.length) * dW o + (if s.dirty = true then dW o else 0) := by
      cases hd : s.dirty with
      | true =>
        rw [if_pos rfl];have := jZ (dW o) (show o.R - hot'.length ≤ o.R - s.hot.length by omega);omega
      | false =>
        rw [if_neg (by decide)];have := d2 hd;have := jZ (dW o) (show o.R - hot'.length + 1 ≤ o.R - s.hot.length by omega);rw [jY, Nat.one_mul] at this;omega
    rw [if_neg (show ({ s with hot := hot', dirty := true } : aT α).ph ≠ 5 by show s.ph ≠ 5; rw [h.ph]; decide)]
    split
    · rename_i bi
      obtain ⟨sd, se⟩ := iI bi;refine ⟨⟨⟨b2.nd, b2.room, b2.gz⟩, .inr (.inr (.inr (.inl ⟨h.ph, ⟨an.len, an.hY⟩, sd, bi, h.T, h.fnd, fun hd => by cases hd⟩)))⟩, ?_⟩;unfold eX;show (match s.ph with | 0 => _ | 1 => _ | 2 => _ | 3 => (o.R - hot'.length) * dW o + (if true = true then dW o else 0) + (((bb s.ch).length - (cb (bb s.ch).length s.I s.J).1) * (bb s.ch).length - (cb (bb s.ch).length s.I s.J).2) | _ => _) < _;rw [h.ph];show (o.R - hot'.length) * dW o + (if true = true then dW o else 0) + (((bb s.ch).length - (cb (bb s.ch).length s.I s.J).1) * (bb s.ch).length - (cb (bb s.ch).length s.I s.J).2) < _;rw [if_pos rfl];omega
    · unfold mP
      rw [if_pos rfl]
      have key := II (s := e3 ({ s with hot := hot', dirty := false } : aT α) 2 0 0) af ⟨b2.nd, b2.room, b2.gz⟩ (an.mono rfl fun x aa => aa) rfl rfl rfl rfl (show 0 < hot'.length by omega) (fun i c j p q _ _ _ gg => by
        have : i < 0 ∨ (i = 0 ∧ j < 0) := gg;omega) (fun c _ => eC _)
      refine ⟨key.1, Nat.lt_of_le_of_lt key.2 ?_⟩;show (o.R - hot'.length) * dW o + (2 * (o.n * o.R) - (0 + 0) - (bb s.ch).length) * o.R + hot'.length + o.n * o.R * (o.n * o.R) < _;have aN : dW o = 2 * (o.n * o.R) * o.R + o.n * o.R * (o.n * o.R) + 1 := rfl;have := jZ o.R (show 2 * (o.n * o.R) - (0 + 0) - (bb s.ch).length + 1 ≤ 2 * (o.n * o.R) by omega);rw [jY, Nat.one_mul] at this;omega
  rcases X8 af ab h aK c5 with ⟨aI, f1⟩ | ⟨FN, aI⟩ | ⟨hot', aI, b2, s2, l2, d2⟩
  · rw [aI, if_pos (show (e3 s 5 0 0).ph = 5 from rfl)]
    have := C1 (ok := ok) ab f1 (.inr h.laid);exact ⟨this.1, by rw [this.2]; omega⟩
  · cases hd : s.dirty with
    | true =>
      have es : ({ s with hot := s.hot, dirty := true } : aT α) = s := by cases s; cases hd; rfl
      rw [aI];have := main s.hot (by rw [es]; exact ab) (fun x aa => aa) (dL _) (fun aY => by rw [hd] at aY; cases aY);rw [es, hd] at this;exact this
    | false =>
      rw [aI, if_neg (show ¬ s.ph = 5 by rw [h.ph]; decide), if_neg (show ¬ (false = true) by decide)];obtain ⟨c1, c2⟩ := h.clean hd
      have Mw : ∀ x y l m, (bb s.ch)[x]? = some l → (bb s.ch)[y]? = some m → ((x < s.I ∨ (x = s.I ∧ y < s.J)) ∨ (x = s.I ∧ y = s.J)) → x < y → o.cut l m = none := fun x y l m aa ag aY kP => by
        rcases aY with aY | ⟨rfl, rfl⟩
        · exact c2 x y l m aa ag kP aY
        · rw [aK] at aa; rw [c5] at ag
          cases aa; cases ag;exact FN
      by_cases bi : (cb (bb s.ch).length s.I s.J).2 < (bb s.ch).length
      · rw [if_pos bi]
        obtain ⟨sd, se⟩ := iI bi;refine ⟨⟨⟨ab.nd, ab.room, ab.gz⟩, .inr (.inr (.inr (.inl ⟨h.ph, ⟨h.laid.len, h.laid.hY⟩, sd, bi, h.T, h.fnd, fun _ => ⟨c1, fun x y l m aa ag kP aY => Mw x y l m aa ag (abo pn ki kP (bS.1 ag).1 aY) kP⟩⟩)))⟩, ?_⟩;unfold eX;show (match s.ph with | 0 => _ | 1 => _ | 2 => _ | 3 => (o.R - s.hot.length) * dW o + (if s.dirty = true then dW o else 0) + (((bb s.ch).length - (cb (bb s.ch).length s.I s.J).1) * (bb s.ch).length - (cb (bb s.ch).length s.I s.J).2) | _ => _) < _;rw [h.ph];show (o.R - s.hot.length) * dW o + (if s.dirty = true then dW o else 0) + (((bb s.ch).length - (cb (bb s.ch).length s.I s.J).1) * (bb s.ch).length - (cb (bb s.ch).length s.I s.J).2) < _;rw [hd, if_neg (by decide)];omega
      · rw [if_neg bi]
        unfold mP;rw [if_neg (show ¬ s.dirty = true by rw [hd]; decide)];refine ⟨⟨⟨ab.nd, ab.room, ab.gz⟩, .inr (.inr (.inr (.inr (.inl ⟨rfl, hd, ⟨h.laid.len, h.laid.hY⟩, rfl, rfl, rfl, rfl, c1, fun x y l m aa ag kP _ => ?_⟩))))⟩, ?_⟩
        · exact Mw x y l m aa ag (abp pn ki bi kP (bS.1 ag).1) kP
        · show 0 < _
          omega
  · rw [aI]
    exact main hot' b2 s2 l2 d2
theorem xC {o : cG α} {ok : Nat → List α × List Int → Prop} (af : jM o ok) {s : aT α} (h : hG o ok s) : hG o ok (eh o s) ∧ (s.ph < 4 → eX o (eh o s) < eX o s) ∧ (4 ≤ s.ph → eh o s = s) := by
  obtain ⟨ab, aG | h1 | h2 | ap | aL | dx⟩ := h
  · have e : eh o s = qj o s := by simp only [eh, aG.ph]
    have := Vs af ab aG;rw [e]; exact ⟨this.1, fun _ => this.2, fun aY => by rw [aG.ph] at aY; omega⟩
  · have e : eh o s = qJ o s := by simp only [eh, h1.ph]
    have := acS af ab h1;rw [e]; exact ⟨this.1, fun _ => this.2, fun aY => by rw [h1.ph] at aY; omega⟩
  · have e : eh o s = xu o s := by simp only [eh, h2.ph]
    have := adR af ab h2;rw [e]; exact ⟨this.1, fun _ => this.2, fun aY => by rw [h2.ph] at aY; omega⟩
  · have e : eh o s = sc o s := by simp only [eh, ap.ph]
    have := aaA af ab ap;rw [e]; exact ⟨this.1, fun _ => this.2, fun aY => by rw [ap.ph] at aY; omega⟩
  · have e : eh o s = s := by simp only [eh, aL.ph]
    rw [e]; exact ⟨⟨ab, .inr (.inr (.inr (.inr (.inl aL))))⟩, fun aY => by rw [aL.ph] at aY; omega, fun _ => rfl⟩
  · have e : eh o s = s := by simp only [eh, dx.ph]
    rw [e]; exact ⟨⟨ab, .inr (.inr (.inr (.inr (.inr dx))))⟩, fun aY => by rw [dx.ph] at aY; omega, fun _ => rfl⟩
def lO (o : cG α) : Nat → aT α → aT α
  | 0, s => s
  | n + 1, s => lO o n (eh o s)
theorem Hu {o : cG α} {ok : Nat → List α × List Int → Prop} (af : jM o ok) : ∀ (n : Nat) {s : aT α}, hG o ok s → hG o ok (lO o n s) ∧ (eX o s ≤ n → 4 ≤ (lO o n s).ph)
  | 0, s, h => ⟨h, fun aF => by
    refine Nat.not_lt.1 fun bi => ?_;have := (xC af h).2.1 bi;show False;have aF : eX o s ≤ 0 := aF;omega⟩
  | n + 1, s, h => by
    obtain ⟨h1, h2, ap⟩ := xC af h;obtain ⟨g1, g2⟩ := Hu af n h1;refine ⟨g1, fun aF => ?_⟩
    by_cases bi : s.ph < 4
    · exact g2 (by have := h2 bi; omega)
    · have e := ap (by omega)
      show 4 ≤ (lO o n (eh o s)).ph;rw [e]
      have key : ∀ m, lO o m s = s := fun m => by
        induction m with
        | zero => rfl
        | succ m cp => show lO o m (eh o s) = s; rw [e]; exact cp
      rw [key]; omega
def hc (o : cG α) : aT α := ⟨if o.n = 0 then 4 else 0, 0, 0, 0, false, [], [], []⟩
theorem xf (o : cG α) (ok : Nat → List α × List Int → Prop) : hG o ok (hc o) := by
  refine ⟨⟨List.nodup_nil, eC _, fun x aa => absurd aa qK⟩, ?_⟩
  by_cases h : o.n = 0
  · refine .inr (.inr (.inr (.inr (.inl ⟨by simp [hc, h], rfl, ⟨h.symm, fun i c hi => by simp [hc] at hi⟩, rfl, rfl, rfl, rfl, (fun l an => by cases an), (fun a b l m aK => by simp [hc, bb] at aK)⟩))))
  · exact .inl ⟨by simp [hc, h], rfl, rfl, rfl, show 0 < o.n by omega, rfl, rfl, fun i hi => by cases hi⟩
end Go.Proofs.YtpochbhajmbfdaaGreat.bx
namespace Go.Proofs.YtpochbhajmbfdaaGreat.bx
variable {α : Type} [DecidableEq α]
def rD (N : Int → Rat → α → Prop) : Rat → List α → List Int → Prop
 | t, p :: q :: V, d :: D => ∃ nL, t ≤ nL ∧ nL ≤ 1 ∧ N d t p ∧ N d nL q ∧ rD N nL (q :: V) D
 | _, _, _ => True
def BL (N : Int → Rat → α → Prop) (d : Int) (t2 : Rat) : Rat → List α → Prop
 | t1, [] => t1 ≤ t2
 | t1, x :: l => ∃ t, t1 ≤ t ∧ t ≤ t2 ∧ N d t x ∧ BL N d t2 t l
theorem KL {N : Int → Rat → α → Prop} {d : Int} {t2 : Rat} {q : α} {V : List α} {D : List Int} (h1 : t2 ≤ 1) (al : N d t2 q) (po : rD N t2 (q :: V) D) : ∀ (l : List α) (t1 : Rat) (p : α), N d t1 p → BL N d t2 t1 l → rD N t1 (p :: (l ++ q :: V)) (List.replicate (l.length + 1) d ++ D)
 | [], t1, p, hp, ab => ⟨t2, ab, h1, hp, al, po⟩
 | x :: l, t1, p, hp, ⟨t, g1, g2, g3, g4⟩ => by
  have cp := KL h1 al po l t x g3 g4;exact ⟨t, g1, Rat.le_trans g2 h1, hp, g3, cp⟩
theorem KK {N : Int → Rat → α → Prop} (kj : ∀ d t x, N d t x → N (d + 1) t x) {l : List α} {p q : α} (an : ∀ d t1 t2, t1 ≤ t2 → t2 ≤ 1 → N d t1 p → N d t2 q → BL N (d + 1) t2 t1 l) : ∀ (V : List α) (D : List Int) (j : Nat) (t : Rat), V.length = D.length + 1 → V[j]? = some p → V[j + 1]? = some q → rD N t V D → rD N t (c9 V j l) (eo D j l.length)
 | [], D, j, t, _, h, _, _ => by simp at h
 | [_], D, j, t, _, _, h, _ => by simp at h
 | _ :: _ :: _, [], j, t, h, _, _, _ => by simp at h
 | a :: b :: V, d :: D, 0, t, hlen, hp, al, ⟨nL, h1, h2, ap, aL, dx⟩ => by
  simp only [tX, hR] at hp;simp only [List.getElem?_cons_succ, tX, hR] at al;subst hp; subst al;have aI : c9 (a :: b :: V) 0 l = a :: (l ++ b :: V) := by unfold c9; simp
  have aN : eo (d :: D) 0 l.length = List.replicate (l.length + 1) (d + 1) ++ D := by unfold eo; simp
  rw [aI, aN];exact KL h2 (kj _ _ _ aL) dx l t a (kj _ _ _ ap) (an d t nL h1 h2 ap aL)
 | a :: b :: V, d :: D, j + 1, t, hlen, hp, al, ⟨nL, h1, h2, ap, aL, dx⟩ => by
  have cp := KK kj an (b :: V) D j nL (by simp at hlen ⊢; omega) hp al dx;have aI : c9 (a :: b :: V) (j + 1) l = a :: c9 (b :: V) j l := by unfold c9; simp
  have aN : eo (d :: D) (j + 1) l.length = d :: eo D j l.length := by unfold eo; simp
  rw [aI, aN];have cC : c9 (b :: V) j l = b :: (V.take j ++ l ++ V.drop j) := by unfold c9; simp
  rw [cC] at cp ⊢;exact ⟨nL, h1, h2, ap, aL, cp⟩
end Go.Proofs.YtpochbhajmbfdaaGreat.bx
namespace Go.Proofs.YtpochbhajmbfdaaGreat.bx
variable {α : Type} [DecidableEq α]
theorem K2 {o : cG α} {ok : Nat → List α × List Int → Prop} (af : jM o ok) {s : aT α} (ab : hW o s) (an : k1 o ok s) {c : List α × List Int} (ak : c ∈ s.ch) : c.1.length ≤ o.R ∧ ∀ d ∈ c.2, 1 ≤ d ∧ d + 1 ≤ o.R := by
 obtain ⟨i, hi⟩ := jX ak;have h := an.hY i c hi;have h1 := ln (zQ (af.nodup _ _ h.gb) h.hot) ab.room;refine ⟨h1, fun d hd => ?_⟩;have := h.deep d hd;have := h.len;omega
theorem Ul {N : Int → Rat → α → Prop} {p q : α} (hp : N 1 0 p) (al : N 1 1 q) : rD N 0 (fS p q).1 (fS p q).2 := by
 unfold fS
 split
 ·trivial
 ·exact ⟨1, by decide, Rat.le_refl, hp, al, trivial⟩
end Go.Proofs.YtpochbhajmbfdaaGreat.bx
