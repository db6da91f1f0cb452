/-
  My own texts, without what this claim does not need. My own text.
-/
import Derived.WalkKit
import Derived.WalkSpells
import Derived.Lib.Hide
import Derived.BigQuiet
import Derived.BigGuardPart
import Derived.Deep.RegionHeld3
import Derived.Test.YtpochbhajmbfdaaGreatRows
set_option maxRecDepth 100000
set_option maxHeartbeats 64000000
set_option linter.unusedVariables false
set_option linter.unusedSimpArgs false
set_option linter.unusedSectionVars false
open Go.Proofs.Tryz renaming prog → ai
namespace Go.Proofs.YtpochbhajmbfdaaGreat
theorem bG : type_of% @decide_eq_true := @decide_eq_true
theorem bX : type_of% @List.getElem?_eq_some_iff := @List.getElem?_eq_some_iff
theorem b3 : type_of% @decide_eq_false := @decide_eq_false
theorem cp : type_of% @List.getElem?_eq_getElem := @List.getElem?_eq_getElem
theorem ct : type_of% @List.all_eq_true := @List.all_eq_true
theorem cE : type_of% @decide_eq_true_eq := @decide_eq_true_eq
theorem cS : type_of% @List.length_append := @List.length_append
theorem de : type_of% @Nat.le_of_ble_eq_true := @Nat.le_of_ble_eq_true
theorem dG : type_of% @List.mem_of_getElem? := @List.mem_of_getElem?
theorem dS : type_of% @Bool.and_eq_true := @Bool.and_eq_true
theorem dW : type_of% @Nat.le_refl := @Nat.le_refl
theorem eh : type_of% @List.length_take := @List.length_take
theorem eF : type_of% @Nat.zero_le := @Nat.zero_le
theorem eG : type_of% @List.getElem?_map := @List.getElem?_map
theorem fN : type_of% @List.getElem?_take_of_lt := @List.getElem?_take_of_lt
theorem fY : type_of% @List.getElem?_append_left := @List.getElem?_append_left
theorem gl : type_of% @List.getElem?_drop := @List.getElem?_drop
theorem gy : type_of% @List.getElem?_append_right := @List.getElem?_append_right
theorem gL : type_of% @Option.map_some := @Option.map_some
theorem gM : type_of% @List.mem_cons := @List.mem_cons
theorem gZ : type_of% @Nat.eq_of_beq_eq_true := @Nat.eq_of_beq_eq_true
theorem hK : type_of% @Option.some.injEq := @Option.some.injEq
theorem hL : type_of% @Int.mul_nonneg := @Int.mul_nonneg
theorem hZ : type_of% @List.length_drop := @List.length_drop
theorem h0 : type_of% @List.take_of_length_le := @List.take_of_length_le
theorem iq : type_of% @List.append_assoc := @List.append_assoc
theorem ir : type_of% @List.mem_map := @List.mem_map
theorem iu : type_of% @Nat.ne_of_gt := @Nat.ne_of_gt
theorem iv : type_of% @Nat.ne_of_lt := @Nat.ne_of_lt
theorem iQ : type_of% @Nat.lt_or_ge := @Nat.lt_or_ge
theorem iR : type_of% @List.pairwise_cons := @List.pairwise_cons
theorem jd : type_of% @Nat.zero_lt_succ := @Nat.zero_lt_succ
theorem jG : type_of% @Int.mul_comm := @Int.mul_comm
theorem jH : type_of% @Nat.zero_add := @Nat.zero_add
theorem jI : type_of% @Int.pow_pos := @Int.pow_pos
theorem jZ : type_of% @List.getElem?_of_mem := @List.getElem?_of_mem
theorem j0 : type_of% @Nat.add_mul := @Nat.add_mul
theorem j1 : type_of% @Nat.mul_le_mul_right := @Nat.mul_le_mul_right
theorem j2 : type_of% @Option.bind_some := @Option.bind_some
theorem j3 : type_of% @List.all_cons := @List.all_cons
theorem j4 : type_of% @Rat.mul_nonneg := @Rat.mul_nonneg
theorem kq : type_of% @List.take_append_drop := @List.take_append_drop
theorem kr : type_of% @Array.getElem?_eq_some_iff := @Array.getElem?_eq_some_iff
theorem ks : type_of% @Int.toNat_natCast := @Int.toNat_natCast
theorem kS : type_of% @Nat.le_trans := @Nat.le_trans
theorem kT : type_of% @List.mem_append := @List.mem_append
theorem kU : type_of% @List.map_cons := @List.map_cons
theorem kV : type_of% @Int.mul_assoc := @Int.mul_assoc
theorem lp : type_of% @decide_eq_false_iff_not := @decide_eq_false_iff_not
theorem lq : type_of% @List.mem_cons_self := @List.mem_cons_self
theorem lr : type_of% @List.length_cons := @List.length_cons
theorem lW : type_of% @List.mem_singleton := @List.mem_singleton
theorem mr : type_of% @Int.eq_ofNat_of_zero_le := @Int.eq_ofNat_of_zero_le
theorem ms : type_of% @Option.some.inj := @Option.some.inj
theorem mu : type_of% @List.length_map := @List.length_map
theorem mv : type_of% @List.eq_nil_of_length_eq_zero := @List.eq_nil_of_length_eq_zero
theorem mw : type_of% @List.all_nil := @List.all_nil
theorem mV : type_of% @List.drop_eq_getElem_cons := @List.drop_eq_getElem_cons
theorem mW : type_of% @List.mem_of_mem_drop := @List.mem_of_mem_drop
theorem nM : type_of% @Bool.false_eq_true := @Bool.false_eq_true
theorem nN : type_of% @Int.emod_lt_of_pos := @Int.emod_lt_of_pos
theorem oL : type_of% @Bool.eq_iff_iff := @Bool.eq_iff_iff
theorem oM : type_of% @Int.le_refl := @Int.le_refl
theorem oN : type_of% @List.mem_of_mem_take := @List.mem_of_mem_take
theorem oO : type_of% @List.take_succ_eq_append_getElem := @List.take_succ_eq_append_getElem
theorem oP : type_of% @List.map_congr_left := @List.map_congr_left
theorem oQ : type_of% @Int.emod_nonneg := @Int.emod_nonneg
theorem pI : type_of% @List.mem_cons_of_mem := @List.mem_cons_of_mem
theorem pJ : type_of% @List.append_nil := @List.append_nil
theorem pK : type_of% @Int.mul_le_mul_of_nonneg_left := @Int.mul_le_mul_of_nonneg_left
theorem pL : type_of% @Int.mul_le_mul_of_nonneg_right := @Int.mul_le_mul_of_nonneg_right
theorem pM : type_of% @Nat.min_eq_left := @Nat.min_eq_left
theorem pN : type_of% @Int.lt_or_le := @Int.lt_or_le
theorem pO : type_of% @Int.ediv_nonneg := @Int.ediv_nonneg
theorem pP : type_of% @Int.le_of_lt := @Int.le_of_lt
theorem pQ : type_of% @Int.le_ediv_iff_mul_le := @Int.le_ediv_iff_mul_le
theorem pR : type_of% @Bool.true_and := @Bool.true_and
theorem qL : type_of% @List.not_mem_nil := @List.not_mem_nil
theorem qM : type_of% @List.getElem?_eq_none := @List.getElem?_eq_none
theorem qN : type_of% @Bool.or_eq_true := @Bool.or_eq_true
theorem si : type_of% @Bool.not_eq_true' := @Bool.not_eq_true'
theorem sj : type_of% @List.getElem?_cons_zero := @List.getElem?_cons_zero
theorem sk : type_of% @Int.mul_eq_zero := @Int.mul_eq_zero
theorem sn : type_of% @Int.mul_ediv_add_emod := @Int.mul_ediv_add_emod
theorem so : type_of% @Option.map_none := @Option.map_none
theorem sq : type_of% @Int.mul_le_mul := @Int.mul_le_mul
theorem sr : type_of% @Rat.intCast_add := @Rat.intCast_add
theorem tW : type_of% @Array.getElem?_modify := @Array.getElem?_modify
theorem tX : type_of% @Nat.lt_of_lt_of_le := @Nat.lt_of_lt_of_le
theorem tY : type_of% @List.drop_of_length_le := @List.drop_of_length_le
theorem vw : type_of% @Array.getElem?_eq_none := @Array.getElem?_eq_none
theorem vx : type_of% @Nat.eq_zero_or_pos := @Nat.eq_zero_or_pos
theorem xq : type_of% @List.getD_eq_getElem?_getD := @List.getD_eq_getElem?_getD
theorem xr : type_of% @List.getElem?_cons_succ := @List.getElem?_cons_succ
theorem xt : type_of% @Array.getD_eq_getD_getElem? := @Array.getD_eq_getD_getElem?
theorem xu : type_of% @Int.ediv_ediv_of_nonneg := @Int.ediv_ediv_of_nonneg
theorem z6 : type_of% @List.take_append_of_le_length := @List.take_append_of_le_length
end Go.Proofs.YtpochbhajmbfdaaGreat
namespace Go.Proofs.YtpochbhajmbfdaaGreat
theorem iF : (∀ b : Bool, ((!b) = true) = (b = false)) ∧ (∀ b : Bool, ((!b) = false) = (b = true)) ∧ (∀ (p : Prop) [Decidable p], (decide p = true) = p) ∧ ∀ (p : Prop) [Decidable p], (decide p = false) = ¬ p := ⟨by simp, by simp, by simp, by simp⟩
end Go.Proofs.YtpochbhajmbfdaaGreat
namespace Go.Proofs.YtpochbhajmbfdaaGreat
open Go.RowKit
@[go_sem] theorem Nk (w : World) (a b : Addr) (v : Value) : ((w.setCell a v).cell? b).isSome = (w.cell? b).isSome := by
  unfold World.setCell World.cell?;simp only [tW]
  by_cases e : a.block = b.block
  · rw [if_pos e]
    cases w.heap[b.block]? with
    | none => rfl
    | some o =>
      cases o <;> simp only [gL]
      by_cases s : a.spot.isSome = true
      · simp [s]
      · by_cases t : b.spot.isSome = true
        · simp [t]
        · simp only [if_neg s, if_neg t]
          rw [Array.getElem?_setIfInBounds]
          split
          · rename_i h1
            rw [← h1]
            split
            · rename_i h2; simp [h2]
            · rename_i h2; simp [h2]
          · rfl
  · rw [if_neg e]
theorem b4 {w W aP : World} (h : Below w.heap.size w W) (ab : Below W.heap.size W aP) : Below w.heap.size w aP := h.trans (ab.mono h.size)
theorem cT {w W : World} (h : Below w.heap.size w W) (o : Obj) : Below w.heap.size w (W.alloc o) := h.alloc h.size o
theorem eJ {w W : World} (h : Below w.heap.size w W) (b o : Nat) (v : Value) (ab : w.heap.size ≤ b) : Below w.heap.size w (W.setCell ⟨b, o, none⟩ v) := h.setCell (p := ⟨b, o, none⟩) ab v
def ag (w : World) (b : Nat) (u v : Value) : Prop := (w.cell? ⟨b, 0, none⟩ = some u ∧ w.cell? ⟨b, 1, none⟩ = some v) ∧ (w.frozen? ⟨b, 0, none⟩ = false ∧ w.frozen? ⟨b, 1, none⟩ = false)
theorem ag.lt {w : World} {b : Nat} {u v : Value} (h : ag w b u v) : b < w.heap.size := World.block_lt_of_cell? w _ h.1.1
theorem ag.call {W aP : World} {b : Nat} {u v : Value} (h : ag W b u v) (ab : Below W.heap.size W aP) : ag aP b u v := by
  have ao := h.lt;obtain ⟨⟨h1, h2⟩, ap, aL⟩ := h;exact ⟨⟨(ab.cell (p := ⟨b, 0, none⟩) ao).trans h1, (ab.cell (p := ⟨b, 1, none⟩) ao).trans h2⟩, (ab.frozen (p := ⟨b, 0, none⟩) ao).trans ap, (ab.frozen (p := ⟨b, 1, none⟩) ao).trans aL⟩
theorem ag.alloc {W : World} {b : Nat} {u v : Value} (h : ag W b u v) (o : Obj) : ag (W.alloc o) b u v := h.call ((Below.refl _ _).alloc (dW _) o)
theorem ag.drew {W : World} {b : Nat} {u v : Value} (h : ag W b u v) : ag W.drew b u v := h.call ((Below.refl _ _).drew)
theorem ag.new {W : World} {b : Nat} {u v : Value} {t : TypeId} (e : b = W.heap.size) : ag (W.alloc (.cells #[u, v] t)) b u v := by
  subst e;unfold ag
  go_simp
theorem ag.set {W : World} {b g : Nat} {u v x : Value} (h : ag W b u v) (o : Nat) (ne : g ≠ b) : ag (W.setCell ⟨g, o, none⟩ x) b u v := by
  obtain ⟨⟨h1, h2⟩, ap, aL⟩ := h;have mn : (⟨g, o, none⟩ : Addr) ≠ ⟨b, 0, none⟩ := fun e => ne (congrArg Addr.block e);have ig : (⟨g, o, none⟩ : Addr) ≠ ⟨b, 1, none⟩ := fun e => ne (congrArg Addr.block e);refine ⟨⟨?_, ?_⟩, ?_, ?_⟩
  · rw [World.cell?_setCell_other _ _ _ _ mn]; exact h1
  · rw [World.cell?_setCell_other _ _ _ _ ig]; exact h2
  · go_simp
  · go_simp
def fi (w : World) (b : Nat) : Prop := ((w.cell? ⟨b, 0, none⟩).isSome = true ∧ (w.cell? ⟨b, 1, none⟩).isSome = true) ∧ (w.frozen? ⟨b, 0, none⟩ = false ∧ w.frozen? ⟨b, 1, none⟩ = false)
theorem fi.of {W : World} {b : Nat} {u v : Value} (h : ag W b u v) : fi W b := by
  obtain ⟨⟨h1, h2⟩, ap, aL⟩ := h;exact ⟨⟨by rw [h1]; rfl, by rw [h2]; rfl⟩, ap, aL⟩
theorem fi.box {W : World} {b : Nat} (h : fi W b) : ∃ u v, ag W b u v := by
  obtain ⟨⟨h1, h2⟩, ap, aL⟩ := h;obtain ⟨u, hu⟩ := Option.isSome_iff_exists.1 h1;obtain ⟨v, hv⟩ := Option.isSome_iff_exists.1 h2;exact ⟨u, v, ⟨hu, hv⟩, ap, aL⟩
theorem fi.set {W : World} {b : Nat} (h : fi W b) (a : Addr) (x : Value) : fi (W.setCell a x) b := by
  obtain ⟨⟨h1, h2⟩, ap, aL⟩ := h;refine ⟨⟨by rw [Nk]; exact h1, by rw [Nk]; exact h2⟩, ?_, ?_⟩
  · go_simp
  · go_simp
theorem ag.put {W : World} {b : Nat} {ku aV : Value} (h : fi W b) : ag ((W.setCell ⟨b, 0, none⟩ ku).setCell ⟨b, 1, none⟩ aV) b ku aV := by
  obtain ⟨u, v, k⟩ := h.box;obtain ⟨⟨h1, h2⟩, ap, aL⟩ := k;unfold ag
  go_simp
theorem ye {P : Program} {F : Func} {Q : Ending → World → Prop} {e : Exit} {a : Act} {W : World} (h : ∀ bo, bo = W → bodyPost P F Q e a bo) : bodyPost P F Q e a W := h W rfl
theorem k8 {p q : Prop} (h : p) (k : p → q) : q := k h
def fL (a b c d : Int) : Bool := a == c && b == d
theorem Ly (a b c d : Int) (w : World) : (Op.equalIn 10000 159 (.agg #[.int .i64 a, .int .u64 b]) (.agg #[.int .i64 c, .int .u64 d])).run ai w = .ok (fL a b c d) w := by
  unfold fL
  go_simp
  by_cases h : a = c <;> by_cases k : b = d <;> simp [h, k]
@[go_sem ↓ high] theorem agB (a b c d : Int) (w : World) : (binOp .eql 159 (.agg #[.int .i64 a, .int .u64 b]) (.agg #[.int .i64 c, .int .u64 d])).run ai w = .ok (.bool (fL a b c d)) w := by
  rw [run_eql_struct, Ly]; rfl
@[go_sem ↓ high] theorem ais (a b c d : Int) (w : World) : (binOp .neq 159 (.agg #[.int .i64 a, .int .u64 b]) (.agg #[.int .i64 c, .int .u64 d])).run ai w = .ok (.bool (!fL a b c d)) w := by
  rw [run_neq_struct, Ly]; rfl
theorem VE (a b c d : Int) (w : World) : (Op.equalIn 10000 311 (.agg #[.int .u64 a, .int .u64 b]) (.agg #[.int .u64 c, .int .u64 d])).run ai w = .ok (fL a b c d) w := by
  unfold fL
  go_simp
  by_cases h : a = c <;> by_cases k : b = d <;> simp [h, k]
@[go_sem ↓ high] theorem air (a b c d : Int) (w : World) : (binOp .neq 311 (.agg #[.int .u64 a, .int .u64 b]) (.agg #[.int .u64 c, .int .u64 d])).run ai w = .ok (.bool (!fL a b c d)) w := by
  rw [run_neq_struct, VE]; rfl
def bu (H L n : Int) : Prop := (-9223372036854775808 ≤ H ∧ H < 9223372036854775808) ∧ (0 ≤ L ∧ L < 18446744073709551616) ∧ n = H * 18446744073709551616 + L
def cJ (H L n : Int) : Prop := (0 ≤ H ∧ H < 18446744073709551616) ∧ (0 ≤ L ∧ L < 18446744073709551616) ∧ n = H * 18446744073709551616 + L
def wr (n : Int) : Int := (n + 170141183460469231731687303715884105728) % 340282366920938463463374607431768211456 - 170141183460469231731687303715884105728
def fits (n : Int) : Bool := decide (-170141183460469231731687303715884105728 ≤ n ∧ n < 170141183460469231731687303715884105728)
def o3 (n : Int) (w : World) (e : Ending) (w' : World) : Prop := ∃ H L, e = .returned (.agg #[.int .i64 H, .int .u64 L]) ∧ bu H L n ∧ Below w.heap.size w w'
def l3 (n : Int) (w : World) (e : Ending) (w' : World) : Prop := ∃ H L, e = .returned (.tuple #[.agg #[.int .i64 H, .int .u64 L], .bool (fits n)]) ∧ bu H L (if fits n then n else 0) ∧ Below w.heap.size w w'
def aW (n : Int) (w : World) (e : Ending) (w' : World) : Prop := ∃ H L, e = .returned (.agg #[.int .u64 H, .int .u64 L]) ∧ cJ H L n ∧ Below w.heap.size w w'
def gP (v : Value) (w : World) (e : Ending) (w' : World) : Prop := e = .returned v ∧ Below w.heap.size w w'
def fM (n m : Int) : Int := if n = m then 0 else if n < m then -1 else 1
theorem ou : bu 0 0 0 := by unfold bu; omega
theorem bu.fits {H L n : Int} (h : bu H L n) : fits n = true := by
  obtain ⟨a, b, rfl⟩ := h;unfold Proofs.YtpochbhajmbfdaaGreat.fits;rw [cE];omega
theorem bu.inj {H L e9 L' n : Int} (h : bu H L n) (k : bu e9 L' n) : H = e9 ∧ L = L' := by
  obtain ⟨a, b, rfl⟩ := h;obtain ⟨c, d, e⟩ := k;omega
theorem bu.neg {H L n : Int} (h : bu H L n) : H < 0 ↔ n < 0 := by
  obtain ⟨a, b, rfl⟩ := h;omega
theorem bu.fL {H L e9 L' n m : Int} (h : bu H L n) (k : bu e9 L' m) : fL H L e9 L' = decide (n = m) := by
  obtain ⟨a, b, rfl⟩ := h;obtain ⟨c, d, rfl⟩ := k;unfold Proofs.YtpochbhajmbfdaaGreat.fL;rw [oL];simp only [dS, beq_iff_eq, cE];omega
theorem cJ.fL {H L e9 L' n m : Int} (h : cJ H L n) (k : cJ e9 L' m) : fL H L e9 L' = decide (n = m) := by
  obtain ⟨a, b, rfl⟩ := h;obtain ⟨c, d, rfl⟩ := k;unfold Proofs.YtpochbhajmbfdaaGreat.fL;rw [oL];simp only [dS, beq_iff_eq, cE];omega
theorem zr : cJ 0 0 0 := by unfold cJ; omega
theorem bu.conv {H L n m : Int} (h : bu H L n) (e : n = m) : bu H L m := e ▸ h
theorem Jg {n : Int} (h : fits n = true) : wr n = n := by
  unfold Proofs.YtpochbhajmbfdaaGreat.fits at h;unfold wr;rw [cE] at h;omega
theorem sy {n H L : Int} {w w' : World} (h : fits n = true) (k : bu H L n) (b : Below w.heap.size w w') : l3 n w (.returned (.tuple #[.agg #[.int .i64 H, .int .u64 L], .bool true])) w' := ⟨H, L, by rw [h], by rw [h]; exact k, b⟩
theorem vB {n : Int} {w w' : World} (h : fits n = false) (b : Below w.heap.size w w') : l3 n w (.returned (.tuple #[.agg #[.int .i64 0, .int .u64 0], .bool false])) w' := ⟨0, 0, by rw [h], by rw [h]; exact ou, b⟩
theorem Bp (x y c : Int) (aa : 0 ≤ x) (ah : 0 ≤ y) (GC : 0 ≤ c) (ak : c ≤ 1) (w : World) :
    (callFunc 293 #[.int .u64 x, .int .u64 y, .int .u64 c]).run ai w =
      .ok (.value (.tuple #[.int .u64 ((x + y + c) % 18446744073709551616), .int .u64 ((x + y + c) / 18446744073709551616)])) w := by
  rw [run_callFunc_extern Tryz.func293 (by kernel_rfl) (by kernel_rfl) (by kernel_rfl) (e := add64Entry) (by kernel_rfl), run_add64 x y c aa ah GC ak];rfl
def QG : Array Value → Sem Value := fun args => do
  let (x, y, b) ← Extern.MathBitsCarry.three "Sub64" args
  pure (Extern.MathBitsCarry.pair ((x + Extern.MathBitsCarry.m64 - y - b) % Extern.MathBitsCarry.m64) (if x < y + b then 1 else 0))
theorem aeg {P : Program} (x y b : Nat) (ab : b ≤ 1) (w : World) :
    (QG #[.int .u64 x, .int .u64 y, .int .u64 b]).run P w =
      .ok (.tuple #[.int .u64 (((x + 18446744073709551616 - y - b) % 18446744073709551616 : Nat) : Int), .int .u64 ((if x < y + b then 1 else 0 : Nat) : Int)]) w := by
  have : b = 0 ∨ b = 1 := by omega
  rcases this with rfl | rfl <;> rfl
theorem Er (x y c : Int) (aa : 0 ≤ x) (Hm : x < 18446744073709551616) (ah : 0 ≤ y) (zl : y < 18446744073709551616) (GC : 0 ≤ c) (ak : c ≤ 1) (w : World) :
    (callFunc 277 #[.int .u64 x, .int .u64 y, .int .u64 c]).run ai w =
      .ok (.value (.tuple #[.int .u64 ((x - y - c) % 18446744073709551616), .int .u64 (-((x - y - c) / 18446744073709551616))])) w := by
  obtain ⟨X, rfl⟩ := mr aa;obtain ⟨Y, rfl⟩ := mr ah;obtain ⟨C, rfl⟩ := mr GC;rw [run_callFunc_extern Tryz.func277 (by kernel_rfl) (by kernel_rfl) (by kernel_rfl) (e := QG) (by kernel_rfl), aeg X Y C (by omega)];simp only [Result.andThen];have aI : (((X + 18446744073709551616 - Y - C) % 18446744073709551616 : Nat) : Int) = ((X : Int) - Y - C) % 18446744073709551616 := by omega
  have aO : ((if X < Y + C then 1 else 0 : Nat) : Int) = -(((X : Int) - Y - C) / 18446744073709551616) := by split <;> omega
  rw [aI, aO]
theorem ade (h1 l1 h2 l2 : Int) (b1 : -9223372036854775808 ≤ h1 ∧ h1 < 9223372036854775808) (b2 : 0 ≤ l1 ∧ l1 < 18446744073709551616)
   (ed : -9223372036854775808 ≤ h2 ∧ h2 < 9223372036854775808) (dD : 0 ≤ l2 ∧ l2 < 18446744073709551616) :
   bu (wrap64 ((IntKind.u64.wrap h1 + IntKind.u64.wrap h2 + (l1 + l2 + 0) / 18446744073709551616) % 18446744073709551616)) ((l1 + l2 + 0) % 18446744073709551616) (wr ((h1 * 18446744073709551616 + l1) + (h2 * 18446744073709551616 + l2))) := by
  unfold bu wr wrap64;rw [IntKind.wrap_u64, IntKind.wrap_u64];omega
theorem aaK (h1 l1 h2 l2 : Int) (b1 : -9223372036854775808 ≤ h1 ∧ h1 < 9223372036854775808) (b2 : 0 ≤ l1 ∧ l1 < 18446744073709551616)
   (ed : -9223372036854775808 ≤ h2 ∧ h2 < 9223372036854775808) (dD : 0 ≤ l2 ∧ l2 < 18446744073709551616) :
   bu (wrap64 ((IntKind.u64.wrap h1 - IntKind.u64.wrap h2 - -((l1 - l2 - 0) / 18446744073709551616)) % 18446744073709551616)) ((l1 - l2 - 0) % 18446744073709551616) (wr ((h1 * 18446744073709551616 + l1) - (h2 * 18446744073709551616 + l2))) := by
  unfold bu wr wrap64;rw [IntKind.wrap_u64, IntKind.wrap_u64];omega
theorem vG (h : Int) : 0 ≤ IntKind.u64.wrap h ∧ IntKind.u64.wrap h < 18446744073709551616 := by rw [IntKind.wrap_u64]; omega
theorem PD (h1 l1 h2 l2 n m : Int) (w : World) (H1 : bu h1 l1 n) (cd : bu h2 l2 m) :
    Calls ai 299 #[.agg #[.int .i64 h1, .int .u64 l1], .agg #[.int .i64 h2, .int .u64 l2]] w (o3 (wr (n + m)) w) := by
  obtain ⟨b1, b2, rfl⟩ := H1;obtain ⟨ed, dD, rfl⟩ := cd;have hv := ade h1 l1 h2 l2 b1 b2 ed dD;have aI := fun w => Bp l1 l2 0 b2.1 dD.1 (by omega) (by omega) w;have aO := fun w => Bp (IntKind.u64.wrap h1) (IntKind.u64.wrap h2) ((l1 + l2 + 0) / 18446744073709551616) (vG h1).1 (vG h2).1 (by omega) (by omega) w;generalize (l1 + l2 + 0) / 18446744073709551616 = c at *;generalize (l1 + l2 + 0) % 18446744073709551616 = s at *;generalize (IntKind.u64.wrap h1 + IntKind.u64.wrap h2 + c) % 18446744073709551616 = s' at *;generalize (IntKind.u64.wrap h1 + IntKind.u64.wrap h2 + c) / 18446744073709551616 = c' at *;generalize (h1 * 18446744073709551616 + l1) + (h2 * 18446744073709551616 + l2) = OG at *;clear b1 b2 ed dD
  go_enter Tryz.func299, Tryz.ntmps299
  go_wp2
  refine bodyPost_ret (v := .agg #[.int .i64 (wrap64 s'), .int .u64 s]) (by simp only [results, Tryz.results299]; go_simp) rfl ⟨_, _, rfl, hv, ?_⟩;(repeat first | with_reducible exact Below.refl _ _ | with_reducible refine cT ?_ _)
theorem zI (h1 l1 h2 l2 n m : Int) (w : World) (H1 : bu h1 l1 n) (cd : bu h2 l2 m) :
    Calls ai 245 #[.agg #[.int .i64 h1, .int .u64 l1], .agg #[.int .i64 h2, .int .u64 l2]] w (o3 (wr (n - m)) w) := by
  obtain ⟨b1, b2, rfl⟩ := H1;obtain ⟨ed, dD, rfl⟩ := cd;have hv := aaK h1 l1 h2 l2 b1 b2 ed dD;have aI := fun w => Er l1 l2 0 b2.1 b2.2 dD.1 dD.2 (by omega) (by omega) w;have aO := fun w => Er (IntKind.u64.wrap h1) (IntKind.u64.wrap h2) (-((l1 - l2 - 0) / 18446744073709551616)) (vG h1).1 (vG h1).2 (vG h2).1 (vG h2).2 (by omega) (by omega) w;generalize -((l1 - l2 - 0) / 18446744073709551616) = c at *;generalize (l1 - l2 - 0) % 18446744073709551616 = s at *;generalize (IntKind.u64.wrap h1 - IntKind.u64.wrap h2 - c) % 18446744073709551616 = s' at *;generalize -((IntKind.u64.wrap h1 - IntKind.u64.wrap h2 - c) / 18446744073709551616) = c' at *;generalize (h1 * 18446744073709551616 + l1) - (h2 * 18446744073709551616 + l2) = OG at *;clear b1 b2 ed dD
  go_enter Tryz.func245, Tryz.ntmps245
  go_wp2
  refine bodyPost_ret (v := .agg #[.int .i64 (wrap64 s'), .int .u64 s]) (by simp only [results, Tryz.results245]; go_simp) rfl ⟨_, _, rfl, hv, ?_⟩;(repeat first | with_reducible exact Below.refl _ _ | with_reducible refine cT ?_ _)
theorem Bq {h1 l1 h2 l2 gb hO n m : Int} (H1 : bu h1 l1 n) (cd : bu h2 l2 m) (uj : bu gb hO (wr (n + m))) (h : ¬ (decide (h1 < 0) = decide (h2 < 0)) ∨ (!decide (gb < 0) == decide (h2 < 0)) = false) : fits (n + m) = true ∧ bu gb hO (n + m) := by
  obtain ⟨b1, b2, rfl⟩ := H1;obtain ⟨ed, dD, rfl⟩ := cd;obtain ⟨Fs, Ft, e⟩ := uj;unfold wr at e;unfold fits bu;simp only [decide_eq_decide, Bool.not_eq_false', beq_iff_eq] at h;rw [cE];omega
theorem SR {h1 l1 h2 l2 gb hO n m : Int} (H1 : bu h1 l1 n) (cd : bu h2 l2 m) (uj : bu gb hO (wr (n + m))) (h : (decide (h1 < 0) = decide (h2 < 0))) (k : (!decide (gb < 0) == decide (h2 < 0)) = true) : fits (n + m) = false := by
  obtain ⟨b1, b2, rfl⟩ := H1;obtain ⟨ed, dD, rfl⟩ := cd;obtain ⟨Fs, Ft, e⟩ := uj;unfold wr at e;unfold fits;simp only [decide_eq_decide, si, beq_eq_false_iff_ne, ne_eq] at h k;rw [lp];omega
theorem Rk (h1 l1 h2 l2 n m : Int) (w : World) (H1 : bu h1 l1 n) (cd : bu h2 l2 m) :
    Calls ai 290 #[.agg #[.int .i64 h1, .int .u64 l1], .agg #[.int .i64 h2, .int .u64 l2]] w (l3 (n + m) w) := by
  go_enter Tryz.func290, Tryz.ntmps290
  go_wp2_with (go_at_call 299; refine (PD _ _ _ _ _ _ _ H1 cd).mono ?_; rintro e aP ⟨gb, hO, rfl, hs, ab⟩; have yf := Below.cell ab (p := ⟨w.heap.size, 0, none⟩) (by (simp; omega)); have yy := Below.frozen ab (p := ⟨w.heap.size, 0, none⟩) (by (simp; omega)); have yg := Below.cell ab (p := ⟨w.heap.size, 1, none⟩) (by (simp; omega)); have yz := Below.frozen ab (p := ⟨w.heap.size, 1, none⟩) (by (simp; omega)); have BI := Below.cell ab (p := ⟨w.heap.size + 1, 0, none⟩) (by (simp; done)); have B9 := Below.frozen ab (p := ⟨w.heap.size + 1, 0, none⟩) (by (simp; done)); have BJ := Below.cell ab (p := ⟨w.heap.size + 1, 1, none⟩) (by (simp; done)); have Ca := Below.frozen ab (p := ⟨w.heap.size + 1, 1, none⟩) (by (simp; done)); have T2 := Below.cell ab (p := ⟨w.heap.size + 1 + 1, 0, none⟩) (by (simp; done)); have VO := Below.frozen ab (p := ⟨w.heap.size + 1 + 1, 0, none⟩) (by (simp; done)); have T3 := Below.cell ab (p := ⟨w.heap.size + 1 + 1, 1, none⟩) (by (simp; done)); have VP := Below.frozen ab (p := ⟨w.heap.size + 1 + 1, 1, none⟩) (by (simp; done)); have nD := Below.size ab; (try simp at nD); have xg : ¬ aP.heap.size = w.heap.size := (by omega); have zN : ¬ aP.heap.size = w.heap.size + 1 := (by omega); have aa6 : ¬ aP.heap.size = w.heap.size + 1 + 1 := (by omega))
  · refine bodyPost_ret (v := .tuple #[.agg #[.int .i64 0, .int .u64 0], .bool false]) (by simp only [results, Tryz.results290]; go_simp) rfl (vB (SR H1 cd hs ‹_› ‹_›) ?_)
    (repeat first | with_reducible exact Below.refl _ _ | with_reducible refine cT ?_ _ | focus ((with_reducible refine eJ ?_ _ _ _ ?_); rotate_left; omega) | with_reducible refine b4 ?_ ab)
  · refine bodyPost_ret (v := .tuple #[.agg #[.int .i64 gb, .int .u64 hO], .bool true]) (by simp only [results, Tryz.results290]; go_simp) rfl (sy (Bq H1 cd hs (.inr ‹_›)).1 (Bq H1 cd hs (.inr ‹_›)).2 ?_)
    (repeat first | with_reducible exact Below.refl _ _ | with_reducible refine cT ?_ _ | focus ((with_reducible refine eJ ?_ _ _ _ ?_); rotate_left; omega) | with_reducible refine b4 ?_ ab)
  · refine bodyPost_ret (v := .tuple #[.agg #[.int .i64 gb, .int .u64 hO], .bool true]) (by simp only [results, Tryz.results290]; go_simp) rfl (sy (Bq H1 cd hs (.inl ‹_›)).1 (Bq H1 cd hs (.inl ‹_›)).2 ?_)
    (repeat first | with_reducible exact Below.refl _ _ | with_reducible refine cT ?_ _ | focus ((with_reducible refine eJ ?_ _ _ _ ?_); rotate_left; omega) | with_reducible refine b4 ?_ ab)
theorem Es {h1 l1 h2 l2 gb hO n m : Int} (H1 : bu h1 l1 n) (cd : bu h2 l2 m) (uj : bu gb hO (wr (n - m))) (h : (decide (h1 < 0) = decide (h2 < 0)) ∨ (!decide (gb < 0) == decide (h1 < 0)) = false) : fits (n - m) = true ∧ bu gb hO (n - m) := by
  obtain ⟨b1, b2, rfl⟩ := H1;obtain ⟨ed, dD, rfl⟩ := cd;obtain ⟨Fs, Ft, e⟩ := uj;unfold wr at e;unfold fits bu;simp only [decide_eq_decide, Bool.not_eq_false', beq_iff_eq] at h;rw [cE];omega
theorem ae2 {h1 l1 h2 l2 gb hO n m : Int} (H1 : bu h1 l1 n) (cd : bu h2 l2 m) (uj : bu gb hO (wr (n - m))) (h : ¬ (decide (h1 < 0) = decide (h2 < 0))) (k : (!decide (gb < 0) == decide (h1 < 0)) = true) : fits (n - m) = false := by
  obtain ⟨b1, b2, rfl⟩ := H1;obtain ⟨ed, dD, rfl⟩ := cd;obtain ⟨Fs, Ft, e⟩ := uj;unfold wr at e;unfold fits;simp only [decide_eq_decide, si, beq_eq_false_iff_ne, ne_eq] at h k;rw [lp];omega
theorem JP (h1 l1 h2 l2 n m : Int) (w : World) (H1 : bu h1 l1 n) (cd : bu h2 l2 m) :
    Calls ai 221 #[.agg #[.int .i64 h1, .int .u64 l1], .agg #[.int .i64 h2, .int .u64 l2]] w (l3 (n - m) w) := by
  go_enter Tryz.func221, Tryz.ntmps221
  go_wp2_with (go_at_call 245; refine (zI _ _ _ _ _ _ _ H1 cd).mono ?_; rintro e aP ⟨gb, hO, rfl, hs, ab⟩; have yf := Below.cell ab (p := ⟨w.heap.size, 0, none⟩) (by (simp; omega)); have yy := Below.frozen ab (p := ⟨w.heap.size, 0, none⟩) (by (simp; omega)); have yg := Below.cell ab (p := ⟨w.heap.size, 1, none⟩) (by (simp; omega)); have yz := Below.frozen ab (p := ⟨w.heap.size, 1, none⟩) (by (simp; omega)); have BI := Below.cell ab (p := ⟨w.heap.size + 1, 0, none⟩) (by (simp; done)); have B9 := Below.frozen ab (p := ⟨w.heap.size + 1, 0, none⟩) (by (simp; done)); have BJ := Below.cell ab (p := ⟨w.heap.size + 1, 1, none⟩) (by (simp; done)); have Ca := Below.frozen ab (p := ⟨w.heap.size + 1, 1, none⟩) (by (simp; done)); have T2 := Below.cell ab (p := ⟨w.heap.size + 1 + 1, 0, none⟩) (by (simp; done)); have VO := Below.frozen ab (p := ⟨w.heap.size + 1 + 1, 0, none⟩) (by (simp; done)); have T3 := Below.cell ab (p := ⟨w.heap.size + 1 + 1, 1, none⟩) (by (simp; done)); have VP := Below.frozen ab (p := ⟨w.heap.size + 1 + 1, 1, none⟩) (by (simp; done)); have nD := Below.size ab; (try simp at nD); have xg : ¬ aP.heap.size = w.heap.size := (by omega); have zN : ¬ aP.heap.size = w.heap.size + 1 := (by omega); have aa6 : ¬ aP.heap.size = w.heap.size + 1 + 1 := (by omega))
  · refine bodyPost_ret (v := .tuple #[.agg #[.int .i64 0, .int .u64 0], .bool false]) (by simp only [results, Tryz.results221]; go_simp) rfl (vB (ae2 H1 cd hs ‹_› ‹_›) ?_)
    (repeat first | with_reducible exact Below.refl _ _ | with_reducible refine cT ?_ _ | focus ((with_reducible refine eJ ?_ _ _ _ ?_); rotate_left; omega) | with_reducible refine b4 ?_ ab)
  · refine bodyPost_ret (v := .tuple #[.agg #[.int .i64 gb, .int .u64 hO], .bool true]) (by simp only [results, Tryz.results221]; go_simp) rfl (sy (Es H1 cd hs (.inr ‹_›)).1 (Es H1 cd hs (.inr ‹_›)).2 ?_)
    (repeat first | with_reducible exact Below.refl _ _ | with_reducible refine cT ?_ _ | focus ((with_reducible refine eJ ?_ _ _ _ ?_); rotate_left; omega) | with_reducible refine b4 ?_ ab)
  · refine bodyPost_ret (v := .tuple #[.agg #[.int .i64 gb, .int .u64 hO], .bool true]) (by simp only [results, Tryz.results221]; go_simp) rfl (sy (Es H1 cd hs (.inl ‹_›)).1 (Es H1 cd hs (.inl ‹_›)).2 ?_)
    (repeat first | with_reducible exact Below.refl _ _ | with_reducible refine cT ?_ _ | focus ((with_reducible refine eJ ?_ _ _ _ ?_); rotate_left; omega) | with_reducible refine b4 ?_ ab)
end Go.Proofs.YtpochbhajmbfdaaGreat
namespace Go.Proofs.YtpochbhajmbfdaaGreat
open Go.RowKit
theorem adF {k : IntKind} {a b : Int} (h : a = b) : Ending.returned (.int k a) = .returned (.int k b) := by rw [h]
theorem P8 {a b : Bool} (h : a = b) : Ending.returned (.bool a) = .returned (.bool b) := by rw [h]
theorem Zc : bu (-9223372036854775808) 0 (-170141183460469231731687303715884105728) := by unfold bu; omega
theorem aa8 {n : Int} (H : fits n = true) : fits (0 - n) = !decide (n = -170141183460469231731687303715884105728) := by
  unfold fits at *;rw [cE] at H;rw [oL];simp only [cE, si, lp];omega
theorem JA (h1 l1 n : Int) (w : World) (H1 : bu h1 l1 n) :
    Calls ai 248 #[.agg #[.int .i64 h1, .int .u64 l1]] w (l3 (-n) w) := by
  have A5 := Lib.hid (aa8 H1.fits);have he := H1.fL Zc;rw [← Int.zero_sub]
  by_cases e : n = -170141183460469231731687303715884105728
  · have hd : fL h1 l1 (-9223372036854775808) 0 = true := by rw [he]; exact bG e
    have A4 : Hid (fits (0 - n) = false) := by have := A5.out; rw [bG e] at this; exact this
    clear he A5 e
    go_enter Tryz.func248, Tryz.ntmps248
    go_wp2
    refine bodyPost_ret (v := .tuple #[.agg #[.int .i64 0, .int .u64 0], .bool false]) (by simp only [results, Tryz.results248]; go_simp) rfl (vB A4.out ?_);(repeat first | with_reducible exact Below.refl _ _ | with_reducible refine cT ?_ _)
  · have hd : fL h1 l1 (-9223372036854775808) 0 = false := by rw [he]; exact b3 e
    have A4 : Hid (fits (0 - n) = true) := by have := A5.out; rw [b3 e] at this; exact this
    clear he A5 e
    go_enter Tryz.func248, Tryz.ntmps248
    go_wp2_with (go_at_call 245; refine (zI _ _ _ _ _ _ _ ou H1).mono ?_; rintro e aP ⟨gb, hO, rfl, hs, ab⟩; have yf := Below.cell ab (p := ⟨w.heap.size, 0, none⟩) (by (simp; omega)); have yy := Below.frozen ab (p := ⟨w.heap.size, 0, none⟩) (by (simp; omega)); have yg := Below.cell ab (p := ⟨w.heap.size, 1, none⟩) (by (simp; omega)); have yz := Below.frozen ab (p := ⟨w.heap.size, 1, none⟩) (by (simp; omega)); have BI := Below.cell ab (p := ⟨w.heap.size + 1, 0, none⟩) (by (simp; done)); have B9 := Below.frozen ab (p := ⟨w.heap.size + 1, 0, none⟩) (by (simp; done)); have BJ := Below.cell ab (p := ⟨w.heap.size + 1, 1, none⟩) (by (simp; done)); have Ca := Below.frozen ab (p := ⟨w.heap.size + 1, 1, none⟩) (by (simp; done)); have nD := Below.size ab; (try simp at nD); have xg : ¬ aP.heap.size = w.heap.size := (by omega); have zN : ¬ aP.heap.size = w.heap.size + 1 := (by omega))
    rw [Jg A4.out] at hs;refine bodyPost_ret (v := .tuple #[.agg #[.int .i64 gb, .int .u64 hO], .bool true]) (by simp only [results, Tryz.results248]; go_simp) rfl (sy A4.out hs ?_);(repeat first | with_reducible exact Below.refl _ _ | with_reducible refine cT ?_ _ | focus ((with_reducible refine eJ ?_ _ _ _ ?_); rotate_left; omega) | with_reducible refine b4 ?_ ab)
theorem Jp (h1 l1 h2 l2 n m : Int) (w : World) (H1 : bu h1 l1 n) (cd : bu h2 l2 m) :
    Calls ai 281 #[.agg #[.int .i64 h1, .int .u64 l1], .agg #[.int .i64 h2, .int .u64 l2]] w (gP (.int .i64 (fM n m)) w) := by
  go_enter Tryz.func281, Tryz.ntmps281
  go_wp2
  all_goals
    go_ret
    refine ⟨adF ?_, by (repeat first | with_reducible exact Below.refl _ _ | with_reducible refine cT ?_ _)⟩;simp only [H1.fL cd, cE, lp] at *;obtain ⟨b1, b2, aI⟩ := H1;obtain ⟨ed, dD, aO⟩ := cd;unfold fM
    repeat' split
    all_goals omega
theorem Bk (h1 l1 n : Int) (w : World) (H1 : bu h1 l1 n) :
    Calls ai 247 #[.agg #[.int .i64 h1, .int .u64 l1]] w (gP (.int .i64 (fM n 0)) w) := by
  go_enter Tryz.func247, Tryz.ntmps247
  go_wp2_with (go_at_call 281; refine (Jp _ _ _ _ _ _ _ H1 ou).mono ?_; rintro e aP ⟨rfl, ab⟩)
  go_ret
  exact ⟨rfl, by (repeat first | with_reducible exact Below.refl _ _ | with_reducible refine cT ?_ _ | with_reducible refine b4 ?_ ab)⟩
theorem abD (n : Int) (aH : -9223372036854775808 ≤ n) (h1 : n < 9223372036854775808) : bu (n / 9223372036854775808) (IntKind.u64.wrap n) n := by
  unfold bu;rw [IntKind.wrap_u64];omega
theorem rh (n : Int) (w : World) (aH : -9223372036854775808 ≤ n) (h1 : n < 9223372036854775808) :
    Calls ai 224 #[.int .i64 n] w (o3 n w) := by
  have hv := abD n aH h1
  go_enter Tryz.func224, Tryz.ntmps224
  go_wp2
  refine bodyPost_ret (v := .agg #[.int .i64 (n / 9223372036854775808), .int .u64 (IntKind.u64.wrap n)]) (by simp only [results, Tryz.results224]; go_simp) rfl ⟨_, _, rfl, hv, ?_⟩;(repeat first | with_reducible exact Below.refl _ _ | with_reducible refine cT ?_ _)
def small (n : Int) : Bool := decide (-9223372036854775808 ≤ n ∧ n < 9223372036854775808)
theorem QD (l : Int) : -9223372036854775808 ≤ wrap64 l ∧ wrap64 l < 9223372036854775808 := by unfold wrap64; omega
theorem aeL {h l n a b : Int} (H : bu h l n) (K : bu a b (wrap64 l)) (e : fL a b h l = true) : small n = true ∧ wrap64 l = n := by
  rw [K.fL H, cE] at e;have Vm := e; clear e;obtain ⟨b1, b2, rfl⟩ := H;obtain ⟨ed, dD, e⟩ := K;unfold wrap64 at *;unfold small;rw [cE];omega
theorem aeK {h l n a b : Int} (H : bu h l n) (K : bu a b (wrap64 l)) (e : fL a b h l = false) : small n = false := by
  rw [K.fL H, lp] at e;have Vm := e; clear e;obtain ⟨b1, b2, rfl⟩ := H;obtain ⟨ed, dD, e⟩ := K;unfold wrap64 at *;unfold small;rw [lp];omega
def vW (n : Int) (w : World) (e : Ending) (w' : World) : Prop := e = .returned (.tuple #[.int .i64 (if small n then n else 0), .bool (small n)]) ∧ Below w.heap.size w w'
theorem ad7 {n m : Int} {w w' : World} (h : small n = true) (e : m = n) (b : Below w.heap.size w w') : vW n w (.returned (.tuple #[.int .i64 m, .bool true])) w' := ⟨by rw [h, e]; rfl, b⟩
theorem ad6 {n : Int} {w w' : World} (h : small n = false) (b : Below w.heap.size w w') : vW n w (.returned (.tuple #[.int .i64 0, .bool false])) w' := ⟨by rw [h]; rfl, b⟩
theorem E7 (h1 l1 n : Int) (w : World) (H1 : bu h1 l1 n) :
    Calls ai 241 #[.agg #[.int .i64 h1, .int .u64 l1]] w (vW n w) := by
  go_enter Tryz.func241, Tryz.ntmps241
  go_wp2_with fail
  go_region_held3 (fun w' => w'.cell? ⟨w.heap.size, 0, none⟩ = some (.int .i64 h1) ∧ w'.cell? ⟨w.heap.size, 1, none⟩ = some (.int .u64 l1)) (go_keep)
    ((go_at_call 224; refine (rh _ _ (QD l1).1 (QD l1).2).mono ?_; rintro e aP ⟨gb, hO, rfl, hs, ab⟩; have yf := Below.cell ab (p := ⟨w.heap.size, 0, none⟩) (by (simp; done)); have yy := Below.frozen ab (p := ⟨w.heap.size, 0, none⟩) (by (simp; done)); have yg := Below.cell ab (p := ⟨w.heap.size, 1, none⟩) (by (simp; done)); have yz := Below.frozen ab (p := ⟨w.heap.size, 1, none⟩) (by (simp; done)); have nD := Below.size ab; (try simp at nD); have xg : ¬ aP.heap.size = w.heap.size := (by omega)))
  go_wp2
  · go_ret2
    exact ad6 (aeK H1 hs (by simpa using ‹(!fL gb hO h1 l1) = true›)) (by (repeat first | with_reducible exact Below.refl _ _ | with_reducible refine cT ?_ _ | with_reducible refine Below.drew ?_ | with_reducible refine b4 ?_ ab))
  · go_ret2
    have ah := aeL H1 hs (by simpa using ‹(!fL gb hO h1 l1) = false›);exact ad7 ah.1 ah.2 (by (repeat first | with_reducible exact Below.refl _ _ | with_reducible refine cT ?_ _ | with_reducible refine Below.drew ?_ | with_reducible refine b4 ?_ ab))
end Go.Proofs.YtpochbhajmbfdaaGreat
namespace Go.Proofs.YtpochbhajmbfdaaGreat.bA
structure cP (α : Type) where
 CD : α → α → α → Bool
 gz : α → α → List α → List α
 cut : α × α → α × α → Option α
 n : Nat
 P : Nat → α
 Q : Nat → α
 tU : Nat → Nat → Option α
 R : Nat
 gR : α → Prop
structure aW (α : Type) where
 ph : Nat
 I : Nat
 J : Nat
 T : Nat
 dirty : Bool
 hot : List α
 fnd : List α
 ch : List (List α × List Int)
variable {α : Type} [DecidableEq α]
def iN : List α → List (α × α)
 | p :: q :: W => (p, q) :: iN (q :: W)
 | _ => []
def bc (ch : List (List α × List Int)) : List (α × α) := ch.flatMap fun c => iN c.1
def c7 (V : List α) (j : Nat) (l : List α) : List α := V.take (j + 1) ++ l ++ V.drop (j + 1)
def eo (D : List Int) (j : Nat) (n : Nat) : List Int := D.take j ++ List.replicate (n + 1) (D.getD j 0 + 1) ++ D.drop (j + 1)
def gX (p q : α) : List α × List Int := if p = q then ([p], []) else ([p, q], [1])
def fl (s : aW α) (ph I J : Nat) : aW α := { s with ph := ph, I := I, J := J, T := 0, fnd := [] }
def dF (o : cP α) (s : aW α) (q : α) : aW α :=
 if q ∈ s.hot then s else if s.hot.length < o.R then { s with hot := s.hot ++ [q] } else fl s 5 0 0
def ub : List (List α × List Int) → Nat → Nat → Option (Nat × Nat)
 | [], _, _ => none
 | c :: cs, i, j => if j + 1 < c.1.length then some (i, j) else ub cs (i + 1) 0
def lX (s : aW α) : aW α :=
 match ub (s.ch.drop s.I) s.I s.J with
 | some CX => { s with I := CX.1, J := CX.2 }
 | none => if (bc s.ch).length < 2 then fl s 4 0 0 else fl s 3 0 1
def mX (s : aW α) : aW α := if s.dirty = true then lX (fl { s with dirty := false } 2 0 0) else fl s 4 0 0
def lj (o : cP α) (s : aW α) : aW α := lX (fl { s with ch := (List.range o.n).map fun k => gX (o.P k) (o.Q k) } 2 0 0)
def s9 (o : cP α) (s : aW α) : aW α :=
 if (dF o s (o.P s.I)).ph = 5 then dF o s (o.P s.I) else
 if (dF o (dF o s (o.P s.I)) (o.Q s.I)).ph = 5 then dF o (dF o s (o.P s.I)) (o.Q s.I) else
 if s.I + 1 < o.n then { dF o (dF o s (o.P s.I)) (o.Q s.I) with I := s.I + 1 } else
 if o.n < 2 then lj o (dF o (dF o s (o.P s.I)) (o.Q s.I)) else fl (dF o (dF o s (o.P s.I)) (o.Q s.I)) 1 0 1
def cn (many I J : Nat) : Nat × Nat := if many ≤ J + 1 then (I + 1, I + 2) else (I, J + 1)
def kj (o : cP α) (s : aW α) : Option α → aW α
 | some x => dF o s x
 | none => s
def tT (o : cP α) (s : aW α) : aW α :=
 if (kj o s (o.tU s.I s.J)).ph = 5 then kj o s (o.tU s.I s.J) else
 if (cn o.n s.I s.J).2 < o.n then { kj o s (o.tU s.I s.J) with I := (cn o.n s.I s.J).1, J := (cn o.n s.I s.J).2 } else lj o (kj o s (o.tU s.I s.J))
def iX (o : cP α) (p q x : α) : Bool := decide (x ≠ p) && decide (x ≠ q) && o.CD p q x
def lb (o : cP α) (p q x : α) (fnd : List α) : List α := if iX o p q x = true then fnd ++ [x] else fnd
def r5 (o : cP α) (s : aW α) (c : List α × List Int) (p q : α) (fnd : List α) : aW α :=
 if s.T + 1 < s.hot.length then { s with fnd := fnd, T := s.T + 1 } else
 if fnd = [] then lX { s with T := 0, fnd := [], J := s.J + 1 } else
 { s with T := 0, fnd := [], ch := s.ch.set s.I (c7 c.1 s.J (o.gz p q fnd), eo c.2 s.J fnd.length) }
def xw (o : cP α) (s : aW α) : aW α :=
 match s.ch[s.I]? with
 | some c =>
  match c.1[s.J]?, c.1[s.J + 1]?, s.hot[s.T]? with
  | some p, some q, some x => r5 o s c p q (lb o p q x s.fnd)
  | _, _, _ => s
 | none => s
def dL (o : cP α) (s : aW α) : Option α → aW α
 | some x => if (dF o s x).ph = 5 then dF o s x else { dF o s x with dirty := true }
 | none => s
def r7 (o : cP α) (s : aW α) : aW α :=
 match (bc s.ch)[s.I]?, (bc s.ch)[s.J]? with
 | some a, some b =>
  if (dL o s (o.cut a b)).ph = 5 then dL o s (o.cut a b) else
  if (cn (bc s.ch).length s.I s.J).2 < (bc s.ch).length then { dL o s (o.cut a b) with I := (cn (bc s.ch).length s.I s.J).1, J := (cn (bc s.ch).length s.I s.J).2 } else mX (dL o s (o.cut a b))
 | _, _ => s
def eN (o : cP α) (s : aW α) : aW α :=
 match s.ph with
 | 0 => s9 o s
 | 1 => tT o s
 | 2 => xw o s
 | 3 => r7 o s
 | _ => s
def rj (o : cP α) (hot : List α) (p q : α) : Prop := ∀ x ∈ hot, iX o p q x = false
structure kb (o : cP α) (ok : Nat → List α × List Int → Prop) : Prop where
 nodup : ∀ i c, ok i c → c.1.Nodup
 new : ∀ i, i < o.n → ok i (gX (o.P i) (o.Q i))
 split : ∀ (i : Nat) (c : List α × List Int) (j : Nat) (p q : α) (bm : List α), ok i c → c.1.length = c.2.length + 1 → c.1[j]? = some p → c.1[j + 1]? = some q → bm.Nodup → bm ≠ [] → (∀ x ∈ bm, iX o p q x = true) → ok i (c7 c.1 j (o.gz p q bm), eo c.2 j bm.length)
 gz : ∀ (p q : α) (bm : List α), (o.gz p q bm).Perm bm
 F9 : ∀ i, i < o.n → o.gR (o.P i) ∧ o.gR (o.Q i)
 L0 : ∀ i j x, i < j → j < o.n → o.tU i j = some x → o.gR x
 LY : ∀ (p q fH cA x : α), o.gR p → o.gR q → o.gR fH → o.gR cA → o.cut (p, q) (fH, cA) = some x → o.gR x
 cut : ∀ (hot : List α) (p q fH cA x : α), (∀ y ∈ hot, o.gR y) → p ≠ q → fH ≠ cA → p ∈ hot → q ∈ hot → fH ∈ hot → cA ∈ hot → rj o hot p q → rj o hot fH cA → o.cut (p, q) (fH, cA) = some x → x ∉ hot
structure jP (o : cP α) (s : aW α) : Prop where
 nd : s.hot.Nodup
 room : s.hot.length ≤ o.R
 gQ : ∀ x ∈ s.hot, o.gR x
structure AV (o : cP α) (ok : Nat → List α × List Int → Prop) (hot : List α) (i : Nat) (c : List α × List Int) : Prop where
 gR : ok i c
 len : c.1.length = c.2.length + 1
 head : c.1.head? = some (o.P i)
 last : c.1.getLast? = some (o.Q i)
 hot : ∀ v ∈ c.1, v ∈ hot
 deep : ∀ d ∈ c.2, 1 ≤ d ∧ d ≤ c.2.length
structure k4 (o : cP α) (ok : Nat → List α × List Int → Prop) (s : aW α) : Prop where
 len : s.ch.length = o.n
 h7 : ∀ i c, s.ch[i]? = some c → AV o ok s.hot i c
def AG (o : cP α) (hot : List α) (ch : List (List α × List Int)) (I J : Nat) : Prop :=
 ∀ i c j p q, ch[i]? = some c → c.1[j]? = some p → c.1[j + 1]? = some q → (i < I ∨ (i = I ∧ j < J)) → rj o hot p q
def JB (o : cP α) (ch : List (List α × List Int)) (I J : Nat) : Prop :=
 ∀ a b l m, (bc ch)[a]? = some l → (bc ch)[b]? = some m → a < b → (a < I ∨ (a = I ∧ b < J)) → o.cut l m = none
def AH (o : cP α) (s : aW α) : Prop := ∀ l ∈ bc s.ch, rj o s.hot l.1 l.2
def Bm (o : cP α) (s : aW α) (I : Nat) : Prop := ∀ i, i < I → o.P i ∈ s.hot ∧ o.Q i ∈ s.hot
structure Jx (o : cP α) (s : aW α) : Prop where
 ph : s.ph = 0
 dirty : s.dirty = false
 fnd : s.fnd = []
 ch : s.ch = []
 I : s.I < o.n
 J : s.J = 0
 T : s.T = 0
 Az : Bm o s s.I
structure Inv1 (o : cP α) (s : aW α) : Prop where
 ph : s.ph = 1
 dirty : s.dirty = false
 fnd : s.fnd = []
 ch : s.ch = []
 xS : s.I < s.J
 J : s.J < o.n
 T : s.T = 0
 Az : Bm o s o.n
structure Inv2 (o : cP α) (ok : Nat → List α × List Int → Prop) (s : aW α) : Prop where
 ph : s.ph = 2
 dirty : s.dirty = false
 laid : k4 o ok s
 link : ∃ c p q, s.ch[s.I]? = some c ∧ c.1[s.J]? = some p ∧ c.1[s.J + 1]? = some q ∧ s.fnd = (s.hot.take s.T).filter (iX o p q)
 T : s.T < s.hot.length
 Bs : AG o s.hot s.ch s.I s.J
structure EV (o : cP α) (ok : Nat → List α × List Int → Prop) (s : aW α) : Prop where
 ph : s.ph = 3
 laid : k4 o ok s
 xS : s.I < s.J
 J : s.J < (bc s.ch).length
 T : s.T = 0
 fnd : s.fnd = []
 clean : s.dirty = false → AH o s ∧ JB o s.ch s.I s.J
structure A7 (o : cP α) (ok : Nat → List α × List Int → Prop) (s : aW α) : Prop where
 ph : s.ph = 4
 dirty : s.dirty = false
 laid : k4 o ok s
 I : s.I = 0
 J : s.J = 0
 T : s.T = 0
 fnd : s.fnd = []
 aiM : AH o s
 aiw : JB o s.ch (bc s.ch).length 0
structure A8 (o : cP α) (ok : Nat → List α × List Int → Prop) (s : aW α) : Prop where
 ph : s.ph = 5
 I : s.I = 0
 J : s.J = 0
 T : s.T = 0
 fnd : s.fnd = []
 full : s.hot.length = o.R
 ch : (s.ch = [] ∧ s.dirty = false) ∨ k4 o ok s
def hP (o : cP α) (ok : Nat → List α × List Int → Prop) (s : aW α) : Prop := jP o s ∧ (Jx o s ∨ Inv1 o s ∨ Inv2 o ok s ∨ EV o ok s ∨ A7 o ok s ∨ A8 o ok s)
def dO (o : cP α) : Nat := 2 * (o.n * o.R) * o.R + o.n * o.R * (o.n * o.R) + 1
def nJ (s : aW α) : Nat := (bc (s.ch.take s.I)).length + s.J
def eI (o : cP α) (s : aW α) : Nat :=
 match s.ph with
 | 0 => (o.n - s.I) + o.n * o.n + (o.R + 1) * dO o
 | 1 => ((o.n - s.I) * o.n - s.J) + (o.R + 1) * dO o
 | 2 => (o.R - s.hot.length) * dO o + (2 * (o.n * o.R) - nJ s - (bc s.ch).length) * o.R + (s.hot.length - s.T) + o.n * o.R * (o.n * o.R)
 | 3 => (o.R - s.hot.length) * dO o + (if s.dirty = true then dO o else 0) + (((bc s.ch).length - s.I) * (bc s.ch).length - s.J)
 | _ => 0
theorem Ic : ∀ {l m : List α}, l.Nodup → (∀ x ∈ l, x ∈ m) → l.length ≤ m.length
 | [], _, _, _ => eF _
 | a :: l, m, h, hs => by
  have ak := List.nodup_cons.1 h;have aK := hs a (lq ..);have := Ic (l := l) (m := m.erase a) ak.2 fun x aa => (List.mem_erase_of_ne (fun e => ak.1 (by rw [← e]; exact aa))).2 (hs x (pI _ aa));rw [List.length_erase_of_mem aK] at this;have := List.length_pos_of_mem aK;simp only [lr]; omega
theorem tE : ∀ V : List α, (iN V).length = V.length - 1
 | [] => rfl
 | [_] => rfl
 | p :: q :: W => by
  have := tE (q :: W);simp only [iN, lr] at this ⊢; omega
theorem NQ : ∀ {V : List α} {l : α × α}, l ∈ iN V → ∃ j, V[j]? = some l.1 ∧ V[j + 1]? = some l.2
 | p :: q :: W, l, h => by
  rcases gM.1 (show l ∈ (p, q) :: iN (q :: W) from h) with rfl | h
  ·exact ⟨0, rfl, rfl⟩
  ·obtain ⟨j, h1, h2⟩ := NQ h;exact ⟨j + 1, h1, h2⟩
theorem Df (A B : List (List α × List Int)) : bc (A ++ B) = bc A ++ bc B := List.flatMap_append ..
theorem Dg (c : List α × List Int) (B : List (List α × List Int)) : bc (c :: B) = iN c.1 ++ bc B := rfl
theorem HM {ch : List (List α × List Int)} {l : α × α} (h : l ∈ bc ch) : ∃ (i : Nat) (c : List α × List Int) (j : Nat), ch[i]? = some c ∧ c.1[j]? = some l.1 ∧ c.1[j + 1]? = some l.2 := by
 obtain ⟨c, ak, ao⟩ := List.mem_flatMap.1 h;obtain ⟨i, hi⟩ := jZ ak;obtain ⟨j, h1, h2⟩ := NQ ao;exact ⟨i, c, j, hi, h1, h2⟩
theorem Dh {m : Nat} : ∀ {ch : List (List α × List Int)}, (∀ c ∈ ch, c.1.length ≤ m) → (bc ch).length ≤ ch.length * m
 | [], _ => eF _
 | c :: B, h => by
  have cw := Dh (ch := B) fun c ak => h c (pI _ ak);have h1 := h c (lq ..);rw [Dg, cS, tE, lr, j0, Nat.one_mul]; omega
theorem Wu {β : Type} {l : List β} {i : Nat} {c : β} (h : l[i]? = some c) : l = l.take i ++ c :: l.drop (i + 1) ∧ (l.take i).length = i := by
 obtain ⟨ao, e⟩ := bX.1 h;refine ⟨?_, by rw [eh]; omega⟩
 conv => lhs; rw [← kq i l, mV ao, e]
end Go.Proofs.YtpochbhajmbfdaaGreat.bA
namespace Go.Proofs.YtpochbhajmbfdaaGreat.bA
variable {α : Type} [DecidableEq α]
theorem Qv : ∀ (cs : List (List α × List Int)) (i j ft eP : Nat), ub cs i j = some (ft, eP) → (∀ c, cs[0]? = some c → j ≤ (iN c.1).length) →
  ∃ (k : Nat) (c : List α × List Int), ft = i + k ∧ cs[k]? = some c ∧ eP + 1 < c.1.length ∧ j ≤ (bc (cs.take k)).length + eP ∧ (∀ (m : Nat) (d : List α × List Int) (l : Nat), cs[m]? = some d → l + 1 < d.1.length → (m < k ∨ (m = k ∧ l < eP)) → m = 0 ∧ l < j)
 | [], i, j, ft, eP, h, _ => by cases h
 | c :: cs, i, j, ft, eP, h, ae => by
  have aH : j ≤ (iN c.1).length := ae c rfl;rw [tE] at aH;unfold ub at h
  split at h
  ·rename_i ak;cases h;refine ⟨0, c, rfl, rfl, ak, by simp, fun m d l _ _ a6 => ?_⟩;omega
  ·rename_i ak;obtain ⟨k, c', aI, aO, cD, eD, k9⟩ := Qv cs (i + 1) 0 ft eP h (fun _ _ => eF _);refine ⟨k + 1, c', by omega, aO, cD, ?_, fun m d l hd ao a6 => ?_⟩
   ·rw [List.take_succ_cons, Dg, cS, tE]; omega
   ·match m, hd, a6 with
    | 0, hd, a6 =>
     simp only [sj, hK] at hd;subst hd;exact ⟨rfl, by omega⟩
    | m + 1, hd, a6 =>
     have := k9 m d l hd ao (by omega);omega
theorem Qu : ∀ (cs : List (List α × List Int)) (i j : Nat), ub cs i j = none → ∀ (m : Nat) (d : List α × List Int) (l : Nat), cs[m]? = some d → l + 1 < d.1.length → m = 0 ∧ l < j
 | [], _, _, _, m, d, l, hd, _ => by simp at hd
 | c :: cs, i, j, h, m, d, l, hd, ao => by
  unfold ub at h
  split at h
  ·cases h
  ·rename_i ak
   match m, hd with
   | 0, hd =>
    simp only [sj, hK] at hd;subst hd;exact ⟨rfl, by omega⟩
   | m + 1, hd =>
    have := Qu cs (i + 1) 0 h m d l hd ao;omega
theorem k4.many {o : cP α} {ok : Nat → List α × List Int → Prop} (af : kb o ok) {s : aW α} (ab : jP o s) (h : k4 o ok s) : (bc s.ch).length ≤ o.n * o.R := by
 rw [← h.len];refine Dh fun c ak => ?_;obtain ⟨i, hi⟩ := jZ ak;have a6 := h.h7 i c hi;exact kS (Ic (af.nodup _ _ a6.gR) a6.hot) ab.room
theorem TB {o : cP α} {s : aW α} {I J : Nat} (aK : AG o s.hot s.ch I J) (aE : ∀ (i : Nat) (d : List α × List Int) (l : Nat), s.ch[i]? = some d → l + 1 < d.1.length → i < I ∨ (i = I ∧ l < J)) : AH o s := fun l ao => by
 obtain ⟨i, c, j, hi, h1, h2⟩ := HM ao;have := (bX.1 h2).1;exact aK i c j l.1 l.2 hi h1 h2 (aE i c j hi this)
theorem IR {o : cP α} {ok : Nat → List α × List Int → Prop} (af : kb o ok) {s : aW α} (ab : jP o s) (ao : k4 o ok s) (gU : s.ph = 2) (hd : s.dirty = false) (dZ : s.T = 0) (ar : s.fnd = []) (a6 : 0 < s.hot.length) (aK : AG o s.hot s.ch s.I s.J) (ae : ∀ c, s.ch[s.I]? = some c → s.J ≤ (iN c.1).length) :
  hP o ok (lX s) ∧ eI o (lX s) ≤ (o.R - s.hot.length) * dO o + (2 * (o.n * o.R) - nJ s - (bc s.ch).length) * o.R + s.hot.length + o.n * o.R * (o.n * o.R) := by
 have hm := ao.many af ab;unfold lX;cases h : ub (s.ch.drop s.I) s.I s.J with
 | some CX =>
  obtain ⟨ft, eP⟩ := CX;obtain ⟨k, c, aI, aO, cD, eD, k9⟩ := Qv _ _ _ _ _ h (fun c ak => ae c (by rw [gl] at ak; exact ak));rw [gl] at aO;rw [← aI] at aO;show hP o ok ({ s with I := ft, J := eP } : aW α) ∧ eI o ({ s with I := ft, J := eP } : aW α) ≤ _;have wV : eP < c.1.length := by omega
  refine ⟨⟨⟨ab.nd, ab.room, ab.gQ⟩, .inr (.inr (.inl ⟨gU, hd, ⟨ao.len, ao.h7⟩, ⟨c, c.1[eP], c.1[eP + 1], aO, cp wV, cp cD, ?_⟩, ?_, ?_⟩))⟩, ?_⟩
  ·show s.fnd = (s.hot.take s.T).filter _;rw [dZ, ar]; rfl
  ·show s.T < s.hot.length;omega
  ·show AG o s.hot s.ch ft eP;intro i d j p q hi hp al gu;have CF := (bX.1 al).1;refine aK i d j p q hi hp al ?_
   by_cases dd : i < s.I
   ·exact .inl dd
   ·have := k9 (i - s.I) d j (by rw [gl, show s.I + (i - s.I) = i by omega]; exact hi) CF (by omega);omega
  ·have hp : nJ s ≤ nJ ({ s with I := ft, J := eP } : aW α) := by
    unfold nJ;show (bc (s.ch.take s.I)).length + s.J ≤ (bc (s.ch.take ft)).length + eP;rw [aI, List.take_add, Df, cS]; omega
   show eI o ({ s with I := ft, J := eP } : aW α) ≤ _;unfold eI;show (match s.ph with | 0 => _ | 1 => _ | 2 => _ | 3 => _ | _ => _) ≤ _;rw [gU];show (o.R - s.hot.length) * dO o + (2 * (o.n * o.R) - nJ ({ s with I := ft, J := eP } : aW α) - (bc s.ch).length) * o.R + (s.hot.length - s.T) + o.n * o.R * (o.n * o.R) ≤ _;generalize nJ ({ s with I := ft, J := eP } : aW α) = Sf at *;have := j1 o.R (show 2 * (o.n * o.R) - Sf - (bc s.ch).length ≤ 2 * (o.n * o.R) - nJ s - (bc s.ch).length by omega);omega
 | none =>
  have dc : AH o s := TB aK fun i d l hi hD => by
   by_cases dd : i < s.I
   ·exact .inl dd
   ·have := Qu _ _ _ h (i - s.I) d l (by rw [gl, show s.I + (i - s.I) = i by omega]; exact hi) hD;omega
  show hP o ok (if (bc s.ch).length < 2 then fl s 4 0 0 else fl s 3 0 1) ∧ eI o (if (bc s.ch).length < 2 then fl s 4 0 0 else fl s 3 0 1) ≤ _
  split
  ·rename_i h2;refine ⟨⟨⟨ab.nd, ab.room, ab.gQ⟩, .inr (.inr (.inr (.inr (.inl ⟨rfl, hd, ⟨ao.len, ao.h7⟩, rfl, rfl, rfl, rfl, dc, ?_⟩))))⟩, eF _⟩;intro a b l m ap aL mK _;have := (bX.1 aL).1;have : b < (bc s.ch).length := this;omega
  ·rename_i h2;refine ⟨⟨⟨ab.nd, ab.room, ab.gQ⟩, .inr (.inr (.inr (.inl ⟨rfl, ⟨ao.len, ao.h7⟩, Nat.zero_lt_one, show 1 < (bc s.ch).length by omega, rfl, rfl, fun _ => ⟨dc, ?_⟩⟩)))⟩, ?_⟩
   ·intro a b l m ap aL mK GJ;have : a < 0 ∨ (a = 0 ∧ b < 1) := GJ;omega
   ·show (o.R - s.hot.length) * dO o + (if s.dirty = true then dO o else 0) + (((bc s.ch).length - 0) * (bc s.ch).length - 1) ≤ _;rw [hd, if_neg (by decide), Nat.sub_zero];have := Nat.mul_le_mul hm hm;omega
theorem CB (o : cP α) {s : aW α} (ab : jP o s) (q : α) (al : o.gR q) : (dF o s q = fl s 5 0 0 ∧ s.hot.length = o.R) ∨
  ∃ hot', dF o s q = { s with hot := hot' } ∧ jP o ({ s with hot := hot' } : aW α) ∧ q ∈ hot' ∧ (∀ x ∈ s.hot, x ∈ hot') ∧ s.hot.length ≤ hot'.length ∧ (q ∉ s.hot → hot'.length = s.hot.length + 1) ∧ (q ∈ s.hot → hot' = s.hot) := by
 have := ab.room;unfold dF
 by_cases h : q ∈ s.hot
 ·rw [if_pos h];exact .inr ⟨s.hot, rfl, ab, h, fun x aa => aa, dW _, fun aF => absurd h aF, fun _ => rfl⟩
 ·rw [if_neg h]
  by_cases h2 : s.hot.length < o.R
  ·rw [if_pos h2];refine .inr ⟨s.hot ++ [q], rfl, ⟨?_, ?_, fun x aa => (kT.1 aa).elim (ab.gQ x) fun h => by rw [lW.1 h]; exact al⟩, by simp, fun x aa => List.mem_append_left _ aa, by simp, fun _ => by simp, fun aF => absurd aF h⟩
   ·show (s.hot ++ [q]).Nodup;refine List.nodup_append.2 ⟨ab.nd, by simp, fun a aK b df => ?_⟩;rw [lW] at df;subst df;exact fun e => h (by rw [← e]; exact aK)
   ·show (s.hot ++ [q]).length ≤ o.R;rw [cS, List.length_singleton]; omega
  ·rw [if_neg h2];exact .inl ⟨rfl, by omega⟩
theorem Uw {o : cP α} (aE : 0 < o.n) (aq : 0 < o.R) : o.R ≤ dO o := by
 have h1 : o.R ≤ o.n * o.R := Nat.le_mul_of_pos_left _ aE;have h2 : o.n * o.R ≤ o.n * o.R * o.R := Nat.le_mul_of_pos_right _ aq;unfold dO;rw [Nat.mul_assoc 2];omega
theorem NJ {o : cP α} {ok : Nat → List α × List Int → Prop} (af : kb o ok) {s : aW α} (ab : jP o s) (hd : s.dirty = false) (aE : 0 < o.n) (hw : Bm o s o.n) : hP o ok (lj o s) ∧ eI o (lj o s) < (o.R + 1) * dO o := by
 have a6 : 0 < s.hot.length := List.length_pos_of_mem (hw 0 aE).1;have key := IR (s := fl { s with ch := (List.range o.n).map fun k => gX (o.P k) (o.Q k) } 2 0 0) af ⟨ab.nd, ab.room, ab.gQ⟩ ⟨?_, ?_⟩ rfl hd rfl rfl a6 ?_ ?_
 ·refine ⟨key.1, Nat.lt_of_le_of_lt key.2 ?_⟩;show (o.R - s.hot.length) * dO o + (2 * (o.n * o.R) - (0 + 0) - (bc ((List.range o.n).map fun k => gX (o.P k) (o.Q k))).length) * o.R + s.hot.length + o.n * o.R * (o.n * o.R) < (o.R + 1) * dO o;generalize (bc ((List.range o.n).map fun k => gX (o.P k) (o.Q k))).length = L;have aq := ab.room;have ak := Uw aE (show 0 < o.R by omega);have h1 := j1 (dO o) (show o.R - s.hot.length ≤ o.R - 1 by omega);have h2 := j1 o.R (show 2 * (o.n * o.R) - (0 + 0) - L ≤ 2 * (o.n * o.R) by omega);have aI : (o.R + 1) * dO o = (o.R - 1) * dO o + 2 * dO o := by rw [← j0]; congr 1; omega
  have aO : dO o = 2 * (o.n * o.R) * o.R + o.n * o.R * (o.n * o.R) + 1 := rfl;omega
 ·show ((List.range o.n).map fun k => gX (o.P k) (o.Q k)).length = o.n;simp
 ·intro i c hi;have hi : ((List.range o.n).map fun k => gX (o.P k) (o.Q k))[i]? = some c := hi;have lg : i < o.n := by have := (bX.1 hi).1; simpa using this
  rw [eG, List.getElem?_range lg] at hi;have hi : gX (o.P i) (o.Q i) = c := ms hi;have aw := af.new i lg;subst hi;refine ⟨aw, ?_, ?_, ?_, fun v hv => ?_, fun d hd => ?_⟩
  ·unfold gX; split <;> rfl
  ·unfold gX; split <;> rfl
  ·unfold gX
   split
   ·rename_i e; rw [e]; rfl
   ·rfl
  ·show v ∈ s.hot;unfold gX at hv
   split at hv
   ·rw [lW.1 hv]; exact (hw i lg).1
   ·rcases gM.1 hv with rfl | hv
    ·exact (hw i lg).1
    ·rw [lW.1 hv]; exact (hw i lg).2
  ·unfold gX at hd ⊢
   split at hd
   ·cases hd
   ·rename_i e;rw [if_neg e];rw [lW.1 hd];exact ⟨oM 1, oM 1⟩
 ·intro i c j p q _ _ _ gu;have : i < 0 ∨ (i = 0 ∧ j < 0) := gu;omega
 ·intro c _;exact eF _
theorem C2 {o : cP α} {ok : Nat → List α × List Int → Prop} {s : aW α} (ab : jP o s) (ar : s.hot.length = o.R) (ak : (s.ch = [] ∧ s.dirty = false) ∨ k4 o ok s) : hP o ok (fl s 5 0 0) ∧ eI o (fl s 5 0 0) = 0 :=
 ⟨⟨⟨ab.nd, ab.room, ab.gQ⟩, .inr (.inr (.inr (.inr (.inr ⟨rfl, rfl, rfl, rfl, rfl, ar, ak.imp id fun h => ⟨h.len, h.h7⟩⟩))))⟩, rfl⟩
theorem Vx {o : cP α} {ok : Nat → List α × List Int → Prop} (af : kb o ok) {s : aW α} (ab : jP o s) (h : Jx o s) : hP o ok (s9 o s) ∧ eI o (s9 o s) < eI o s := by
 have br := h.I;have u5 : eI o s = (o.n - s.I) + o.n * o.n + (o.R + 1) * dO o := by simp only [eI, h.ph]
 rw [u5];unfold s9;rcases CB o ab (o.P s.I) (af.F9 _ br).1 with ⟨aI, f1⟩ | ⟨h1, aI, b1, m1, s1, l1, _, _⟩
 ·rw [aI, if_pos (show (fl s 5 0 0).ph = 5 from rfl)];have := C2 (ok := ok) ab f1 (.inl ⟨h.ch, h.dirty⟩);exact ⟨this.1, by rw [this.2]; omega⟩
 ·rw [aI, if_neg (show ({ s with hot := h1 } : aW α).ph ≠ 5 by show s.ph ≠ 5; rw [h.ph]; decide)];rcases CB o b1 (o.Q s.I) (af.F9 _ br).2 with ⟨aO, f2⟩ | ⟨h2, aO, b2, m2, s2, l2, _, _⟩
  ·rw [aO, if_pos (show (fl ({ s with hot := h1 } : aW α) 5 0 0).ph = 5 from rfl)];have := C2 (ok := ok) b1 f2 (.inl ⟨h.ch, h.dirty⟩);exact ⟨this.1, by rw [this.2]; omega⟩
  ·have s2 : ∀ x ∈ h1, x ∈ h2 := s2;rw [aO, if_neg (show ({ s with hot := h2 } : aW α).ph ≠ 5 by show s.ph ≠ 5; rw [h.ph]; decide)]
   have hw : ∀ i, i < s.I + 1 → o.P i ∈ h2 ∧ o.Q i ∈ h2 := fun i hi => by
    rcases iQ i s.I with g | g
    ·exact ⟨s2 _ (s1 _ (h.Az i g).1), s2 _ (s1 _ (h.Az i g).2)⟩
    ·rw [show i = s.I by omega]; exact ⟨s2 _ m1, m2⟩
   split
   ·rename_i bj;refine ⟨⟨⟨b2.nd, b2.room, b2.gQ⟩, .inl ⟨h.ph, h.dirty, h.fnd, h.ch, bj, h.J, h.T, hw⟩⟩, ?_⟩;show eI o ({ s with hot := h2, I := s.I + 1 } : aW α) < _;unfold eI;show (match s.ph with | 0 => (o.n - (s.I + 1)) + o.n * o.n + (o.R + 1) * dO o | 1 => _ | 2 => _ | 3 => _ | _ => _) < _;rw [h.ph];show (o.n - (s.I + 1)) + o.n * o.n + (o.R + 1) * dO o < _;omega
   ·rename_i lf;have aE : o.n = s.I + 1 := by omega
    split
    ·have := NJ af (s := ({ s with hot := h2 } : aW α)) ⟨b2.nd, b2.room, b2.gQ⟩ h.dirty (by omega) (by rw [aE]; exact hw);exact ⟨this.1, tX this.2 (by omega)⟩
    ·rename_i ag5;refine ⟨⟨⟨b2.nd, b2.room, b2.gQ⟩, .inr (.inl ⟨rfl, h.dirty, rfl, h.ch, Nat.zero_lt_one, show 1 < o.n by omega, rfl, by rw [aE]; exact hw⟩)⟩, ?_⟩;show ((o.n - 0) * o.n - 1) + (o.R + 1) * dO o < _;rw [Nat.sub_zero]; omega
theorem OS {I J L : Nat} (pr : I < J) (kg : J < L) : (L - I) * L - J ≥ 1 ∧ ((cn L I J).2 < L → (cn L I J).1 < (cn L I J).2 ∧ (L - (cn L I J).1) * L - (cn L I J).2 < (L - I) * L - J) := by
 have e : (L - I) * L = (L - I - 1) * L + L := by rw [← Nat.succ_mul]; congr 1; omega
 refine ⟨by omega, fun h => ?_⟩;unfold cn at h ⊢
 by_cases ao : L ≤ J + 1
 ·rw [if_pos ao] at h ⊢;refine ⟨by show I + 1 < I + 2; omega, ?_⟩;show (L - (I + 1)) * L - (I + 2) < _;rw [show L - (I + 1) = L - I - 1 by omega]; omega
 ·rw [if_neg ao] at h ⊢;refine ⟨by show I < J + 1; omega, ?_⟩;show (L - I) * L - (J + 1) < _;omega
theorem abu {I J L a b : Nat} (pr : I < J) (kg : J < L) (mK : a < b) (ab : b < L) (h : a < (cn L I J).1 ∨ (a = (cn L I J).1 ∧ b < (cn L I J).2)) : (a < I ∨ (a = I ∧ b < J)) ∨ (a = I ∧ b = J) := by
 unfold cn at h
 split at h
 ·have h : a < I + 1 ∨ (a = I + 1 ∧ b < I + 2) := h;omega
 ·have h : a < I ∨ (a = I ∧ b < J + 1) := h;omega
theorem abv {I J L : Nat} (pr : I < J) (kg : J < L) (h : ¬ (cn L I J).2 < L) {a b : Nat} (mK : a < b) (ab : b < L) : (a < I ∨ (a = I ∧ b < J)) ∨ (a = I ∧ b = J) := by
 unfold cn at h
 split at h
 ·have h : ¬ I + 2 < L := h;omega
 ·have h : ¬ J + 1 < L := h;omega
theorem acY {o : cP α} {ok : Nat → List α × List Int → Prop} (af : kb o ok) {s : aW α} (ab : jP o s) (h : Inv1 o s) : hP o ok (tT o s) ∧ eI o (tT o s) < eI o s := by
 have pr := h.xS;have kg := h.J;have u5 : eI o s = ((o.n - s.I) * o.n - s.J) + (o.R + 1) * dO o := by simp only [eI, h.ph]
 rw [u5];obtain ⟨ig, jA⟩ := OS pr kg
 have main : ∀ h2, jP o ({ s with hot := h2 } : aW α) → (∀ x ∈ s.hot, x ∈ h2) → hP o ok (if ({ s with hot := h2 } : aW α).ph = 5 then ({ s with hot := h2 } : aW α) else if (cn o.n s.I s.J).2 < o.n then { ({ s with hot := h2 } : aW α) with I := (cn o.n s.I s.J).1, J := (cn o.n s.I s.J).2 } else lj o ({ s with hot := h2 } : aW α)) ∧ eI o (if ({ s with hot := h2 } : aW α).ph = 5 then ({ s with hot := h2 } : aW α) else if (cn o.n s.I s.J).2 < o.n then { ({ s with hot := h2 } : aW α) with I := (cn o.n s.I s.J).1, J := (cn o.n s.I s.J).2 } else lj o ({ s with hot := h2 } : aW α)) < ((o.n - s.I) * o.n - s.J) + (o.R + 1) * dO o := fun h2 b2 s2 => by
  rw [if_neg (show ({ s with hot := h2 } : aW α).ph ≠ 5 by show s.ph ≠ 5; rw [h.ph]; decide)];have hw : Bm o ({ s with hot := h2 } : aW α) o.n := fun i hi => ⟨s2 _ (h.Az i hi).1, s2 _ (h.Az i hi).2⟩
  split
  ·rename_i bj;obtain ⟨r8, r9⟩ := jA bj;refine ⟨⟨⟨b2.nd, b2.room, b2.gQ⟩, .inr (.inl ⟨h.ph, h.dirty, h.fnd, h.ch, r8, bj, h.T, hw⟩)⟩, ?_⟩;unfold eI;show (match s.ph with | 0 => _ | 1 => ((o.n - (cn o.n s.I s.J).1) * o.n - (cn o.n s.I s.J).2) + (o.R + 1) * dO o | 2 => _ | 3 => _ | _ => _) < _;rw [h.ph];show ((o.n - (cn o.n s.I s.J).1) * o.n - (cn o.n s.I s.J).2) + (o.R + 1) * dO o < _;omega
  ·have := NJ af (s := ({ s with hot := h2 } : aW α)) ⟨b2.nd, b2.room, b2.gQ⟩ h.dirty (by omega) hw;exact ⟨this.1, tX this.2 (by omega)⟩
 unfold tT;cases hp : o.tU s.I s.J with
 | none => exact main s.hot ab fun x aa => aa
 | some x =>
  show hP o ok (if (dF o s x).ph = 5 then _ else if _ then { dF o s x with I := _, J := _ } else lj o (dF o s x)) ∧ eI o (if (dF o s x).ph = 5 then _ else if _ then { dF o s x with I := _, J := _ } else lj o (dF o s x)) < _;rcases CB o ab x (af.L0 _ _ x pr kg hp) with ⟨aI, f1⟩ | ⟨h2, aI, b2, m2, s2, _⟩
  ·rw [show kj o s (some x) = dF o s x from rfl, aI, if_pos (show (fl s 5 0 0).ph = 5 from rfl)];have := C2 (ok := ok) ab f1 (.inl ⟨h.ch, h.dirty⟩);exact ⟨this.1, by rw [this.2]; omega⟩
  ·rw [show kj o s (some x) = dF o s x from rfl, aI];exact main h2 b2 s2
end Go.Proofs.YtpochbhajmbfdaaGreat.bA
namespace Go.Proofs.YtpochbhajmbfdaaGreat.bA
variable {α : Type} [DecidableEq α]
theorem ym {V : List α} {j : Nat} {l : List α} : (c7 V j l).length = V.length + l.length := by
  unfold c7;rw [cS, cS, eh, hZ]; omega
theorem FI {D : List Int} {j n : Nat} (h : j < D.length) : (eo D j n).length = D.length + n := by
  unfold eo;rw [cS, cS, eh, hZ, List.length_replicate]; omega
theorem K2 {V : List α} {j : Nat} {l : List α} {x : α} (h : x ∈ c7 V j l) : x ∈ V ∨ x ∈ l := by
  unfold c7 at h;rcases kT.1 h with h | h
  · rcases kT.1 h with h | h
    · exact .inl (oN h)
    · exact .inr h
  · exact .inl (mW h)
theorem UE {V : List α} {j : Nat} {l : List α} (h : V ≠ []) : (c7 V j l).head? = V.head? := by
  match V, h with
  | v :: W, _ => rfl
theorem UF {V : List α} {j : Nat} {l : List α} (h : j + 1 < V.length) : (c7 V j l).getLast? = V.getLast? := by
  unfold c7;rw [List.getLast?_append, List.getLast?_drop, if_neg (by omega)];cases pt : V.getLast? with
  | none => rw [List.getLast?_eq_none_iff.1 pt] at h; simp at h
  | some z => rfl
theorem K1 {V : List α} {j i : Nat} {l : List α} (h : i < j + 1) (ae : j + 1 ≤ V.length) : (c7 V j l)[i]? = V[i]? := by
  unfold c7;rw [iq, fY (by rw [eh]; omega), fN h]
theorem UG {V : List α} {j : Nat} {l : List α} (h : j + 1 < V.length) : ∃ x, (c7 V j l)[j + 1]? = some x := by
  have : j + 1 < (c7 V j l).length := by rw [ym]; omega
  exact ⟨_, cp this⟩
theorem UC {D : List Int} {j n : Nat} {d : Int} (ae : j < D.length) (h : d ∈ eo D j n) : ∃ e ∈ D, d = e ∨ d = e + 1 := by
  unfold eo at h;rcases kT.1 h with h | h
  · rcases kT.1 h with h | h
    · exact ⟨d, oN h, .inl rfl⟩
    · refine ⟨D[j], List.getElem_mem ae, .inr ?_⟩
      rw [List.eq_of_mem_replicate h, xq, cp ae]; rfl
  · exact ⟨d, mW h, .inl rfl⟩
theorem AV.cut {o : cP α} {ok : Nat → List α × List Int → Prop} (af : kb o ok) {hot : List α} {i j : Nat} {c : List α × List Int} {p q : α} {bm : List α} (h : AV o ok hot i c) (hp : c.1[j]? = some p) (al : c.1[j + 1]? = some q) (aE : bm.Nodup) (ar : ∀ x ∈ bm, x ∈ hot ∧ iX o p q x = true) (cq : bm ≠ []) : AV o ok hot i (c7 c.1 j (o.gz p q bm), eo c.2 j bm.length) := by
  have hs := af.gz p q bm;have ae : j + 1 < c.1.length := (bX.1 al).1;have ao := h.len;have CE : j < c.2.length := by omega
  have ahm : 0 < bm.length := List.length_pos_iff.2 cq;refine ⟨af.split _ _ _ _ _ _ h.gR h.len hp al aE cq (fun x aa => (ar x aa).2), ?_, ?_, ?_, fun v hv => ?_, fun d hd => ?_⟩
  · show (c7 c.1 j (o.gz p q bm)).length = (eo c.2 j bm.length).length + 1
    rw [ym, FI CE, hs.length_eq]; omega
  · rw [← h.head]; exact UE (fun e => by rw [e] at ae; simp at ae)
  · rw [← h.last]; exact UF ae
  · rcases K2 hv with hv | hv
    · exact h.hot v hv
    · exact (ar v (hs.mem_iff.1 hv)).1
  · show 1 ≤ d ∧ d ≤ ((eo c.2 j bm.length).length : Int)
    obtain ⟨e, he, lL⟩ := UC CE hd;have := h.deep e he;rw [FI CE]; omega
theorem LI {f : α → Bool} {l : List α} {n : Nat} {x : α} (h : l[n]? = some x) : (l.take (n + 1)).filter f = if f x = true then (l.take n).filter f ++ [x] else (l.take n).filter f := by
  obtain ⟨ao, e⟩ := bX.1 h;rw [oO ao, e, List.filter_append];cases aa : f x with
  | true => rw [if_pos rfl, List.filter_cons_of_pos aa]; rfl
  | false => rw [if_neg (by decide), List.filter_cons_of_neg (by rw [aa]; decide)]; exact pJ _
theorem adZ {o : cP α} {ok : Nat → List α × List Int → Prop} (af : kb o ok) {s : aW α} (ab : jP o s) (h : Inv2 o ok s) : hP o ok (xw o s) ∧ eI o (xw o s) < eI o s := by
  obtain ⟨c, p, q, ak, hp, al, ar⟩ := h.link;have dZ := h.T;have aa : s.hot[s.T]? = some s.hot[s.T] := cp dZ;generalize s.hot[s.T] = x at aa;have u5 : eI o s = (o.R - s.hot.length) * dO o + (2 * (o.n * o.R) - nJ s - (bc s.ch).length) * o.R + (s.hot.length - s.T) + o.n * o.R * (o.n * o.R) := by simp only [eI, h.ph]
  have yQ := h.laid.h7 s.I c ak;have ae : s.J + 1 < c.1.length := (bX.1 al).1;have hm := h.laid.many af ab
  have XJ : lb o p q x s.fnd = (s.hot.take (s.T + 1)).filter (iX o p q) := by
    unfold lb;rw [LI aa, ar]
  obtain ⟨aeV, Z8⟩ := Wu ak;have br : s.I < s.ch.length := (bX.1 ak).1
  have agt : (bc s.ch).length = (bc (s.ch.take s.I)).length + ((c.1.length - 1) + (bc (s.ch.drop (s.I + 1))).length) := by
    conv => lhs; rw [aeV]
    rw [Df, Dg, cS, cS, tE]
  have G5 : nJ s = (bc (s.ch.take s.I)).length + s.J := rfl;have lN := ab.room;rw [u5];unfold xw;rw [ak];show hP o ok (match c.1[s.J]?, c.1[s.J + 1]?, s.hot[s.T]? with | some p, some q, some x => r5 o s c p q (lb o p q x s.fnd) | _, _, _ => s) ∧ eI o (match c.1[s.J]?, c.1[s.J + 1]?, s.hot[s.T]? with | some p, some q, some x => r5 o s c p q (lb o p q x s.fnd) | _, _, _ => s) < _;rw [hp, al, aa];show hP o ok (r5 o s c p q (lb o p q x s.fnd)) ∧ eI o (r5 o s c p q (lb o p q x s.fnd)) < _;rw [XJ];unfold r5
  by_cases bj : s.T + 1 < s.hot.length
  · rw [if_pos bj]
    refine ⟨⟨⟨ab.nd, ab.room, ab.gQ⟩, .inr (.inr (.inl ⟨h.ph, h.dirty, ⟨h.laid.len, h.laid.h7⟩, ⟨c, p, q, ak, hp, al, rfl⟩, bj, h.Bs⟩))⟩, ?_⟩;unfold eI;show (match s.ph with | 0 => _ | 1 => _ | 2 => (o.R - s.hot.length) * dO o + (2 * (o.n * o.R) - nJ s - (bc s.ch).length) * o.R + (s.hot.length - (s.T + 1)) + o.n * o.R * (o.n * o.R) | 3 => _ | _ => _) < _;rw [h.ph];show (o.R - s.hot.length) * dO o + (2 * (o.n * o.R) - nJ s - (bc s.ch).length) * o.R + (s.hot.length - (s.T + 1)) + o.n * o.R * (o.n * o.R) < _;omega
  · rw [if_neg bj]
    have W2 : s.T + 1 = s.hot.length := by omega
    rw [W2, List.take_length]
    by_cases he : s.hot.filter (iX o p q) = []
    · rw [if_pos he]
      have jz : rj o s.hot p q := fun y ah => by
        cases aw : iX o p q y with
        | false => rfl
        | true => have := List.mem_filter.2 ⟨ah, aw⟩; rw [he] at this; cases this
      have key := IR (s := { s with T := 0, fnd := [], J := s.J + 1 }) af ⟨ab.nd, ab.room, ab.gQ⟩ ⟨h.laid.len, h.laid.h7⟩ h.ph h.dirty rfl rfl (show 0 < s.hot.length by omega) ?_ ?_
      · refine ⟨key.1, Nat.lt_of_le_of_lt key.2 ?_⟩
        show (o.R - s.hot.length) * dO o + (2 * (o.n * o.R) - ((bc (s.ch.take s.I)).length + (s.J + 1)) - (bc s.ch).length) * o.R + s.hot.length + o.n * o.R * (o.n * o.R) < _;rw [G5];have := j1 o.R (show 2 * (o.n * o.R) - ((bc (s.ch.take s.I)).length + (s.J + 1)) - (bc s.ch).length + 1 ≤ 2 * (o.n * o.R) - ((bc (s.ch.take s.I)).length + s.J) - (bc s.ch).length by omega);rw [j0, Nat.one_mul] at this;omega
      · intro i d j fH cA hi oi qw gu
        have gu : i < s.I ∨ (i = s.I ∧ j < s.J + 1) := gu
        by_cases XY : i = s.I ∧ j = s.J
        · obtain ⟨rfl, rfl⟩ := XY
          have e : some c = some d := by rw [← ak]; exact hi
          cases e;have e : some p = some fH := by rw [← hp]; exact oi
          cases e;have e : some q = some cA := by rw [← al]; exact qw
          cases e;exact jz
        · exact h.Bs i d j fH cA hi oi qw (by omega)
      · intro d hd
        have e : some c = some d := by rw [← ak]; exact hd
        cases e;rw [tE];show s.J + 1 ≤ _;omega
    · rw [if_neg he]
      have gT : (s.hot.filter (iX o p q)).Nodup := ab.nd.filter _;have hcut := yQ.cut af hp al gT (fun y ah => ⟨(List.mem_filter.1 ah).1, (List.mem_filter.1 ah).2⟩) he;have hlen := (af.gz p q (s.hot.filter (iX o p q))).length_eq;have ahq : 0 < (s.hot.filter (iX o p q)).length := List.length_pos_iff.2 he;generalize s.hot.filter (iX o p q) = bm at *
      have He : ∀ i, (s.ch.set s.I (c7 c.1 s.J (o.gz p q bm), eo c.2 s.J bm.length))[i]? = if i = s.I then some (c7 c.1 s.J (o.gz p q bm), eo c.2 s.J bm.length) else s.ch[i]? := fun i => by
        by_cases hi : i = s.I
        · rw [if_pos hi, hi, List.getElem?_set_self br]
        · rw [if_neg hi, List.getElem?_set_ne (Ne.symm hi)]
      have My : k4 o ok ({ s with T := 0, fnd := [], ch := s.ch.set s.I (c7 c.1 s.J (o.gz p q bm), eo c.2 s.J bm.length) } : aW α) := ⟨by show (s.ch.set s.I _).length = o.n; rw [List.length_set]; exact h.laid.len, fun i d hd => by
        have hd : (s.ch.set s.I (c7 c.1 s.J (o.gz p q bm), eo c.2 s.J bm.length))[i]? = some d := hd;rw [He] at hd
        split at hd
        · rename_i hi
          cases hd;rw [hi]; exact hcut
        · exact h.laid.h7 i d hd⟩
      have df : jP o ({ s with T := 0, fnd := [], ch := s.ch.set s.I (c7 c.1 s.J (o.gz p q bm), eo c.2 s.J bm.length) } : aW α) := ⟨ab.nd, ab.room, ab.gQ⟩;have fS : (bc (s.ch.set s.I (c7 c.1 s.J (o.gz p q bm), eo c.2 s.J bm.length))).length ≤ o.n * o.R := My.many af df;obtain ⟨y, ah⟩ := UG (l := o.gz p q bm) ae;have oi : (c7 c.1 s.J (o.gz p q bm))[s.J]? = some p := by rw [K1 (by omega) (by omega)]; exact hp
      refine ⟨⟨df, .inr (.inr (.inl ⟨h.ph, h.dirty, My, ⟨(c7 c.1 s.J (o.gz p q bm), eo c.2 s.J bm.length), p, y, ?_, oi, ah, rfl⟩, show 0 < s.hot.length by omega, ?_⟩))⟩, ?_⟩
      · show (s.ch.set s.I (c7 c.1 s.J (o.gz p q bm), eo c.2 s.J bm.length))[s.I]? = _
        rw [He, if_pos rfl]
      · intro i d j fH cA hi oi qw gu
        have hi : (s.ch.set s.I (c7 c.1 s.J (o.gz p q bm), eo c.2 s.J bm.length))[i]? = some d := hi;have gu : i < s.I ∨ (i = s.I ∧ j < s.J) := gu;rw [He] at hi
        split at hi
        · rename_i hT
          cases hi;rw [K1 (by omega) (by omega)] at oi qw;exact h.Bs i c j fH cA (by rw [hT]; exact ak) oi qw gu
        · exact h.Bs i d j fH cA hi oi qw gu
      · have LA : s.ch.set s.I (c7 c.1 s.J (o.gz p q bm), eo c.2 s.J bm.length) = s.ch.take s.I ++ (c7 c.1 s.J (o.gz p q bm), eo c.2 s.J bm.length) :: s.ch.drop (s.I + 1) := List.set_eq_take_append_cons_drop.trans (if_pos br)
        have agu : (bc (s.ch.set s.I (c7 c.1 s.J (o.gz p q bm), eo c.2 s.J bm.length))).length = (bc (s.ch.take s.I)).length + ((c.1.length + bm.length - 1) + (bc (s.ch.drop (s.I + 1))).length) := by
          rw [LA, Df, Dg, cS, cS, tE, ym, hlen]
        have rF : nJ ({ s with T := 0, fnd := [], ch := s.ch.set s.I (c7 c.1 s.J (o.gz p q bm), eo c.2 s.J bm.length) } : aW α) = (bc (s.ch.take s.I)).length + s.J := by
          show (bc ((s.ch.set s.I (c7 c.1 s.J (o.gz p q bm), eo c.2 s.J bm.length)).take s.I)).length + s.J = _;rw [LA, List.take_left' Z8]
        unfold eI;rw [rF];show (match s.ph with | 0 => _ | 1 => _ | 2 => (o.R - s.hot.length) * dO o + (2 * (o.n * o.R) - ((bc (s.ch.take s.I)).length + s.J) - (bc (s.ch.set s.I (c7 c.1 s.J (o.gz p q bm), eo c.2 s.J bm.length))).length) * o.R + (s.hot.length - 0) + o.n * o.R * (o.n * o.R) | 3 => _ | _ => _) < _;rw [h.ph];show (o.R - s.hot.length) * dO o + (2 * (o.n * o.R) - ((bc (s.ch.take s.I)).length + s.J) - (bc (s.ch.set s.I (c7 c.1 s.J (o.gz p q bm), eo c.2 s.J bm.length))).length) * o.R + (s.hot.length - 0) + o.n * o.R * (o.n * o.R) < _;rw [G5];generalize (bc (s.ch.set s.I (c7 c.1 s.J (o.gz p q bm), eo c.2 s.J bm.length))).length = L' at *;have := j1 o.R (show 2 * (o.n * o.R) - ((bc (s.ch.take s.I)).length + s.J) - L' + 1 ≤ 2 * (o.n * o.R) - ((bc (s.ch.take s.I)).length + s.J) - (bc s.ch).length by omega);rw [j0, Nat.one_mul] at this;omega
theorem Dd {o : cP α} {ok : Nat → List α × List Int → Prop} (af : kb o ok) {s : aW α} (ao : k4 o ok s) {l : α × α} (h : l ∈ bc s.ch) : l.1 ≠ l.2 ∧ l.1 ∈ s.hot ∧ l.2 ∈ s.hot := by
  obtain ⟨i, c, j, hi, h1, h2⟩ := HM h;have yQ := ao.h7 i c hi;have aE := af.nodup _ _ yQ.gR;refine ⟨fun e => ?_, yQ.hot _ (dG h1), yQ.hot _ (dG h2)⟩;obtain ⟨g1, bB⟩ := bX.1 h1;obtain ⟨g2, cf⟩ := bX.1 h2;exact (List.pairwise_iff_getElem.1 aE) j (j + 1) g1 g2 (by omega) (by rw [bB, cf]; exact e)
theorem UH {o : cP α} {ok : Nat → List α × List Int → Prop} (af : kb o ok) {s : aW α} (ab : jP o s) (ao : k4 o ok s) {i j : Nat} {a b : α × α} (aK : (bc s.ch)[i]? = some a) (df : (bc s.ch)[j]? = some b) {x : α} (ak : o.cut a b = some x) : o.gR x := by
  obtain ⟨_, a2, a3⟩ := Dd af ao (dG aK);obtain ⟨_, b2, ed⟩ := Dd af ao (dG df);exact af.LY a.1 a.2 b.1 b.2 x (ab.gQ _ a2) (ab.gQ _ a3) (ab.gQ _ b2) (ab.gQ _ ed) ak
theorem Yb {o : cP α} {ok : Nat → List α × List Int → Prop} (af : kb o ok) {s : aW α} (ab : jP o s) (h : EV o ok s) {a b : α × α} (aK : (bc s.ch)[s.I]? = some a) (df : (bc s.ch)[s.J]? = some b) :
    (dL o s (o.cut a b) = fl s 5 0 0 ∧ s.hot.length = o.R) ∨ (o.cut a b = none ∧ dL o s (o.cut a b) = s) ∨
    ∃ hot', dL o s (o.cut a b) = { s with hot := hot', dirty := true } ∧ jP o ({ s with hot := hot', dirty := true } : aW α) ∧ (∀ x ∈ s.hot, x ∈ hot') ∧ s.hot.length ≤ hot'.length ∧ (s.dirty = false → hot'.length = s.hot.length + 1) := by
  cases hcut : o.cut a b with
  | none => exact .inr (.inl ⟨rfl, rfl⟩)
  | some x =>
    unfold dL;rcases CB o ab x (UH af ab h.laid aK df hcut) with ⟨aI, f1⟩ | ⟨h2, aI, b2, m2, s2, l2, jA, _⟩
    · left
      show (if (dF o s x).ph = 5 then dF o s x else { dF o s x with dirty := true }) = _ ∧ _;rw [aI, if_pos (show (fl s 5 0 0).ph = 5 from rfl)];exact ⟨rfl, f1⟩
    · refine .inr (.inr ⟨h2, ?_, ⟨b2.nd, b2.room, b2.gQ⟩, s2, l2, fun hd => jA ?_⟩)
      · show (if (dF o s x).ph = 5 then dF o s x else { dF o s x with dirty := true }) = _
        rw [aI, if_neg (show ({ s with hot := h2 } : aW α).ph ≠ 5 by show s.ph ≠ 5; rw [h.ph]; decide)]
      · have hs := (h.clean hd).1
        have key : ∀ l, l ∈ bc s.ch → l.1 ≠ l.2 ∧ l.1 ∈ s.hot ∧ l.2 ∈ s.hot ∧ rj o s.hot l.1 l.2 := fun l ao => by
          obtain ⟨cG, cH, jj⟩ := Dd af h.laid ao;exact ⟨cG, cH, jj, hs l ao⟩
        obtain ⟨a1, a2, a3, a4⟩ := key a (dG aK);obtain ⟨b1, b2, ed, dD⟩ := key b (dG df);exact af.cut s.hot a.1 a.2 b.1 b.2 x ab.gQ a1 b1 a2 a3 b2 ed a4 dD hcut
theorem k4.mono {o : cP α} {ok : Nat → List α × List Int → Prop} {s t : aW α} (h : k4 o ok s) (ak : t.ch = s.ch) (a6 : ∀ x ∈ s.hot, x ∈ t.hot) : k4 o ok t :=
  ⟨by rw [ak]; exact h.len, fun i c hi => by
    have := h.h7 i c (by rw [← ak]; exact hi);exact ⟨this.gR, this.len, this.head, this.last, fun v hv => a6 v (this.hot v hv), this.deep⟩⟩
theorem aaF {o : cP α} {ok : Nat → List α × List Int → Prop} (af : kb o ok) {s : aW α} (ab : jP o s) (h : EV o ok s) : hP o ok (r7 o s) ∧ eI o (r7 o s) < eI o s := by
  have pr := h.xS;have kg := h.J;have lN := ab.room;have hm := h.laid.many af ab;obtain ⟨ig, jA⟩ := OS pr kg;have u5 : eI o s = (o.R - s.hot.length) * dO o + (if s.dirty = true then dO o else 0) + (((bc s.ch).length - s.I) * (bc s.ch).length - s.J) := by simp only [eI, h.ph]
  have aK : (bc s.ch)[s.I]? = some (bc s.ch)[s.I] := cp (by omega);have df : (bc s.ch)[s.J]? = some (bc s.ch)[s.J] := cp kg;generalize (bc s.ch)[s.I] = a at aK;generalize (bc s.ch)[s.J] = b at df
  have aho : 0 < s.hot.length := by
    obtain ⟨i, c, j, hi, h1, h2⟩ := HM (dG aK);exact List.length_pos_of_mem ((h.laid.h7 i c hi).hot _ (dG h1))
  rw [u5];unfold r7;rw [aK, df];show hP o ok (if (dL o s (o.cut a b)).ph = 5 then dL o s (o.cut a b) else if (cn (bc s.ch).length s.I s.J).2 < (bc s.ch).length then { dL o s (o.cut a b) with I := (cn (bc s.ch).length s.I s.J).1, J := (cn (bc s.ch).length s.I s.J).2 } else mX (dL o s (o.cut a b))) ∧ eI o (if (dL o s (o.cut a b)).ph = 5 then dL o s (o.cut a b) else if (cn (bc s.ch).length s.I s.J).2 < (bc s.ch).length then { dL o s (o.cut a b) with I := (cn (bc s.ch).length s.I s.J).1, J := (cn (bc s.ch).length s.I s.J).2 } else mX (dL o s (o.cut a b))) < _
 
  have main : ∀ hot', jP o ({ s with hot := hot', dirty := true } : aW α) → (∀ x ∈ s.hot, x ∈ hot') → s.hot.length ≤ hot'.length → (s.dirty = false → hot'.length = s.hot.length + 1) →
      hP o ok (if ({ s with hot := hot', dirty := true } : aW α).ph = 5 then ({ s with hot := hot', dirty := true } : aW α) else if (cn (bc s.ch).length s.I s.J).2 < (bc s.ch).length then { ({ s with hot := hot', dirty := true } : aW α) with I := (cn (bc s.ch).length s.I s.J).1, J := (cn (bc s.ch).length s.I s.J).2 } else mX ({ s with hot := hot', dirty := true } : aW α)) ∧ eI o (if ({ s with hot := hot', dirty := true } : aW α).ph = 5 then ({ s with hot := hot', dirty := true } : aW α) else if (cn (bc s.ch).length s.I s.J).2 < (bc s.ch).length then { ({ s with hot := hot', dirty := true } : aW α) with I := (cn (bc s.ch).length s.I s.J).1, J := (cn (bc s.ch).length s.I s.J).2 } else mX ({ s with hot := hot', dirty := true } : aW α)) < (o.R - s.hot.length) * dO o + (if s.dirty = true then dO o else 0) + (((bc s.ch).length - s.I) * (bc s.ch).length - s.J) := fun hot' b2 s2 l2 d2 => by
    have ao : k4 o ok ({ s with hot := hot', dirty := true } : aW α) := h.laid.mono rfl s2;have dN : hot'.length ≤ o.R := b2.room
    have ahc : (o.R - hot'.length) * dO o + dO o ≤ (o.R - s.hot.length) * dO o + (if s.dirty = true then dO o else 0) := by
      cases hd : s.dirty with
      | true =>
        rw [if_pos rfl];have := j1 (dO o) (show o.R - hot'.length ≤ o.R - s.hot.length by omega);omega
      | false =>
        rw [if_neg (by decide)];have := d2 hd;have := j1 (dO o) (show o.R - hot'.length + 1 ≤ o.R - s.hot.length by omega);rw [j0, Nat.one_mul] at this;omega
    rw [if_neg (show ({ s with hot := hot', dirty := true } : aW α).ph ≠ 5 by show s.ph ≠ 5; rw [h.ph]; decide)]
    split
    · rename_i bj
      obtain ⟨r8, r9⟩ := jA bj;refine ⟨⟨⟨b2.nd, b2.room, b2.gQ⟩, .inr (.inr (.inr (.inl ⟨h.ph, ⟨ao.len, ao.h7⟩, r8, bj, h.T, h.fnd, fun hd => by cases hd⟩)))⟩, ?_⟩;unfold eI;show (match s.ph with | 0 => _ | 1 => _ | 2 => _ | 3 => (o.R - hot'.length) * dO o + (if true = true then dO o else 0) + (((bc s.ch).length - (cn (bc s.ch).length s.I s.J).1) * (bc s.ch).length - (cn (bc s.ch).length s.I s.J).2) | _ => _) < _;rw [h.ph];show (o.R - hot'.length) * dO o + (if true = true then dO o else 0) + (((bc s.ch).length - (cn (bc s.ch).length s.I s.J).1) * (bc s.ch).length - (cn (bc s.ch).length s.I s.J).2) < _;rw [if_pos rfl];omega
    · unfold mX
      rw [if_pos rfl]
      have key := IR (s := fl ({ s with hot := hot', dirty := false } : aW α) 2 0 0) af ⟨b2.nd, b2.room, b2.gQ⟩ (ao.mono rfl fun x aa => aa) rfl rfl rfl rfl (show 0 < hot'.length by omega) (fun i c j p q _ _ _ gu => by
        have : i < 0 ∨ (i = 0 ∧ j < 0) := gu;omega) (fun c _ => eF _)
      refine ⟨key.1, Nat.lt_of_le_of_lt key.2 ?_⟩;show (o.R - hot'.length) * dO o + (2 * (o.n * o.R) - (0 + 0) - (bc s.ch).length) * o.R + hot'.length + o.n * o.R * (o.n * o.R) < _;have aO : dO o = 2 * (o.n * o.R) * o.R + o.n * o.R * (o.n * o.R) + 1 := rfl;have := j1 o.R (show 2 * (o.n * o.R) - (0 + 0) - (bc s.ch).length + 1 ≤ 2 * (o.n * o.R) by omega);rw [j0, Nat.one_mul] at this;omega
  rcases Yb af ab h aK df with ⟨aI, f1⟩ | ⟨FO, aI⟩ | ⟨hot', aI, b2, s2, l2, d2⟩
  · rw [aI, if_pos (show (fl s 5 0 0).ph = 5 from rfl)]
    have := C2 (ok := ok) ab f1 (.inr h.laid);exact ⟨this.1, by rw [this.2]; omega⟩
  · cases hd : s.dirty with
    | true =>
      have es : ({ s with hot := s.hot, dirty := true } : aW α) = s := by cases s; cases hd; rfl
      rw [aI];have := main s.hot (by rw [es]; exact ab) (fun x aa => aa) (dW _) (fun a6 => by rw [hd] at a6; cases a6);rw [es, hd] at this;exact this
    | false =>
      rw [aI, if_neg (show ¬ s.ph = 5 by rw [h.ph]; decide), if_neg (show ¬ (false = true) by decide)];obtain ⟨c1, c2⟩ := h.clean hd
      have MD : ∀ x y l m, (bc s.ch)[x]? = some l → (bc s.ch)[y]? = some m → ((x < s.I ∨ (x = s.I ∧ y < s.J)) ∨ (x = s.I ∧ y = s.J)) → x < y → o.cut l m = none := fun x y l m aa ah a6 kN => by
        rcases a6 with a6 | ⟨rfl, rfl⟩
        · exact c2 x y l m aa ah kN a6
        · rw [aK] at aa; rw [df] at ah
          cases aa; cases ah;exact FO
      by_cases bj : (cn (bc s.ch).length s.I s.J).2 < (bc s.ch).length
      · rw [if_pos bj]
        obtain ⟨r8, r9⟩ := jA bj;refine ⟨⟨⟨ab.nd, ab.room, ab.gQ⟩, .inr (.inr (.inr (.inl ⟨h.ph, ⟨h.laid.len, h.laid.h7⟩, r8, bj, h.T, h.fnd, fun _ => ⟨c1, fun x y l m aa ah kN a6 => MD x y l m aa ah (abu pr kg kN (bX.1 ah).1 a6) kN⟩⟩)))⟩, ?_⟩;unfold eI;show (match s.ph with | 0 => _ | 1 => _ | 2 => _ | 3 => (o.R - s.hot.length) * dO o + (if s.dirty = true then dO o else 0) + (((bc s.ch).length - (cn (bc s.ch).length s.I s.J).1) * (bc s.ch).length - (cn (bc s.ch).length s.I s.J).2) | _ => _) < _;rw [h.ph];show (o.R - s.hot.length) * dO o + (if s.dirty = true then dO o else 0) + (((bc s.ch).length - (cn (bc s.ch).length s.I s.J).1) * (bc s.ch).length - (cn (bc s.ch).length s.I s.J).2) < _;rw [hd, if_neg (by decide)];omega
      · rw [if_neg bj]
        unfold mX;rw [if_neg (show ¬ s.dirty = true by rw [hd]; decide)];refine ⟨⟨⟨ab.nd, ab.room, ab.gQ⟩, .inr (.inr (.inr (.inr (.inl ⟨rfl, hd, ⟨h.laid.len, h.laid.h7⟩, rfl, rfl, rfl, rfl, c1, fun x y l m aa ah kN _ => ?_⟩))))⟩, ?_⟩
        · exact MD x y l m aa ah (abv pr kg bj kN (bX.1 ah).1) kN
        · show 0 < _
          omega
  · rw [aI]
    exact main hot' b2 s2 l2 d2
theorem xE {o : cP α} {ok : Nat → List α × List Int → Prop} (af : kb o ok) {s : aW α} (h : hP o ok s) : hP o ok (eN o s) ∧ (s.ph < 4 → eI o (eN o s) < eI o s) ∧ (4 ≤ s.ph → eN o s = s) := by
  obtain ⟨ab, aH | h1 | h2 | ap | aL | dk⟩ := h
  · have e : eN o s = s9 o s := by simp only [eN, aH.ph]
    have := Vx af ab aH;rw [e]; exact ⟨this.1, fun _ => this.2, fun a6 => by rw [aH.ph] at a6; omega⟩
  · have e : eN o s = tT o s := by simp only [eN, h1.ph]
    have := acY af ab h1;rw [e]; exact ⟨this.1, fun _ => this.2, fun a6 => by rw [h1.ph] at a6; omega⟩
  · have e : eN o s = xw o s := by simp only [eN, h2.ph]
    have := adZ af ab h2;rw [e]; exact ⟨this.1, fun _ => this.2, fun a6 => by rw [h2.ph] at a6; omega⟩
  · have e : eN o s = r7 o s := by simp only [eN, ap.ph]
    have := aaF af ab ap;rw [e]; exact ⟨this.1, fun _ => this.2, fun a6 => by rw [ap.ph] at a6; omega⟩
  · have e : eN o s = s := by simp only [eN, aL.ph]
    rw [e]; exact ⟨⟨ab, .inr (.inr (.inr (.inr (.inl aL))))⟩, fun a6 => by rw [aL.ph] at a6; omega, fun _ => rfl⟩
  · have e : eN o s = s := by simp only [eN, dk.ph]
    rw [e]; exact ⟨⟨ab, .inr (.inr (.inr (.inr (.inr dk))))⟩, fun a6 => by rw [dk.ph] at a6; omega, fun _ => rfl⟩
def li (o : cP α) : Nat → aW α → aW α
  | 0, s => s
  | n + 1, s => li o n (eN o s)
theorem C3 {o : cP α} {ok : Nat → List α × List Int → Prop} (af : kb o ok) : ∀ (n : Nat) {s : aW α}, hP o ok s → hP o ok (li o n s) ∧ (eI o s ≤ n → 4 ≤ (li o n s).ph)
  | 0, s, h => ⟨h, fun aE => by
    refine Nat.not_lt.1 fun bj => ?_;have := (xE af h).2.1 bj;show False;have aE : eI o s ≤ 0 := aE;omega⟩
  | n + 1, s, h => by
    obtain ⟨h1, h2, ap⟩ := xE af h;obtain ⟨g1, g2⟩ := C3 af n h1;refine ⟨g1, fun aE => ?_⟩
    by_cases bj : s.ph < 4
    · exact g2 (by have := h2 bj; omega)
    · have e := ap (by omega)
      show 4 ≤ (li o n (eN o s)).ph;rw [e]
      have key : ∀ m, li o m s = s := fun m => by
        induction m with
        | zero => rfl
        | succ m cw => show li o m (eN o s) = s; rw [e]; exact cw
      rw [key]; omega
def fw (o : cP α) : aW α := ⟨if o.n = 0 then 4 else 0, 0, 0, 0, false, [], [], []⟩
theorem vq (o : cP α) (ok : Nat → List α × List Int → Prop) : hP o ok (fw o) := by
  refine ⟨⟨List.nodup_nil, eF _, fun x aa => absurd aa qL⟩, ?_⟩
  by_cases h : o.n = 0
  · refine .inr (.inr (.inr (.inr (.inl ⟨by simp [fw, h], rfl, ⟨h.symm, fun i c hi => by simp [fw] at hi⟩, rfl, rfl, rfl, rfl, (fun l ao => by cases ao), (fun a b l m aK => by simp [fw, bc] at aK)⟩))))
  · exact .inl ⟨by simp [fw, h], rfl, rfl, rfl, show 0 < o.n by omega, rfl, rfl, fun i hi => by cases hi⟩
theorem aba (o : cP α) (ax : 0 < o.R) : eI o (fw o) ≤ 8 * (o.R + 2) * ((o.n * o.R + 1) * (o.n * o.R + 1)) := by
  by_cases h : o.n = 0
  · have : eI o (fw o) = 0 := by simp [eI, fw, h]
    rw [this]; exact eF _
  · have e : eI o (fw o) = (o.n - 0) + o.n * o.n + (o.R + 1) * dO o := by simp [eI, fw, h]
    rw [e];have h1 : o.n ≤ o.n * o.R := Nat.le_mul_of_pos_right _ ax;have h2 : o.R ≤ o.n * o.R := Nat.le_mul_of_pos_left _ (by omega);have ap := Nat.mul_le_mul h1 h1;unfold dO;generalize o.n * o.R = N at *;have aL : 2 * N * o.R ≤ 2 * (N * N) := by rw [Nat.mul_assoc]; exact Nat.mul_le_mul_left 2 (Nat.mul_le_mul_left N h2)
    have dk : (o.R + 1) * (2 * N * o.R + N * N + 1) ≤ (o.R + 2) * (3 * (N * N) + 1) := Nat.mul_le_mul (by omega) (by omega);have cD : (N + 1) * (N + 1) = N * N + 2 * N + 1 := by grind
    have fV : (o.R + 2) * (3 * (N * N) + 1) ≤ (o.R + 2) * (3 * ((N + 1) * (N + 1))) := Nat.mul_le_mul_left _ (by rw [cD]; omega);have eD : 8 * (o.R + 2) * ((N + 1) * (N + 1)) = (o.R + 2) * (3 * ((N + 1) * (N + 1))) + 5 * ((o.R + 2) * ((N + 1) * (N + 1))) := by grind
    have jo : (N + 1) * (N + 1) ≤ (o.R + 2) * ((N + 1) * (N + 1)) := Nat.le_mul_of_pos_left _ (by omega);rw [eD];omega
end Go.Proofs.YtpochbhajmbfdaaGreat.bA
namespace Go.Proofs.YtpochbhajmbfdaaGreat.bA
variable {α : Type} [DecidableEq α]
def rA (N : Int → Rat → α → Prop) : Rat → List α → List Int → Prop
 | t, p :: q :: V, d :: D => ∃ nR, t ≤ nR ∧ nR ≤ 1 ∧ N d t p ∧ N d nR q ∧ rA N nR (q :: V) D
 | _, _, _ => True
def BN (N : Int → Rat → α → Prop) (d : Int) (t2 : Rat) : Rat → List α → Prop
 | t1, [] => t1 ≤ t2
 | t1, x :: l => ∃ t, t1 ≤ t ∧ t ≤ t2 ∧ N d t x ∧ BN N d t2 t l
theorem KU {N : Int → Rat → α → Prop} {d : Int} {t2 : Rat} {q : α} {V : List α} {D : List Int} (h1 : t2 ≤ 1) (al : N d t2 q) (pt : rA N t2 (q :: V) D) : ∀ (l : List α) (t1 : Rat) (p : α), N d t1 p → BN N d t2 t1 l → rA N t1 (p :: (l ++ q :: V)) (List.replicate (l.length + 1) d ++ D)
 | [], t1, p, hp, ab => ⟨t2, ab, h1, hp, al, pt⟩
 | x :: l, t1, p, hp, ⟨t, g1, g2, g3, g4⟩ => by
  have cw := KU h1 al pt l t x g3 g4;exact ⟨t, g1, Rat.le_trans g2 h1, hp, g3, cw⟩
theorem KT {N : Int → Rat → α → Prop} (kh : ∀ d t x, N d t x → N (d + 1) t x) {l : List α} {p q : α} (ao : ∀ d t1 t2, t1 ≤ t2 → t2 ≤ 1 → N d t1 p → N d t2 q → BN N (d + 1) t2 t1 l) : ∀ (V : List α) (D : List Int) (j : Nat) (t : Rat), V.length = D.length + 1 → V[j]? = some p → V[j + 1]? = some q → rA N t V D → rA N t (c7 V j l) (eo D j l.length)
 | [], D, j, t, _, h, _, _ => by simp at h
 | [_], D, j, t, _, _, h, _ => by simp at h
 | _ :: _ :: _, [], j, t, h, _, _, _ => by simp at h
 | a :: b :: V, d :: D, 0, t, hlen, hp, al, ⟨nR, h1, h2, ap, aL, dk⟩ => by
  simp only [sj, hK] at hp;simp only [xr, sj, hK] at al;subst hp; subst al;have aI : c7 (a :: b :: V) 0 l = a :: (l ++ b :: V) := by unfold c7; simp
  have aO : eo (d :: D) 0 l.length = List.replicate (l.length + 1) (d + 1) ++ D := by unfold eo; simp
  rw [aI, aO];exact KU h2 (kh _ _ _ aL) dk l t a (kh _ _ _ ap) (ao d t nR h1 h2 ap aL)
 | a :: b :: V, d :: D, j + 1, t, hlen, hp, al, ⟨nR, h1, h2, ap, aL, dk⟩ => by
  have cw := KT kh ao (b :: V) D j nR (by simp at hlen ⊢; omega) hp al dk;have aI : c7 (a :: b :: V) (j + 1) l = a :: c7 (b :: V) j l := by unfold c7; simp
  have aO : eo (d :: D) (j + 1) l.length = d :: eo D j l.length := by unfold eo; simp
  rw [aI, aO];have cD : c7 (b :: V) j l = b :: (V.take j ++ l ++ V.drop j) := by unfold c7; simp
  rw [cD] at cw ⊢;exact ⟨nR, h1, h2, ap, aL, cw⟩
end Go.Proofs.YtpochbhajmbfdaaGreat.bA
namespace Go.Proofs.YtpochbhajmbfdaaGreat.bA
variable {α : Type} [DecidableEq α]
theorem Lc {o : cP α} {ok : Nat → List α × List Int → Prop} (af : kb o ok) {s : aW α} (ab : jP o s) (ao : k4 o ok s) {c : List α × List Int} (ak : c ∈ s.ch) : c.1.length ≤ o.R ∧ ∀ d ∈ c.2, 1 ≤ d ∧ d + 1 ≤ o.R := by
 obtain ⟨i, hi⟩ := jZ ak;have h := ao.h7 i c hi;have h1 := kS (Ic (af.nodup _ _ h.gR) h.hot) ab.room;refine ⟨h1, fun d hd => ?_⟩;have := h.deep d hd;have := h.len;omega
theorem Lw {o : cP α} {ok : Nat → List α × List Int → Prop} {s : aW α} (h : hP o ok s) (aL : 4 ≤ s.ph) : A7 o ok s ∨ A8 o ok s := by
 obtain ⟨_, aF | aF | aF | aF | aF | aF⟩ := h
 ·have := aF.ph; omega
 ·have := aF.ph; omega
 ·have := aF.ph; omega
 ·have := aF.ph; omega
 ·exact .inl aF
 ·exact .inr aF
theorem Uq {N : Int → Rat → α → Prop} {p q : α} (hp : N 1 0 p) (al : N 1 1 q) : rA N 0 (gX p q).1 (gX p q).2 := by
 unfold gX
 split
 ·trivial
 ·exact ⟨1, by decide, Rat.le_refl, hp, al, trivial⟩
theorem Vw {o : cP α} {ok : Nat → List α × List Int → Prop} (af : kb o ok) (ax : 0 < o.R) {n : Nat} (aE : 8 * (o.R + 2) * ((o.n * o.R + 1) * (o.n * o.R + 1)) ≤ n) : hP o ok (li o n (fw o)) ∧ (A7 o ok (li o n (fw o)) ∨ A8 o ok (li o n (fw o))) := by
 have h := C3 af n (vq o ok);exact ⟨h.1, Lw h.1 (h.2 (kS (aba o ax) aE))⟩
end Go.Proofs.YtpochbhajmbfdaaGreat.bA
