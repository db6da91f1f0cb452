/-
  My own texts, without what this claim does not need. My own text.
-/
import Derived.Tactics
import Derived.IntWalk
import Derived.ProofKit
import Derived.WalkKit
import Derived.WalkSpells
import Derived.Lib.Hide
import Derived.BigQuiet
import Derived.BigGuardPart
import Derived.Deep.RegionHeld3
import Derived.Test.YtbcecodakfejaaaGreatRows
set_option maxRecDepth 100000
set_option maxHeartbeats 64000000
set_option linter.unusedVariables false
set_option linter.unusedSimpArgs false
set_option linter.unusedSectionVars false
open Go.Proofs.Tryz renaming prog → ag
namespace Go.Proofs.YtbcecodakfejaaaGreat
theorem bF : type_of% @List.getElem?_eq_some_iff := @List.getElem?_eq_some_iff
theorem bQ : type_of% @List.getElem?_eq_getElem := @List.getElem?_eq_getElem
theorem ca : type_of% @decide_eq_true_eq := @decide_eq_true_eq
theorem cb : type_of% @List.all_eq_true := @List.all_eq_true
theorem ck : type_of% @decide_eq_true := @decide_eq_true
theorem cx : type_of% @List.length_append := @List.length_append
theorem cC : type_of% @decide_eq_false := @decide_eq_false
theorem c5 : type_of% @List.mem_of_getElem? := @List.mem_of_getElem?
theorem db : type_of% @Nat.le_of_ble_eq_true := @Nat.le_of_ble_eq_true
theorem dl : type_of% @Nat.le_refl := @Nat.le_refl
theorem dx : type_of% @Bool.and_eq_true := @Bool.and_eq_true
theorem dA : type_of% @Nat.zero_le := @Nat.zero_le
theorem dS : type_of% @List.length_take := @List.length_take
theorem ef : type_of% @List.getElem?_map := @List.getElem?_map
theorem fk : type_of% @List.getElem?_take_of_lt := @List.getElem?_take_of_lt
theorem fC : type_of% @List.getElem?_drop := @List.getElem?_drop
theorem fD : type_of% @Int.mul_nonneg := @Int.mul_nonneg
theorem fK : type_of% @List.getElem?_append_left := @List.getElem?_append_left
theorem fQ : type_of% @List.mem_cons := @List.mem_cons
theorem fZ : type_of% @List.getD_eq_getElem?_getD := @List.getD_eq_getElem?_getD
theorem gl : type_of% @Nat.eq_of_beq_eq_true := @Nat.eq_of_beq_eq_true
theorem gm : type_of% @List.getElem?_append_right := @List.getElem?_append_right
theorem gC : type_of% @Option.map_some := @Option.map_some
theorem gP : type_of% @Option.some.injEq := @Option.some.injEq
theorem gQ : type_of% @List.append_assoc := @List.append_assoc
theorem gR : type_of% @Int.mul_comm := @Int.mul_comm
theorem hq : type_of% @List.take_of_length_le := @List.take_of_length_le
theorem hr : type_of% @Int.pow_pos := @Int.pow_pos
theorem hM : type_of% @Nat.lt_or_ge := @Nat.lt_or_ge
theorem hN : type_of% @List.length_drop := @List.length_drop
theorem h8 : type_of% @Nat.le_trans := @Nat.le_trans
theorem h9 : type_of% @List.mem_map := @List.mem_map
theorem ix : type_of% @List.mem_singleton := @List.mem_singleton
theorem iU : type_of% @List.mem_append := @List.mem_append
theorem iV : type_of% @List.pairwise_cons := @List.pairwise_cons
theorem jh : type_of% @List.getElem?_of_mem := @List.getElem?_of_mem
theorem jj : type_of% @Nat.zero_add := @Nat.zero_add
theorem jk : type_of% @Nat.zero_lt_succ := @Nat.zero_lt_succ
theorem jl : type_of% @Int.mul_assoc := @Int.mul_assoc
theorem jF : type_of% @decide_eq_false_iff_not := @decide_eq_false_iff_not
theorem jG : type_of% @List.take_append_drop := @List.take_append_drop
theorem jH : type_of% @Array.getElem?_eq_some_iff := @Array.getElem?_eq_some_iff
theorem jI : type_of% @List.all_cons := @List.all_cons
theorem jZ : type_of% @List.length_cons := @List.length_cons
theorem j0 : type_of% @Nat.add_mul := @Nat.add_mul
theorem j1 : type_of% @Nat.mul_le_mul_right := @Nat.mul_le_mul_right
theorem j2 : type_of% @Option.bind_some := @Option.bind_some
theorem j3 : type_of% @List.eq_nil_of_length_eq_zero := @List.eq_nil_of_length_eq_zero
theorem j4 : type_of% @Rat.mul_nonneg := @Rat.mul_nonneg
theorem kr : type_of% @List.mem_cons_self := @List.mem_cons_self
theorem ks : type_of% @Int.toNat_natCast := @Int.toNat_natCast
theorem kt : type_of% @Int.le_of_lt := @Int.le_of_lt
theorem kQ : type_of% @List.map_cons := @List.map_cons
theorem lh : type_of% @Int.mul_le_mul_of_nonneg_right := @Int.mul_le_mul_of_nonneg_right
theorem lN : type_of% @Bool.eq_iff_iff := @Bool.eq_iff_iff
theorem lO : type_of% @Int.eq_ofNat_of_zero_le := @Int.eq_ofNat_of_zero_le
theorem lP : type_of% @Option.some.inj := @Option.some.inj
theorem lQ : type_of% @List.getElem?_eq_none := @List.getElem?_eq_none
theorem ml : type_of% @List.drop_eq_getElem_cons := @List.drop_eq_getElem_cons
theorem mm : type_of% @List.mem_of_mem_drop := @List.mem_of_mem_drop
theorem mn : type_of% @List.append_nil := @List.append_nil
theorem mo : type_of% @List.length_map := @List.length_map
theorem mq : type_of% @Bool.true_and := @Bool.true_and
theorem mr : type_of% @List.all_nil := @List.all_nil
theorem mZ : type_of% @Bool.false_eq_true := @Bool.false_eq_true
theorem na : type_of% @Int.emod_lt_of_pos := @Int.emod_lt_of_pos
theorem nb : type_of% @Int.pow_succ := @Int.pow_succ
theorem nc : type_of% @Int.ediv_nonneg := @Int.ediv_nonneg
theorem nL : type_of% @List.mem_cons_of_mem := @List.mem_cons_of_mem
theorem nM : type_of% @Int.le_refl := @Int.le_refl
theorem nN : type_of% @List.mem_of_mem_take := @List.mem_of_mem_take
theorem nO : type_of% @List.take_succ_eq_append_getElem := @List.take_succ_eq_append_getElem
theorem nP : type_of% @Int.emod_nonneg := @Int.emod_nonneg
theorem nQ : type_of% @Int.le_ediv_iff_mul_le := @Int.le_ediv_iff_mul_le
theorem oI : type_of% @List.map_congr_left := @List.map_congr_left
theorem oJ : type_of% @Nat.min_eq_left := @Nat.min_eq_left
theorem oK : type_of% @Int.lt_or_le := @Int.lt_or_le
theorem pI : type_of% @List.getElem?_cons_zero := @List.getElem?_cons_zero
theorem pJ : type_of% @Int.mul_le_mul_of_nonneg_left := @Int.mul_le_mul_of_nonneg_left
theorem pK : type_of% @Int.mul_ediv_add_emod := @Int.mul_ediv_add_emod
theorem pL : type_of% @List.drop_drop := @List.drop_drop
theorem qL : type_of% @Bool.or_eq_true := @Bool.or_eq_true
theorem r1 : type_of% @Nat.lt_of_lt_of_le := @Nat.lt_of_lt_of_le
theorem r2 : type_of% @List.not_mem_nil := @List.not_mem_nil
theorem r3 : type_of% @Int.mul_eq_zero := @Int.mul_eq_zero
theorem r4 : type_of% @Option.map_none := @Option.map_none
theorem r5 : type_of% @Int.mul_le_mul := @Int.mul_le_mul
theorem r6 : type_of% @Rat.intCast_add := @Rat.intCast_add
theorem tw : type_of% @Array.getElem?_modify := @Array.getElem?_modify
theorem tx : type_of% @Bool.not_eq_true' := @Bool.not_eq_true'
theorem tz : type_of% @List.any_eq_true := @List.any_eq_true
theorem tA : type_of% @List.drop_of_length_le := @List.drop_of_length_le
theorem va : type_of% @List.getElem?_cons_succ := @List.getElem?_cons_succ
theorem vb : type_of% @Nat.eq_zero_or_pos := @Nat.eq_zero_or_pos
theorem wY : type_of% @Array.getElem?_eq_none := @Array.getElem?_eq_none
theorem wZ : type_of% @Int.ediv_ediv_of_nonneg := @Int.ediv_ediv_of_nonneg
theorem zz : type_of% @List.take_append_of_le_length := @List.take_append_of_le_length
end Go.Proofs.YtbcecodakfejaaaGreat
namespace Go.Proofs.YtbcecodakfejaaaGreat
theorem mE : (∀ b : Bool, ((!b) = true) = (b = false)) ∧ (∀ b : Bool, ((!b) = false) = (b = true)) ∧ (∀ (p : Prop) [Decidable p], (decide p = true) = p) ∧ ∀ (p : Prop) [Decidable p], (decide p = false) = ¬ p := ⟨by simp, by simp, by simp, by simp⟩
end Go.Proofs.YtbcecodakfejaaaGreat
namespace Go.Proofs.YtbcecodakfejaaaGreat
structure o4 (Q : Prop) : Prop where
  h : Q
theorem iB {P Q : Prop} (k : Q) (h : o4 Q → P := by intro q; (first | ((with_reducible apply AR); exact rfl) | ((with_reducible apply TZ); (iterate 5 exact rfl)) | ((with_reducible apply T0); (iterate 5 exact rfl)) | ((with_reducible apply TP); (iterate 3 exact rfl)) | ((with_reducible apply TT); (iterate 3 exact rfl); (first | decide | omega); (first | decide | omega); (first | assumption | exact rfl); exact rfl) | ((with_reducible apply JK); (iterate 3 exact rfl); omega; omega; exact rfl) | ((with_reducible apply Uc); (iterate 3 exact rfl)) | ((with_reducible apply TG); (iterate 4 exact rfl)) | ((with_reducible apply TF); (iterate 4 exact rfl)) | ((with_reducible apply Ua); (iterate 4 exact rfl)) | ((with_reducible apply Tw); (iterate 3 exact rfl); (first | exact la (by omega) | assumption | rfl); exact rfl) | ((with_reducible apply Un); (iterate 3 exact rfl); (first | exact la (by omega) | assumption | rfl); exact rfl) | ((with_reducible apply T7); (iterate 3 exact rfl); (first | exact la (by omega) | assumption | rfl); exact rfl) | ((with_reducible apply T8); exact rfl; exact rfl; (first | exact la (by omega) | assumption | rfl); exact rfl) | ((with_reducible apply agE); (iterate 3 exact rfl); (first | assumption | omega); (first | assumption | omega); exact rfl) | ((with_reducible apply TE); exact rfl; exact rfl; (first | exact la (by omega) | assumption | rfl); exact rfl) | ((with_reducible apply T3); (iterate 4 exact rfl)) | ((with_reducible apply T2); (iterate 4 exact rfl)) | ((with_reducible apply JL); (iterate 3 exact rfl)) | ((with_reducible apply Uk); (iterate 3 exact rfl); (first | assumption | omega); (first | assumption | omega); (first | assumption | exact rfl); (first | assumption | exact rfl); exact rfl) | ((with_reducible apply agF); (iterate 3 exact rfl); (first | assumption | omega); (first | assumption | omega); (first | assumption | exact rfl); (first | assumption | exact rfl); exact rfl) | ((with_reducible apply Ul); (iterate 4 exact rfl); (first | assumption | omega); (first | assumption | omega); (first | assumption | omega); (first | assumption | exact rfl); (first | assumption | exact rfl); exact rfl) | ((with_reducible apply TB); (iterate 10 exact rfl)) | ((with_reducible apply agB); exact rfl; exact (fun W => rfl); exact rfl) | ((with_reducible apply T5); (iterate 4 exact rfl)) | ((with_reducible apply TN); (iterate 4 exact rfl)) | ((with_reducible apply agz); (iterate 4 exact rfl)) | ((with_reducible apply agA); (iterate 3 exact rfl); (first | decide | omega); (first | decide | omega); (first | assumption | exact rfl); exact rfl) | ((with_reducible apply TV); (iterate 3 exact rfl); (first | decide | omega); (first | decide | omega); (first | assumption | exact rfl); exact rfl) | ((with_reducible apply agx); (iterate 4 exact rfl)) | ((with_reducible apply TJ); (iterate 3 exact rfl)) | ((with_reducible apply TK); exact rfl; exact rfl; kernel_rfl; exact rfl) | ((with_reducible apply agC); exact rfl; exact rfl; kernel_rfl; exact rfl) | ((with_reducible apply agy); exact rfl; exact rfl; kernel_rfl; exact rfl) | ((with_reducible apply agD); exact rfl; exact rfl; kernel_rfl; exact rfl) | ((with_reducible apply Ud); (iterate 3 exact rfl)) | ((with_reducible apply TQ); (iterate 3 exact rfl)) | ((with_reducible apply ue); (iterate 5 exact rfl); (intro W; go_simp; try rfl); (intro W; go_simp; try rfl); exact rfl; exact rfl) | ((with_reducible apply JO); exact rfl; exact rfl; (intro W; go_simp; try rfl); exact rfl; exact rfl) | ((with_reducible apply JI); exact rfl; exact rfl; (intro W; go_simp; try rfl); exact rfl; exact rfl)); (with_reducible exact q.h)) : P := h ⟨k⟩
theorem ec {P Q : Prop} (k : Q) (h : o4 Q → P := by intro q; (first | refine iB ?_ | ((with_reducible apply JM); kernel_rfl) | ((with_reducible apply J3); kernel_rfl; kernel_rfl; exact rfl) | (with_reducible first | apply J5 | apply JU | apply J2 | apply gY | apply J4 | apply J6 | apply Uy | apply UA | apply Th | apply Ti | apply Tj | apply UC | apply Ux | apply agG | apply aef) | ((with_reducible apply agv); exact rfl) | ((with_reducible apply J0); exact rfl) | ((with_reducible apply JZ); exact rfl) | ((with_reducible apply UB); exact rfl; (first | assumption | exact ck (by omega) | (simp only [mE]; (first | done | omega)) | exact rfl)) | ((with_reducible apply JX); exact rfl; (first | assumption | exact cC (by omega) | (simp only [mE]; (first | done | omega)) | exact rfl))); (with_reducible exact q.h)) : P := h ⟨k⟩
theorem fl {P Q : Prop} (k : Q) (h : o4 Q → P := by intro q; (repeat refine ec ?_); (with_reducible exact q.h)) : P := h ⟨k⟩
theorem lp {P Q A : Prop} (c : A) (k : Q) (h : A → o4 Q → P := by intro c q; (first | refine JF rfl rfl (by exact c) rfl ?_ | refine EA rfl rfl rfl (by exact c) rfl ?_ | refine EB rfl rfl rfl rfl (by exact c) rfl ?_ | refine EC rfl rfl rfl rfl rfl (by exact c) rfl ?_ | refine JG rfl rfl rfl rfl rfl rfl (by exact c) rfl ?_ | refine JH rfl rfl rfl rfl rfl rfl rfl (by exact c) rfl ?_ | refine sA (bs := [_]) (args := []) rfl rfl rfl rfl (by exact c) rfl ?_ | refine sA (bs := [_]) (args := [_]) rfl rfl rfl rfl (by exact c) rfl ?_ | refine sA (bs := [_]) (args := [_, _]) rfl rfl rfl rfl (by exact c) rfl ?_ | refine sA (bs := [_]) (args := [_, _, _]) rfl rfl rfl rfl (by exact c) rfl ?_ | refine sy (args := []) rfl rfl rfl (by exact c) rfl ?_ | refine sy (args := [_]) rfl rfl rfl (by exact c) rfl ?_ | refine sy (args := [_, _]) rfl rfl rfl (by exact c) rfl ?_ | refine sy (args := [_, _, _]) rfl rfl rfl (by exact c) rfl ?_); (with_reducible exact q.h)) : P := h c ⟨k⟩
theorem gF {P Q : Prop} (k : Q) (h : o4 Q → P := by intro q; (first | refine JF rfl rfl (by first | with_reducible assumption | assumption) rfl ?_ | refine EA rfl rfl rfl (by first | with_reducible assumption | assumption) rfl ?_ | refine EB rfl rfl rfl rfl (by first | with_reducible assumption | assumption) rfl ?_ | refine EC rfl rfl rfl rfl rfl (by first | with_reducible assumption | assumption) rfl ?_ | refine JG rfl rfl rfl rfl rfl rfl (by first | with_reducible assumption | assumption) rfl ?_ | refine JH rfl rfl rfl rfl rfl rfl rfl (by first | with_reducible assumption | assumption) rfl ?_ | refine sA (bs := [_]) (args := []) rfl rfl rfl rfl (by first | with_reducible assumption | assumption) rfl ?_ | refine sA (bs := [_]) (args := [_]) rfl rfl rfl rfl (by first | with_reducible assumption | assumption) rfl ?_ | refine sA (bs := [_]) (args := [_, _]) rfl rfl rfl rfl (by first | with_reducible assumption | assumption) rfl ?_ | refine sA (bs := [_]) (args := [_, _, _]) rfl rfl rfl rfl (by first | with_reducible assumption | assumption) rfl ?_ | refine sy (args := []) rfl rfl rfl (by first | with_reducible assumption | assumption) rfl ?_ | refine sy (args := [_]) rfl rfl rfl (by first | with_reducible assumption | assumption) rfl ?_ | refine sy (args := [_, _]) rfl rfl rfl (by first | with_reducible assumption | assumption) rfl ?_ | refine sy (args := [_, _, _]) rfl rfl rfl (by first | with_reducible assumption | assumption) rfl ?_); (with_reducible exact q.h)) : P := h ⟨k⟩
theorem bZ {P Q : Prop} (k : Q) (h : o4 Q → P := by intro q; (repeat (first | refine ec ?_ | refine gF ?_)); (with_reducible exact q.h)) : P := h ⟨k⟩
theorem cF {P Q : Prop} (k : Q) (h : o4 Q → P := by intro q; (first | ((with_reducible apply hX); exact rfl; (with_reducible apply AR); exact rfl; with_reducible apply gY) | ((with_reducible apply Ys); kernel_rfl) | (with_reducible first | apply Ih | apply QP | apply QY | apply MR | apply aeI | apply QZ | apply aet | apply aeF | apply adR | apply adS | apply adT | apply aeH | apply aes | apply ain) | ((with_reducible apply aim); exact rfl) | ((with_reducible apply aeG); exact rfl; (first | assumption | exact ck (by omega) | (simp only [mE]; (first | done | omega)) | exact rfl)) | ((with_reducible apply QW); exact rfl; (first | assumption | exact cC (by omega) | (simp only [mE]; (first | done | omega)) | exact rfl)) | ((with_reducible apply hX); exact rfl; (repeat refine iB ?_); with_reducible apply gY)); (with_reducible exact q.h)) : P := h ⟨k⟩
theorem aZ {P Q : Prop} (k : Q) (h : o4 Q → P := by intro q; (repeat refine cF ?_); (with_reducible exact q.h)) : P := h ⟨k⟩
theorem ia {P Q : Prop} (k : Q) (h : o4 Q → P := by intro q; ((with_reducible apply hX); exact rfl; (repeat (first | refine iB ?_ | refine gF ?_)); with_reducible apply gY); (with_reducible exact q.h)) : P := h ⟨k⟩
theorem mx {P Q : Prop} (k : Q) (h : o4 Q → P := by intro q; (repeat (first | refine cF ?_ | refine ia ?_)); (with_reducible exact q.h)) : P := h ⟨k⟩
theorem aiw {P Q A : Prop} (c : A) (k : Q) (h : A → o4 Q → P := by intro c q; ((with_reducible apply hX); exact rfl; (repeat (first | refine lp c ?_ | refine iB ?_)); with_reducible apply gY); (with_reducible exact q.h)) : P := h c ⟨k⟩
end Go.Proofs.YtbcecodakfejaaaGreat
namespace Go.Proofs.YtbcecodakfejaaaGreat
open Go.RowKit
@[go_sem] theorem ah0 (w : World) (a b : Addr) (v : Value) : ((w.setCell a v).cell? b).isSome = (w.cell? b).isSome := by
  unfold World.setCell World.cell?;simp only [tw]
  by_cases e : a.block = b.block
  · rw [if_pos e]
    cases w.heap[b.block]? with
    | none => rfl
    | some o =>
      cases o <;> simp only [gC]
      by_cases s : a.spot.isSome = true
      · simp [s]
      · by_cases t : b.spot.isSome = true
        · simp [t]
        · simp only [if_neg s, if_neg t]
          rw [Array.getElem?_setIfInBounds]
          split
          · rename_i h1
            rw [← h1]
            split
            · rename_i h2; simp [h2]
            · rename_i h2; simp [h2]
          · rfl
  · rw [if_neg e]
theorem eR {w W w1 : World} (h : Below w.heap.size w W) (ab : Below W.heap.size W w1) : Below w.heap.size w w1 := h.trans (ab.mono h.size)
theorem dC {w W : World} (h : Below w.heap.size w W) (o : Obj) : Below w.heap.size w (W.alloc o) := h.alloc h.size o
theorem gZ {w W : World} (h : Below w.heap.size w W) (b o : Nat) (v : Value) (ab : w.heap.size ≤ b) : Below w.heap.size w (W.setCell ⟨b, o, none⟩ v) := h.setCell (p := ⟨b, o, none⟩) ab v
def cM (w : World) (b : Nat) (u v : Value) : Prop := (w.cell? ⟨b, 0, none⟩ = some u ∧ w.cell? ⟨b, 1, none⟩ = some v) ∧ (w.frozen? ⟨b, 0, none⟩ = false ∧ w.frozen? ⟨b, 1, none⟩ = false)
theorem cM.lt {w : World} {b : Nat} {u v : Value} (h : cM w b u v) : b < w.heap.size := World.block_lt_of_cell? w _ h.1.1
theorem cM.call {W w1 : World} {b : Nat} {u v : Value} (h : cM W b u v) (ab : Below W.heap.size W w1) : cM w1 b u v := by
  have hl := h.lt;obtain ⟨⟨h1, h2⟩, h3, aE⟩ := h;exact ⟨⟨(ab.cell (p := ⟨b, 0, none⟩) hl).trans h1, (ab.cell (p := ⟨b, 1, none⟩) hl).trans h2⟩, (ab.frozen (p := ⟨b, 0, none⟩) hl).trans h3, (ab.frozen (p := ⟨b, 1, none⟩) hl).trans aE⟩
theorem cM.alloc {W : World} {b : Nat} {u v : Value} (h : cM W b u v) (o : Obj) : cM (W.alloc o) b u v := h.call ((Below.refl _ _).alloc (dl _) o)
theorem cM.drew {W : World} {b : Nat} {u v : Value} (h : cM W b u v) : cM W.drew b u v := h.call ((Below.refl _ _).drew)
theorem cM.new {W : World} {b : Nat} {u v : Value} {t : TypeId} (e : b = W.heap.size) : cM (W.alloc (.cells #[u, v] t)) b u v := by
  subst e;unfold cM
  go_simp
theorem cM.set {W : World} {b g : Nat} {u v x : Value} (h : cM W b u v) (o : Nat) (ne : g ≠ b) : cM (W.setCell ⟨g, o, none⟩ x) b u v := by
  obtain ⟨⟨h1, h2⟩, h3, aE⟩ := h;have fJ : (⟨g, o, none⟩ : Addr) ≠ ⟨b, 0, none⟩ := fun e => ne (congrArg Addr.block e);have dY : (⟨g, o, none⟩ : Addr) ≠ ⟨b, 1, none⟩ := fun e => ne (congrArg Addr.block e);refine ⟨⟨?_, ?_⟩, ?_, ?_⟩
  · rw [World.cell?_setCell_other _ _ _ _ fJ]; exact h1
  · rw [World.cell?_setCell_other _ _ _ _ dY]; exact h2
  · go_simp
  · go_simp
def tS (w : World) (b : Nat) : Prop := ((w.cell? ⟨b, 0, none⟩).isSome = true ∧ (w.cell? ⟨b, 1, none⟩).isSome = true) ∧ (w.frozen? ⟨b, 0, none⟩ = false ∧ w.frozen? ⟨b, 1, none⟩ = false)
theorem tS.of {W : World} {b : Nat} {u v : Value} (h : cM W b u v) : tS W b := by
  obtain ⟨⟨h1, h2⟩, h3, aE⟩ := h;exact ⟨⟨by rw [h1]; rfl, by rw [h2]; rfl⟩, h3, aE⟩
theorem tS.box {W : World} {b : Nat} (h : tS W b) : ∃ u v, cM W b u v := by
  obtain ⟨⟨h1, h2⟩, h3, aE⟩ := h;obtain ⟨u, hu⟩ := Option.isSome_iff_exists.1 h1;obtain ⟨v, hv⟩ := Option.isSome_iff_exists.1 h2;exact ⟨u, v, ⟨hu, hv⟩, h3, aE⟩
theorem cM.put {W : World} {b : Nat} {nU v' : Value} (h : tS W b) : cM ((W.setCell ⟨b, 0, none⟩ nU).setCell ⟨b, 1, none⟩ v') b nU v' := by
  obtain ⟨u, v, k⟩ := h.box;obtain ⟨⟨h1, h2⟩, h3, aE⟩ := k;unfold cM
  go_simp
theorem KS {p q : Prop} (h : p) (k : p → q) : q := k h
def fz (a b c d : Int) : Bool := a == c && b == d
theorem Ll (a b c d : Int) (w : World) : (Op.equalIn 10000 146 (.agg #[.int .i64 a, .int .u64 b]) (.agg #[.int .i64 c, .int .u64 d])).run ag w = .ok (fz a b c d) w := by
  unfold fz
  go_simp
  by_cases h : a = c <;> by_cases k : b = d <;> simp [h, k]
@[go_sem ↓ high] theorem ag9 (a b c d : Int) (w : World) : (binOp .eql 146 (.agg #[.int .i64 a, .int .u64 b]) (.agg #[.int .i64 c, .int .u64 d])).run ag w = .ok (.bool (fz a b c d)) w := by
  rw [run_eql_struct, Ll]; rfl
@[go_sem ↓ high] theorem aie (a b c d : Int) (w : World) : (binOp .neq 146 (.agg #[.int .i64 a, .int .u64 b]) (.agg #[.int .i64 c, .int .u64 d])).run ag w = .ok (.bool (!fz a b c d)) w := by
  rw [run_neq_struct, Ll]; rfl
theorem V6 (a b c d : Int) (w : World) : (Op.equalIn 10000 250 (.agg #[.int .u64 a, .int .u64 b]) (.agg #[.int .u64 c, .int .u64 d])).run ag w = .ok (fz a b c d) w := by
  unfold fz
  go_simp
  by_cases h : a = c <;> by_cases k : b = d <;> simp [h, k]
@[go_sem ↓ high] theorem aid (a b c d : Int) (w : World) : (binOp .neq 250 (.agg #[.int .u64 a, .int .u64 b]) (.agg #[.int .u64 c, .int .u64 d])).run ag w = .ok (.bool (!fz a b c d)) w := by
  rw [run_neq_struct, V6]; rfl
def cG (H L n : Int) : Prop := (-9223372036854775808 ≤ H ∧ H < 9223372036854775808) ∧ (0 ≤ L ∧ L < 18446744073709551616) ∧ n = H * 18446744073709551616 + L
def dw (H L n : Int) : Prop := (0 ≤ H ∧ H < 18446744073709551616) ∧ (0 ≤ L ∧ L < 18446744073709551616) ∧ n = H * 18446744073709551616 + L
def wr (n : Int) : Int := (n + 170141183460469231731687303715884105728) % 340282366920938463463374607431768211456 - 170141183460469231731687303715884105728
def fits (n : Int) : Bool := decide (-170141183460469231731687303715884105728 ≤ n ∧ n < 170141183460469231731687303715884105728)
def Eo (n : Int) (w : World) (e : Ending) (w' : World) : Prop := ∃ H L, e = .returned (.agg #[.int .i64 H, .int .u64 L]) ∧ cG H L n ∧ Below w.heap.size w w'
def oZ (n : Int) (w : World) (e : Ending) (w' : World) : Prop := ∃ H L, e = .returned (.tuple #[.agg #[.int .i64 H, .int .u64 L], .bool (fits n)]) ∧ cG H L (if fits n then n else 0) ∧ Below w.heap.size w w'
def aS (n : Int) (w : World) (e : Ending) (w' : World) : Prop := ∃ H L, e = .returned (.agg #[.int .u64 H, .int .u64 L]) ∧ dw H L n ∧ Below w.heap.size w w'
def kz (v : Value) (w : World) (e : Ending) (w' : World) : Prop := e = .returned v ∧ Below w.heap.size w w'
def cD (n m : Int) : Int := if n = m then 0 else if n < m then -1 else 1
theorem wJ : cG 0 0 0 := by unfold cG; omega
theorem cG.fits {H L n : Int} (h : cG H L n) : fits n = true := by
  obtain ⟨a, b, rfl⟩ := h;unfold Proofs.YtbcecodakfejaaaGreat.fits;rw [ca];omega
theorem cG.neg {H L n : Int} (h : cG H L n) : H < 0 ↔ n < 0 := by
  obtain ⟨a, b, rfl⟩ := h;omega
theorem cG.fz {H L xp L' n m : Int} (h : cG H L n) (k : cG xp L' m) : fz H L xp L' = decide (n = m) := by
  obtain ⟨a, b, rfl⟩ := h;obtain ⟨c, d, rfl⟩ := k;unfold Proofs.YtbcecodakfejaaaGreat.fz;rw [lN];simp only [dx, beq_iff_eq, ca];omega
theorem dw.fz {H L xp L' n m : Int} (h : dw H L n) (k : dw xp L' m) : fz H L xp L' = decide (n = m) := by
  obtain ⟨a, b, rfl⟩ := h;obtain ⟨c, d, rfl⟩ := k;unfold Proofs.YtbcecodakfejaaaGreat.fz;rw [lN];simp only [dx, beq_iff_eq, ca];omega
theorem y4 : dw 0 0 0 := by unfold dw; omega
theorem IM {n : Int} (h : fits n = true) : wr n = n := by
  unfold Proofs.YtbcecodakfejaaaGreat.fits at h;unfold wr;rw [ca] at h;omega
theorem r9 {n H L : Int} {w w' : World} (h : fits n = true) (k : cG H L n) (b : Below w.heap.size w w') : oZ n w (.returned (.tuple #[.agg #[.int .i64 H, .int .u64 L], .bool true])) w' := ⟨H, L, by rw [h], by rw [h]; exact k, b⟩
theorem zM {n : Int} {w w' : World} (h : fits n = false) (b : Below w.heap.size w w') : oZ n w (.returned (.tuple #[.agg #[.int .i64 0, .int .u64 0], .bool false])) w' := ⟨0, 0, by rw [h], by rw [h]; exact wJ, b⟩
theorem AM (x y c : Int) (aa : 0 ≤ x) (ai : 0 ≤ y) (uy : 0 ≤ c) (aj : c ≤ 1) (w : World) :
    (callFunc 207 #[.int .u64 x, .int .u64 y, .int .u64 c]).run ag w =
      .ok (.value (.tuple #[.int .u64 ((x + y + c) % 18446744073709551616), .int .u64 ((x + y + c) / 18446744073709551616)])) w := by
  rw [run_callFunc_extern Tryz.func207 (by kernel_rfl) (by kernel_rfl) (by kernel_rfl) (e := add64Entry) (by kernel_rfl), run_add64 x y c aa ai uy aj];rfl
def Rd : Array Value → Sem Value := fun args => do
  let (x, y, b) ← Extern.MathBitsCarry.three "Sub64" args
  pure (Extern.MathBitsCarry.pair ((x + Extern.MathBitsCarry.m64 - y - b) % Extern.MathBitsCarry.m64) (if x < y + b then 1 else 0))
theorem aeC {P : Program} (x y b : Nat) (ab : b ≤ 1) (w : World) :
    (Rd #[.int .u64 x, .int .u64 y, .int .u64 b]).run P w =
      .ok (.tuple #[.int .u64 (((x + 18446744073709551616 - y - b) % 18446744073709551616 : Nat) : Int), .int .u64 ((if x < y + b then 1 else 0 : Nat) : Int)]) w := by
  have : b = 0 ∨ b = 1 := by omega
  rcases this with rfl | rfl <;> rfl
theorem DD (x y c : Int) (aa : 0 ≤ x) (GN : x < 18446744073709551616) (ai : 0 ≤ y) (GO : y < 18446744073709551616) (uy : 0 ≤ c) (aj : c ≤ 1) (w : World) :
    (callFunc 193 #[.int .u64 x, .int .u64 y, .int .u64 c]).run ag w =
      .ok (.value (.tuple #[.int .u64 ((x - y - c) % 18446744073709551616), .int .u64 (-((x - y - c) / 18446744073709551616))])) w := by
  obtain ⟨X, rfl⟩ := lO aa;obtain ⟨Y, rfl⟩ := lO ai;obtain ⟨C, rfl⟩ := lO uy;rw [run_callFunc_extern Tryz.func193 (by kernel_rfl) (by kernel_rfl) (by kernel_rfl) (e := Rd) (by kernel_rfl), aeC X Y C (by omega)];simp only [Result.andThen];have aF : (((X + 18446744073709551616 - Y - C) % 18446744073709551616 : Nat) : Int) = ((X : Int) - Y - C) % 18446744073709551616 := by omega
  have aN : ((if X < Y + C then 1 else 0 : Nat) : Int) = -(((X : Int) - Y - C) / 18446744073709551616) := by split <;> omega
  rw [aF, aN]
theorem adw (h1 l1 h2 l2 : Int) (b1 : -9223372036854775808 ≤ h1 ∧ h1 < 9223372036854775808) (b2 : 0 ≤ l1 ∧ l1 < 18446744073709551616)
   (dQ : -9223372036854775808 ≤ h2 ∧ h2 < 9223372036854775808) (dz : 0 ≤ l2 ∧ l2 < 18446744073709551616) :
   cG (wrap64 ((IntKind.u64.wrap h1 + IntKind.u64.wrap h2 + (l1 + l2 + 0) / 18446744073709551616) % 18446744073709551616)) ((l1 + l2 + 0) % 18446744073709551616) (wr ((h1 * 18446744073709551616 + l1) + (h2 * 18446744073709551616 + l2))) := by
  unfold cG wr wrap64;rw [IntKind.wrap_u64, IntKind.wrap_u64];omega
theorem aaB (h1 l1 h2 l2 : Int) (b1 : -9223372036854775808 ≤ h1 ∧ h1 < 9223372036854775808) (b2 : 0 ≤ l1 ∧ l1 < 18446744073709551616)
   (dQ : -9223372036854775808 ≤ h2 ∧ h2 < 9223372036854775808) (dz : 0 ≤ l2 ∧ l2 < 18446744073709551616) :
   cG (wrap64 ((IntKind.u64.wrap h1 - IntKind.u64.wrap h2 - -((l1 - l2 - 0) / 18446744073709551616)) % 18446744073709551616)) ((l1 - l2 - 0) % 18446744073709551616) (wr ((h1 * 18446744073709551616 + l1) - (h2 * 18446744073709551616 + l2))) := by
  unfold cG wr wrap64;rw [IntKind.wrap_u64, IntKind.wrap_u64];omega
theorem vi (h : Int) : 0 ≤ IntKind.u64.wrap h ∧ IntKind.u64.wrap h < 18446744073709551616 := by rw [IntKind.wrap_u64]; omega
theorem PS (h1 l1 h2 l2 n m : Int) (w : World) (H1 : cG h1 l1 n) (cQ : cG h2 l2 m) :
    Calls ag 213 #[.agg #[.int .i64 h1, .int .u64 l1], .agg #[.int .i64 h2, .int .u64 l2]] w (Eo (wr (n + m)) w) := by
  obtain ⟨b1, b2, rfl⟩ := H1;obtain ⟨dQ, dz, rfl⟩ := cQ;have hv := adw h1 l1 h2 l2 b1 b2 dQ dz;have aF := fun w => AM l1 l2 0 b2.1 dz.1 (by omega) (by omega) w;have aN := fun w => AM (IntKind.u64.wrap h1) (IntKind.u64.wrap h2) ((l1 + l2 + 0) / 18446744073709551616) (vi h1).1 (vi h2).1 (by omega) (by omega) w;generalize (l1 + l2 + 0) / 18446744073709551616 = c at *;generalize (l1 + l2 + 0) % 18446744073709551616 = s at *;generalize (IntKind.u64.wrap h1 + IntKind.u64.wrap h2 + c) % 18446744073709551616 = s' at *;generalize (IntKind.u64.wrap h1 + IntKind.u64.wrap h2 + c) / 18446744073709551616 = c' at *;generalize (h1 * 18446744073709551616 + l1) + (h2 * 18446744073709551616 + l2) = uZ at *;clear b1 b2 dQ dz
  go_enter Tryz.func213, Tryz.ntmps213
  go_wp2
  refine bodyPost_ret (v := .agg #[.int .i64 (wrap64 s'), .int .u64 s]) (by simp only [results, Tryz.results213]; go_simp) rfl ⟨_, _, rfl, hv, ?_⟩;(repeat first | with_reducible exact Below.refl _ _ | with_reducible refine dC ?_ _)
theorem zh (h1 l1 h2 l2 n m : Int) (w : World) (H1 : cG h1 l1 n) (cQ : cG h2 l2 m) :
    Calls ag 166 #[.agg #[.int .i64 h1, .int .u64 l1], .agg #[.int .i64 h2, .int .u64 l2]] w (Eo (wr (n - m)) w) := by
  obtain ⟨b1, b2, rfl⟩ := H1;obtain ⟨dQ, dz, rfl⟩ := cQ;have hv := aaB h1 l1 h2 l2 b1 b2 dQ dz;have aF := fun w => DD l1 l2 0 b2.1 b2.2 dz.1 dz.2 (by omega) (by omega) w;have aN := fun w => DD (IntKind.u64.wrap h1) (IntKind.u64.wrap h2) (-((l1 - l2 - 0) / 18446744073709551616)) (vi h1).1 (vi h1).2 (vi h2).1 (vi h2).2 (by omega) (by omega) w;generalize -((l1 - l2 - 0) / 18446744073709551616) = c at *;generalize (l1 - l2 - 0) % 18446744073709551616 = s at *;generalize (IntKind.u64.wrap h1 - IntKind.u64.wrap h2 - c) % 18446744073709551616 = s' at *;generalize -((IntKind.u64.wrap h1 - IntKind.u64.wrap h2 - c) / 18446744073709551616) = c' at *;generalize (h1 * 18446744073709551616 + l1) - (h2 * 18446744073709551616 + l2) = uZ at *;clear b1 b2 dQ dz
  go_enter Tryz.func166, Tryz.ntmps166
  go_wp2
  refine bodyPost_ret (v := .agg #[.int .i64 (wrap64 s'), .int .u64 s]) (by simp only [results, Tryz.results166]; go_simp) rfl ⟨_, _, rfl, hv, ?_⟩;(repeat first | with_reducible exact Below.refl _ _ | with_reducible refine dC ?_ _)
theorem AN {h1 l1 h2 l2 fR hO n m : Int} (H1 : cG h1 l1 n) (cQ : cG h2 l2 m) (tP : cG fR hO (wr (n + m))) (h : ¬ (decide (h1 < 0) = decide (h2 < 0)) ∨ (!decide (fR < 0) == decide (h2 < 0)) = false) : fits (n + m) = true ∧ cG fR hO (n + m) := by
  obtain ⟨b1, b2, rfl⟩ := H1;obtain ⟨dQ, dz, rfl⟩ := cQ;obtain ⟨EL, AZ, e⟩ := tP;unfold wr at e;unfold fits cG;simp only [decide_eq_decide, Bool.not_eq_false', beq_iff_eq] at h;rw [ca];omega
theorem To {h1 l1 h2 l2 fR hO n m : Int} (H1 : cG h1 l1 n) (cQ : cG h2 l2 m) (tP : cG fR hO (wr (n + m))) (h : (decide (h1 < 0) = decide (h2 < 0))) (k : (!decide (fR < 0) == decide (h2 < 0)) = true) : fits (n + m) = false := by
  obtain ⟨b1, b2, rfl⟩ := H1;obtain ⟨dQ, dz, rfl⟩ := cQ;obtain ⟨EL, AZ, e⟩ := tP;unfold wr at e;unfold fits;simp only [decide_eq_decide, tx, beq_eq_false_iff_ne, ne_eq] at h k;rw [jF];omega
theorem RQ (h1 l1 h2 l2 n m : Int) (w : World) (H1 : cG h1 l1 n) (cQ : cG h2 l2 m) :
    Calls ag 204 #[.agg #[.int .i64 h1, .int .u64 l1], .agg #[.int .i64 h2, .int .u64 l2]] w (oZ (n + m) w) := by
  go_enter Tryz.func204, Tryz.ntmps204
  go_wp2_with (go_at_call 213; refine (PS _ _ _ _ _ _ _ H1 cQ).mono ?_; rintro e w1 ⟨fR, hO, rfl, hs, ab⟩; have vF := Below.cell ab (p := ⟨w.heap.size, 0, none⟩) (by (simp; omega)); have vR := Below.frozen ab (p := ⟨w.heap.size, 0, none⟩) (by (simp; omega)); have vG := Below.cell ab (p := ⟨w.heap.size, 1, none⟩) (by (simp; omega)); have vS := Below.frozen ab (p := ⟨w.heap.size, 1, none⟩) (by (simp; omega)); have xW := Below.cell ab (p := ⟨w.heap.size + 1, 0, none⟩) (by (simp; done)); have x9 := Below.frozen ab (p := ⟨w.heap.size + 1, 0, none⟩) (by (simp; done)); have xX := Below.cell ab (p := ⟨w.heap.size + 1, 1, none⟩) (by (simp; done)); have ya := Below.frozen ab (p := ⟨w.heap.size + 1, 1, none⟩) (by (simp; done)); have UW := Below.cell ab (p := ⟨w.heap.size + 1 + 1, 0, none⟩) (by (simp; done)); have Wd := Below.frozen ab (p := ⟨w.heap.size + 1 + 1, 0, none⟩) (by (simp; done)); have UX := Below.cell ab (p := ⟨w.heap.size + 1 + 1, 1, none⟩) (by (simp; done)); have We := Below.frozen ab (p := ⟨w.heap.size + 1 + 1, 1, none⟩) (by (simp; done)); have nG := Below.size ab; (try simp at nG); have wQ : ¬ w1.heap.size = w.heap.size := (by omega); have zj : ¬ w1.heap.size = w.heap.size + 1 := (by omega); have aa1 : ¬ w1.heap.size = w.heap.size + 1 + 1 := (by omega))
  · refine bodyPost_ret (v := .tuple #[.agg #[.int .i64 0, .int .u64 0], .bool false]) (by simp only [results, Tryz.results204]; go_simp) rfl (zM (To H1 cQ hs ‹_› ‹_›) ?_)
    (repeat first | with_reducible exact Below.refl _ _ | with_reducible refine dC ?_ _ | focus ((with_reducible refine gZ ?_ _ _ _ ?_); rotate_left; omega) | with_reducible refine eR ?_ ab)
  · refine bodyPost_ret (v := .tuple #[.agg #[.int .i64 fR, .int .u64 hO], .bool true]) (by simp only [results, Tryz.results204]; go_simp) rfl (r9 (AN H1 cQ hs (.inr ‹_›)).1 (AN H1 cQ hs (.inr ‹_›)).2 ?_)
    (repeat first | with_reducible exact Below.refl _ _ | with_reducible refine dC ?_ _ | focus ((with_reducible refine gZ ?_ _ _ _ ?_); rotate_left; omega) | with_reducible refine eR ?_ ab)
  · refine bodyPost_ret (v := .tuple #[.agg #[.int .i64 fR, .int .u64 hO], .bool true]) (by simp only [results, Tryz.results204]; go_simp) rfl (r9 (AN H1 cQ hs (.inl ‹_›)).1 (AN H1 cQ hs (.inl ‹_›)).2 ?_)
    (repeat first | with_reducible exact Below.refl _ _ | with_reducible refine dC ?_ _ | focus ((with_reducible refine gZ ?_ _ _ _ ?_); rotate_left; omega) | with_reducible refine eR ?_ ab)
theorem DE {h1 l1 h2 l2 fR hO n m : Int} (H1 : cG h1 l1 n) (cQ : cG h2 l2 m) (tP : cG fR hO (wr (n - m))) (h : (decide (h1 < 0) = decide (h2 < 0)) ∨ (!decide (fR < 0) == decide (h1 < 0)) = false) : fits (n - m) = true ∧ cG fR hO (n - m) := by
  obtain ⟨b1, b2, rfl⟩ := H1;obtain ⟨dQ, dz, rfl⟩ := cQ;obtain ⟨EL, AZ, e⟩ := tP;unfold wr at e;unfold fits cG;simp only [decide_eq_decide, Bool.not_eq_false', beq_iff_eq] at h;rw [ca];omega
theorem afy {h1 l1 h2 l2 fR hO n m : Int} (H1 : cG h1 l1 n) (cQ : cG h2 l2 m) (tP : cG fR hO (wr (n - m))) (h : ¬ (decide (h1 < 0) = decide (h2 < 0))) (k : (!decide (fR < 0) == decide (h1 < 0)) = true) : fits (n - m) = false := by
  obtain ⟨b1, b2, rfl⟩ := H1;obtain ⟨dQ, dz, rfl⟩ := cQ;obtain ⟨EL, AZ, e⟩ := tP;unfold wr at e;unfold fits;simp only [decide_eq_decide, tx, beq_eq_false_iff_ne, ne_eq] at h k;rw [jF];omega
theorem SZ (h1 l1 h2 l2 n m : Int) (w : World) (H1 : cG h1 l1 n) (cQ : cG h2 l2 m) :
    Calls ag 149 #[.agg #[.int .i64 h1, .int .u64 l1], .agg #[.int .i64 h2, .int .u64 l2]] w (oZ (n - m) w) := by
  go_enter Tryz.func149, Tryz.ntmps149
  go_wp2_with (go_at_call 166; refine (zh _ _ _ _ _ _ _ H1 cQ).mono ?_; rintro e w1 ⟨fR, hO, rfl, hs, ab⟩; have vF := Below.cell ab (p := ⟨w.heap.size, 0, none⟩) (by (simp; omega)); have vR := Below.frozen ab (p := ⟨w.heap.size, 0, none⟩) (by (simp; omega)); have vG := Below.cell ab (p := ⟨w.heap.size, 1, none⟩) (by (simp; omega)); have vS := Below.frozen ab (p := ⟨w.heap.size, 1, none⟩) (by (simp; omega)); have xW := Below.cell ab (p := ⟨w.heap.size + 1, 0, none⟩) (by (simp; done)); have x9 := Below.frozen ab (p := ⟨w.heap.size + 1, 0, none⟩) (by (simp; done)); have xX := Below.cell ab (p := ⟨w.heap.size + 1, 1, none⟩) (by (simp; done)); have ya := Below.frozen ab (p := ⟨w.heap.size + 1, 1, none⟩) (by (simp; done)); have UW := Below.cell ab (p := ⟨w.heap.size + 1 + 1, 0, none⟩) (by (simp; done)); have Wd := Below.frozen ab (p := ⟨w.heap.size + 1 + 1, 0, none⟩) (by (simp; done)); have UX := Below.cell ab (p := ⟨w.heap.size + 1 + 1, 1, none⟩) (by (simp; done)); have We := Below.frozen ab (p := ⟨w.heap.size + 1 + 1, 1, none⟩) (by (simp; done)); have nG := Below.size ab; (try simp at nG); have wQ : ¬ w1.heap.size = w.heap.size := (by omega); have zj : ¬ w1.heap.size = w.heap.size + 1 := (by omega); have aa1 : ¬ w1.heap.size = w.heap.size + 1 + 1 := (by omega))
  · refine bodyPost_ret (v := .tuple #[.agg #[.int .i64 0, .int .u64 0], .bool false]) (by simp only [results, Tryz.results149]; go_simp) rfl (zM (afy H1 cQ hs ‹_› ‹_›) ?_)
    (repeat first | with_reducible exact Below.refl _ _ | with_reducible refine dC ?_ _ | focus ((with_reducible refine gZ ?_ _ _ _ ?_); rotate_left; omega) | with_reducible refine eR ?_ ab)
  · refine bodyPost_ret (v := .tuple #[.agg #[.int .i64 fR, .int .u64 hO], .bool true]) (by simp only [results, Tryz.results149]; go_simp) rfl (r9 (DE H1 cQ hs (.inr ‹_›)).1 (DE H1 cQ hs (.inr ‹_›)).2 ?_)
    (repeat first | with_reducible exact Below.refl _ _ | with_reducible refine dC ?_ _ | focus ((with_reducible refine gZ ?_ _ _ _ ?_); rotate_left; omega) | with_reducible refine eR ?_ ab)
  · refine bodyPost_ret (v := .tuple #[.agg #[.int .i64 fR, .int .u64 hO], .bool true]) (by simp only [results, Tryz.results149]; go_simp) rfl (r9 (DE H1 cQ hs (.inl ‹_›)).1 (DE H1 cQ hs (.inl ‹_›)).2 ?_)
    (repeat first | with_reducible exact Below.refl _ _ | with_reducible refine dC ?_ _ | focus ((with_reducible refine gZ ?_ _ _ _ ?_); rotate_left; omega) | with_reducible refine eR ?_ ab)
end Go.Proofs.YtbcecodakfejaaaGreat
namespace Go.Proofs.YtbcecodakfejaaaGreat
open Go.RowKit
theorem tF {k : IntKind} {a b : Int} (h : a = b) : Ending.returned (.int k a) = .returned (.int k b) := by rw [h]
theorem adZ {a b : Bool} (h : a = b) : Ending.returned (.bool a) = .returned (.bool b) := by rw [h]
theorem Zb : cG (-9223372036854775808) 0 (-170141183460469231731687303715884105728) := by unfold cG; omega
theorem aa2 {n : Int} (H : fits n = true) : fits (0 - n) = !decide (n = -170141183460469231731687303715884105728) := by
  unfold fits at *;rw [ca] at H;rw [lN];simp only [ca, tx, jF];omega
theorem SK (h1 l1 n : Int) (w : World) (H1 : cG h1 l1 n) :
    Calls ag 169 #[.agg #[.int .i64 h1, .int .u64 l1]] w (oZ (-n) w) := by
  have Aw := Lib.hid (aa2 H1.fits);have he := H1.fz Zb;rw [← Int.zero_sub]
  by_cases e : n = -170141183460469231731687303715884105728
  · have hd : fz h1 l1 (-9223372036854775808) 0 = true := by rw [he]; exact ck e
    have Av : Hid (fits (0 - n) = false) := by have := Aw.out; rw [ck e] at this; exact this
    clear he Aw e
    go_enter Tryz.func169, Tryz.ntmps169
    go_wp2
    refine bodyPost_ret (v := .tuple #[.agg #[.int .i64 0, .int .u64 0], .bool false]) (by simp only [results, Tryz.results169]; go_simp) rfl (zM Av.out ?_);(repeat first | with_reducible exact Below.refl _ _ | with_reducible refine dC ?_ _)
  · have hd : fz h1 l1 (-9223372036854775808) 0 = false := by rw [he]; exact cC e
    have Av : Hid (fits (0 - n) = true) := by have := Aw.out; rw [cC e] at this; exact this
    clear he Aw e
    go_enter Tryz.func169, Tryz.ntmps169
    go_wp2_with (go_at_call 166; refine (zh _ _ _ _ _ _ _ wJ H1).mono ?_; rintro e w1 ⟨fR, hO, rfl, hs, ab⟩; have vF := Below.cell ab (p := ⟨w.heap.size, 0, none⟩) (by (simp; omega)); have vR := Below.frozen ab (p := ⟨w.heap.size, 0, none⟩) (by (simp; omega)); have vG := Below.cell ab (p := ⟨w.heap.size, 1, none⟩) (by (simp; omega)); have vS := Below.frozen ab (p := ⟨w.heap.size, 1, none⟩) (by (simp; omega)); have xW := Below.cell ab (p := ⟨w.heap.size + 1, 0, none⟩) (by (simp; done)); have x9 := Below.frozen ab (p := ⟨w.heap.size + 1, 0, none⟩) (by (simp; done)); have xX := Below.cell ab (p := ⟨w.heap.size + 1, 1, none⟩) (by (simp; done)); have ya := Below.frozen ab (p := ⟨w.heap.size + 1, 1, none⟩) (by (simp; done)); have nG := Below.size ab; (try simp at nG); have wQ : ¬ w1.heap.size = w.heap.size := (by omega); have zj : ¬ w1.heap.size = w.heap.size + 1 := (by omega))
    rw [IM Av.out] at hs;refine bodyPost_ret (v := .tuple #[.agg #[.int .i64 fR, .int .u64 hO], .bool true]) (by simp only [results, Tryz.results169]; go_simp) rfl (r9 Av.out hs ?_);(repeat first | with_reducible exact Below.refl _ _ | with_reducible refine dC ?_ _ | focus ((with_reducible refine gZ ?_ _ _ _ ?_); rotate_left; omega) | with_reducible refine eR ?_ ab)
theorem IU (h1 l1 h2 l2 n m : Int) (w : World) (H1 : cG h1 l1 n) (cQ : cG h2 l2 m) :
    Calls ag 197 #[.agg #[.int .i64 h1, .int .u64 l1], .agg #[.int .i64 h2, .int .u64 l2]] w (kz (.int .i64 (cD n m)) w) := by
  go_enter Tryz.func197, Tryz.ntmps197
  go_wp2
  all_goals
    go_ret
    refine ⟨tF ?_, by (repeat first | with_reducible exact Below.refl _ _ | with_reducible refine dC ?_ _)⟩;simp only [H1.fz cQ, ca, jF] at *;obtain ⟨b1, b2, aF⟩ := H1;obtain ⟨dQ, dz, aN⟩ := cQ;unfold cD
    repeat' split
    all_goals omega
theorem SW (h1 l1 n : Int) (w : World) (H1 : cG h1 l1 n) :
    Calls ag 168 #[.agg #[.int .i64 h1, .int .u64 l1]] w (kz (.int .i64 (cD n 0)) w) := by
  go_enter Tryz.func168, Tryz.ntmps168
  go_wp2_with (go_at_call 197; refine (IU _ _ _ _ _ _ _ H1 wJ).mono ?_; rintro e w1 ⟨rfl, ab⟩)
  go_ret
  exact ⟨rfl, by (repeat first | with_reducible exact Below.refl _ _ | with_reducible refine dC ?_ _ | with_reducible refine eR ?_ ab)⟩
theorem abt (n : Int) (aA : -9223372036854775808 ≤ n) (h1 : n < 9223372036854775808) : cG (n / 9223372036854775808) (IntKind.u64.wrap n) n := by
  unfold cG;rw [IntKind.wrap_u64];omega
theorem Jb (n : Int) (w : World) (aA : -9223372036854775808 ≤ n) (h1 : n < 9223372036854775808) :
    Calls ag 152 #[.int .i64 n] w (Eo n w) := by
  have hv := abt n aA h1
  go_enter Tryz.func152, Tryz.ntmps152
  go_wp2
  refine bodyPost_ret (v := .agg #[.int .i64 (n / 9223372036854775808), .int .u64 (IntKind.u64.wrap n)]) (by simp only [results, Tryz.results152]; go_simp) rfl ⟨_, _, rfl, hv, ?_⟩;(repeat first | with_reducible exact Below.refl _ _ | with_reducible refine dC ?_ _)
def small (n : Int) : Bool := decide (-9223372036854775808 ≤ n ∧ n < 9223372036854775808)
theorem Ra (l : Int) : -9223372036854775808 ≤ wrap64 l ∧ wrap64 l < 9223372036854775808 := by unfold wrap64; omega
theorem afi {h l n a b : Int} (H : cG h l n) (K : cG a b (wrap64 l)) (e : fz a b h l = true) : small n = true ∧ wrap64 l = n := by
  rw [K.fz H, ca] at e;have VS := e; clear e;obtain ⟨b1, b2, rfl⟩ := H;obtain ⟨dQ, dz, e⟩ := K;unfold wrap64 at *;unfold small;rw [ca];omega
theorem afh {h l n a b : Int} (H : cG h l n) (K : cG a b (wrap64 l)) (e : fz a b h l = false) : small n = false := by
  rw [K.fz H, jF] at e;have VS := e; clear e;obtain ⟨b1, b2, rfl⟩ := H;obtain ⟨dQ, dz, e⟩ := K;unfold wrap64 at *;unfold small;rw [jF];omega
def vy (n : Int) (w : World) (e : Ending) (w' : World) : Prop := e = .returned (.tuple #[.int .i64 (if small n then n else 0), .bool (small n)]) ∧ Below w.heap.size w w'
theorem aer {n m : Int} {w w' : World} (h : small n = true) (e : m = n) (b : Below w.heap.size w w') : vy n w (.returned (.tuple #[.int .i64 m, .bool true])) w' := ⟨by rw [h, e]; rfl, b⟩
theorem aeq {n : Int} {w w' : World} (h : small n = false) (b : Below w.heap.size w w') : vy n w (.returned (.tuple #[.int .i64 0, .bool false])) w' := ⟨by rw [h]; rfl, b⟩
theorem Er (h1 l1 n : Int) (w : World) (H1 : cG h1 l1 n) :
    Calls ag 162 #[.agg #[.int .i64 h1, .int .u64 l1]] w (vy n w) := by
  go_enter Tryz.func162, Tryz.ntmps162
  go_wp2_with fail
  go_region_held3 (fun w' => w'.cell? ⟨w.heap.size, 0, none⟩ = some (.int .i64 h1) ∧ w'.cell? ⟨w.heap.size, 1, none⟩ = some (.int .u64 l1)) (go_keep)
    ((go_at_call 152; refine (Jb _ _ (Ra l1).1 (Ra l1).2).mono ?_; rintro e w1 ⟨fR, hO, rfl, hs, ab⟩; have vF := Below.cell ab (p := ⟨w.heap.size, 0, none⟩) (by (simp; done)); have vR := Below.frozen ab (p := ⟨w.heap.size, 0, none⟩) (by (simp; done)); have vG := Below.cell ab (p := ⟨w.heap.size, 1, none⟩) (by (simp; done)); have vS := Below.frozen ab (p := ⟨w.heap.size, 1, none⟩) (by (simp; done)); have nG := Below.size ab; (try simp at nG); have wQ : ¬ w1.heap.size = w.heap.size := (by omega)))
  go_wp2
  · go_ret2
    exact aeq (afh H1 hs (by simpa using ‹(!fz fR hO h1 l1) = true›)) (by (repeat first | with_reducible exact Below.refl _ _ | with_reducible refine dC ?_ _ | with_reducible refine Below.drew ?_ | with_reducible refine eR ?_ ab))
  · go_ret2
    have ai := afi H1 hs (by simpa using ‹(!fz fR hO h1 l1) = false›);exact aer ai.1 ai.2 (by (repeat first | with_reducible exact Below.refl _ _ | with_reducible refine dC ?_ _ | with_reducible refine Below.drew ?_ | with_reducible refine eR ?_ ab))
end Go.Proofs.YtbcecodakfejaaaGreat
namespace Go.Proofs.YtbcecodakfejaaaGreat.bp
structure cO (α : Type) where
 BS : α → α → α → Bool
 gp : α → α → List α → List α
 cut : α × α → α × α → Option α
 n : Nat
 P : Nat → α
 Q : Nat → α
 tu : Nat → Nat → Option α
 R : Nat
 gG : α → Prop
structure aS (α : Type) where
 ph : Nat
 I : Nat
 J : Nat
 T : Nat
 dirty : Bool
 hot : List α
 fnd : List α
 ch : List (List α × List Int)
variable {α : Type} [DecidableEq α]
def iq : List α → List (α × α)
 | p :: q :: W => (p, q) :: iq (q :: W)
 | _ => []
def aX (ch : List (List α × List Int)) : List (α × α) := ch.flatMap fun c => iq c.1
def bT (V : List α) (j : Nat) (l : List α) : List α := V.take (j + 1) ++ l ++ V.drop (j + 1)
def ei (D : List Int) (j : Nat) (n : Nat) : List Int := D.take j ++ List.replicate (n + 1) (D.getD j 0 + 1) ++ D.drop (j + 1)
def gN (p q : α) : List α × List Int := if p = q then ([p], []) else ([p, q], [1])
def e7 (s : aS α) (ph I J : Nat) : aS α := { s with ph := ph, I := I, J := J, T := 0, fnd := [] }
def dE (o : cO α) (s : aS α) (q : α) : aS α :=
 if q ∈ s.hot then s else if s.hot.length < o.R then { s with hot := s.hot ++ [q] } else e7 s 5 0 0
def tG : List (List α × List Int) → Nat → Nat → Option (Nat × Nat)
 | [], _, _ => none
 | c :: cs, i, j => if j + 1 < c.1.length then some (i, j) else tG cs (i + 1) 0
def lR (s : aS α) : aS α :=
 match tG (s.ch.drop s.I) s.I s.J with
 | some Cb => { s with I := Cb.1, J := Cb.2 }
 | none => if (aX s.ch).length < 2 then e7 s 4 0 0 else e7 s 3 0 1
def nf (s : aS α) : aS α := if s.dirty = true then lR (e7 { s with dirty := false } 2 0 0) else e7 s 4 0 0
def ld (o : cO α) (s : aS α) : aS α := lR (e7 { s with ch := (List.range o.n).map fun k => gN (o.P k) (o.Q k) } 2 0 0)
def sJ (o : cO α) (s : aS α) : aS α :=
 if (dE o s (o.P s.I)).ph = 5 then dE o s (o.P s.I) else
 if (dE o (dE o s (o.P s.I)) (o.Q s.I)).ph = 5 then dE o (dE o s (o.P s.I)) (o.Q s.I) else
 if s.I + 1 < o.n then { dE o (dE o s (o.P s.I)) (o.Q s.I) with I := s.I + 1 } else
 if o.n < 2 then ld o (dE o (dE o s (o.P s.I)) (o.Q s.I)) else e7 (dE o (dE o s (o.P s.I)) (o.Q s.I)) 1 0 1
def b6 (many I J : Nat) : Nat × Nat := if many ≤ J + 1 then (I + 1, I + 2) else (I, J + 1)
def kk (o : cO α) (s : aS α) : Option α → aS α
 | some x => dE o s x
 | none => s
def ts (o : cO α) (s : aS α) : aS α :=
 if (kk o s (o.tu s.I s.J)).ph = 5 then kk o s (o.tu s.I s.J) else
 if (b6 o.n s.I s.J).2 < o.n then { kk o s (o.tu s.I s.J) with I := (b6 o.n s.I s.J).1, J := (b6 o.n s.I s.J).2 } else ld o (kk o s (o.tu s.I s.J))
def iI (o : cO α) (p q x : α) : Bool := decide (x ≠ p) && decide (x ≠ q) && o.BS p q x
def k2 (o : cO α) (p q x : α) (fnd : List α) : List α := if iI o p q x = true then fnd ++ [x] else fnd
def rR (o : cO α) (s : aS α) (c : List α × List Int) (p q : α) (fnd : List α) : aS α :=
 if s.T + 1 < s.hot.length then { s with fnd := fnd, T := s.T + 1 } else
 if fnd = [] then lR { s with T := 0, fnd := [], J := s.J + 1 } else
 { s with T := 0, fnd := [], ch := s.ch.set s.I (bT c.1 s.J (o.gp p q fnd), ei c.2 s.J fnd.length) }
def w4 (o : cO α) (s : aS α) : aS α :=
 match s.ch[s.I]? with
 | some c =>
  match c.1[s.J]?, c.1[s.J + 1]?, s.hot[s.T]? with
  | some p, some q, some x => rR o s c p q (k2 o p q x s.fnd)
  | _, _, _ => s
 | none => s
def dL (o : cO α) (s : aS α) : Option α → aS α
 | some x => if (dE o s x).ph = 5 then dE o s x else { dE o s x with dirty := true }
 | none => s
def rU (o : cO α) (s : aS α) : aS α :=
 match (aX s.ch)[s.I]?, (aX s.ch)[s.J]? with
 | some a, some b =>
  if (dL o s (o.cut a b)).ph = 5 then dL o s (o.cut a b) else
  if (b6 (aX s.ch).length s.I s.J).2 < (aX s.ch).length then { dL o s (o.cut a b) with I := (b6 (aX s.ch).length s.I s.J).1, J := (b6 (aX s.ch).length s.I s.J).2 } else nf (dL o s (o.cut a b))
 | _, _ => s
def eJ (o : cO α) (s : aS α) : aS α :=
 match s.ph with
 | 0 => sJ o s
 | 1 => ts o s
 | 2 => w4 o s
 | 3 => rU o s
 | _ => s
def q5 (o : cO α) (hot : List α) (p q : α) : Prop := ∀ x ∈ hot, iI o p q x = false
structure ke (o : cO α) (ok : Nat → List α × List Int → Prop) : Prop where
 nodup : ∀ i c, ok i c → c.1.Nodup
 new : ∀ i, i < o.n → ok i (gN (o.P i) (o.Q i))
 split : ∀ (i : Nat) (c : List α × List Int) (j : Nat) (p q : α) (bc : List α), ok i c → c.1.length = c.2.length + 1 → c.1[j]? = some p → c.1[j + 1]? = some q → bc.Nodup → bc ≠ [] → (∀ x ∈ bc, iI o p q x = true) → ok i (bT c.1 j (o.gp p q bc), ei c.2 j bc.length)
 gp : ∀ (p q : α) (bc : List α), (o.gp p q bc).Perm bc
 Fq : ∀ i, i < o.n → o.gG (o.P i) ∧ o.gG (o.Q i)
 LW : ∀ i j x, i < j → j < o.n → o.tu i j = some x → o.gG x
 LS : ∀ (p q ft cd x : α), o.gG p → o.gG q → o.gG ft → o.gG cd → o.cut (p, q) (ft, cd) = some x → o.gG x
 cut : ∀ (hot : List α) (p q ft cd x : α), (∀ y ∈ hot, o.gG y) → p ≠ q → ft ≠ cd → p ∈ hot → q ∈ hot → ft ∈ hot → cd ∈ hot → q5 o hot p q → q5 o hot ft cd → o.cut (p, q) (ft, cd) = some x → x ∉ hot
structure jP (o : cO α) (s : aS α) : Prop where
 nd : s.hot.Nodup
 room : s.hot.length ≤ o.R
 gv : ∀ x ∈ s.hot, o.gG x
structure Ao (o : cO α) (ok : Nat → List α × List Int → Prop) (hot : List α) (i : Nat) (c : List α × List Int) : Prop where
 gG : ok i c
 len : c.1.length = c.2.length + 1
 head : c.1.head? = some (o.P i)
 last : c.1.getLast? = some (o.Q i)
 hot : ∀ v ∈ c.1, v ∈ hot
 deep : ∀ d ∈ c.2, 1 ≤ d ∧ d ≤ c.2.length
structure kZ (o : cO α) (ok : Nat → List α × List Int → Prop) (s : aS α) : Prop where
 len : s.ch.length = o.n
 ig : ∀ i c, s.ch[i]? = some c → Ao o ok s.hot i c
def Aj (o : cO α) (hot : List α) (ch : List (List α × List Int)) (I J : Nat) : Prop :=
 ∀ i c j p q, ch[i]? = some c → c.1[j]? = some p → c.1[j + 1]? = some q → (i < I ∨ (i = I ∧ j < J)) → q5 o hot p q
def I9 (o : cO α) (ch : List (List α × List Int)) (I J : Nat) : Prop :=
 ∀ a b l m, (aX ch)[a]? = some l → (aX ch)[b]? = some m → a < b → (a < I ∨ (a = I ∧ b < J)) → o.cut l m = none
def Ak (o : cO α) (s : aS α) : Prop := ∀ l ∈ aX s.ch, q5 o s.hot l.1 l.2
def AJ (o : cO α) (s : aS α) (I : Nat) : Prop := ∀ i, i < I → o.P i ∈ s.hot ∧ o.Q i ∈ s.hot
structure I3 (o : cO α) (s : aS α) : Prop where
 ph : s.ph = 0
 dirty : s.dirty = false
 fnd : s.fnd = []
 ch : s.ch = []
 I : s.I < o.n
 J : s.J = 0
 T : s.T = 0
 Ad : AJ o s s.I
structure Inv1 (o : cO α) (s : aS α) : Prop where
 ph : s.ph = 1
 dirty : s.dirty = false
 fnd : s.fnd = []
 ch : s.ch = []
 xx : s.I < s.J
 J : s.J < o.n
 T : s.T = 0
 Ad : AJ o s o.n
structure Inv2 (o : cO α) (ok : Nat → List α × List Int → Prop) (s : aS α) : Prop where
 ph : s.ph = 2
 dirty : s.dirty = false
 laid : kZ o ok s
 link : ∃ c p q, s.ch[s.I]? = some c ∧ c.1[s.J]? = some p ∧ c.1[s.J + 1]? = some q ∧ s.fnd = (s.hot.take s.T).filter (iI o p q)
 T : s.T < s.hot.length
 AP : Aj o s.hot s.ch s.I s.J
structure D8 (o : cO α) (ok : Nat → List α × List Int → Prop) (s : aS α) : Prop where
 ph : s.ph = 3
 laid : kZ o ok s
 xx : s.I < s.J
 J : s.J < (aX s.ch).length
 T : s.T = 0
 fnd : s.fnd = []
 clean : s.dirty = false → Ak o s ∧ I9 o s.ch s.I s.J
structure xy (o : cO α) (ok : Nat → List α × List Int → Prop) (s : aS α) : Prop where
 ph : s.ph = 4
 dirty : s.dirty = false
 laid : kZ o ok s
 I : s.I = 0
 J : s.J = 0
 T : s.T = 0
 fnd : s.fnd = []
 Ix : Ak o s
 aif : I9 o s.ch (aX s.ch).length 0
structure Ay (o : cO α) (ok : Nat → List α × List Int → Prop) (s : aS α) : Prop where
 ph : s.ph = 5
 I : s.I = 0
 J : s.J = 0
 T : s.T = 0
 fnd : s.fnd = []
 full : s.hot.length = o.R
 ch : (s.ch = [] ∧ s.dirty = false) ∨ kZ o ok s
def hP (o : cO α) (ok : Nat → List α × List Int → Prop) (s : aS α) : Prop := jP o s ∧ (I3 o s ∨ Inv1 o s ∨ Inv2 o ok s ∨ D8 o ok s ∨ xy o ok s ∨ Ay o ok s)
def dM (o : cO α) : Nat := 2 * (o.n * o.R) * o.R + o.n * o.R * (o.n * o.R) + 1
def nK (s : aS α) : Nat := (aX (s.ch.take s.I)).length + s.J
def eF (o : cO α) (s : aS α) : Nat :=
 match s.ph with
 | 0 => (o.n - s.I) + o.n * o.n + (o.R + 1) * dM o
 | 1 => ((o.n - s.I) * o.n - s.J) + (o.R + 1) * dM o
 | 2 => (o.R - s.hot.length) * dM o + (2 * (o.n * o.R) - nK s - (aX s.ch).length) * o.R + (s.hot.length - s.T) + o.n * o.R * (o.n * o.R)
 | 3 => (o.R - s.hot.length) * dM o + (if s.dirty = true then dM o else 0) + (((aX s.ch).length - s.I) * (aX s.ch).length - s.J)
 | _ => 0
theorem HB : ∀ {l m : List α}, l.Nodup → (∀ x ∈ l, x ∈ m) → l.length ≤ m.length
 | [], _, _, _ => dA _
 | a :: l, m, h, hs => by
  have aj := List.nodup_cons.1 h;have aH := hs a (kr ..);have := HB (l := l) (m := m.erase a) aj.2 fun x aa => (List.mem_erase_of_ne (fun e => aj.1 (by rw [← e]; exact aa))).2 (hs x (nL _ aa));rw [List.length_erase_of_mem aH] at this;have := List.length_pos_of_mem aH;simp only [jZ]; omega
theorem ta : ∀ V : List α, (iq V).length = V.length - 1
 | [] => rfl
 | [_] => rfl
 | p :: q :: W => by
  have := ta (q :: W);simp only [iq, jZ] at this ⊢; omega
theorem NQ : ∀ {V : List α} {l : α × α}, l ∈ iq V → ∃ j, V[j]? = some l.1 ∧ V[j + 1]? = some l.2
 | p :: q :: W, l, h => by
  rcases fQ.1 (show l ∈ (p, q) :: iq (q :: W) from h) with rfl | h
  ·exact ⟨0, rfl, rfl⟩
  ·obtain ⟨j, h1, h2⟩ := NQ h;exact ⟨j + 1, h1, h2⟩
theorem NP : ∀ {V : List α} {j : Nat} {p q : α}, V[j]? = some p → V[j + 1]? = some q → (p, q) ∈ iq V
 | [], j, p, q, h, _ => by simp at h
 | [_], j, p, q, _, h => by simp at h
 | a :: b :: W, 0, p, q, h1, h2 => by
  simp only [pI, gP] at h1;simp only [va, pI, gP] at h2;subst h1; subst h2;exact kr ..
 | a :: b :: W, j + 1, p, q, h1, h2 => nL _ (NP (V := b :: W) (j := j) h1 h2)
theorem Ct (A B : List (List α × List Int)) : aX (A ++ B) = aX A ++ aX B := List.flatMap_append ..
theorem Cu (c : List α × List Int) (B : List (List α × List Int)) : aX (c :: B) = iq c.1 ++ aX B := rfl
theorem G9 {ch : List (List α × List Int)} {l : α × α} (h : l ∈ aX ch) : ∃ (i : Nat) (c : List α × List Int) (j : Nat), ch[i]? = some c ∧ c.1[j]? = some l.1 ∧ c.1[j + 1]? = some l.2 := by
 obtain ⟨c, aj, hl⟩ := List.mem_flatMap.1 h;obtain ⟨i, hi⟩ := jh aj;obtain ⟨j, h1, h2⟩ := NQ hl;exact ⟨i, c, j, hi, h1, h2⟩
theorem Cv {m : Nat} : ∀ {ch : List (List α × List Int)}, (∀ c ∈ ch, c.1.length ≤ m) → (aX ch).length ≤ ch.length * m
 | [], _ => dA _
 | c :: B, h => by
  have bO := Cv (ch := B) fun c aj => h c (nL _ aj);have h1 := h c (kr ..);rw [Cu, cx, ta, jZ, j0, Nat.one_mul]; omega
theorem Wx {β : Type} {l : List β} {i : Nat} {c : β} (h : l[i]? = some c) : l = l.take i ++ c :: l.drop (i + 1) ∧ (l.take i).length = i := by
 obtain ⟨hl, e⟩ := bF.1 h;refine ⟨?_, by rw [dS]; omega⟩
 conv => lhs; rw [← jG i l, ml hl, e]
end Go.Proofs.YtbcecodakfejaaaGreat.bp
namespace Go.Proofs.YtbcecodakfejaaaGreat.bp
variable {α : Type} [DecidableEq α]
theorem Q2 : ∀ (cs : List (List α × List Int)) (i j fi ek : Nat), tG cs i j = some (fi, ek) → (∀ c, cs[0]? = some c → j ≤ (iq c.1).length) →
  ∃ (k : Nat) (c : List α × List Int), fi = i + k ∧ cs[k]? = some c ∧ ek + 1 < c.1.length ∧ j ≤ (aX (cs.take k)).length + ek ∧ (∀ (m : Nat) (d : List α × List Int) (l : Nat), cs[m]? = some d → l + 1 < d.1.length → (m < k ∨ (m = k ∧ l < ek)) → m = 0 ∧ l < j)
 | [], i, j, fi, ek, h, _ => by cases h
 | c :: cs, i, j, fi, ek, h, ae => by
  have aA : j ≤ (iq c.1).length := ae c rfl;rw [ta] at aA;unfold tG at h
  split at h
  ·rename_i aj;cases h;refine ⟨0, c, rfl, rfl, aj, by simp, fun m d l _ _ aR => ?_⟩;omega
  ·rename_i aj;obtain ⟨k, c', aF, aN, b5, eB, lx⟩ := Q2 cs (i + 1) 0 fi ek h (fun _ _ => dA _);refine ⟨k + 1, c', by omega, aN, b5, ?_, fun m d l hd hl aR => ?_⟩
   ·rw [List.take_succ_cons, Cu, cx, ta]; omega
   ·match m, hd, aR with
    | 0, hd, aR =>
     simp only [pI, gP] at hd;subst hd;exact ⟨rfl, by omega⟩
    | m + 1, hd, aR =>
     have := lx m d l hd hl (by omega);omega
theorem Q1 : ∀ (cs : List (List α × List Int)) (i j : Nat), tG cs i j = none → ∀ (m : Nat) (d : List α × List Int) (l : Nat), cs[m]? = some d → l + 1 < d.1.length → m = 0 ∧ l < j
 | [], _, _, _, m, d, l, hd, _ => by simp at hd
 | c :: cs, i, j, h, m, d, l, hd, hl => by
  unfold tG at h
  split at h
  ·cases h
  ·rename_i aj
   match m, hd with
   | 0, hd =>
    simp only [pI, gP] at hd;subst hd;exact ⟨rfl, by omega⟩
   | m + 1, hd =>
    have := Q1 cs (i + 1) 0 h m d l hd hl;omega
theorem kZ.many {o : cO α} {ok : Nat → List α × List Int → Prop} (af : ke o ok) {s : aS α} (ab : jP o s) (h : kZ o ok s) : (aX s.ch).length ≤ o.n * o.R := by
 rw [← h.len];refine Cv fun c aj => ?_;obtain ⟨i, hi⟩ := jh aj;have aR := h.ig i c hi;exact h8 (HB (af.nodup _ _ aR.gG) aR.hot) ab.room
theorem Uq {o : cO α} {s : aS α} {I J : Nat} (aH : Aj o s.hot s.ch I J) (au : ∀ (i : Nat) (d : List α × List Int) (l : Nat), s.ch[i]? = some d → l + 1 < d.1.length → i < I ∨ (i = I ∧ l < J)) : Ak o s := fun l hl => by
 obtain ⟨i, c, j, hi, h1, h2⟩ := G9 hl;have := (bF.1 h2).1;exact aH i c j l.1 l.2 hi h1 h2 (au i c j hi this)
theorem Ik {o : cO α} {ok : Nat → List α × List Int → Prop} (af : ke o ok) {s : aS α} (ab : jP o s) (hl : kZ o ok s) (gL : s.ph = 2) (hd : s.dirty = false) (cy : s.T = 0) (ap : s.fnd = []) (aR : 0 < s.hot.length) (aH : Aj o s.hot s.ch s.I s.J) (ae : ∀ c, s.ch[s.I]? = some c → s.J ≤ (iq c.1).length) :
  hP o ok (lR s) ∧ eF o (lR s) ≤ (o.R - s.hot.length) * dM o + (2 * (o.n * o.R) - nK s - (aX s.ch).length) * o.R + s.hot.length + o.n * o.R * (o.n * o.R) := by
 have hm := hl.many af ab;unfold lR;cases h : tG (s.ch.drop s.I) s.I s.J with
 | some Cb =>
  obtain ⟨fi, ek⟩ := Cb;obtain ⟨k, c, aF, aN, b5, eB, lx⟩ := Q2 _ _ _ _ _ h (fun c aj => ae c (by rw [fC] at aj; exact aj));rw [fC] at aN;rw [← aF] at aN;show hP o ok ({ s with I := fi, J := ek } : aS α) ∧ eF o ({ s with I := fi, J := ek } : aS α) ≤ _;have wv : ek < c.1.length := by omega
  refine ⟨⟨⟨ab.nd, ab.room, ab.gv⟩, .inr (.inr (.inl ⟨gL, hd, ⟨hl.len, hl.ig⟩, ⟨c, c.1[ek], c.1[ek + 1], aN, bQ wv, bQ b5, ?_⟩, ?_, ?_⟩))⟩, ?_⟩
  ·show s.fnd = (s.hot.take s.T).filter _;rw [cy, ap]; rfl
  ·show s.T < s.hot.length;omega
  ·show Aj o s.hot s.ch fi ek;intro i d j p q hi hp ak fg;have rC := (bF.1 ak).1;refine aH i d j p q hi hp ak ?_
   by_cases cP : i < s.I
   ·exact .inl cP
   ·have := lx (i - s.I) d j (by rw [fC, show s.I + (i - s.I) = i by omega]; exact hi) rC (by omega);omega
  ·have hp : nK s ≤ nK ({ s with I := fi, J := ek } : aS α) := by
    unfold nK;show (aX (s.ch.take s.I)).length + s.J ≤ (aX (s.ch.take fi)).length + ek;rw [aF, List.take_add, Ct, cx]; omega
   show eF o ({ s with I := fi, J := ek } : aS α) ≤ _;unfold eF;show (match s.ph with | 0 => _ | 1 => _ | 2 => _ | 3 => _ | _ => _) ≤ _;rw [gL];show (o.R - s.hot.length) * dM o + (2 * (o.n * o.R) - nK ({ s with I := fi, J := ek } : aS α) - (aX s.ch).length) * o.R + (s.hot.length - s.T) + o.n * o.R * (o.n * o.R) ≤ _;generalize nK ({ s with I := fi, J := ek } : aS α) = SN at *;have := j1 o.R (show 2 * (o.n * o.R) - SN - (aX s.ch).length ≤ 2 * (o.n * o.R) - nK s - (aX s.ch).length by omega);omega
 | none =>
  have dn : Ak o s := Uq aH fun i d l hi e0 => by
   by_cases cP : i < s.I
   ·exact .inl cP
   ·have := Q1 _ _ _ h (i - s.I) d l (by rw [fC, show s.I + (i - s.I) = i by omega]; exact hi) e0;omega
  show hP o ok (if (aX s.ch).length < 2 then e7 s 4 0 0 else e7 s 3 0 1) ∧ eF o (if (aX s.ch).length < 2 then e7 s 4 0 0 else e7 s 3 0 1) ≤ _
  split
  ·rename_i h2;refine ⟨⟨⟨ab.nd, ab.room, ab.gv⟩, .inr (.inr (.inr (.inr (.inl ⟨rfl, hd, ⟨hl.len, hl.ig⟩, rfl, rfl, rfl, rfl, dn, ?_⟩))))⟩, dA _⟩;intro a b l m h3 aE mH _;have := (bF.1 aE).1;have : b < (aX s.ch).length := this;omega
  ·rename_i h2;refine ⟨⟨⟨ab.nd, ab.room, ab.gv⟩, .inr (.inr (.inr (.inl ⟨rfl, ⟨hl.len, hl.ig⟩, Nat.zero_lt_one, show 1 < (aX s.ch).length by omega, rfl, rfl, fun _ => ⟨dn, ?_⟩⟩)))⟩, ?_⟩
   ·intro a b l m h3 aE mH F7;have : a < 0 ∨ (a = 0 ∧ b < 1) := F7;omega
   ·show (o.R - s.hot.length) * dM o + (if s.dirty = true then dM o else 0) + (((aX s.ch).length - 0) * (aX s.ch).length - 1) ≤ _;rw [hd, if_neg (by decide), Nat.sub_zero];have := Nat.mul_le_mul hm hm;omega
theorem BQ (o : cO α) {s : aS α} (ab : jP o s) (q : α) (ak : o.gG q) : (dE o s q = e7 s 5 0 0 ∧ s.hot.length = o.R) ∨
  ∃ hot', dE o s q = { s with hot := hot' } ∧ jP o ({ s with hot := hot' } : aS α) ∧ q ∈ hot' ∧ (∀ x ∈ s.hot, x ∈ hot') ∧ s.hot.length ≤ hot'.length ∧ (q ∉ s.hot → hot'.length = s.hot.length + 1) ∧ (q ∈ s.hot → hot' = s.hot) := by
 have := ab.room;unfold dE
 by_cases h : q ∈ s.hot
 ·rw [if_pos h];exact .inr ⟨s.hot, rfl, ab, h, fun x aa => aa, dl _, fun aJ => absurd h aJ, fun _ => rfl⟩
 ·rw [if_neg h]
  by_cases h2 : s.hot.length < o.R
  ·rw [if_pos h2];refine .inr ⟨s.hot ++ [q], rfl, ⟨?_, ?_, fun x aa => (iU.1 aa).elim (ab.gv x) fun h => by rw [ix.1 h]; exact ak⟩, by simp, fun x aa => List.mem_append_left _ aa, by simp, fun _ => by simp, fun aJ => absurd aJ h⟩
   ·show (s.hot ++ [q]).Nodup;refine List.nodup_append.2 ⟨ab.nd, by simp, fun a aH b c0 => ?_⟩;rw [ix] at c0;subst c0;exact fun e => h (by rw [← e]; exact aH)
   ·show (s.hot ++ [q]).length ≤ o.R;rw [cx, List.length_singleton]; omega
  ·rw [if_neg h2];exact .inl ⟨rfl, by omega⟩
theorem Vf {o : cO α} (au : 0 < o.n) (al : 0 < o.R) : o.R ≤ dM o := by
 have h1 : o.R ≤ o.n * o.R := Nat.le_mul_of_pos_left _ au;have h2 : o.n * o.R ≤ o.n * o.R * o.R := Nat.le_mul_of_pos_right _ al;unfold dM;rw [Nat.mul_assoc 2];omega
theorem NH {o : cO α} {ok : Nat → List α × List Int → Prop} (af : ke o ok) {s : aS α} (ab : jP o s) (hd : s.dirty = false) (au : 0 < o.n) (hw : AJ o s o.n) : hP o ok (ld o s) ∧ eF o (ld o s) < (o.R + 1) * dM o := by
 have aR : 0 < s.hot.length := List.length_pos_of_mem (hw 0 au).1;have key := Ik (s := e7 { s with ch := (List.range o.n).map fun k => gN (o.P k) (o.Q k) } 2 0 0) af ⟨ab.nd, ab.room, ab.gv⟩ ⟨?_, ?_⟩ rfl hd rfl rfl aR ?_ ?_
 ·refine ⟨key.1, Nat.lt_of_le_of_lt key.2 ?_⟩;show (o.R - s.hot.length) * dM o + (2 * (o.n * o.R) - (0 + 0) - (aX ((List.range o.n).map fun k => gN (o.P k) (o.Q k))).length) * o.R + s.hot.length + o.n * o.R * (o.n * o.R) < (o.R + 1) * dM o;generalize (aX ((List.range o.n).map fun k => gN (o.P k) (o.Q k))).length = L;have al := ab.room;have aj := Vf au (show 0 < o.R by omega);have h1 := j1 (dM o) (show o.R - s.hot.length ≤ o.R - 1 by omega);have h2 := j1 o.R (show 2 * (o.n * o.R) - (0 + 0) - L ≤ 2 * (o.n * o.R) by omega);have aF : (o.R + 1) * dM o = (o.R - 1) * dM o + 2 * dM o := by rw [← j0]; congr 1; omega
  have aN : dM o = 2 * (o.n * o.R) * o.R + o.n * o.R * (o.n * o.R) + 1 := rfl;omega
 ·show ((List.range o.n).map fun k => gN (o.P k) (o.Q k)).length = o.n;simp
 ·intro i c hi;have hi : ((List.range o.n).map fun k => gN (o.P k) (o.Q k))[i]? = some c := hi;have il : i < o.n := by have := (bF.1 hi).1; simpa using this
  rw [ef, List.getElem?_range il] at hi;have hi : gN (o.P i) (o.Q i) = c := lP hi;have ao := af.new i il;subst hi;refine ⟨ao, ?_, ?_, ?_, fun v hv => ?_, fun d hd => ?_⟩
  ·unfold gN; split <;> rfl
  ·unfold gN; split <;> rfl
  ·unfold gN
   split
   ·rename_i e; rw [e]; rfl
   ·rfl
  ·show v ∈ s.hot;unfold gN at hv
   split at hv
   ·rw [ix.1 hv]; exact (hw i il).1
   ·rcases fQ.1 hv with rfl | hv
    ·exact (hw i il).1
    ·rw [ix.1 hv]; exact (hw i il).2
  ·unfold gN at hd ⊢
   split at hd
   ·cases hd
   ·rename_i e;rw [if_neg e];rw [ix.1 hd];exact ⟨nM 1, nM 1⟩
 ·intro i c j p q _ _ _ fg;have : i < 0 ∨ (i = 0 ∧ j < 0) := fg;omega
 ·intro c _;exact dA _
theorem Cf {o : cO α} {ok : Nat → List α × List Int → Prop} {s : aS α} (ab : jP o s) (ap : s.hot.length = o.R) (aj : (s.ch = [] ∧ s.dirty = false) ∨ kZ o ok s) : hP o ok (e7 s 5 0 0) ∧ eF o (e7 s 5 0 0) = 0 :=
 ⟨⟨⟨ab.nd, ab.room, ab.gv⟩, .inr (.inr (.inr (.inr (.inr ⟨rfl, rfl, rfl, rfl, rfl, ap, aj.imp id fun h => ⟨h.len, h.ig⟩⟩))))⟩, rfl⟩
theorem V0 {o : cO α} {ok : Nat → List α × List Int → Prop} (af : ke o ok) {s : aS α} (ab : jP o s) (h : I3 o s) : hP o ok (sJ o s) ∧ eF o (sJ o s) < eF o s := by
 have bh := h.I;have uJ : eF o s = (o.n - s.I) + o.n * o.n + (o.R + 1) * dM o := by simp only [eF, h.ph]
 rw [uJ];unfold sJ;rcases BQ o ab (o.P s.I) (af.Fq _ bh).1 with ⟨aF, f1⟩ | ⟨h1, aF, b1, m1, s1, l1, _, _⟩
 ·rw [aF, if_pos (show (e7 s 5 0 0).ph = 5 from rfl)];have := Cf (ok := ok) ab f1 (.inl ⟨h.ch, h.dirty⟩);exact ⟨this.1, by rw [this.2]; omega⟩
 ·rw [aF, if_neg (show ({ s with hot := h1 } : aS α).ph ≠ 5 by show s.ph ≠ 5; rw [h.ph]; decide)];rcases BQ o b1 (o.Q s.I) (af.Fq _ bh).2 with ⟨aN, f2⟩ | ⟨h2, aN, b2, m2, s2, l2, _, _⟩
  ·rw [aN, if_pos (show (e7 ({ s with hot := h1 } : aS α) 5 0 0).ph = 5 from rfl)];have := Cf (ok := ok) b1 f2 (.inl ⟨h.ch, h.dirty⟩);exact ⟨this.1, by rw [this.2]; omega⟩
  ·have s2 : ∀ x ∈ h1, x ∈ h2 := s2;rw [aN, if_neg (show ({ s with hot := h2 } : aS α).ph ≠ 5 by show s.ph ≠ 5; rw [h.ph]; decide)]
   have hw : ∀ i, i < s.I + 1 → o.P i ∈ h2 ∧ o.Q i ∈ h2 := fun i hi => by
    rcases hM i s.I with g | g
    ·exact ⟨s2 _ (s1 _ (h.Ad i g).1), s2 _ (s1 _ (h.Ad i g).2)⟩
    ·rw [show i = s.I by omega]; exact ⟨s2 _ m1, m2⟩
   split
   ·rename_i a8;refine ⟨⟨⟨b2.nd, b2.room, b2.gv⟩, .inl ⟨h.ph, h.dirty, h.fnd, h.ch, a8, h.J, h.T, hw⟩⟩, ?_⟩;show eF o ({ s with hot := h2, I := s.I + 1 } : aS α) < _;unfold eF;show (match s.ph with | 0 => (o.n - (s.I + 1)) + o.n * o.n + (o.R + 1) * dM o | 1 => _ | 2 => _ | 3 => _ | _ => _) < _;rw [h.ph];show (o.n - (s.I + 1)) + o.n * o.n + (o.R + 1) * dM o < _;omega
   ·rename_i kl;have au : o.n = s.I + 1 := by omega
    split
    ·have := NH af (s := ({ s with hot := h2 } : aS α)) ⟨b2.nd, b2.room, b2.gv⟩ h.dirty (by omega) (by rw [au]; exact hw);exact ⟨this.1, r1 this.2 (by omega)⟩
    ·rename_i ahi;refine ⟨⟨⟨b2.nd, b2.room, b2.gv⟩, .inr (.inl ⟨rfl, h.dirty, rfl, h.ch, Nat.zero_lt_one, show 1 < o.n by omega, rfl, by rw [au]; exact hw⟩)⟩, ?_⟩;show ((o.n - 0) * o.n - 1) + (o.R + 1) * dM o < _;rw [Nat.sub_zero]; omega
theorem OQ {I J L : Nat} (pi : I < J) (ki : J < L) : (L - I) * L - J ≥ 1 ∧ ((b6 L I J).2 < L → (b6 L I J).1 < (b6 L I J).2 ∧ (L - (b6 L I J).1) * L - (b6 L I J).2 < (L - I) * L - J) := by
 have e : (L - I) * L = (L - I - 1) * L + L := by rw [← Nat.succ_mul]; congr 1; omega
 refine ⟨by omega, fun h => ?_⟩;unfold b6 at h ⊢
 by_cases hl : L ≤ J + 1
 ·rw [if_pos hl] at h ⊢;refine ⟨by show I + 1 < I + 2; omega, ?_⟩;show (L - (I + 1)) * L - (I + 2) < _;rw [show L - (I + 1) = L - I - 1 by omega]; omega
 ·rw [if_neg hl] at h ⊢;refine ⟨by show I < J + 1; omega, ?_⟩;show (L - I) * L - (J + 1) < _;omega
theorem abh {I J L a b : Nat} (pi : I < J) (ki : J < L) (mH : a < b) (ab : b < L) (h : a < (b6 L I J).1 ∨ (a = (b6 L I J).1 ∧ b < (b6 L I J).2)) : (a < I ∨ (a = I ∧ b < J)) ∨ (a = I ∧ b = J) := by
 unfold b6 at h
 split at h
 ·have h : a < I + 1 ∨ (a = I + 1 ∧ b < I + 2) := h;omega
 ·have h : a < I ∨ (a = I ∧ b < J + 1) := h;omega
theorem abi {I J L : Nat} (pi : I < J) (ki : J < L) (h : ¬ (b6 L I J).2 < L) {a b : Nat} (mH : a < b) (ab : b < L) : (a < I ∨ (a = I ∧ b < J)) ∨ (a = I ∧ b = J) := by
 unfold b6 at h
 split at h
 ·have h : ¬ I + 2 < L := h;omega
 ·have h : ¬ J + 1 < L := h;omega
theorem ade {o : cO α} {ok : Nat → List α × List Int → Prop} (af : ke o ok) {s : aS α} (ab : jP o s) (h : Inv1 o s) : hP o ok (ts o s) ∧ eF o (ts o s) < eF o s := by
 have pi := h.xx;have ki := h.J;have uJ : eF o s = ((o.n - s.I) * o.n - s.J) + (o.R + 1) * dM o := by simp only [eF, h.ph]
 rw [uJ];obtain ⟨dY, et⟩ := OQ pi ki
 have main : ∀ h2, jP o ({ s with hot := h2 } : aS α) → (∀ x ∈ s.hot, x ∈ h2) → hP o ok (if ({ s with hot := h2 } : aS α).ph = 5 then ({ s with hot := h2 } : aS α) else if (b6 o.n s.I s.J).2 < o.n then { ({ s with hot := h2 } : aS α) with I := (b6 o.n s.I s.J).1, J := (b6 o.n s.I s.J).2 } else ld o ({ s with hot := h2 } : aS α)) ∧ eF o (if ({ s with hot := h2 } : aS α).ph = 5 then ({ s with hot := h2 } : aS α) else if (b6 o.n s.I s.J).2 < o.n then { ({ s with hot := h2 } : aS α) with I := (b6 o.n s.I s.J).1, J := (b6 o.n s.I s.J).2 } else ld o ({ s with hot := h2 } : aS α)) < ((o.n - s.I) * o.n - s.J) + (o.R + 1) * dM o := fun h2 b2 s2 => by
  rw [if_neg (show ({ s with hot := h2 } : aS α).ph ≠ 5 by show s.ph ≠ 5; rw [h.ph]; decide)];have hw : AJ o ({ s with hot := h2 } : aS α) o.n := fun i hi => ⟨s2 _ (h.Ad i hi).1, s2 _ (h.Ad i hi).2⟩
  split
  ·rename_i a8;obtain ⟨qD, tf⟩ := et a8;refine ⟨⟨⟨b2.nd, b2.room, b2.gv⟩, .inr (.inl ⟨h.ph, h.dirty, h.fnd, h.ch, qD, a8, h.T, hw⟩)⟩, ?_⟩;unfold eF;show (match s.ph with | 0 => _ | 1 => ((o.n - (b6 o.n s.I s.J).1) * o.n - (b6 o.n s.I s.J).2) + (o.R + 1) * dM o | 2 => _ | 3 => _ | _ => _) < _;rw [h.ph];show ((o.n - (b6 o.n s.I s.J).1) * o.n - (b6 o.n s.I s.J).2) + (o.R + 1) * dM o < _;omega
  ·have := NH af (s := ({ s with hot := h2 } : aS α)) ⟨b2.nd, b2.room, b2.gv⟩ h.dirty (by omega) hw;exact ⟨this.1, r1 this.2 (by omega)⟩
 unfold ts;cases hp : o.tu s.I s.J with
 | none => exact main s.hot ab fun x aa => aa
 | some x =>
  show hP o ok (if (dE o s x).ph = 5 then _ else if _ then { dE o s x with I := _, J := _ } else ld o (dE o s x)) ∧ eF o (if (dE o s x).ph = 5 then _ else if _ then { dE o s x with I := _, J := _ } else ld o (dE o s x)) < _;rcases BQ o ab x (af.LW _ _ x pi ki hp) with ⟨aF, f1⟩ | ⟨h2, aF, b2, m2, s2, _⟩
  ·rw [show kk o s (some x) = dE o s x from rfl, aF, if_pos (show (e7 s 5 0 0).ph = 5 from rfl)];have := Cf (ok := ok) ab f1 (.inl ⟨h.ch, h.dirty⟩);exact ⟨this.1, by rw [this.2]; omega⟩
  ·rw [show kk o s (some x) = dE o s x from rfl, aF];exact main h2 b2 s2
end Go.Proofs.YtbcecodakfejaaaGreat.bp
namespace Go.Proofs.YtbcecodakfejaaaGreat.bp
variable {α : Type} [DecidableEq α]
theorem x0 {V : List α} {j : Nat} {l : List α} : (bT V j l).length = V.length + l.length := by
  unfold bT;rw [cx, cx, dS, hN]; omega
theorem EZ {D : List Int} {j n : Nat} (h : j < D.length) : (ei D j n).length = D.length + n := by
  unfold ei;rw [cx, cx, dS, hN, List.length_replicate]; omega
theorem KV {V : List α} {j : Nat} {l : List α} {x : α} (h : x ∈ bT V j l) : x ∈ V ∨ x ∈ l := by
  unfold bT at h;rcases iU.1 h with h | h
  · rcases iU.1 h with h | h
    · exact .inl (nN h)
    · exact .inr h
  · exact .inl (mm h)
theorem Vm {V : List α} {j : Nat} {l : List α} (h : V ≠ []) : (bT V j l).head? = V.head? := by
  match V, h with
  | v :: W, _ => rfl
theorem Vn {V : List α} {j : Nat} {l : List α} (h : j + 1 < V.length) : (bT V j l).getLast? = V.getLast? := by
  unfold bT;rw [List.getLast?_append, List.getLast?_drop, if_neg (by omega)];cases pk : V.getLast? with
  | none => rw [List.getLast?_eq_none_iff.1 pk] at h; simp at h
  | some z => rfl
theorem KT {V : List α} {j i : Nat} {l : List α} (h : i < j + 1) (ae : j + 1 ≤ V.length) : (bT V j l)[i]? = V[i]? := by
  unfold bT;rw [gQ, fK (by rw [dS]; omega), fk h]
theorem Vo {V : List α} {j : Nat} {l : List α} (h : j + 1 < V.length) : ∃ x, (bT V j l)[j + 1]? = some x := by
  have : j + 1 < (bT V j l).length := by rw [x0]; omega
  exact ⟨_, bQ this⟩
theorem Vk {D : List Int} {j n : Nat} {d : Int} (ae : j < D.length) (h : d ∈ ei D j n) : ∃ e ∈ D, d = e ∨ d = e + 1 := by
  unfold ei at h;rcases iU.1 h with h | h
  · rcases iU.1 h with h | h
    · exact ⟨d, nN h, .inl rfl⟩
    · refine ⟨D[j], List.getElem_mem ae, .inr ?_⟩
      rw [List.eq_of_mem_replicate h, fZ, bQ ae]; rfl
  · exact ⟨d, mm h, .inl rfl⟩
theorem Ao.cut {o : cO α} {ok : Nat → List α × List Int → Prop} (af : ke o ok) {hot : List α} {i j : Nat} {c : List α × List Int} {p q : α} {bc : List α} (h : Ao o ok hot i c) (hp : c.1[j]? = some p) (ak : c.1[j + 1]? = some q) (au : bc.Nodup) (ap : ∀ x ∈ bc, x ∈ hot ∧ iI o p q x = true) (bX : bc ≠ []) : Ao o ok hot i (bT c.1 j (o.gp p q bc), ei c.2 j bc.length) := by
  have hs := af.gp p q bc;have ae : j + 1 < c.1.length := (bF.1 ak).1;have hl := h.len;have BU : j < c.2.length := by omega
  have ahx : 0 < bc.length := List.length_pos_iff.2 bX;refine ⟨af.split _ _ _ _ _ _ h.gG h.len hp ak au bX (fun x aa => (ap x aa).2), ?_, ?_, ?_, fun v hv => ?_, fun d hd => ?_⟩
  · show (bT c.1 j (o.gp p q bc)).length = (ei c.2 j bc.length).length + 1
    rw [x0, EZ BU, hs.length_eq]; omega
  · rw [← h.head]; exact Vm (fun e => by rw [e] at ae; simp at ae)
  · rw [← h.last]; exact Vn ae
  · rcases KV hv with hv | hv
    · exact h.hot v hv
    · exact (ap v (hs.mem_iff.1 hv)).1
  · show 1 ≤ d ∧ d ≤ ((ei c.2 j bc.length).length : Int)
    obtain ⟨e, he, lB⟩ := Vk BU hd;have := h.deep e he;rw [EZ BU]; omega
theorem LC {f : α → Bool} {l : List α} {n : Nat} {x : α} (h : l[n]? = some x) : (l.take (n + 1)).filter f = if f x = true then (l.take n).filter f ++ [x] else (l.take n).filter f := by
  obtain ⟨hl, e⟩ := bF.1 h;rw [nO hl, e, List.filter_append];cases aa : f x with
  | true => rw [if_pos rfl, List.filter_cons_of_pos aa]; rfl
  | false => rw [if_neg (by decide), List.filter_cons_of_neg (by rw [aa]; decide)]; exact mn _
theorem aeh {o : cO α} {ok : Nat → List α × List Int → Prop} (af : ke o ok) {s : aS α} (ab : jP o s) (h : Inv2 o ok s) : hP o ok (w4 o s) ∧ eF o (w4 o s) < eF o s := by
  obtain ⟨c, p, q, aj, hp, ak, ap⟩ := h.link;have cy := h.T;have aa : s.hot[s.T]? = some s.hot[s.T] := bQ cy;generalize s.hot[s.T] = x at aa;have uJ : eF o s = (o.R - s.hot.length) * dM o + (2 * (o.n * o.R) - nK s - (aX s.ch).length) * o.R + (s.hot.length - s.T) + o.n * o.R * (o.n * o.R) := by simp only [eF, h.ph]
  have yo := h.laid.ig s.I c aj;have ae : s.J + 1 < c.1.length := (bF.1 ak).1;have hm := h.laid.many af ab
  have XG : k2 o p q x s.fnd = (s.hot.take (s.T + 1)).filter (iI o p q) := by
    unfold k2;rw [LC aa, ap]
  obtain ⟨afp, Z2⟩ := Wx aj;have bh : s.I < s.ch.length := (bF.1 aj).1
  have Bg : (aX s.ch).length = (aX (s.ch.take s.I)).length + ((c.1.length - 1) + (aX (s.ch.drop (s.I + 1))).length) := by
    conv => lhs; rw [afp]
    rw [Ct, Cu, cx, cx, ta]
  have Gu : nK s = (aX (s.ch.take s.I)).length + s.J := rfl;have k9 := ab.room;rw [uJ];unfold w4;rw [aj];show hP o ok (match c.1[s.J]?, c.1[s.J + 1]?, s.hot[s.T]? with | some p, some q, some x => rR o s c p q (k2 o p q x s.fnd) | _, _, _ => s) ∧ eF o (match c.1[s.J]?, c.1[s.J + 1]?, s.hot[s.T]? with | some p, some q, some x => rR o s c p q (k2 o p q x s.fnd) | _, _, _ => s) < _;rw [hp, ak, aa];show hP o ok (rR o s c p q (k2 o p q x s.fnd)) ∧ eF o (rR o s c p q (k2 o p q x s.fnd)) < _;rw [XG];unfold rR
  by_cases a8 : s.T + 1 < s.hot.length
  · rw [if_pos a8]
    refine ⟨⟨⟨ab.nd, ab.room, ab.gv⟩, .inr (.inr (.inl ⟨h.ph, h.dirty, ⟨h.laid.len, h.laid.ig⟩, ⟨c, p, q, aj, hp, ak, rfl⟩, a8, h.AP⟩))⟩, ?_⟩;unfold eF;show (match s.ph with | 0 => _ | 1 => _ | 2 => (o.R - s.hot.length) * dM o + (2 * (o.n * o.R) - nK s - (aX s.ch).length) * o.R + (s.hot.length - (s.T + 1)) + o.n * o.R * (o.n * o.R) | 3 => _ | _ => _) < _;rw [h.ph];show (o.R - s.hot.length) * dM o + (2 * (o.n * o.R) - nK s - (aX s.ch).length) * o.R + (s.hot.length - (s.T + 1)) + o.n * o.R * (o.n * o.R) < _;omega
  · rw [if_neg a8]
    have W2 : s.T + 1 = s.hot.length := by omega
    rw [W2, List.take_length]
    by_cases he : s.hot.filter (iI o p q) = []
    · rw [if_pos he]
      have iP : q5 o s.hot p q := fun y ai => by
        cases ao : iI o p q y with
        | false => rfl
        | true => have := List.mem_filter.2 ⟨ai, ao⟩; rw [he] at this; cases this
      have key := Ik (s := { s with T := 0, fnd := [], J := s.J + 1 }) af ⟨ab.nd, ab.room, ab.gv⟩ ⟨h.laid.len, h.laid.ig⟩ h.ph h.dirty rfl rfl (show 0 < s.hot.length by omega) ?_ ?_
      · refine ⟨key.1, Nat.lt_of_le_of_lt key.2 ?_⟩
        show (o.R - s.hot.length) * dM o + (2 * (o.n * o.R) - ((aX (s.ch.take s.I)).length + (s.J + 1)) - (aX s.ch).length) * o.R + s.hot.length + o.n * o.R * (o.n * o.R) < _;rw [Gu];have := j1 o.R (show 2 * (o.n * o.R) - ((aX (s.ch.take s.I)).length + (s.J + 1)) - (aX s.ch).length + 1 ≤ 2 * (o.n * o.R) - ((aX (s.ch.take s.I)).length + s.J) - (aX s.ch).length by omega);rw [j0, Nat.one_mul] at this;omega
      · intro i d j ft cd hi mN oj fg
        have fg : i < s.I ∨ (i = s.I ∧ j < s.J + 1) := fg
        by_cases XW : i = s.I ∧ j = s.J
        · obtain ⟨rfl, rfl⟩ := XW
          have e : some c = some d := by rw [← aj]; exact hi
          cases e;have e : some p = some ft := by rw [← hp]; exact mN
          cases e;have e : some q = some cd := by rw [← ak]; exact oj
          cases e;exact iP
        · exact h.AP i d j ft cd hi mN oj (by omega)
      · intro d hd
        have e : some c = some d := by rw [← aj]; exact hd
        cases e;rw [ta];show s.J + 1 ≤ _;omega
    · rw [if_neg he]
      have gJ : (s.hot.filter (iI o p q)).Nodup := ab.nd.filter _;have hcut := yo.cut af hp ak gJ (fun y ai => ⟨(List.mem_filter.1 ai).1, (List.mem_filter.1 ai).2⟩) he;have hlen := (af.gp p q (s.hot.filter (iI o p q))).length_eq;have ahD : 0 < (s.hot.filter (iI o p q)).length := List.length_pos_iff.2 he;generalize s.hot.filter (iI o p q) = bc at *
      have GD : ∀ i, (s.ch.set s.I (bT c.1 s.J (o.gp p q bc), ei c.2 s.J bc.length))[i]? = if i = s.I then some (bT c.1 s.J (o.gp p q bc), ei c.2 s.J bc.length) else s.ch[i]? := fun i => by
        by_cases hi : i = s.I
        · rw [if_pos hi, hi, List.getElem?_set_self bh]
        · rw [if_neg hi, List.getElem?_set_ne (Ne.symm hi)]
      have Mv : kZ o ok ({ s with T := 0, fnd := [], ch := s.ch.set s.I (bT c.1 s.J (o.gp p q bc), ei c.2 s.J bc.length) } : aS α) := ⟨by show (s.ch.set s.I _).length = o.n; rw [List.length_set]; exact h.laid.len, fun i d hd => by
        have hd : (s.ch.set s.I (bT c.1 s.J (o.gp p q bc), ei c.2 s.J bc.length))[i]? = some d := hd;rw [GD] at hd
        split at hd
        · rename_i hi
          cases hd;rw [hi]; exact hcut
        · exact h.laid.ig i d hd⟩
      have c0 : jP o ({ s with T := 0, fnd := [], ch := s.ch.set s.I (bT c.1 s.J (o.gp p q bc), ei c.2 s.J bc.length) } : aS α) := ⟨ab.nd, ab.room, ab.gv⟩;have fB : (aX (s.ch.set s.I (bT c.1 s.J (o.gp p q bc), ei c.2 s.J bc.length))).length ≤ o.n * o.R := Mv.many af c0;obtain ⟨y, ai⟩ := Vo (l := o.gp p q bc) ae;have mN : (bT c.1 s.J (o.gp p q bc))[s.J]? = some p := by rw [KT (by omega) (by omega)]; exact hp
      refine ⟨⟨c0, .inr (.inr (.inl ⟨h.ph, h.dirty, Mv, ⟨(bT c.1 s.J (o.gp p q bc), ei c.2 s.J bc.length), p, y, ?_, mN, ai, rfl⟩, show 0 < s.hot.length by omega, ?_⟩))⟩, ?_⟩
      · show (s.ch.set s.I (bT c.1 s.J (o.gp p q bc), ei c.2 s.J bc.length))[s.I]? = _
        rw [GD, if_pos rfl]
      · intro i d j ft cd hi mN oj fg
        have hi : (s.ch.set s.I (bT c.1 s.J (o.gp p q bc), ei c.2 s.J bc.length))[i]? = some d := hi;have fg : i < s.I ∨ (i = s.I ∧ j < s.J) := fg;rw [GD] at hi
        split at hi
        · rename_i hc
          cases hi;rw [KT (by omega) (by omega)] at mN oj;exact h.AP i c j ft cd (by rw [hc]; exact aj) mN oj fg
        · exact h.AP i d j ft cd hi mN oj fg
      · have Lm : s.ch.set s.I (bT c.1 s.J (o.gp p q bc), ei c.2 s.J bc.length) = s.ch.take s.I ++ (bT c.1 s.J (o.gp p q bc), ei c.2 s.J bc.length) :: s.ch.drop (s.I + 1) := List.set_eq_take_append_cons_drop.trans (if_pos bh)
        have ag7 : (aX (s.ch.set s.I (bT c.1 s.J (o.gp p q bc), ei c.2 s.J bc.length))).length = (aX (s.ch.take s.I)).length + ((c.1.length + bc.length - 1) + (aX (s.ch.drop (s.I + 1))).length) := by
          rw [Lm, Ct, Cu, cx, cx, ta, x0, hlen]
        have rl : nK ({ s with T := 0, fnd := [], ch := s.ch.set s.I (bT c.1 s.J (o.gp p q bc), ei c.2 s.J bc.length) } : aS α) = (aX (s.ch.take s.I)).length + s.J := by
          show (aX ((s.ch.set s.I (bT c.1 s.J (o.gp p q bc), ei c.2 s.J bc.length)).take s.I)).length + s.J = _;rw [Lm, List.take_left' Z2]
        unfold eF;rw [rl];show (match s.ph with | 0 => _ | 1 => _ | 2 => (o.R - s.hot.length) * dM o + (2 * (o.n * o.R) - ((aX (s.ch.take s.I)).length + s.J) - (aX (s.ch.set s.I (bT c.1 s.J (o.gp p q bc), ei c.2 s.J bc.length))).length) * o.R + (s.hot.length - 0) + o.n * o.R * (o.n * o.R) | 3 => _ | _ => _) < _;rw [h.ph];show (o.R - s.hot.length) * dM o + (2 * (o.n * o.R) - ((aX (s.ch.take s.I)).length + s.J) - (aX (s.ch.set s.I (bT c.1 s.J (o.gp p q bc), ei c.2 s.J bc.length))).length) * o.R + (s.hot.length - 0) + o.n * o.R * (o.n * o.R) < _;rw [Gu];generalize (aX (s.ch.set s.I (bT c.1 s.J (o.gp p q bc), ei c.2 s.J bc.length))).length = L' at *;have := j1 o.R (show 2 * (o.n * o.R) - ((aX (s.ch.take s.I)).length + s.J) - L' + 1 ≤ 2 * (o.n * o.R) - ((aX (s.ch.take s.I)).length + s.J) - (aX s.ch).length by omega);rw [j0, Nat.one_mul] at this;omega
theorem zf {o : cO α} {ok : Nat → List α × List Int → Prop} (af : ke o ok) {s : aS α} (hl : kZ o ok s) {l : α × α} (h : l ∈ aX s.ch) : l.1 ≠ l.2 ∧ l.1 ∈ s.hot ∧ l.2 ∈ s.hot := by
  obtain ⟨i, c, j, hi, h1, h2⟩ := G9 h;have yo := hl.ig i c hi;have au := af.nodup _ _ yo.gG;refine ⟨fun e => ?_, yo.hot _ (c5 h1), yo.hot _ (c5 h2)⟩;obtain ⟨g1, bd⟩ := bF.1 h1;obtain ⟨g2, bC⟩ := bF.1 h2;exact (List.pairwise_iff_getElem.1 au) j (j + 1) g1 g2 (by omega) (by rw [bd, bC]; exact e)
theorem Vp {o : cO α} {ok : Nat → List α × List Int → Prop} (af : ke o ok) {s : aS α} (ab : jP o s) (hl : kZ o ok s) {i j : Nat} {a b : α × α} (aH : (aX s.ch)[i]? = some a) (c0 : (aX s.ch)[j]? = some b) {x : α} (aj : o.cut a b = some x) : o.gG x := by
  obtain ⟨_, a2, a3⟩ := zf af hl (c5 aH);obtain ⟨_, b2, dQ⟩ := zf af hl (c5 c0);exact af.LS a.1 a.2 b.1 b.2 x (ab.gv _ a2) (ab.gv _ a3) (ab.gv _ b2) (ab.gv _ dQ) aj
theorem Ya {o : cO α} {ok : Nat → List α × List Int → Prop} (af : ke o ok) {s : aS α} (ab : jP o s) (h : D8 o ok s) {a b : α × α} (aH : (aX s.ch)[s.I]? = some a) (c0 : (aX s.ch)[s.J]? = some b) :
    (dL o s (o.cut a b) = e7 s 5 0 0 ∧ s.hot.length = o.R) ∨ (o.cut a b = none ∧ dL o s (o.cut a b) = s) ∨
    ∃ hot', dL o s (o.cut a b) = { s with hot := hot', dirty := true } ∧ jP o ({ s with hot := hot', dirty := true } : aS α) ∧ (∀ x ∈ s.hot, x ∈ hot') ∧ s.hot.length ≤ hot'.length ∧ (s.dirty = false → hot'.length = s.hot.length + 1) := by
  cases hcut : o.cut a b with
  | none => exact .inr (.inl ⟨rfl, rfl⟩)
  | some x =>
    unfold dL;rcases BQ o ab x (Vp af ab h.laid aH c0 hcut) with ⟨aF, f1⟩ | ⟨h2, aF, b2, m2, s2, l2, et, _⟩
    · left
      show (if (dE o s x).ph = 5 then dE o s x else { dE o s x with dirty := true }) = _ ∧ _;rw [aF, if_pos (show (e7 s 5 0 0).ph = 5 from rfl)];exact ⟨rfl, f1⟩
    · refine .inr (.inr ⟨h2, ?_, ⟨b2.nd, b2.room, b2.gv⟩, s2, l2, fun hd => et ?_⟩)
      · show (if (dE o s x).ph = 5 then dE o s x else { dE o s x with dirty := true }) = _
        rw [aF, if_neg (show ({ s with hot := h2 } : aS α).ph ≠ 5 by show s.ph ≠ 5; rw [h.ph]; decide)]
      · have hs := (h.clean hd).1
        have key : ∀ l, l ∈ aX s.ch → l.1 ≠ l.2 ∧ l.1 ∈ s.hot ∧ l.2 ∈ s.hot ∧ q5 o s.hot l.1 l.2 := fun l hl => by
          obtain ⟨cr, cm, iW⟩ := zf af h.laid hl;exact ⟨cr, cm, iW, hs l hl⟩
        obtain ⟨a1, a2, a3, a4⟩ := key a (c5 aH);obtain ⟨b1, b2, dQ, dz⟩ := key b (c5 c0);exact af.cut s.hot a.1 a.2 b.1 b.2 x ab.gv a1 b1 a2 a3 b2 dQ a4 dz hcut
theorem kZ.mono {o : cO α} {ok : Nat → List α × List Int → Prop} {s t : aS α} (h : kZ o ok s) (aj : t.ch = s.ch) (aR : ∀ x ∈ s.hot, x ∈ t.hot) : kZ o ok t :=
  ⟨by rw [aj]; exact h.len, fun i c hi => by
    have := h.ig i c (by rw [← aj]; exact hi);exact ⟨this.gG, this.len, this.head, this.last, fun v hv => aR v (this.hot v hv), this.deep⟩⟩
theorem aap {o : cO α} {ok : Nat → List α × List Int → Prop} (af : ke o ok) {s : aS α} (ab : jP o s) (h : D8 o ok s) : hP o ok (rU o s) ∧ eF o (rU o s) < eF o s := by
  have pi := h.xx;have ki := h.J;have k9 := ab.room;have hm := h.laid.many af ab;obtain ⟨dY, et⟩ := OQ pi ki;have uJ : eF o s = (o.R - s.hot.length) * dM o + (if s.dirty = true then dM o else 0) + (((aX s.ch).length - s.I) * (aX s.ch).length - s.J) := by simp only [eF, h.ph]
  have aH : (aX s.ch)[s.I]? = some (aX s.ch)[s.I] := bQ (by omega);have c0 : (aX s.ch)[s.J]? = some (aX s.ch)[s.J] := bQ ki;generalize (aX s.ch)[s.I] = a at aH;generalize (aX s.ch)[s.J] = b at c0
  have ahB : 0 < s.hot.length := by
    obtain ⟨i, c, j, hi, h1, h2⟩ := G9 (c5 aH);exact List.length_pos_of_mem ((h.laid.ig i c hi).hot _ (c5 h1))
  rw [uJ];unfold rU;rw [aH, c0];show hP o ok (if (dL o s (o.cut a b)).ph = 5 then dL o s (o.cut a b) else if (b6 (aX s.ch).length s.I s.J).2 < (aX s.ch).length then { dL o s (o.cut a b) with I := (b6 (aX s.ch).length s.I s.J).1, J := (b6 (aX s.ch).length s.I s.J).2 } else nf (dL o s (o.cut a b))) ∧ eF o (if (dL o s (o.cut a b)).ph = 5 then dL o s (o.cut a b) else if (b6 (aX s.ch).length s.I s.J).2 < (aX s.ch).length then { dL o s (o.cut a b) with I := (b6 (aX s.ch).length s.I s.J).1, J := (b6 (aX s.ch).length s.I s.J).2 } else nf (dL o s (o.cut a b))) < _
 
  have main : ∀ hot', jP o ({ s with hot := hot', dirty := true } : aS α) → (∀ x ∈ s.hot, x ∈ hot') → s.hot.length ≤ hot'.length → (s.dirty = false → hot'.length = s.hot.length + 1) →
      hP o ok (if ({ s with hot := hot', dirty := true } : aS α).ph = 5 then ({ s with hot := hot', dirty := true } : aS α) else if (b6 (aX s.ch).length s.I s.J).2 < (aX s.ch).length then { ({ s with hot := hot', dirty := true } : aS α) with I := (b6 (aX s.ch).length s.I s.J).1, J := (b6 (aX s.ch).length s.I s.J).2 } else nf ({ s with hot := hot', dirty := true } : aS α)) ∧ eF o (if ({ s with hot := hot', dirty := true } : aS α).ph = 5 then ({ s with hot := hot', dirty := true } : aS α) else if (b6 (aX s.ch).length s.I s.J).2 < (aX s.ch).length then { ({ s with hot := hot', dirty := true } : aS α) with I := (b6 (aX s.ch).length s.I s.J).1, J := (b6 (aX s.ch).length s.I s.J).2 } else nf ({ s with hot := hot', dirty := true } : aS α)) < (o.R - s.hot.length) * dM o + (if s.dirty = true then dM o else 0) + (((aX s.ch).length - s.I) * (aX s.ch).length - s.J) := fun hot' b2 s2 l2 d2 => by
    have hl : kZ o ok ({ s with hot := hot', dirty := true } : aS α) := h.laid.mono rfl s2;have cT : hot'.length ≤ o.R := b2.room
    have ahq : (o.R - hot'.length) * dM o + dM o ≤ (o.R - s.hot.length) * dM o + (if s.dirty = true then dM o else 0) := by
      cases hd : s.dirty with
      | true =>
        rw [if_pos rfl];have := j1 (dM o) (show o.R - hot'.length ≤ o.R - s.hot.length by omega);omega
      | false =>
        rw [if_neg (by decide)];have := d2 hd;have := j1 (dM o) (show o.R - hot'.length + 1 ≤ o.R - s.hot.length by omega);rw [j0, Nat.one_mul] at this;omega
    rw [if_neg (show ({ s with hot := hot', dirty := true } : aS α).ph ≠ 5 by show s.ph ≠ 5; rw [h.ph]; decide)]
    split
    · rename_i a8
      obtain ⟨qD, tf⟩ := et a8;refine ⟨⟨⟨b2.nd, b2.room, b2.gv⟩, .inr (.inr (.inr (.inl ⟨h.ph, ⟨hl.len, hl.ig⟩, qD, a8, h.T, h.fnd, fun hd => by cases hd⟩)))⟩, ?_⟩;unfold eF;show (match s.ph with | 0 => _ | 1 => _ | 2 => _ | 3 => (o.R - hot'.length) * dM o + (if true = true then dM o else 0) + (((aX s.ch).length - (b6 (aX s.ch).length s.I s.J).1) * (aX s.ch).length - (b6 (aX s.ch).length s.I s.J).2) | _ => _) < _;rw [h.ph];show (o.R - hot'.length) * dM o + (if true = true then dM o else 0) + (((aX s.ch).length - (b6 (aX s.ch).length s.I s.J).1) * (aX s.ch).length - (b6 (aX s.ch).length s.I s.J).2) < _;rw [if_pos rfl];omega
    · unfold nf
      rw [if_pos rfl]
      have key := Ik (s := e7 ({ s with hot := hot', dirty := false } : aS α) 2 0 0) af ⟨b2.nd, b2.room, b2.gv⟩ (hl.mono rfl fun x aa => aa) rfl rfl rfl rfl (show 0 < hot'.length by omega) (fun i c j p q _ _ _ fg => by
        have : i < 0 ∨ (i = 0 ∧ j < 0) := fg;omega) (fun c _ => dA _)
      refine ⟨key.1, Nat.lt_of_le_of_lt key.2 ?_⟩;show (o.R - hot'.length) * dM o + (2 * (o.n * o.R) - (0 + 0) - (aX s.ch).length) * o.R + hot'.length + o.n * o.R * (o.n * o.R) < _;have aN : dM o = 2 * (o.n * o.R) * o.R + o.n * o.R * (o.n * o.R) + 1 := rfl;have := j1 o.R (show 2 * (o.n * o.R) - (0 + 0) - (aX s.ch).length + 1 ≤ 2 * (o.n * o.R) by omega);rw [j0, Nat.one_mul] at this;omega
  rcases Ya af ab h aH c0 with ⟨aF, f1⟩ | ⟨E5, aF⟩ | ⟨hot', aF, b2, s2, l2, d2⟩
  · rw [aF, if_pos (show (e7 s 5 0 0).ph = 5 from rfl)]
    have := Cf (ok := ok) ab f1 (.inr h.laid);exact ⟨this.1, by rw [this.2]; omega⟩
  · cases hd : s.dirty with
    | true =>
      have es : ({ s with hot := s.hot, dirty := true } : aS α) = s := by cases s; cases hd; rfl
      rw [aF];have := main s.hot (by rw [es]; exact ab) (fun x aa => aa) (dl _) (fun aR => by rw [hd] at aR; cases aR);rw [es, hd] at this;exact this
    | false =>
      rw [aF, if_neg (show ¬ s.ph = 5 by rw [h.ph]; decide), if_neg (show ¬ (false = true) by decide)];obtain ⟨c1, c2⟩ := h.clean hd
      have MB : ∀ x y l m, (aX s.ch)[x]? = some l → (aX s.ch)[y]? = some m → ((x < s.I ∨ (x = s.I ∧ y < s.J)) ∨ (x = s.I ∧ y = s.J)) → x < y → o.cut l m = none := fun x y l m aa ai aR h0 => by
        rcases aR with aR | ⟨rfl, rfl⟩
        · exact c2 x y l m aa ai h0 aR
        · rw [aH] at aa; rw [c0] at ai
          cases aa; cases ai;exact E5
      by_cases a8 : (b6 (aX s.ch).length s.I s.J).2 < (aX s.ch).length
      · rw [if_pos a8]
        obtain ⟨qD, tf⟩ := et a8;refine ⟨⟨⟨ab.nd, ab.room, ab.gv⟩, .inr (.inr (.inr (.inl ⟨h.ph, ⟨h.laid.len, h.laid.ig⟩, qD, a8, h.T, h.fnd, fun _ => ⟨c1, fun x y l m aa ai h0 aR => MB x y l m aa ai (abh pi ki h0 (bF.1 ai).1 aR) h0⟩⟩)))⟩, ?_⟩;unfold eF;show (match s.ph with | 0 => _ | 1 => _ | 2 => _ | 3 => (o.R - s.hot.length) * dM o + (if s.dirty = true then dM o else 0) + (((aX s.ch).length - (b6 (aX s.ch).length s.I s.J).1) * (aX s.ch).length - (b6 (aX s.ch).length s.I s.J).2) | _ => _) < _;rw [h.ph];show (o.R - s.hot.length) * dM o + (if s.dirty = true then dM o else 0) + (((aX s.ch).length - (b6 (aX s.ch).length s.I s.J).1) * (aX s.ch).length - (b6 (aX s.ch).length s.I s.J).2) < _;rw [hd, if_neg (by decide)];omega
      · rw [if_neg a8]
        unfold nf;rw [if_neg (show ¬ s.dirty = true by rw [hd]; decide)];refine ⟨⟨⟨ab.nd, ab.room, ab.gv⟩, .inr (.inr (.inr (.inr (.inl ⟨rfl, hd, ⟨h.laid.len, h.laid.ig⟩, rfl, rfl, rfl, rfl, c1, fun x y l m aa ai h0 _ => ?_⟩))))⟩, ?_⟩
        · exact MB x y l m aa ai (abi pi ki a8 h0 (bF.1 ai).1) h0
        · show 0 < _
          omega
  · rw [aF]
    exact main hot' b2 s2 l2 d2
theorem xd {o : cO α} {ok : Nat → List α × List Int → Prop} (af : ke o ok) {s : aS α} (h : hP o ok s) : hP o ok (eJ o s) ∧ (s.ph < 4 → eF o (eJ o s) < eF o s) ∧ (4 ≤ s.ph → eJ o s = s) := by
  obtain ⟨ab, aA | h1 | h2 | h3 | aE | cZ⟩ := h
  · have e : eJ o s = sJ o s := by simp only [eJ, aA.ph]
    have := V0 af ab aA;rw [e]; exact ⟨this.1, fun _ => this.2, fun aR => by rw [aA.ph] at aR; omega⟩
  · have e : eJ o s = ts o s := by simp only [eJ, h1.ph]
    have := ade af ab h1;rw [e]; exact ⟨this.1, fun _ => this.2, fun aR => by rw [h1.ph] at aR; omega⟩
  · have e : eJ o s = w4 o s := by simp only [eJ, h2.ph]
    have := aeh af ab h2;rw [e]; exact ⟨this.1, fun _ => this.2, fun aR => by rw [h2.ph] at aR; omega⟩
  · have e : eJ o s = rU o s := by simp only [eJ, h3.ph]
    have := aap af ab h3;rw [e]; exact ⟨this.1, fun _ => this.2, fun aR => by rw [h3.ph] at aR; omega⟩
  · have e : eJ o s = s := by simp only [eJ, aE.ph]
    rw [e]; exact ⟨⟨ab, .inr (.inr (.inr (.inr (.inl aE))))⟩, fun aR => by rw [aE.ph] at aR; omega, fun _ => rfl⟩
  · have e : eJ o s = s := by simp only [eJ, cZ.ph]
    rw [e]; exact ⟨⟨ab, .inr (.inr (.inr (.inr (.inr cZ))))⟩, fun aR => by rw [cZ.ph] at aR; omega, fun _ => rfl⟩
def lc (o : cO α) : Nat → aS α → aS α
  | 0, s => s
  | n + 1, s => lc o n (eJ o s)
theorem Ch {o : cO α} {ok : Nat → List α × List Int → Prop} (af : ke o ok) : ∀ (n : Nat) {s : aS α}, hP o ok s → hP o ok (lc o n s) ∧ (eF o s ≤ n → 4 ≤ (lc o n s).ph)
  | 0, s, h => ⟨h, fun au => by
    refine Nat.not_lt.1 fun a8 => ?_;have := (xd af h).2.1 a8;show False;have au : eF o s ≤ 0 := au;omega⟩
  | n + 1, s, h => by
    obtain ⟨h1, h2, h3⟩ := xd af h;obtain ⟨g1, g2⟩ := Ch af n h1;refine ⟨g1, fun au => ?_⟩
    by_cases a8 : s.ph < 4
    · exact g2 (by have := h2 a8; omega)
    · have e := h3 (by omega)
      show 4 ≤ (lc o n (eJ o s)).ph;rw [e]
      have key : ∀ m, lc o m s = s := fun m => by
        induction m with
        | zero => rfl
        | succ m bO => show lc o m (eJ o s) = s; rw [e]; exact bO
      rw [key]; omega
def fj (o : cO α) : aS α := ⟨if o.n = 0 then 4 else 0, 0, 0, 0, false, [], [], []⟩
theorem uY (o : cO α) (ok : Nat → List α × List Int → Prop) : hP o ok (fj o) := by
  refine ⟨⟨List.nodup_nil, dA _, fun x aa => absurd aa r2⟩, ?_⟩
  by_cases h : o.n = 0
  · refine .inr (.inr (.inr (.inr (.inl ⟨by simp [fj, h], rfl, ⟨h.symm, fun i c hi => by simp [fj] at hi⟩, rfl, rfl, rfl, rfl, (fun l hl => by cases hl), (fun a b l m aH => by simp [fj, aX] at aH)⟩))))
  · exact .inl ⟨by simp [fj, h], rfl, rfl, rfl, show 0 < o.n by omega, rfl, rfl, fun i hi => by cases hi⟩
theorem aa4 (o : cO α) (ar : 0 < o.R) : eF o (fj o) ≤ 8 * (o.R + 2) * ((o.n * o.R + 1) * (o.n * o.R + 1)) := by
  by_cases h : o.n = 0
  · have : eF o (fj o) = 0 := by simp [eF, fj, h]
    rw [this]; exact dA _
  · have e : eF o (fj o) = (o.n - 0) + o.n * o.n + (o.R + 1) * dM o := by simp [eF, fj, h]
    rw [e];have h1 : o.n ≤ o.n * o.R := Nat.le_mul_of_pos_right _ ar;have h2 : o.R ≤ o.n * o.R := Nat.le_mul_of_pos_left _ (by omega);have h3 := Nat.mul_le_mul h1 h1;unfold dM;generalize o.n * o.R = N at *;have aE : 2 * N * o.R ≤ 2 * (N * N) := by rw [Nat.mul_assoc]; exact Nat.mul_le_mul_left 2 (Nat.mul_le_mul_left N h2)
    have cZ : (o.R + 1) * (2 * N * o.R + N * N + 1) ≤ (o.R + 2) * (3 * (N * N) + 1) := Nat.mul_le_mul (by omega) (by omega);have b5 : (N + 1) * (N + 1) = N * N + 2 * N + 1 := by grind
    have ff : (o.R + 2) * (3 * (N * N) + 1) ≤ (o.R + 2) * (3 * ((N + 1) * (N + 1))) := Nat.mul_le_mul_left _ (by rw [b5]; omega);have eB : 8 * (o.R + 2) * ((N + 1) * (N + 1)) = (o.R + 2) * (3 * ((N + 1) * (N + 1))) + 5 * ((o.R + 2) * ((N + 1) * (N + 1))) := by grind
    have js : (N + 1) * (N + 1) ≤ (o.R + 2) * ((N + 1) * (N + 1)) := Nat.le_mul_of_pos_left _ (by omega);rw [eB];omega
end Go.Proofs.YtbcecodakfejaaaGreat.bp
namespace Go.Proofs.YtbcecodakfejaaaGreat.bp
variable {α : Type} [DecidableEq α]
def rh (N : Int → Rat → α → Prop) : Rat → List α → List Int → Prop
 | t, p :: q :: V, d :: D => ∃ nT, t ≤ nT ∧ nT ≤ 1 ∧ N d t p ∧ N d nT q ∧ rh N nT (q :: V) D
 | _, _, _ => True
def Ba (N : Int → Rat → α → Prop) (d : Int) (t2 : Rat) : Rat → List α → Prop
 | t1, [] => t1 ≤ t2
 | t1, x :: l => ∃ t, t1 ≤ t ∧ t ≤ t2 ∧ N d t x ∧ Ba N d t2 t l
theorem KK {N : Int → Rat → α → Prop} {d : Int} {t2 : Rat} {q : α} {V : List α} {D : List Int} (h1 : t2 ≤ 1) (ak : N d t2 q) (pk : rh N t2 (q :: V) D) : ∀ (l : List α) (t1 : Rat) (p : α), N d t1 p → Ba N d t2 t1 l → rh N t1 (p :: (l ++ q :: V)) (List.replicate (l.length + 1) d ++ D)
 | [], t1, p, hp, ab => ⟨t2, ab, h1, hp, ak, pk⟩
 | x :: l, t1, p, hp, ⟨t, g1, g2, g3, g4⟩ => by
  have bO := KK h1 ak pk l t x g3 g4;exact ⟨t, g1, Rat.le_trans g2 h1, hp, g3, bO⟩
theorem KJ {N : Int → Rat → α → Prop} (eC : ∀ d t x, N d t x → N (d + 1) t x) {l : List α} {p q : α} (hl : ∀ d t1 t2, t1 ≤ t2 → t2 ≤ 1 → N d t1 p → N d t2 q → Ba N (d + 1) t2 t1 l) : ∀ (V : List α) (D : List Int) (j : Nat) (t : Rat), V.length = D.length + 1 → V[j]? = some p → V[j + 1]? = some q → rh N t V D → rh N t (bT V j l) (ei D j l.length)
 | [], D, j, t, _, h, _, _ => by simp at h
 | [_], D, j, t, _, _, h, _ => by simp at h
 | _ :: _ :: _, [], j, t, h, _, _, _ => by simp at h
 | a :: b :: V, d :: D, 0, t, hlen, hp, ak, ⟨nT, h1, h2, h3, aE, cZ⟩ => by
  simp only [pI, gP] at hp;simp only [va, pI, gP] at ak;subst hp; subst ak;have aF : bT (a :: b :: V) 0 l = a :: (l ++ b :: V) := by unfold bT; simp
  have aN : ei (d :: D) 0 l.length = List.replicate (l.length + 1) (d + 1) ++ D := by unfold ei; simp
  rw [aF, aN];exact KK h2 (eC _ _ _ aE) cZ l t a (eC _ _ _ h3) (hl d t nT h1 h2 h3 aE)
 | a :: b :: V, d :: D, j + 1, t, hlen, hp, ak, ⟨nT, h1, h2, h3, aE, cZ⟩ => by
  have bO := KJ eC hl (b :: V) D j nT (by simp at hlen ⊢; omega) hp ak cZ;have aF : bT (a :: b :: V) (j + 1) l = a :: bT (b :: V) j l := by unfold bT; simp
  have aN : ei (d :: D) (j + 1) l.length = d :: ei D j l.length := by unfold ei; simp
  rw [aF, aN];have b5 : bT (b :: V) j l = b :: (V.take j ++ l ++ V.drop j) := by unfold bT; simp
  rw [b5] at bO ⊢;exact ⟨nT, h1, h2, h3, aE, bO⟩
end Go.Proofs.YtbcecodakfejaaaGreat.bp
namespace Go.Proofs.YtbcecodakfejaaaGreat.bp
variable {α : Type} [DecidableEq α]
theorem K1 {o : cO α} {ok : Nat → List α × List Int → Prop} (af : ke o ok) {s : aS α} (ab : jP o s) (hl : kZ o ok s) {c : List α × List Int} (aj : c ∈ s.ch) : c.1.length ≤ o.R ∧ ∀ d ∈ c.2, 1 ≤ d ∧ d + 1 ≤ o.R := by
 obtain ⟨i, hi⟩ := jh aj;have h := hl.ig i c hi;have h1 := h8 (HB (af.nodup _ _ h.gG) h.hot) ab.room;refine ⟨h1, fun d hd => ?_⟩;have := h.deep d hd;have := h.len;omega
theorem Lj {o : cO α} {ok : Nat → List α × List Int → Prop} {s : aS α} (h : hP o ok s) (aE : 4 ≤ s.ph) : xy o ok s ∨ Ay o ok s := by
 obtain ⟨_, aJ | aJ | aJ | aJ | aJ | aJ⟩ := h
 ·have := aJ.ph; omega
 ·have := aJ.ph; omega
 ·have := aJ.ph; omega
 ·have := aJ.ph; omega
 ·exact .inl aJ
 ·exact .inr aJ
theorem U9 {N : Int → Rat → α → Prop} {p q : α} (hp : N 1 0 p) (ak : N 1 1 q) : rh N 0 (gN p q).1 (gN p q).2 := by
 unfold gN
 split
 ·trivial
 ·exact ⟨1, by decide, Rat.le_refl, hp, ak, trivial⟩
theorem VZ {o : cO α} {ok : Nat → List α × List Int → Prop} (af : ke o ok) (ar : 0 < o.R) {n : Nat} (au : 8 * (o.R + 2) * ((o.n * o.R + 1) * (o.n * o.R + 1)) ≤ n) : hP o ok (lc o n (fj o)) ∧ (xy o ok (lc o n (fj o)) ∨ Ay o ok (lc o n (fj o))) := by
 have h := Ch af n (uY o ok);exact ⟨h.1, Lj h.1 (h.2 (h8 (aa4 o ar) au))⟩
end Go.Proofs.YtbcecodakfejaaaGreat.bp
