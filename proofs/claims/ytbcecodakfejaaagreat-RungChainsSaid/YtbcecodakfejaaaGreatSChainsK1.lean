/-
  My own texts, without what this claim does not need. My own text.
-/
import Derived.Tactics
import Derived.IntWalk
import Derived.ProofKit
import Derived.WalkKit
import Derived.WalkSpells
import Derived.Lib.Hide
import Derived.BigQuiet
import Derived.BigGuardPart
import Derived.Deep.RegionHeld3
import Derived.Test.YtbcecodakfejaaaGreatRows
set_option maxRecDepth 100000
set_option maxHeartbeats 64000000
set_option linter.unusedVariables false
set_option linter.unusedSimpArgs false
set_option linter.unusedSectionVars false
open Go.Proofs.Tryz renaming prog → ag
namespace Go.Proofs.YtbcecodakfejaaaGreat
theorem bA : type_of% @List.getElem?_eq_some_iff := @List.getElem?_eq_some_iff
theorem bJ : type_of% @List.getElem?_eq_getElem := @List.getElem?_eq_getElem
theorem bZ : type_of% @decide_eq_true := @decide_eq_true
theorem b4 : type_of% @decide_eq_true_eq := @decide_eq_true_eq
theorem b6 : type_of% @List.all_eq_true := @List.all_eq_true
theorem cp : type_of% @decide_eq_false := @decide_eq_false
theorem cF : type_of% @List.length_append := @List.length_append
theorem cV : type_of% @List.mem_of_getElem? := @List.mem_of_getElem?
theorem c5 : type_of% @Bool.and_eq_true := @Bool.and_eq_true
theorem dl : type_of% @Nat.le_of_ble_eq_true := @Nat.le_of_ble_eq_true
theorem dx : type_of% @Nat.zero_le := @Nat.zero_le
theorem dE : type_of% @Nat.le_refl := @Nat.le_refl
theorem dX : type_of% @List.length_take := @List.length_take
theorem eh : type_of% @List.getElem?_map := @List.getElem?_map
theorem fw : type_of% @List.getElem?_take_of_lt := @List.getElem?_take_of_lt
theorem fP : type_of% @List.getElem?_drop := @List.getElem?_drop
theorem fX : type_of% @List.getD_eq_getElem?_getD := @List.getD_eq_getElem?_getD
theorem fY : type_of% @Int.mul_nonneg := @Int.mul_nonneg
theorem gj : type_of% @List.mem_cons := @List.mem_cons
theorem gl : type_of% @List.getElem?_append_left := @List.getElem?_append_left
theorem gm : type_of% @List.mem_map := @List.mem_map
theorem gn : type_of% @List.take_of_length_le := @List.take_of_length_le
theorem gp : type_of% @Int.pow_pos := @Int.pow_pos
theorem gL : type_of% @List.getElem?_append_right := @List.getElem?_append_right
theorem ha : type_of% @Option.map_some := @Option.map_some
theorem hr : type_of% @Nat.eq_of_beq_eq_true := @Nat.eq_of_beq_eq_true
theorem hY : type_of% @Option.some.injEq := @Option.some.injEq
theorem hZ : type_of% @Nat.lt_or_ge := @Nat.lt_or_ge
theorem h0 : type_of% @List.length_drop := @List.length_drop
theorem il : type_of% @Nat.le_trans := @Nat.le_trans
theorem im : type_of% @List.append_assoc := @List.append_assoc
theorem iq : type_of% @Int.mul_comm := @Int.mul_comm
theorem ir : type_of% @List.pairwise_cons := @List.pairwise_cons
theorem iE : type_of% @decide_eq_false_iff_not := @decide_eq_false_iff_not
theorem iF : type_of% @Rat.mul_nonneg := @Rat.mul_nonneg
theorem jd : type_of% @List.mem_cons_self := @List.mem_cons_self
theorem je : type_of% @Nat.zero_add := @Nat.zero_add
theorem ju : type_of% @List.take_append_drop := @List.take_append_drop
theorem jv : type_of% @List.eq_nil_of_length_eq_zero := @List.eq_nil_of_length_eq_zero
theorem jw : type_of% @Nat.zero_lt_succ := @Nat.zero_lt_succ
theorem jQ : type_of% @List.length_cons := @List.length_cons
theorem jR : type_of% @List.getElem?_of_mem := @List.getElem?_of_mem
theorem jS : type_of% @List.mem_append := @List.mem_append
theorem jT : type_of% @List.take_succ_eq_append_getElem := @List.take_succ_eq_append_getElem
theorem jU : type_of% @Array.getElem?_eq_some_iff := @Array.getElem?_eq_some_iff
theorem jV : type_of% @List.all_cons := @List.all_cons
theorem kf : type_of% @Nat.add_mul := @Nat.add_mul
theorem kg : type_of% @Nat.mul_le_mul_right := @Nat.mul_le_mul_right
theorem kh : type_of% @Option.bind_some := @Option.bind_some
theorem ki : type_of% @Int.mul_assoc := @Int.mul_assoc
theorem kF : type_of% @List.mem_singleton := @List.mem_singleton
theorem kG : type_of% @List.map_cons := @List.map_cons
theorem kH : type_of% @Int.toNat_natCast := @Int.toNat_natCast
theorem k5 : type_of% @List.mem_cons_of_mem := @List.mem_cons_of_mem
theorem lA : type_of% @List.length_map := @List.length_map
theorem lB : type_of% @Int.le_of_lt := @Int.le_of_lt
theorem lC : type_of% @Rat.intCast_mul := @Rat.intCast_mul
theorem l6 : type_of% @Int.eq_ofNat_of_zero_le := @Int.eq_ofNat_of_zero_le
theorem l7 : type_of% @List.getElem?_eq_none := @List.getElem?_eq_none
theorem l8 : type_of% @Bool.true_and := @Bool.true_and
theorem l9 : type_of% @List.all_nil := @List.all_nil
theorem mG : type_of% @List.drop_eq_getElem_cons := @List.drop_eq_getElem_cons
theorem mH : type_of% @Int.le_refl := @Int.le_refl
theorem mI : type_of% @List.mem_of_mem_take := @List.mem_of_mem_take
theorem mJ : type_of% @List.mem_of_mem_drop := @List.mem_of_mem_drop
theorem mK : type_of% @Int.emod_lt_of_pos := @Int.emod_lt_of_pos
theorem mL : type_of% @Rat.le_of_lt := @Rat.le_of_lt
theorem nx : type_of% @Bool.eq_iff_iff := @Bool.eq_iff_iff
theorem ny : type_of% @Option.some.inj := @Option.some.inj
theorem nz : type_of% @Bool.false_eq_true := @Bool.false_eq_true
theorem nA : type_of% @Int.mul_le_mul_of_nonneg_right := @Int.mul_le_mul_of_nonneg_right
theorem nB : type_of% @Int.emod_nonneg := @Int.emod_nonneg
theorem nC : type_of% @Int.ediv_nonneg := @Int.ediv_nonneg
theorem oc : type_of% @Bool.not_eq_true' := @Bool.not_eq_true'
theorem od : type_of% @Int.mul_le_mul_of_nonneg_left := @Int.mul_le_mul_of_nonneg_left
theorem oe : type_of% @Int.pow_succ := @Int.pow_succ
theorem og : type_of% @Int.le_ediv_iff_mul_le := @Int.le_ediv_iff_mul_le
theorem o4 : type_of% @Rat.le_trans := @Rat.le_trans
theorem o5 : type_of% @List.map_congr_left := @List.map_congr_left
theorem o6 : type_of% @Int.mul_ediv_add_emod := @Int.mul_ediv_add_emod
theorem o7 : type_of% @Nat.min_eq_left := @Nat.min_eq_left
theorem o8 : type_of% @Int.lt_or_le := @Int.lt_or_le
theorem p0 : type_of% @List.append_nil := @List.append_nil
theorem p5 : type_of% @List.foldl_cons := @List.foldl_cons
theorem p6 : type_of% @Rat.intCast_add := @Rat.intCast_add
theorem p7 : type_of% @Rat.intCast_sub := @Rat.intCast_sub
theorem re : type_of% @List.drop_drop := @List.drop_drop
theorem rf : type_of% @Int.mul_le_mul := @Int.mul_le_mul
theorem sk : type_of% @List.getElem?_cons_zero := @List.getElem?_cons_zero
theorem sn : type_of% @Nat.lt_of_lt_of_le := @Nat.lt_of_lt_of_le
theorem so : type_of% @Bool.or_eq_true := @Bool.or_eq_true
theorem sq : type_of% @Int.mul_eq_zero := @Int.mul_eq_zero
theorem sr : type_of% @Option.map_none := @Option.map_none
theorem tU : type_of% @Array.getElem?_modify := @Array.getElem?_modify
theorem tV : type_of% @decide_eq_decide := @decide_eq_decide
theorem tW : type_of% @List.drop_of_length_le := @List.drop_of_length_le
theorem vu : type_of% @Nat.eq_zero_or_pos := @Nat.eq_zero_or_pos
theorem vv : type_of% @Nat.pow_le_pow_right := @Nat.pow_le_pow_right
theorem xp : type_of% @List.getElem?_cons_succ := @List.getElem?_cons_succ
theorem xq : type_of% @Array.getElem?_eq_none := @Array.getElem?_eq_none
theorem xo : type_of% @Int.ediv_ediv_of_nonneg := @Int.ediv_ediv_of_nonneg
theorem zW : type_of% @List.take_append_of_le_length := @List.take_append_of_le_length
theorem zX : type_of% @List.findIdx?_eq_some_iff_getElem := @List.findIdx?_eq_some_iff_getElem
end Go.Proofs.YtbcecodakfejaaaGreat
namespace Go.Proofs.YtbcecodakfejaaaGreat
theorem nR : (∀ b : Bool, ((!b) = true) = (b = false)) ∧ (∀ b : Bool, ((!b) = false) = (b = true)) ∧ (∀ (p : Prop) [Decidable p], (decide p = true) = p) ∧ ∀ (p : Prop) [Decidable p], (decide p = false) = ¬ p := ⟨by simp, by simp, by simp, by simp⟩
end Go.Proofs.YtbcecodakfejaaaGreat
namespace Go.Proofs.YtbcecodakfejaaaGreat
structure pv (Q : Prop) : Prop where
  h : Q
theorem gP {P Q : Prop} (k : Q) (h : pv Q → P := by intro q; (first | ((with_reducible apply yi); exact rfl) | ((with_reducible apply UQ); (iterate 5 exact rfl)) | ((with_reducible apply KA); (iterate 5 exact rfl)) | ((with_reducible apply Kw); (iterate 3 exact rfl)) | ((with_reducible apply Ky); (iterate 3 exact rfl); (first | decide | omega); (first | decide | omega); (first | assumption | exact rfl); exact rfl) | ((with_reducible apply Kx); (iterate 3 exact rfl); omega; omega; exact rfl) | ((with_reducible apply U1); (iterate 3 exact rfl)) | ((with_reducible apply Uz); (iterate 4 exact rfl)) | ((with_reducible apply Uy); (iterate 4 exact rfl)) | ((with_reducible apply U0); (iterate 4 exact rfl)) | ((with_reducible apply E4); (iterate 3 exact rfl); (first | exact mw (by omega) | assumption | rfl); exact rfl) | ((with_reducible apply Vc); (iterate 3 exact rfl); (first | exact mw (by omega) | assumption | rfl); exact rfl) | ((with_reducible apply UX); (iterate 3 exact rfl); (first | exact mw (by omega) | assumption | rfl); exact rfl) | ((with_reducible apply UY); exact rfl; exact rfl; (first | exact mw (by omega) | assumption | rfl); exact rfl) | ((with_reducible apply ahP); (iterate 3 exact rfl); (first | assumption | omega); (first | assumption | omega); exact rfl) | ((with_reducible apply Ux); exact rfl; exact rfl; (first | exact mw (by omega) | assumption | rfl); exact rfl) | ((with_reducible apply US); (iterate 4 exact rfl)) | ((with_reducible apply E9); (iterate 4 exact rfl)) | ((with_reducible apply Kz); (iterate 3 exact rfl)) | ((with_reducible apply U9); (iterate 3 exact rfl); (first | assumption | omega); (first | assumption | omega); (first | assumption | exact rfl); (first | assumption | exact rfl); exact rfl) | ((with_reducible apply ahQ); (iterate 3 exact rfl); (first | assumption | omega); (first | assumption | omega); (first | assumption | exact rfl); (first | assumption | exact rfl); exact rfl) | ((with_reducible apply Va); (iterate 4 exact rfl); (first | assumption | omega); (first | assumption | omega); (first | assumption | omega); (first | assumption | exact rfl); (first | assumption | exact rfl); exact rfl) | ((with_reducible apply Uu); (iterate 10 exact rfl)) | ((with_reducible apply ahM); exact rfl; exact (fun W => rfl); exact rfl) | ((with_reducible apply UU); (iterate 4 exact rfl)) | ((with_reducible apply UG); (iterate 4 exact rfl)) | ((with_reducible apply ahK); (iterate 4 exact rfl)) | ((with_reducible apply ahL); (iterate 3 exact rfl); (first | decide | omega); (first | decide | omega); (first | assumption | exact rfl); exact rfl) | ((with_reducible apply UM); (iterate 3 exact rfl); (first | decide | omega); (first | decide | omega); (first | assumption | exact rfl); exact rfl) | ((with_reducible apply ahI); (iterate 4 exact rfl)) | ((with_reducible apply UC); (iterate 3 exact rfl)) | ((with_reducible apply UD); exact rfl; exact rfl; kernel_rfl; exact rfl) | ((with_reducible apply ahN); exact rfl; exact rfl; kernel_rfl; exact rfl) | ((with_reducible apply ahJ); exact rfl; exact rfl; kernel_rfl; exact rfl) | ((with_reducible apply ahO); exact rfl; exact rfl; kernel_rfl; exact rfl) | ((with_reducible apply U2); (iterate 3 exact rfl)) | ((with_reducible apply UI); (iterate 3 exact rfl)) | ((with_reducible apply sT); (iterate 5 exact rfl); (intro W; go_simp; try rfl); (intro W; go_simp; try rfl); exact rfl; exact rfl) | ((with_reducible apply KF); exact rfl; exact rfl; (intro W; go_simp; try rfl); exact rfl; exact rfl) | ((with_reducible apply Ku); exact rfl; exact rfl; (intro W; go_simp; try rfl); exact rfl; exact rfl)); (with_reducible exact q.h)) : P := h ⟨k⟩
theorem eA {P Q : Prop} (k : Q) (h : pv Q → P := by intro q; (first | refine gP ?_ | ((with_reducible apply KC); kernel_rfl) | ((with_reducible apply KU); kernel_rfl; kernel_rfl; exact rfl) | (with_reducible first | apply KW | apply KL | apply KT | apply fL | apply KV | apply KX | apply Vm | apply Vo | apply Uc | apply Ud | apply Ue | apply Vq | apply Vl | apply ahR | apply afl) | ((with_reducible apply ahG); exact rfl) | ((with_reducible apply KR); exact rfl) | ((with_reducible apply KQ); exact rfl) | ((with_reducible apply Vp); exact rfl; (first | assumption | exact bZ (by omega) | (simp only [nR]; (first | done | omega)) | exact rfl)) | ((with_reducible apply KO); exact rfl; (first | assumption | exact cp (by omega) | (simp only [nR]; (first | done | omega)) | exact rfl))); (with_reducible exact q.h)) : P := h ⟨k⟩
theorem eS {P Q : Prop} (k : Q) (h : pv Q → P := by intro q; (repeat refine eA ?_); (with_reducible exact q.h)) : P := h ⟨k⟩
theorem lH {P Q A : Prop} (c : A) (k : Q) (h : A → pv Q → P := by intro c q; (first | refine Ks rfl rfl (by exact c) rfl ?_ | refine Bd rfl rfl rfl (by exact c) rfl ?_ | refine E5 rfl rfl rfl rfl (by exact c) rfl ?_ | refine E6 rfl rfl rfl rfl rfl (by exact c) rfl ?_ | refine Kt rfl rfl rfl rfl rfl rfl (by exact c) rfl ?_ | refine E7 rfl rfl rfl rfl rfl rfl rfl (by exact c) rfl ?_ | refine sV (bs := [_]) (args := []) rfl rfl rfl rfl (by exact c) rfl ?_ | refine sV (bs := [_]) (args := [_]) rfl rfl rfl rfl (by exact c) rfl ?_ | refine sV (bs := [_]) (args := [_, _]) rfl rfl rfl rfl (by exact c) rfl ?_ | refine sV (bs := [_]) (args := [_, _, _]) rfl rfl rfl rfl (by exact c) rfl ?_ | refine sU (args := []) rfl rfl rfl (by exact c) rfl ?_ | refine sU (args := [_]) rfl rfl rfl (by exact c) rfl ?_ | refine sU (args := [_, _]) rfl rfl rfl (by exact c) rfl ?_ | refine sU (args := [_, _, _]) rfl rfl rfl (by exact c) rfl ?_); (with_reducible exact q.h)) : P := h c ⟨k⟩
theorem fi {P Q : Prop} (k : Q) (h : pv Q → P := by intro q; (first | refine Ks rfl rfl (by first | with_reducible assumption | assumption) rfl ?_ | refine Bd rfl rfl rfl (by first | with_reducible assumption | assumption) rfl ?_ | refine E5 rfl rfl rfl rfl (by first | with_reducible assumption | assumption) rfl ?_ | refine E6 rfl rfl rfl rfl rfl (by first | with_reducible assumption | assumption) rfl ?_ | refine Kt rfl rfl rfl rfl rfl rfl (by first | with_reducible assumption | assumption) rfl ?_ | refine E7 rfl rfl rfl rfl rfl rfl rfl (by first | with_reducible assumption | assumption) rfl ?_ | refine sV (bs := [_]) (args := []) rfl rfl rfl rfl (by first | with_reducible assumption | assumption) rfl ?_ | refine sV (bs := [_]) (args := [_]) rfl rfl rfl rfl (by first | with_reducible assumption | assumption) rfl ?_ | refine sV (bs := [_]) (args := [_, _]) rfl rfl rfl rfl (by first | with_reducible assumption | assumption) rfl ?_ | refine sV (bs := [_]) (args := [_, _, _]) rfl rfl rfl rfl (by first | with_reducible assumption | assumption) rfl ?_ | refine sU (args := []) rfl rfl rfl (by first | with_reducible assumption | assumption) rfl ?_ | refine sU (args := [_]) rfl rfl rfl (by first | with_reducible assumption | assumption) rfl ?_ | refine sU (args := [_, _]) rfl rfl rfl (by first | with_reducible assumption | assumption) rfl ?_ | refine sU (args := [_, _, _]) rfl rfl rfl (by first | with_reducible assumption | assumption) rfl ?_); (with_reducible exact q.h)) : P := h ⟨k⟩
theorem cc {P Q : Prop} (k : Q) (h : pv Q → P := by intro q; (repeat (first | refine eA ?_ | refine fi ?_)); (with_reducible exact q.h)) : P := h ⟨k⟩
theorem cu {P Q : Prop} (k : Q) (h : pv Q → P := by intro q; (first | ((with_reducible apply gf); exact rfl; (with_reducible apply yi); exact rfl; with_reducible apply fL) | ((with_reducible apply Hg); kernel_rfl) | (with_reducible first | apply D6 | apply IR | apply I0 | apply Hf | apply afM | apply I2 | apply afz | apply afK | apply ID | apply aeY | apply IE | apply IZ | apply IQ | apply ajA) | ((with_reducible apply ajz); exact rfl) | ((with_reducible apply afL); exact rfl; (first | assumption | exact bZ (by omega) | (simp only [nR]; (first | done | omega)) | exact rfl)) | ((with_reducible apply IX); exact rfl; (first | assumption | exact cp (by omega) | (simp only [nR]; (first | done | omega)) | exact rfl)) | ((with_reducible apply gf); exact rfl; (repeat refine gP ?_); with_reducible apply fL)); (with_reducible exact q.h)) : P := h ⟨k⟩
theorem ba {P Q : Prop} (k : Q) (h : pv Q → P := by intro q; (repeat refine cu ?_); (with_reducible exact q.h)) : P := h ⟨k⟩
theorem iJ {P Q : Prop} (k : Q) (h : pv Q → P := by intro q; ((with_reducible apply gf); exact rfl; (repeat (first | refine gP ?_ | refine fi ?_)); with_reducible apply fL); (with_reducible exact q.h)) : P := h ⟨k⟩
theorem nF {P Q : Prop} (k : Q) (h : pv Q → P := by intro q; (repeat (first | refine cu ?_ | refine iJ ?_)); (with_reducible exact q.h)) : P := h ⟨k⟩
theorem SI {P Q A : Prop} (c : A) (k : Q) (h : A → pv Q → P := by intro c q; ((with_reducible apply gf); exact rfl; (repeat (first | refine lH c ?_ | refine gP ?_)); with_reducible apply fL); (with_reducible exact q.h)) : P := h c ⟨k⟩
end Go.Proofs.YtbcecodakfejaaaGreat
namespace Go.Proofs.YtbcecodakfejaaaGreat
open Go.RowKit
@[go_sem] theorem aje (w : World) (a b : Addr) (v : Value) : ((w.setCell a v).cell? b).isSome = (w.cell? b).isSome := by
  unfold World.setCell World.cell?;simp only [tU]
  by_cases e : a.block = b.block
  · rw [if_pos e]
    cases w.heap[b.block]? with
    | none => rfl
    | some o =>
      cases o <;> simp only [ha]
      by_cases s : a.spot.isSome = true
      · simp [s]
      · by_cases t : b.spot.isSome = true
        · simp [t]
        · simp only [if_neg s, if_neg t]
          rw [Array.getElem?_setIfInBounds]
          split
          · rename_i h1
            rw [← h1]
            split
            · rename_i h2; simp [h2]
            · rename_i h2; simp [h2]
          · rfl
  · rw [if_neg e]
theorem e1 {w W w1 : World} (h : Below w.heap.size w W) (ab : Below W.heap.size W w1) : Below w.heap.size w w1 := h.trans (ab.mono h.size)
theorem dP {w W : World} (h : Below w.heap.size w W) (o : Obj) : Below w.heap.size w (W.alloc o) := h.alloc h.size o
theorem hx {w W : World} (h : Below w.heap.size w W) (b o : Nat) (v : Value) (ab : w.heap.size ≤ b) : Below w.heap.size w (W.setCell ⟨b, o, none⟩ v) := h.setCell (p := ⟨b, o, none⟩) ab v
def cO (w : World) (b : Nat) (u v : Value) : Prop := (w.cell? ⟨b, 0, none⟩ = some u ∧ w.cell? ⟨b, 1, none⟩ = some v) ∧ (w.frozen? ⟨b, 0, none⟩ = false ∧ w.frozen? ⟨b, 1, none⟩ = false)
theorem cO.lt {w : World} {b : Nat} {u v : Value} (h : cO w b u v) : b < w.heap.size := World.block_lt_of_cell? w _ h.1.1
theorem cO.call {W w1 : World} {b : Nat} {u v : Value} (h : cO W b u v) (ab : Below W.heap.size W w1) : cO w1 b u v := by
  have ak := h.lt;obtain ⟨⟨h1, h2⟩, ao, aD⟩ := h;exact ⟨⟨(ab.cell (p := ⟨b, 0, none⟩) ak).trans h1, (ab.cell (p := ⟨b, 1, none⟩) ak).trans h2⟩, (ab.frozen (p := ⟨b, 0, none⟩) ak).trans ao, (ab.frozen (p := ⟨b, 1, none⟩) ak).trans aD⟩
theorem cO.alloc {W : World} {b : Nat} {u v : Value} (h : cO W b u v) (o : Obj) : cO (W.alloc o) b u v := h.call ((Below.refl _ _).alloc (dE _) o)
theorem cO.drew {W : World} {b : Nat} {u v : Value} (h : cO W b u v) : cO W.drew b u v := h.call ((Below.refl _ _).drew)
theorem cO.new {W : World} {b : Nat} {u v : Value} {t : TypeId} (e : b = W.heap.size) : cO (W.alloc (.cells #[u, v] t)) b u v := by
  subst e;unfold cO
  go_simp
theorem cO.set {W : World} {b g : Nat} {u v x : Value} (h : cO W b u v) (o : Nat) (ne : g ≠ b) : cO (W.setCell ⟨g, o, none⟩ x) b u v := by
  obtain ⟨⟨h1, h2⟩, ao, aD⟩ := h;have fG : (⟨g, o, none⟩ : Addr) ≠ ⟨b, 0, none⟩ := fun e => ne (congrArg Addr.block e);have eJ : (⟨g, o, none⟩ : Addr) ≠ ⟨b, 1, none⟩ := fun e => ne (congrArg Addr.block e);refine ⟨⟨?_, ?_⟩, ?_, ?_⟩
  · rw [World.cell?_setCell_other _ _ _ _ fG]; exact h1
  · rw [World.cell?_setCell_other _ _ _ _ eJ]; exact h2
  · go_simp
  · go_simp
def ur (w : World) (b : Nat) : Prop := ((w.cell? ⟨b, 0, none⟩).isSome = true ∧ (w.cell? ⟨b, 1, none⟩).isSome = true) ∧ (w.frozen? ⟨b, 0, none⟩ = false ∧ w.frozen? ⟨b, 1, none⟩ = false)
theorem ur.of {W : World} {b : Nat} {u v : Value} (h : cO W b u v) : ur W b := by
  obtain ⟨⟨h1, h2⟩, ao, aD⟩ := h;exact ⟨⟨by rw [h1]; rfl, by rw [h2]; rfl⟩, ao, aD⟩
theorem ur.box {W : World} {b : Nat} (h : ur W b) : ∃ u v, cO W b u v := by
  obtain ⟨⟨h1, h2⟩, ao, aD⟩ := h;obtain ⟨u, hu⟩ := Option.isSome_iff_exists.1 h1;obtain ⟨v, hv⟩ := Option.isSome_iff_exists.1 h2;exact ⟨u, v, ⟨hu, hv⟩, ao, aD⟩
theorem cO.put {W : World} {b : Nat} {oj v' : Value} (h : ur W b) : cO ((W.setCell ⟨b, 0, none⟩ oj).setCell ⟨b, 1, none⟩ v') b oj v' := by
  obtain ⟨u, v, k⟩ := h.box;obtain ⟨⟨h1, h2⟩, ao, aD⟩ := k;unfold cO
  go_simp
theorem LO {p q : Prop} (h : p) (k : p → q) : q := k h
def fN (a b c d : Int) : Bool := a == c && b == d
theorem Mi (a b c d : Int) (w : World) : (Op.equalIn 10000 146 (.agg #[.int .i64 a, .int .u64 b]) (.agg #[.int .i64 c, .int .u64 d])).run ag w = .ok (fN a b c d) w := by
  unfold fN
  go_simp
  by_cases h : a = c <;> by_cases k : b = d <;> simp [h, k]
@[go_sem ↓ high] theorem aij (a b c d : Int) (w : World) : (binOp .eql 146 (.agg #[.int .i64 a, .int .u64 b]) (.agg #[.int .i64 c, .int .u64 d])).run ag w = .ok (.bool (fN a b c d)) w := by
  rw [run_eql_struct, Mi]; rfl
@[go_sem ↓ high] theorem ajq (a b c d : Int) (w : World) : (binOp .neq 146 (.agg #[.int .i64 a, .int .u64 b]) (.agg #[.int .i64 c, .int .u64 d])).run ag w = .ok (.bool (!fN a b c d)) w := by
  rw [run_neq_struct, Mi]; rfl
theorem W2 (a b c d : Int) (w : World) : (Op.equalIn 10000 250 (.agg #[.int .u64 a, .int .u64 b]) (.agg #[.int .u64 c, .int .u64 d])).run ag w = .ok (fN a b c d) w := by
  unfold fN
  go_simp
  by_cases h : a = c <;> by_cases k : b = d <;> simp [h, k]
@[go_sem ↓ high] theorem ajp (a b c d : Int) (w : World) : (binOp .neq 250 (.agg #[.int .u64 a, .int .u64 b]) (.agg #[.int .u64 c, .int .u64 d])).run ag w = .ok (.bool (!fN a b c d)) w := by
  rw [run_neq_struct, W2]; rfl
def cH (H L n : Int) : Prop := (-9223372036854775808 ≤ H ∧ H < 9223372036854775808) ∧ (0 ≤ L ∧ L < 18446744073709551616) ∧ n = H * 18446744073709551616 + L
def dH (H L n : Int) : Prop := (0 ≤ H ∧ H < 18446744073709551616) ∧ (0 ≤ L ∧ L < 18446744073709551616) ∧ n = H * 18446744073709551616 + L
def wr (n : Int) : Int := (n + 170141183460469231731687303715884105728) % 340282366920938463463374607431768211456 - 170141183460469231731687303715884105728
def fits (n : Int) : Bool := decide (-170141183460469231731687303715884105728 ≤ n ∧ n < 170141183460469231731687303715884105728)
def EW (n : Int) (w : World) (e : Ending) (w' : World) : Prop := ∃ H L, e = .returned (.agg #[.int .i64 H, .int .u64 L]) ∧ cH H L n ∧ Below w.heap.size w w'
def pr (n : Int) (w : World) (e : Ending) (w' : World) : Prop := ∃ H L, e = .returned (.tuple #[.agg #[.int .i64 H, .int .u64 L], .bool (fits n)]) ∧ cH H L (if fits n then n else 0) ∧ Below w.heap.size w w'
def aU (n : Int) (w : World) (e : Ending) (w' : World) : Prop := ∃ H L, e = .returned (.agg #[.int .u64 H, .int .u64 L]) ∧ dH H L n ∧ Below w.heap.size w w'
def kQ (v : Value) (w : World) (e : Ending) (w' : World) : Prop := e = .returned v ∧ Below w.heap.size w w'
def cj (n m : Int) : Int := if n = m then 0 else if n < m then -1 else 1
theorem w6 : cH 0 0 0 := by unfold cH; omega
theorem cH.fits {H L n : Int} (h : cH H L n) : fits n = true := by
  obtain ⟨a, b, rfl⟩ := h;unfold Proofs.YtbcecodakfejaaaGreat.fits;rw [b4];omega
theorem cH.neg {H L n : Int} (h : cH H L n) : H < 0 ↔ n < 0 := by
  obtain ⟨a, b, rfl⟩ := h;omega
theorem cH.fN {H L xN L' n m : Int} (h : cH H L n) (k : cH xN L' m) : fN H L xN L' = decide (n = m) := by
  obtain ⟨a, b, rfl⟩ := h;obtain ⟨c, d, rfl⟩ := k;unfold Proofs.YtbcecodakfejaaaGreat.fN;rw [nx];simp only [c5, beq_iff_eq, b4];omega
theorem dH.fN {H L xN L' n m : Int} (h : dH H L n) (k : dH xN L' m) : fN H L xN L' = decide (n = m) := by
  obtain ⟨a, b, rfl⟩ := h;obtain ⟨c, d, rfl⟩ := k;unfold Proofs.YtbcecodakfejaaaGreat.fN;rw [nx];simp only [c5, beq_iff_eq, b4];omega
theorem zt : dH 0 0 0 := by unfold dH; omega
theorem Jx {n : Int} (h : fits n = true) : wr n = n := by
  unfold Proofs.YtbcecodakfejaaaGreat.fits at h;unfold wr;rw [b4] at h;omega
theorem sA {n H L : Int} {w w' : World} (h : fits n = true) (k : cH H L n) (b : Below w.heap.size w w') : pr n w (.returned (.tuple #[.agg #[.int .i64 H, .int .u64 L], .bool true])) w' := ⟨H, L, by rw [h], by rw [h]; exact k, b⟩
theorem Ae {n : Int} {w w' : World} (h : fits n = false) (b : Below w.heap.size w w') : pr n w (.returned (.tuple #[.agg #[.int .i64 0, .int .u64 0], .bool false])) w' := ⟨0, 0, by rw [h], by rw [h]; exact w6, b⟩
theorem A8 (x y c : Int) (aa : 0 ≤ x) (ai : 0 ≤ y) (uU : 0 ≤ c) (al : c ≤ 1) (w : World) :
    (callFunc 207 #[.int .u64 x, .int .u64 y, .int .u64 c]).run ag w =
      .ok (.value (.tuple #[.int .u64 ((x + y + c) % 18446744073709551616), .int .u64 ((x + y + c) / 18446744073709551616)])) w := by
  rw [run_callFunc_extern Tryz.func207 (by kernel_rfl) (by kernel_rfl) (by kernel_rfl) (e := add64Entry) (by kernel_rfl), run_add64 x y c aa ai uU al];rfl
def Sa : Array Value → Sem Value := fun args => do
  let (x, y, b) ← Extern.MathBitsCarry.three "Sub64" args
  pure (Extern.MathBitsCarry.pair ((x + Extern.MathBitsCarry.m64 - y - b) % Extern.MathBitsCarry.m64) (if x < y + b then 1 else 0))
theorem afJ {P : Program} (x y b : Nat) (ab : b ≤ 1) (w : World) :
    (Sa #[.int .u64 x, .int .u64 y, .int .u64 b]).run P w =
      .ok (.tuple #[.int .u64 (((x + 18446744073709551616 - y - b) % 18446744073709551616 : Nat) : Int), .int .u64 ((if x < y + b then 1 else 0 : Nat) : Int)]) w := by
  have : b = 0 ∨ b = 1 := by omega
  rcases this with rfl | rfl <;> rfl
theorem Ef (x y c : Int) (aa : 0 ≤ x) (Hq : x < 18446744073709551616) (ai : 0 ≤ y) (Hr : y < 18446744073709551616) (uU : 0 ≤ c) (al : c ≤ 1) (w : World) :
    (callFunc 193 #[.int .u64 x, .int .u64 y, .int .u64 c]).run ag w =
      .ok (.value (.tuple #[.int .u64 ((x - y - c) % 18446744073709551616), .int .u64 (-((x - y - c) / 18446744073709551616))])) w := by
  obtain ⟨X, rfl⟩ := l6 aa;obtain ⟨Y, rfl⟩ := l6 ai;obtain ⟨C, rfl⟩ := l6 uU;rw [run_callFunc_extern Tryz.func193 (by kernel_rfl) (by kernel_rfl) (by kernel_rfl) (e := Sa) (by kernel_rfl), afJ X Y C (by omega)];simp only [Result.andThen];have aF : (((X + 18446744073709551616 - Y - C) % 18446744073709551616 : Nat) : Int) = ((X : Int) - Y - C) % 18446744073709551616 := by omega
  have aP : ((if X < Y + C then 1 else 0 : Nat) : Int) = -(((X : Int) - Y - C) / 18446744073709551616) := by split <;> omega
  rw [aF, aP]
theorem aet (h1 l1 h2 l2 : Int) (b1 : -9223372036854775808 ≤ h1 ∧ h1 < 9223372036854775808) (b2 : 0 ≤ l1 ∧ l1 < 18446744073709551616)
   (dm : -9223372036854775808 ≤ h2 ∧ h2 < 9223372036854775808) (cY : 0 ≤ l2 ∧ l2 < 18446744073709551616) :
   cH (wrap64 ((IntKind.u64.wrap h1 + IntKind.u64.wrap h2 + (l1 + l2 + 0) / 18446744073709551616) % 18446744073709551616)) ((l1 + l2 + 0) % 18446744073709551616) (wr ((h1 * 18446744073709551616 + l1) + (h2 * 18446744073709551616 + l2))) := by
  unfold cH wr wrap64;rw [IntKind.wrap_u64, IntKind.wrap_u64];omega
theorem abA (h1 l1 h2 l2 : Int) (b1 : -9223372036854775808 ≤ h1 ∧ h1 < 9223372036854775808) (b2 : 0 ≤ l1 ∧ l1 < 18446744073709551616)
   (dm : -9223372036854775808 ≤ h2 ∧ h2 < 9223372036854775808) (cY : 0 ≤ l2 ∧ l2 < 18446744073709551616) :
   cH (wrap64 ((IntKind.u64.wrap h1 - IntKind.u64.wrap h2 - -((l1 - l2 - 0) / 18446744073709551616)) % 18446744073709551616)) ((l1 - l2 - 0) % 18446744073709551616) (wr ((h1 * 18446744073709551616 + l1) - (h2 * 18446744073709551616 + l2))) := by
  unfold cH wr wrap64;rw [IntKind.wrap_u64, IntKind.wrap_u64];omega
theorem vF (h : Int) : 0 ≤ IntKind.u64.wrap h ∧ IntKind.u64.wrap h < 18446744073709551616 := by rw [IntKind.wrap_u64]; omega
theorem QP (h1 l1 h2 l2 n m : Int) (w : World) (H1 : cH h1 l1 n) (cW : cH h2 l2 m) :
    Calls ag 213 #[.agg #[.int .i64 h1, .int .u64 l1], .agg #[.int .i64 h2, .int .u64 l2]] w (EW (wr (n + m)) w) := by
  obtain ⟨b1, b2, rfl⟩ := H1;obtain ⟨dm, cY, rfl⟩ := cW;have hv := aet h1 l1 h2 l2 b1 b2 dm cY;have aF := fun w => A8 l1 l2 0 b2.1 cY.1 (by omega) (by omega) w;have aP := fun w => A8 (IntKind.u64.wrap h1) (IntKind.u64.wrap h2) ((l1 + l2 + 0) / 18446744073709551616) (vF h1).1 (vF h2).1 (by omega) (by omega) w;generalize (l1 + l2 + 0) / 18446744073709551616 = c at *;generalize (l1 + l2 + 0) % 18446744073709551616 = s at *;generalize (IntKind.u64.wrap h1 + IntKind.u64.wrap h2 + c) % 18446744073709551616 = s' at *;generalize (IntKind.u64.wrap h1 + IntKind.u64.wrap h2 + c) / 18446744073709551616 = c' at *;generalize (h1 * 18446744073709551616 + l1) + (h2 * 18446744073709551616 + l2) = tF at *;clear b1 b2 dm cY
  go_enter Tryz.func213, Tryz.ntmps213
  go_wp2
  refine bodyPost_ret (v := .agg #[.int .i64 (wrap64 s'), .int .u64 s]) (by simp only [results, Tryz.results213]; go_simp) rfl ⟨_, _, rfl, hv, ?_⟩;(repeat first | with_reducible exact Below.refl _ _ | with_reducible refine dP ?_ _)
theorem zF (h1 l1 h2 l2 n m : Int) (w : World) (H1 : cH h1 l1 n) (cW : cH h2 l2 m) :
    Calls ag 166 #[.agg #[.int .i64 h1, .int .u64 l1], .agg #[.int .i64 h2, .int .u64 l2]] w (EW (wr (n - m)) w) := by
  obtain ⟨b1, b2, rfl⟩ := H1;obtain ⟨dm, cY, rfl⟩ := cW;have hv := abA h1 l1 h2 l2 b1 b2 dm cY;have aF := fun w => Ef l1 l2 0 b2.1 b2.2 cY.1 cY.2 (by omega) (by omega) w;have aP := fun w => Ef (IntKind.u64.wrap h1) (IntKind.u64.wrap h2) (-((l1 - l2 - 0) / 18446744073709551616)) (vF h1).1 (vF h1).2 (vF h2).1 (vF h2).2 (by omega) (by omega) w;generalize -((l1 - l2 - 0) / 18446744073709551616) = c at *;generalize (l1 - l2 - 0) % 18446744073709551616 = s at *;generalize (IntKind.u64.wrap h1 - IntKind.u64.wrap h2 - c) % 18446744073709551616 = s' at *;generalize -((IntKind.u64.wrap h1 - IntKind.u64.wrap h2 - c) / 18446744073709551616) = c' at *;generalize (h1 * 18446744073709551616 + l1) - (h2 * 18446744073709551616 + l2) = tF at *;clear b1 b2 dm cY
  go_enter Tryz.func166, Tryz.ntmps166
  go_wp2
  refine bodyPost_ret (v := .agg #[.int .i64 (wrap64 s'), .int .u64 s]) (by simp only [results, Tryz.results166]; go_simp) rfl ⟨_, _, rfl, hv, ?_⟩;(repeat first | with_reducible exact Below.refl _ _ | with_reducible refine dP ?_ _)
theorem A9 {h1 l1 h2 l2 gr h5 n m : Int} (H1 : cH h1 l1 n) (cW : cH h2 l2 m) (um : cH gr h5 (wr (n + m))) (h : ¬ (decide (h1 < 0) = decide (h2 < 0)) ∨ (!decide (gr < 0) == decide (h2 < 0)) = false) : fits (n + m) = true ∧ cH gr h5 (n + m) := by
  obtain ⟨b1, b2, rfl⟩ := H1;obtain ⟨dm, cY, rfl⟩ := cW;obtain ⟨Fi, Fj, e⟩ := um;unfold wr at e;unfold fits cH;simp only [tV, Bool.not_eq_false', beq_iff_eq] at h;rw [b4];omega
theorem Uj {h1 l1 h2 l2 gr h5 n m : Int} (H1 : cH h1 l1 n) (cW : cH h2 l2 m) (um : cH gr h5 (wr (n + m))) (h : (decide (h1 < 0) = decide (h2 < 0))) (k : (!decide (gr < 0) == decide (h2 < 0)) = true) : fits (n + m) = false := by
  obtain ⟨b1, b2, rfl⟩ := H1;obtain ⟨dm, cY, rfl⟩ := cW;obtain ⟨Fi, Fj, e⟩ := um;unfold wr at e;unfold fits;simp only [tV, oc, beq_eq_false_iff_ne, ne_eq] at h k;rw [iE];omega
theorem SN (h1 l1 h2 l2 n m : Int) (w : World) (H1 : cH h1 l1 n) (cW : cH h2 l2 m) :
    Calls ag 204 #[.agg #[.int .i64 h1, .int .u64 l1], .agg #[.int .i64 h2, .int .u64 l2]] w (pr (n + m) w) := by
  go_enter Tryz.func204, Tryz.ntmps204
  go_wp2_with (go_at_call 213; refine (QP _ _ _ _ _ _ _ H1 cW).mono ?_; rintro e w1 ⟨gr, h5, rfl, hs, ab⟩; have wb := Below.cell ab (p := ⟨w.heap.size, 0, none⟩) (by (simp; omega)); have wy := Below.frozen ab (p := ⟨w.heap.size, 0, none⟩) (by (simp; omega)); have we := Below.cell ab (p := ⟨w.heap.size, 1, none⟩) (by (simp; omega)); have wz := Below.frozen ab (p := ⟨w.heap.size, 1, none⟩) (by (simp; omega)); have yo := Below.cell ab (p := ⟨w.heap.size + 1, 0, none⟩) (by (simp; done)); have yB := Below.frozen ab (p := ⟨w.heap.size + 1, 0, none⟩) (by (simp; done)); have yp := Below.cell ab (p := ⟨w.heap.size + 1, 1, none⟩) (by (simp; done)); have yC := Below.frozen ab (p := ⟨w.heap.size + 1, 1, none⟩) (by (simp; done)); have VI := Below.cell ab (p := ⟨w.heap.size + 1 + 1, 0, none⟩) (by (simp; done)); have W9 := Below.frozen ab (p := ⟨w.heap.size + 1 + 1, 0, none⟩) (by (simp; done)); have VJ := Below.cell ab (p := ⟨w.heap.size + 1 + 1, 1, none⟩) (by (simp; done)); have Xa := Below.frozen ab (p := ⟨w.heap.size + 1 + 1, 1, none⟩) (by (simp; done)); have n4 := Below.size ab; (try simp at n4); have xf : ¬ w1.heap.size = w.heap.size := (by omega); have zH : ¬ w1.heap.size = w.heap.size + 1 := (by omega); have ab0 : ¬ w1.heap.size = w.heap.size + 1 + 1 := (by omega))
  · refine bodyPost_ret (v := .tuple #[.agg #[.int .i64 0, .int .u64 0], .bool false]) (by simp only [results, Tryz.results204]; go_simp) rfl (Ae (Uj H1 cW hs ‹_› ‹_›) ?_)
    (repeat first | with_reducible exact Below.refl _ _ | with_reducible refine dP ?_ _ | focus ((with_reducible refine hx ?_ _ _ _ ?_); rotate_left; omega) | with_reducible refine e1 ?_ ab)
  · refine bodyPost_ret (v := .tuple #[.agg #[.int .i64 gr, .int .u64 h5], .bool true]) (by simp only [results, Tryz.results204]; go_simp) rfl (sA (A9 H1 cW hs (.inr ‹_›)).1 (A9 H1 cW hs (.inr ‹_›)).2 ?_)
    (repeat first | with_reducible exact Below.refl _ _ | with_reducible refine dP ?_ _ | focus ((with_reducible refine hx ?_ _ _ _ ?_); rotate_left; omega) | with_reducible refine e1 ?_ ab)
  · refine bodyPost_ret (v := .tuple #[.agg #[.int .i64 gr, .int .u64 h5], .bool true]) (by simp only [results, Tryz.results204]; go_simp) rfl (sA (A9 H1 cW hs (.inl ‹_›)).1 (A9 H1 cW hs (.inl ‹_›)).2 ?_)
    (repeat first | with_reducible exact Below.refl _ _ | with_reducible refine dP ?_ _ | focus ((with_reducible refine hx ?_ _ _ _ ?_); rotate_left; omega) | with_reducible refine e1 ?_ ab)
theorem Eg {h1 l1 h2 l2 gr h5 n m : Int} (H1 : cH h1 l1 n) (cW : cH h2 l2 m) (um : cH gr h5 (wr (n - m))) (h : (decide (h1 < 0) = decide (h2 < 0)) ∨ (!decide (gr < 0) == decide (h1 < 0)) = false) : fits (n - m) = true ∧ cH gr h5 (n - m) := by
  obtain ⟨b1, b2, rfl⟩ := H1;obtain ⟨dm, cY, rfl⟩ := cW;obtain ⟨Fi, Fj, e⟩ := um;unfold wr at e;unfold fits cH;simp only [tV, Bool.not_eq_false', beq_iff_eq] at h;rw [b4];omega
theorem agD {h1 l1 h2 l2 gr h5 n m : Int} (H1 : cH h1 l1 n) (cW : cH h2 l2 m) (um : cH gr h5 (wr (n - m))) (h : ¬ (decide (h1 < 0) = decide (h2 < 0))) (k : (!decide (gr < 0) == decide (h1 < 0)) = true) : fits (n - m) = false := by
  obtain ⟨b1, b2, rfl⟩ := H1;obtain ⟨dm, cY, rfl⟩ := cW;obtain ⟨Fi, Fj, e⟩ := um;unfold wr at e;unfold fits;simp only [tV, oc, beq_eq_false_iff_ne, ne_eq] at h k;rw [iE];omega
theorem TW (h1 l1 h2 l2 n m : Int) (w : World) (H1 : cH h1 l1 n) (cW : cH h2 l2 m) :
    Calls ag 149 #[.agg #[.int .i64 h1, .int .u64 l1], .agg #[.int .i64 h2, .int .u64 l2]] w (pr (n - m) w) := by
  go_enter Tryz.func149, Tryz.ntmps149
  go_wp2_with (go_at_call 166; refine (zF _ _ _ _ _ _ _ H1 cW).mono ?_; rintro e w1 ⟨gr, h5, rfl, hs, ab⟩; have wb := Below.cell ab (p := ⟨w.heap.size, 0, none⟩) (by (simp; omega)); have wy := Below.frozen ab (p := ⟨w.heap.size, 0, none⟩) (by (simp; omega)); have we := Below.cell ab (p := ⟨w.heap.size, 1, none⟩) (by (simp; omega)); have wz := Below.frozen ab (p := ⟨w.heap.size, 1, none⟩) (by (simp; omega)); have yo := Below.cell ab (p := ⟨w.heap.size + 1, 0, none⟩) (by (simp; done)); have yB := Below.frozen ab (p := ⟨w.heap.size + 1, 0, none⟩) (by (simp; done)); have yp := Below.cell ab (p := ⟨w.heap.size + 1, 1, none⟩) (by (simp; done)); have yC := Below.frozen ab (p := ⟨w.heap.size + 1, 1, none⟩) (by (simp; done)); have VI := Below.cell ab (p := ⟨w.heap.size + 1 + 1, 0, none⟩) (by (simp; done)); have W9 := Below.frozen ab (p := ⟨w.heap.size + 1 + 1, 0, none⟩) (by (simp; done)); have VJ := Below.cell ab (p := ⟨w.heap.size + 1 + 1, 1, none⟩) (by (simp; done)); have Xa := Below.frozen ab (p := ⟨w.heap.size + 1 + 1, 1, none⟩) (by (simp; done)); have n4 := Below.size ab; (try simp at n4); have xf : ¬ w1.heap.size = w.heap.size := (by omega); have zH : ¬ w1.heap.size = w.heap.size + 1 := (by omega); have ab0 : ¬ w1.heap.size = w.heap.size + 1 + 1 := (by omega))
  · refine bodyPost_ret (v := .tuple #[.agg #[.int .i64 0, .int .u64 0], .bool false]) (by simp only [results, Tryz.results149]; go_simp) rfl (Ae (agD H1 cW hs ‹_› ‹_›) ?_)
    (repeat first | with_reducible exact Below.refl _ _ | with_reducible refine dP ?_ _ | focus ((with_reducible refine hx ?_ _ _ _ ?_); rotate_left; omega) | with_reducible refine e1 ?_ ab)
  · refine bodyPost_ret (v := .tuple #[.agg #[.int .i64 gr, .int .u64 h5], .bool true]) (by simp only [results, Tryz.results149]; go_simp) rfl (sA (Eg H1 cW hs (.inr ‹_›)).1 (Eg H1 cW hs (.inr ‹_›)).2 ?_)
    (repeat first | with_reducible exact Below.refl _ _ | with_reducible refine dP ?_ _ | focus ((with_reducible refine hx ?_ _ _ _ ?_); rotate_left; omega) | with_reducible refine e1 ?_ ab)
  · refine bodyPost_ret (v := .tuple #[.agg #[.int .i64 gr, .int .u64 h5], .bool true]) (by simp only [results, Tryz.results149]; go_simp) rfl (sA (Eg H1 cW hs (.inl ‹_›)).1 (Eg H1 cW hs (.inl ‹_›)).2 ?_)
    (repeat first | with_reducible exact Below.refl _ _ | with_reducible refine dP ?_ _ | focus ((with_reducible refine hx ?_ _ _ _ ?_); rotate_left; omega) | with_reducible refine e1 ?_ ab)
end Go.Proofs.YtbcecodakfejaaaGreat
namespace Go.Proofs.YtbcecodakfejaaaGreat
open Go.RowKit
theorem tZ {k : IntKind} {a b : Int} (h : a = b) : Ending.returned (.int k a) = .returned (.int k b) := by rw [h]
theorem ae4 {a b : Bool} (h : a = b) : Ending.returned (.bool a) = .returned (.bool b) := by rw [h]
theorem Z8 : cH (-9223372036854775808) 0 (-170141183460469231731687303715884105728) := by unfold cH; omega
theorem ab2 {n : Int} (H : fits n = true) : fits (0 - n) = !decide (n = -170141183460469231731687303715884105728) := by
  unfold fits at *;rw [b4] at H;rw [nx];simp only [b4, oc, iE];omega
theorem TF (h1 l1 n : Int) (w : World) (H1 : cH h1 l1 n) :
    Calls ag 169 #[.agg #[.int .i64 h1, .int .u64 l1]] w (pr (-n) w) := by
  have AU := Lib.hid (ab2 H1.fits);have he := H1.fN Z8;rw [← Int.zero_sub]
  by_cases e : n = -170141183460469231731687303715884105728
  · have hd : fN h1 l1 (-9223372036854775808) 0 = true := by rw [he]; exact bZ e
    have AS : Hid (fits (0 - n) = false) := by have := AU.out; rw [bZ e] at this; exact this
    clear he AU e
    go_enter Tryz.func169, Tryz.ntmps169
    go_wp2
    refine bodyPost_ret (v := .tuple #[.agg #[.int .i64 0, .int .u64 0], .bool false]) (by simp only [results, Tryz.results169]; go_simp) rfl (Ae AS.out ?_);(repeat first | with_reducible exact Below.refl _ _ | with_reducible refine dP ?_ _)
  · have hd : fN h1 l1 (-9223372036854775808) 0 = false := by rw [he]; exact cp e
    have AS : Hid (fits (0 - n) = true) := by have := AU.out; rw [cp e] at this; exact this
    clear he AU e
    go_enter Tryz.func169, Tryz.ntmps169
    go_wp2_with (go_at_call 166; refine (zF _ _ _ _ _ _ _ w6 H1).mono ?_; rintro e w1 ⟨gr, h5, rfl, hs, ab⟩; have wb := Below.cell ab (p := ⟨w.heap.size, 0, none⟩) (by (simp; omega)); have wy := Below.frozen ab (p := ⟨w.heap.size, 0, none⟩) (by (simp; omega)); have we := Below.cell ab (p := ⟨w.heap.size, 1, none⟩) (by (simp; omega)); have wz := Below.frozen ab (p := ⟨w.heap.size, 1, none⟩) (by (simp; omega)); have yo := Below.cell ab (p := ⟨w.heap.size + 1, 0, none⟩) (by (simp; done)); have yB := Below.frozen ab (p := ⟨w.heap.size + 1, 0, none⟩) (by (simp; done)); have yp := Below.cell ab (p := ⟨w.heap.size + 1, 1, none⟩) (by (simp; done)); have yC := Below.frozen ab (p := ⟨w.heap.size + 1, 1, none⟩) (by (simp; done)); have n4 := Below.size ab; (try simp at n4); have xf : ¬ w1.heap.size = w.heap.size := (by omega); have zH : ¬ w1.heap.size = w.heap.size + 1 := (by omega))
    rw [Jx AS.out] at hs;refine bodyPost_ret (v := .tuple #[.agg #[.int .i64 gr, .int .u64 h5], .bool true]) (by simp only [results, Tryz.results169]; go_simp) rfl (sA AS.out hs ?_);(repeat first | with_reducible exact Below.refl _ _ | with_reducible refine dP ?_ _ | focus ((with_reducible refine hx ?_ _ _ _ ?_); rotate_left; omega) | with_reducible refine e1 ?_ ab)
theorem JC (h1 l1 h2 l2 n m : Int) (w : World) (H1 : cH h1 l1 n) (cW : cH h2 l2 m) :
    Calls ag 197 #[.agg #[.int .i64 h1, .int .u64 l1], .agg #[.int .i64 h2, .int .u64 l2]] w (kQ (.int .i64 (cj n m)) w) := by
  go_enter Tryz.func197, Tryz.ntmps197
  go_wp2
  all_goals
    go_ret
    refine ⟨tZ ?_, by (repeat first | with_reducible exact Below.refl _ _ | with_reducible refine dP ?_ _)⟩;simp only [H1.fN cW, b4, iE] at *;obtain ⟨b1, b2, aF⟩ := H1;obtain ⟨dm, cY, aP⟩ := cW;unfold cj
    repeat' split
    all_goals omega
theorem TT (h1 l1 n : Int) (w : World) (H1 : cH h1 l1 n) :
    Calls ag 168 #[.agg #[.int .i64 h1, .int .u64 l1]] w (kQ (.int .i64 (cj n 0)) w) := by
  go_enter Tryz.func168, Tryz.ntmps168
  go_wp2_with (go_at_call 197; refine (JC _ _ _ _ _ _ _ H1 w6).mono ?_; rintro e w1 ⟨rfl, ab⟩)
  go_ret
  exact ⟨rfl, by (repeat first | with_reducible exact Below.refl _ _ | with_reducible refine dP ?_ _ | with_reducible refine e1 ?_ ab)⟩
theorem acv (n : Int) (az : -9223372036854775808 ≤ n) (h1 : n < 9223372036854775808) : cH (n / 9223372036854775808) (IntKind.u64.wrap n) n := by
  unfold cH;rw [IntKind.wrap_u64];omega
theorem JY (n : Int) (w : World) (az : -9223372036854775808 ≤ n) (h1 : n < 9223372036854775808) :
    Calls ag 152 #[.int .i64 n] w (EW n w) := by
  have hv := acv n az h1
  go_enter Tryz.func152, Tryz.ntmps152
  go_wp2
  refine bodyPost_ret (v := .agg #[.int .i64 (n / 9223372036854775808), .int .u64 (IntKind.u64.wrap n)]) (by simp only [results, Tryz.results152]; go_simp) rfl ⟨_, _, rfl, hv, ?_⟩;(repeat first | with_reducible exact Below.refl _ _ | with_reducible refine dP ?_ _)
def small (n : Int) : Bool := decide (-9223372036854775808 ≤ n ∧ n < 9223372036854775808)
theorem R7 (l : Int) : -9223372036854775808 ≤ wrap64 l ∧ wrap64 l < 9223372036854775808 := by unfold wrap64; omega
theorem agn {h l n a b : Int} (H : cH h l n) (K : cH a b (wrap64 l)) (e : fN a b h l = true) : small n = true ∧ wrap64 l = n := by
  rw [K.fN H, b4] at e;have WL := e; clear e;obtain ⟨b1, b2, rfl⟩ := H;obtain ⟨dm, cY, e⟩ := K;unfold wrap64 at *;unfold small;rw [b4];omega
theorem agm {h l n a b : Int} (H : cH h l n) (K : cH a b (wrap64 l)) (e : fN a b h l = false) : small n = false := by
  rw [K.fN H, iE] at e;have WL := e; clear e;obtain ⟨b1, b2, rfl⟩ := H;obtain ⟨dm, cY, e⟩ := K;unfold wrap64 at *;unfold small;rw [iE];omega
def vU (n : Int) (w : World) (e : Ending) (w' : World) : Prop := e = .returned (.tuple #[.int .i64 (if small n then n else 0), .bool (small n)]) ∧ Below w.heap.size w w'
theorem afx {n m : Int} {w w' : World} (h : small n = true) (e : m = n) (b : Below w.heap.size w w') : vU n w (.returned (.tuple #[.int .i64 m, .bool true])) w' := ⟨by rw [h, e]; rfl, b⟩
theorem afw {n : Int} {w w' : World} (h : small n = false) (b : Below w.heap.size w w') : vU n w (.returned (.tuple #[.int .i64 0, .bool false])) w' := ⟨by rw [h]; rfl, b⟩
theorem EZ (h1 l1 n : Int) (w : World) (H1 : cH h1 l1 n) :
    Calls ag 162 #[.agg #[.int .i64 h1, .int .u64 l1]] w (vU n w) := by
  go_enter Tryz.func162, Tryz.ntmps162
  go_wp2_with fail
  go_region_held3 (fun w' => w'.cell? ⟨w.heap.size, 0, none⟩ = some (.int .i64 h1) ∧ w'.cell? ⟨w.heap.size, 1, none⟩ = some (.int .u64 l1)) (go_keep)
    ((go_at_call 152; refine (JY _ _ (R7 l1).1 (R7 l1).2).mono ?_; rintro e w1 ⟨gr, h5, rfl, hs, ab⟩; have wb := Below.cell ab (p := ⟨w.heap.size, 0, none⟩) (by (simp; done)); have wy := Below.frozen ab (p := ⟨w.heap.size, 0, none⟩) (by (simp; done)); have we := Below.cell ab (p := ⟨w.heap.size, 1, none⟩) (by (simp; done)); have wz := Below.frozen ab (p := ⟨w.heap.size, 1, none⟩) (by (simp; done)); have n4 := Below.size ab; (try simp at n4); have xf : ¬ w1.heap.size = w.heap.size := (by omega)))
  go_wp2
  · go_ret2
    exact afw (agm H1 hs (by simpa using ‹(!fN gr h5 h1 l1) = true›)) (by (repeat first | with_reducible exact Below.refl _ _ | with_reducible refine dP ?_ _ | with_reducible refine Below.drew ?_ | with_reducible refine e1 ?_ ab))
  · go_ret2
    have ai := agn H1 hs (by simpa using ‹(!fN gr h5 h1 l1) = false›);exact afx ai.1 ai.2 (by (repeat first | with_reducible exact Below.refl _ _ | with_reducible refine dP ?_ _ | with_reducible refine Below.drew ?_ | with_reducible refine e1 ?_ ab))
end Go.Proofs.YtbcecodakfejaaaGreat
namespace Go.Proofs.YtbcecodakfejaaaGreat.bq
structure cP (α : Type) where
 Ck : α → α → α → Bool
 gN : α → α → List α → List α
 cut : α × α → α × α → Option α
 n : Nat
 P : Nat → α
 Q : Nat → α
 tR : Nat → Nat → Option α
 R : Nat
 gT : α → Prop
structure aU (α : Type) where
 ph : Nat
 I : Nat
 J : Nat
 T : Nat
 dirty : Bool
 hot : List α
 fnd : List α
 ch : List (List α × List Int)
variable {α : Type} [DecidableEq α]
def iZ : List α → List (α × α)
 | p :: q :: W => (p, q) :: iZ (q :: W)
 | _ => []
def a6 (ch : List (List α × List Int)) : List (α × α) := ch.flatMap fun c => iZ c.1
def db (V : List α) (j : Nat) (l : List α) : List α := V.take (j + 1) ++ l ++ V.drop (j + 1)
def et (D : List Int) (j : Nat) (n : Nat) : List Int := D.take j ++ List.replicate (n + 1) (D.getD j 0 + 1) ++ D.drop (j + 1)
def hn (p q : α) : List α × List Int := if p = q then ([p], []) else ([p, q], [1])
def fh (s : aU α) (ph I J : Nat) : aU α := { s with ph := ph, I := I, J := J, T := 0, fnd := [] }
def dR (o : cP α) (s : aU α) (q : α) : aU α :=
 if q ∈ s.hot then s else if s.hot.length < o.R then { s with hot := s.hot ++ [q] } else fh s 5 0 0
def ua : List (List α × List Int) → Nat → Nat → Option (Nat × Nat)
 | [], _, _ => none
 | c :: cs, i, j => if j + 1 < c.1.length then some (i, j) else ua cs (i + 1) 0
def mc (s : aU α) : aU α :=
 match ua (s.ch.drop s.I) s.I s.J with
 | some CJ => { s with I := CJ.1, J := CJ.2 }
 | none => if (a6 s.ch).length < 2 then fh s 4 0 0 else fh s 3 0 1
def nE (s : aU α) : aU α := if s.dirty = true then mc (fh { s with dirty := false } 2 0 0) else fh s 4 0 0
def lx (o : cP α) (s : aU α) : aU α := mc (fh { s with ch := (List.range o.n).map fun k => hn (o.P k) (o.Q k) } 2 0 0)
def s6 (o : cP α) (s : aU α) : aU α :=
 if (dR o s (o.P s.I)).ph = 5 then dR o s (o.P s.I) else
 if (dR o (dR o s (o.P s.I)) (o.Q s.I)).ph = 5 then dR o (dR o s (o.P s.I)) (o.Q s.I) else
 if s.I + 1 < o.n then { dR o (dR o s (o.P s.I)) (o.Q s.I) with I := s.I + 1 } else
 if o.n < 2 then lx o (dR o (dR o s (o.P s.I)) (o.Q s.I)) else fh (dR o (dR o s (o.P s.I)) (o.Q s.I)) 1 0 1
def cb (many I J : Nat) : Nat × Nat := if many ≤ J + 1 then (I + 1, I + 2) else (I, J + 1)
def kw (o : cP α) (s : aU α) : Option α → aU α
 | some x => dR o s x
 | none => s
def tQ (o : cP α) (s : aU α) : aU α :=
 if (kw o s (o.tR s.I s.J)).ph = 5 then kw o s (o.tR s.I s.J) else
 if (cb o.n s.I s.J).2 < o.n then { kw o s (o.tR s.I s.J) with I := (cb o.n s.I s.J).1, J := (cb o.n s.I s.J).2 } else lx o (kw o s (o.tR s.I s.J))
def jo (o : cP α) (p q x : α) : Bool := decide (x ≠ p) && decide (x ≠ q) && o.Ck p q x
def li (o : cP α) (p q x : α) (fnd : List α) : List α := if jo o p q x = true then fnd ++ [x] else fnd
def sa (o : cP α) (s : aU α) (c : List α × List Int) (p q : α) (fnd : List α) : aU α :=
 if s.T + 1 < s.hot.length then { s with fnd := fnd, T := s.T + 1 } else
 if fnd = [] then mc { s with T := 0, fnd := [], J := s.J + 1 } else
 { s with T := 0, fnd := [], ch := s.ch.set s.I (db c.1 s.J (o.gN p q fnd), et c.2 s.J fnd.length) }
def xt (o : cP α) (s : aU α) : aU α :=
 match s.ch[s.I]? with
 | some c =>
  match c.1[s.J]?, c.1[s.J + 1]?, s.hot[s.T]? with
  | some p, some q, some x => sa o s c p q (li o p q x s.fnd)
  | _, _, _ => s
 | none => s
def dY (o : cP α) (s : aU α) : Option α → aU α
 | some x => if (dR o s x).ph = 5 then dR o s x else { dR o s x with dirty := true }
 | none => s
def sc (o : cP α) (s : aU α) : aU α :=
 match (a6 s.ch)[s.I]?, (a6 s.ch)[s.J]? with
 | some a, some b =>
  if (dY o s (o.cut a b)).ph = 5 then dY o s (o.cut a b) else
  if (cb (a6 s.ch).length s.I s.J).2 < (a6 s.ch).length then { dY o s (o.cut a b) with I := (cb (a6 s.ch).length s.I s.J).1, J := (cb (a6 s.ch).length s.I s.J).2 } else nE (dY o s (o.cut a b))
 | _, _ => s
def eP (o : cP α) (s : aU α) : aU α :=
 match s.ph with
 | 0 => s6 o s
 | 1 => tQ o s
 | 2 => xt o s
 | 3 => sc o s
 | _ => s
def ry (o : cP α) (hot : List α) (p q : α) : Prop := ∀ x ∈ hot, jo o p q x = false
structure kp (o : cP α) (ok : Nat → List α × List Int → Prop) : Prop where
 nodup : ∀ i c, ok i c → c.1.Nodup
 new : ∀ i, i < o.n → ok i (hn (o.P i) (o.Q i))
 split : ∀ (i : Nat) (c : List α × List Int) (j : Nat) (p q : α) (bg : List α), ok i c → c.1.length = c.2.length + 1 → c.1[j]? = some p → c.1[j + 1]? = some q → bg.Nodup → bg ≠ [] → (∀ x ∈ bg, jo o p q x = true) → ok i (db c.1 j (o.gN p q bg), et c.2 j bg.length)
 gN : ∀ (p q : α) (bg : List α), (o.gN p q bg).Perm bg
 F3 : ∀ i, i < o.n → o.gT (o.P i) ∧ o.gT (o.Q i)
 MN : ∀ i j x, i < j → j < o.n → o.tR i j = some x → o.gT x
 ML : ∀ (p q fH cd x : α), o.gT p → o.gT q → o.gT fH → o.gT cd → o.cut (p, q) (fH, cd) = some x → o.gT x
 cut : ∀ (hot : List α) (p q fH cd x : α), (∀ y ∈ hot, o.gT y) → p ≠ q → fH ≠ cd → p ∈ hot → q ∈ hot → fH ∈ hot → cd ∈ hot → ry o hot p q → ry o hot fH cd → o.cut (p, q) (fH, cd) = some x → x ∉ hot
structure jB (o : cP α) (s : aU α) : Prop where
 nd : s.hot.Nodup
 room : s.hot.length ≤ o.R
 gS : ∀ x ∈ s.hot, o.gT x
structure AL (o : cP α) (ok : Nat → List α × List Int → Prop) (hot : List α) (i : Nat) (c : List α × List Int) : Prop where
 gT : ok i c
 len : c.1.length = c.2.length + 1
 head : c.1.head? = some (o.P i)
 last : c.1.getLast? = some (o.Q i)
 hot : ∀ v ∈ c.1, v ∈ hot
 deep : ∀ d ∈ c.2, 1 ≤ d ∧ d ≤ c.2.length
structure kP (o : cP α) (ok : Nat → List α × List Int → Prop) (s : aU α) : Prop where
 len : s.ch.length = o.n
 hR : ∀ i c, s.ch[i]? = some c → AL o ok s.hot i c
def AF (o : cP α) (hot : List α) (ch : List (List α × List Int)) (I J : Nat) : Prop :=
 ∀ i c j p q, ch[i]? = some c → c.1[j]? = some p → c.1[j + 1]? = some q → (i < I ∨ (i = I ∧ j < J)) → ry o hot p q
def JU (o : cP α) (ch : List (List α × List Int)) (I J : Nat) : Prop :=
 ∀ a b l m, (a6 ch)[a]? = some l → (a6 ch)[b]? = some m → a < b → (a < I ∨ (a = I ∧ b < J)) → o.cut l m = none
def AG (o : cP α) (s : aU α) : Prop := ∀ l ∈ a6 s.ch, ry o s.hot l.1 l.2
def A5 (o : cP α) (s : aU α) (I : Nat) : Prop := ∀ i, i < I → o.P i ∈ s.hot ∧ o.Q i ∈ s.hot
structure JN (o : cP α) (s : aU α) : Prop where
 ph : s.ph = 0
 dirty : s.dirty = false
 fnd : s.fnd = []
 ch : s.ch = []
 I : s.I < o.n
 J : s.J = 0
 T : s.T = 0
 Ay : A5 o s s.I
structure Inv1 (o : cP α) (s : aU α) : Prop where
 ph : s.ph = 1
 dirty : s.dirty = false
 fnd : s.fnd = []
 ch : s.ch = []
 xU : s.I < s.J
 J : s.J < o.n
 T : s.T = 0
 Ay : A5 o s o.n
structure Inv2 (o : cP α) (ok : Nat → List α × List Int → Prop) (s : aU α) : Prop where
 ph : s.ph = 2
 dirty : s.dirty = false
 laid : kP o ok s
 link : ∃ c p q, s.ch[s.I]? = some c ∧ c.1[s.J]? = some p ∧ c.1[s.J + 1]? = some q ∧ s.fnd = (s.hot.take s.T).filter (jo o p q)
 T : s.T < s.hot.length
 Bb : AF o s.hot s.ch s.I s.J
structure EK (o : cP α) (ok : Nat → List α × List Int → Prop) (s : aU α) : Prop where
 ph : s.ph = 3
 laid : kP o ok s
 xU : s.I < s.J
 J : s.J < (a6 s.ch).length
 T : s.T = 0
 fnd : s.fnd = []
 clean : s.dirty = false → AG o s ∧ JU o s.ch s.I s.J
structure xV (o : cP α) (ok : Nat → List α × List Int → Prop) (s : aU α) : Prop where
 ph : s.ph = 4
 dirty : s.dirty = false
 laid : kP o ok s
 I : s.I = 0
 J : s.J = 0
 T : s.T = 0
 fnd : s.fnd = []
 ajB : AG o s
 ajs : JU o s.ch (a6 s.ch).length 0
structure AW (o : cP α) (ok : Nat → List α × List Int → Prop) (s : aU α) : Prop where
 ph : s.ph = 5
 I : s.I = 0
 J : s.J = 0
 T : s.T = 0
 fnd : s.fnd = []
 full : s.hot.length = o.R
 ch : (s.ch = [] ∧ s.dirty = false) ∨ kP o ok s
def h6 (o : cP α) (ok : Nat → List α × List Int → Prop) (s : aU α) : Prop := jB o s ∧ (JN o s ∨ Inv1 o s ∨ Inv2 o ok s ∨ EK o ok s ∨ xV o ok s ∨ AW o ok s)
def dZ (o : cP α) : Nat := 2 * (o.n * o.R) * o.R + o.n * o.R * (o.n * o.R) + 1
def n9 (s : aU α) : Nat := (a6 (s.ch.take s.I)).length + s.J
def eL (o : cP α) (s : aU α) : Nat :=
 match s.ph with
 | 0 => (o.n - s.I) + o.n * o.n + (o.R + 1) * dZ o
 | 1 => ((o.n - s.I) * o.n - s.J) + (o.R + 1) * dZ o
 | 2 => (o.R - s.hot.length) * dZ o + (2 * (o.n * o.R) - n9 s - (a6 s.ch).length) * o.R + (s.hot.length - s.T) + o.n * o.R * (o.n * o.R)
 | 3 => (o.R - s.hot.length) * dZ o + (if s.dirty = true then dZ o else 0) + (((a6 s.ch).length - s.I) * (a6 s.ch).length - s.J)
 | _ => 0
theorem Ia : ∀ {l m : List α}, l.Nodup → (∀ x ∈ l, x ∈ m) → l.length ≤ m.length
 | [], _, _, _ => dx _
 | a :: l, m, h, hs => by
  have al := List.nodup_cons.1 h;have aJ := hs a (jd ..);have := Ia (l := l) (m := m.erase a) al.2 fun x aa => (List.mem_erase_of_ne (fun e => al.1 (by rw [← e]; exact aa))).2 (hs x (k5 _ aa));rw [List.length_erase_of_mem aJ] at this;have := List.length_pos_of_mem aJ;simp only [jQ]; omega
theorem tA : ∀ V : List α, (iZ V).length = V.length - 1
 | [] => rfl
 | [_] => rfl
 | p :: q :: W => by
  have := tA (q :: W);simp only [iZ, jQ] at this ⊢; omega
theorem OU : ∀ {V : List α} {l : α × α}, l ∈ iZ V → ∃ j, V[j]? = some l.1 ∧ V[j + 1]? = some l.2
 | p :: q :: W, l, h => by
  rcases gj.1 (show l ∈ (p, q) :: iZ (q :: W) from h) with rfl | h
  ·exact ⟨0, rfl, rfl⟩
  ·obtain ⟨j, h1, h2⟩ := OU h;exact ⟨j + 1, h1, h2⟩
theorem C4 (A B : List (List α × List Int)) : a6 (A ++ B) = a6 A ++ a6 B := List.flatMap_append ..
theorem C5 (c : List α × List Int) (B : List (List α × List Int)) : a6 (c :: B) = iZ c.1 ++ a6 B := rfl
theorem HL {ch : List (List α × List Int)} {l : α × α} (h : l ∈ a6 ch) : ∃ (i : Nat) (c : List α × List Int) (j : Nat), ch[i]? = some c ∧ c.1[j]? = some l.1 ∧ c.1[j + 1]? = some l.2 := by
 obtain ⟨c, al, ak⟩ := List.mem_flatMap.1 h;obtain ⟨i, hi⟩ := jR al;obtain ⟨j, h1, h2⟩ := OU ak;exact ⟨i, c, j, hi, h1, h2⟩
theorem C6 {m : Nat} : ∀ {ch : List (List α × List Int)}, (∀ c ∈ ch, c.1.length ≤ m) → (a6 ch).length ≤ ch.length * m
 | [], _ => dx _
 | c :: B, h => by
  have bI := C6 (ch := B) fun c al => h c (k5 _ al);have h1 := h c (jd ..);rw [C5, cF, tA, jQ, kf, Nat.one_mul]; omega
theorem Xt {β : Type} {l : List β} {i : Nat} {c : β} (h : l[i]? = some c) : l = l.take i ++ c :: l.drop (i + 1) ∧ (l.take i).length = i := by
 obtain ⟨ak, e⟩ := bA.1 h;refine ⟨?_, by rw [dX]; omega⟩
 conv => lhs; rw [← ju i l, mG ak, e]
end Go.Proofs.YtbcecodakfejaaaGreat.bq
namespace Go.Proofs.YtbcecodakfejaaaGreat.bq
variable {α : Type} [DecidableEq α]
theorem RY : ∀ (cs : List (List α × List Int)) (i j fs eR : Nat), ua cs i j = some (fs, eR) → (∀ c, cs[0]? = some c → j ≤ (iZ c.1).length) →
  ∃ (k : Nat) (c : List α × List Int), fs = i + k ∧ cs[k]? = some c ∧ eR + 1 < c.1.length ∧ j ≤ (a6 (cs.take k)).length + eR ∧ (∀ (m : Nat) (d : List α × List Int) (l : Nat), cs[m]? = some d → l + 1 < d.1.length → (m < k ∨ (m = k ∧ l < eR)) → m = 0 ∧ l < j)
 | [], i, j, fs, eR, h, _ => by cases h
 | c :: cs, i, j, fs, eR, h, ae => by
  have az : j ≤ (iZ c.1).length := ae c rfl;rw [tA] at az;unfold ua at h
  split at h
  ·rename_i al;cases h;refine ⟨0, c, rfl, rfl, al, by simp, fun m d l _ _ aR => ?_⟩;omega
  ·rename_i al;obtain ⟨k, c', aF, aP, cr, ew, lN⟩ := RY cs (i + 1) 0 fs eR h (fun _ _ => dx _);refine ⟨k + 1, c', by omega, aP, cr, ?_, fun m d l hd ak aR => ?_⟩
   ·rw [List.take_succ_cons, C5, cF, tA]; omega
   ·match m, hd, aR with
    | 0, hd, aR =>
     simp only [sk, hY] at hd;subst hd;exact ⟨rfl, by omega⟩
    | m + 1, hd, aR =>
     have := lN m d l hd ak (by omega);omega
theorem RX : ∀ (cs : List (List α × List Int)) (i j : Nat), ua cs i j = none → ∀ (m : Nat) (d : List α × List Int) (l : Nat), cs[m]? = some d → l + 1 < d.1.length → m = 0 ∧ l < j
 | [], _, _, _, m, d, l, hd, _ => by simp at hd
 | c :: cs, i, j, h, m, d, l, hd, ak => by
  unfold ua at h
  split at h
  ·cases h
  ·rename_i al
   match m, hd with
   | 0, hd =>
    simp only [sk, hY] at hd;subst hd;exact ⟨rfl, by omega⟩
   | m + 1, hd =>
    have := RX cs (i + 1) 0 h m d l hd ak;omega
theorem kP.many {o : cP α} {ok : Nat → List α × List Int → Prop} (af : kp o ok) {s : aU α} (ab : jB o s) (h : kP o ok s) : (a6 s.ch).length ≤ o.n * o.R := by
 rw [← h.len];refine C6 fun c al => ?_;obtain ⟨i, hi⟩ := jR al;have aR := h.hR i c hi;exact il (Ia (af.nodup _ _ aR.gT) aR.hot) ab.room
theorem Vd {o : cP α} {s : aU α} {I J : Nat} (aJ : AF o s.hot s.ch I J) (ax : ∀ (i : Nat) (d : List α × List Int) (l : Nat), s.ch[i]? = some d → l + 1 < d.1.length → i < I ∨ (i = I ∧ l < J)) : AG o s := fun l ak => by
 obtain ⟨i, c, j, hi, h1, h2⟩ := HL ak;have := (bA.1 h2).1;exact aJ i c j l.1 l.2 hi h1 h2 (ax i c j hi this)
theorem I4 {o : cP α} {ok : Nat → List α × List Int → Prop} (af : kp o ok) {s : aU α} (ab : jB o s) (ak : kP o ok s) (hk : s.ph = 2) (hd : s.dirty = false) (cB : s.T = 0) (au : s.fnd = []) (aR : 0 < s.hot.length) (aJ : AF o s.hot s.ch s.I s.J) (ae : ∀ c, s.ch[s.I]? = some c → s.J ≤ (iZ c.1).length) :
  h6 o ok (mc s) ∧ eL o (mc s) ≤ (o.R - s.hot.length) * dZ o + (2 * (o.n * o.R) - n9 s - (a6 s.ch).length) * o.R + s.hot.length + o.n * o.R * (o.n * o.R) := by
 have hm := ak.many af ab;unfold mc;cases h : ua (s.ch.drop s.I) s.I s.J with
 | some CJ =>
  obtain ⟨fs, eR⟩ := CJ;obtain ⟨k, c, aF, aP, cr, ew, lN⟩ := RY _ _ _ _ _ h (fun c al => ae c (by rw [fP] at al; exact al));rw [fP] at aP;rw [← aF] at aP;show h6 o ok ({ s with I := fs, J := eR } : aU α) ∧ eL o ({ s with I := fs, J := eR } : aU α) ≤ _;have wS : eR < c.1.length := by omega
  refine ⟨⟨⟨ab.nd, ab.room, ab.gS⟩, .inr (.inr (.inl ⟨hk, hd, ⟨ak.len, ak.hR⟩, ⟨c, c.1[eR], c.1[eR + 1], aP, bJ wS, bJ cr, ?_⟩, ?_, ?_⟩))⟩, ?_⟩
  ·show s.fnd = (s.hot.take s.T).filter _;rw [cB, au]; rfl
  ·show s.T < s.hot.length;omega
  ·show AF o s.hot s.ch fs eR;intro i d j p q hi hp an gH;have rU := (bA.1 an).1;refine aJ i d j p q hi hp an ?_
   by_cases c4 : i < s.I
   ·exact .inl c4
   ·have := lN (i - s.I) d j (by rw [fP, show s.I + (i - s.I) = i by omega]; exact hi) rU (by omega);omega
  ·have hp : n9 s ≤ n9 ({ s with I := fs, J := eR } : aU α) := by
    unfold n9;show (a6 (s.ch.take s.I)).length + s.J ≤ (a6 (s.ch.take fs)).length + eR;rw [aF, List.take_add, C4, cF]; omega
   show eL o ({ s with I := fs, J := eR } : aU α) ≤ _;unfold eL;show (match s.ph with | 0 => _ | 1 => _ | 2 => _ | 3 => _ | _ => _) ≤ _;rw [hk];show (o.R - s.hot.length) * dZ o + (2 * (o.n * o.R) - n9 ({ s with I := fs, J := eR } : aU α) - (a6 s.ch).length) * o.R + (s.hot.length - s.T) + o.n * o.R * (o.n * o.R) ≤ _;generalize n9 ({ s with I := fs, J := eR } : aU α) = TK at *;have := kg o.R (show 2 * (o.n * o.R) - TK - (a6 s.ch).length ≤ 2 * (o.n * o.R) - n9 s - (a6 s.ch).length by omega);omega
 | none =>
  have dz : AG o s := Vd aJ fun i d l hi fb => by
   by_cases c4 : i < s.I
   ·exact .inl c4
   ·have := RX _ _ _ h (i - s.I) d l (by rw [fP, show s.I + (i - s.I) = i by omega]; exact hi) fb;omega
  show h6 o ok (if (a6 s.ch).length < 2 then fh s 4 0 0 else fh s 3 0 1) ∧ eL o (if (a6 s.ch).length < 2 then fh s 4 0 0 else fh s 3 0 1) ≤ _
  split
  ·rename_i h2;refine ⟨⟨⟨ab.nd, ab.room, ab.gS⟩, .inr (.inr (.inr (.inr (.inl ⟨rfl, hd, ⟨ak.len, ak.hR⟩, rfl, rfl, rfl, rfl, dz, ?_⟩))))⟩, dx _⟩;intro a b l m ao aD gb _;have := (bA.1 aD).1;have : b < (a6 s.ch).length := this;omega
  ·rename_i h2;refine ⟨⟨⟨ab.nd, ab.room, ab.gS⟩, .inr (.inr (.inr (.inl ⟨rfl, ⟨ak.len, ak.hR⟩, Nat.zero_lt_one, show 1 < (a6 s.ch).length by omega, rfl, rfl, fun _ => ⟨dz, ?_⟩⟩)))⟩, ?_⟩
   ·intro a b l m ao aD gb GK;have : a < 0 ∨ (a = 0 ∧ b < 1) := GK;omega
   ·show (o.R - s.hot.length) * dZ o + (if s.dirty = true then dZ o else 0) + (((a6 s.ch).length - 0) * (a6 s.ch).length - 1) ≤ _;rw [hd, if_neg (by decide), Nat.sub_zero];have := Nat.mul_le_mul hm hm;omega
theorem Cg (o : cP α) {s : aU α} (ab : jB o s) (q : α) (an : o.gT q) : (dR o s q = fh s 5 0 0 ∧ s.hot.length = o.R) ∨
  ∃ hot', dR o s q = { s with hot := hot' } ∧ jB o ({ s with hot := hot' } : aU α) ∧ q ∈ hot' ∧ (∀ x ∈ s.hot, x ∈ hot') ∧ s.hot.length ≤ hot'.length ∧ (q ∉ s.hot → hot'.length = s.hot.length + 1) ∧ (q ∈ s.hot → hot' = s.hot) := by
 have := ab.room;unfold dR
 by_cases h : q ∈ s.hot
 ·rw [if_pos h];exact .inr ⟨s.hot, rfl, ab, h, fun x aa => aa, dE _, fun aK => absurd h aK, fun _ => rfl⟩
 ·rw [if_neg h]
  by_cases h2 : s.hot.length < o.R
  ·rw [if_pos h2];refine .inr ⟨s.hot ++ [q], rfl, ⟨?_, ?_, fun x aa => (jS.1 aa).elim (ab.gS x) fun h => by rw [kF.1 h]; exact an⟩, by simp, fun x aa => List.mem_append_left _ aa, by simp, fun _ => by simp, fun aK => absurd aK h⟩
   ·show (s.hot ++ [q]).Nodup;refine List.nodup_append.2 ⟨ab.nd, by simp, fun a aJ b dc => ?_⟩;rw [kF] at dc;subst dc;exact fun e => h (by rw [← e]; exact aJ)
   ·show (s.hot ++ [q]).length ≤ o.R;rw [cF, List.length_singleton]; omega
  ·rw [if_neg h2];exact .inl ⟨rfl, by omega⟩
theorem V7 {o : cP α} (ax : 0 < o.n) (ap : 0 < o.R) : o.R ≤ dZ o := by
 have h1 : o.R ≤ o.n * o.R := Nat.le_mul_of_pos_left _ ax;have h2 : o.n * o.R ≤ o.n * o.R * o.R := Nat.le_mul_of_pos_right _ ap;unfold dZ;rw [Nat.mul_assoc 2];omega
theorem OM {o : cP α} {ok : Nat → List α × List Int → Prop} (af : kp o ok) {s : aU α} (ab : jB o s) (hd : s.dirty = false) (ax : 0 < o.n) (hw : A5 o s o.n) : h6 o ok (lx o s) ∧ eL o (lx o s) < (o.R + 1) * dZ o := by
 have aR : 0 < s.hot.length := List.length_pos_of_mem (hw 0 ax).1;have key := I4 (s := fh { s with ch := (List.range o.n).map fun k => hn (o.P k) (o.Q k) } 2 0 0) af ⟨ab.nd, ab.room, ab.gS⟩ ⟨?_, ?_⟩ rfl hd rfl rfl aR ?_ ?_
 ·refine ⟨key.1, Nat.lt_of_le_of_lt key.2 ?_⟩;show (o.R - s.hot.length) * dZ o + (2 * (o.n * o.R) - (0 + 0) - (a6 ((List.range o.n).map fun k => hn (o.P k) (o.Q k))).length) * o.R + s.hot.length + o.n * o.R * (o.n * o.R) < (o.R + 1) * dZ o;generalize (a6 ((List.range o.n).map fun k => hn (o.P k) (o.Q k))).length = L;have ap := ab.room;have al := V7 ax (show 0 < o.R by omega);have h1 := kg (dZ o) (show o.R - s.hot.length ≤ o.R - 1 by omega);have h2 := kg o.R (show 2 * (o.n * o.R) - (0 + 0) - L ≤ 2 * (o.n * o.R) by omega);have aF : (o.R + 1) * dZ o = (o.R - 1) * dZ o + 2 * dZ o := by rw [← kf]; congr 1; omega
  have aP : dZ o = 2 * (o.n * o.R) * o.R + o.n * o.R * (o.n * o.R) + 1 := rfl;omega
 ·show ((List.range o.n).map fun k => hn (o.P k) (o.Q k)).length = o.n;simp
 ·intro i c hi;have hi : ((List.range o.n).map fun k => hn (o.P k) (o.Q k))[i]? = some c := hi;have fD : i < o.n := by have := (bA.1 hi).1; simpa using this
  rw [eh, List.getElem?_range fD] at hi;have hi : hn (o.P i) (o.Q i) = c := ny hi;have aq := af.new i fD;subst hi;refine ⟨aq, ?_, ?_, ?_, fun v hv => ?_, fun d hd => ?_⟩
  ·unfold hn; split <;> rfl
  ·unfold hn; split <;> rfl
  ·unfold hn
   split
   ·rename_i e; rw [e]; rfl
   ·rfl
  ·show v ∈ s.hot;unfold hn at hv
   split at hv
   ·rw [kF.1 hv]; exact (hw i fD).1
   ·rcases gj.1 hv with rfl | hv
    ·exact (hw i fD).1
    ·rw [kF.1 hv]; exact (hw i fD).2
  ·unfold hn at hd ⊢
   split at hd
   ·cases hd
   ·rename_i e;rw [if_neg e];rw [kF.1 hd];exact ⟨mH 1, mH 1⟩
 ·intro i c j p q _ _ _ gH;have : i < 0 ∨ (i = 0 ∧ j < 0) := gH;omega
 ·intro c _;exact dx _
theorem CO {o : cP α} {ok : Nat → List α × List Int → Prop} {s : aU α} (ab : jB o s) (au : s.hot.length = o.R) (al : (s.ch = [] ∧ s.dirty = false) ∨ kP o ok s) : h6 o ok (fh s 5 0 0) ∧ eL o (fh s 5 0 0) = 0 :=
 ⟨⟨⟨ab.nd, ab.room, ab.gS⟩, .inr (.inr (.inr (.inr (.inr ⟨rfl, rfl, rfl, rfl, rfl, au, al.imp id fun h => ⟨h.len, h.hR⟩⟩))))⟩, rfl⟩
theorem WV {o : cP α} {ok : Nat → List α × List Int → Prop} (af : kp o ok) {s : aU α} (ab : jB o s) (h : JN o s) : h6 o ok (s6 o s) ∧ eL o (s6 o s) < eL o s := by
 have bj := h.I;have u5 : eL o s = (o.n - s.I) + o.n * o.n + (o.R + 1) * dZ o := by simp only [eL, h.ph]
 rw [u5];unfold s6;rcases Cg o ab (o.P s.I) (af.F3 _ bj).1 with ⟨aF, f1⟩ | ⟨h1, aF, b1, m1, s1, l1, _, _⟩
 ·rw [aF, if_pos (show (fh s 5 0 0).ph = 5 from rfl)];have := CO (ok := ok) ab f1 (.inl ⟨h.ch, h.dirty⟩);exact ⟨this.1, by rw [this.2]; omega⟩
 ·rw [aF, if_neg (show ({ s with hot := h1 } : aU α).ph ≠ 5 by show s.ph ≠ 5; rw [h.ph]; decide)];rcases Cg o b1 (o.Q s.I) (af.F3 _ bj).2 with ⟨aP, f2⟩ | ⟨h2, aP, b2, m2, s2, l2, _, _⟩
  ·rw [aP, if_pos (show (fh ({ s with hot := h1 } : aU α) 5 0 0).ph = 5 from rfl)];have := CO (ok := ok) b1 f2 (.inl ⟨h.ch, h.dirty⟩);exact ⟨this.1, by rw [this.2]; omega⟩
  ·have s2 : ∀ x ∈ h1, x ∈ h2 := s2;rw [aP, if_neg (show ({ s with hot := h2 } : aU α).ph ≠ 5 by show s.ph ≠ 5; rw [h.ph]; decide)]
   have hw : ∀ i, i < s.I + 1 → o.P i ∈ h2 ∧ o.Q i ∈ h2 := fun i hi => by
    rcases hZ i s.I with g | g
    ·exact ⟨s2 _ (s1 _ (h.Ay i g).1), s2 _ (s1 _ (h.Ay i g).2)⟩
    ·rw [show i = s.I by omega]; exact ⟨s2 _ m1, m2⟩
   split
   ·rename_i bb;refine ⟨⟨⟨b2.nd, b2.room, b2.gS⟩, .inl ⟨h.ph, h.dirty, h.fnd, h.ch, bb, h.J, h.T, hw⟩⟩, ?_⟩;show eL o ({ s with hot := h2, I := s.I + 1 } : aU α) < _;unfold eL;show (match s.ph with | 0 => (o.n - (s.I + 1)) + o.n * o.n + (o.R + 1) * dZ o | 1 => _ | 2 => _ | 3 => _ | _ => _) < _;rw [h.ph];show (o.n - (s.I + 1)) + o.n * o.n + (o.R + 1) * dZ o < _;omega
   ·rename_i kx;have ax : o.n = s.I + 1 := by omega
    split
    ·have := OM af (s := ({ s with hot := h2 } : aU α)) ⟨b2.nd, b2.room, b2.gS⟩ h.dirty (by omega) (by rw [ax]; exact hw);exact ⟨this.1, sn this.2 (by omega)⟩
    ·rename_i aiu;refine ⟨⟨⟨b2.nd, b2.room, b2.gS⟩, .inr (.inl ⟨rfl, h.dirty, rfl, h.ch, Nat.zero_lt_one, show 1 < o.n by omega, rfl, by rw [ax]; exact hw⟩)⟩, ?_⟩;show ((o.n - 0) * o.n - 1) + (o.R + 1) * dZ o < _;rw [Nat.sub_zero]; omega
theorem PR {I J L : Nat} (pE : I < J) (kt : J < L) : (L - I) * L - J ≥ 1 ∧ ((cb L I J).2 < L → (cb L I J).1 < (cb L I J).2 ∧ (L - (cb L I J).1) * L - (cb L I J).2 < (L - I) * L - J) := by
 have e : (L - I) * L = (L - I - 1) * L + L := by rw [← Nat.succ_mul]; congr 1; omega
 refine ⟨by omega, fun h => ?_⟩;unfold cb at h ⊢
 by_cases ak : L ≤ J + 1
 ·rw [if_pos ak] at h ⊢;refine ⟨by show I + 1 < I + 2; omega, ?_⟩;show (L - (I + 1)) * L - (I + 2) < _;rw [show L - (I + 1) = L - I - 1 by omega]; omega
 ·rw [if_neg ak] at h ⊢;refine ⟨by show I < J + 1; omega, ?_⟩;show (L - I) * L - (J + 1) < _;omega
theorem aci {I J L a b : Nat} (pE : I < J) (kt : J < L) (gb : a < b) (ab : b < L) (h : a < (cb L I J).1 ∨ (a = (cb L I J).1 ∧ b < (cb L I J).2)) : (a < I ∨ (a = I ∧ b < J)) ∨ (a = I ∧ b = J) := by
 unfold cb at h
 split at h
 ·have h : a < I + 1 ∨ (a = I + 1 ∧ b < I + 2) := h;omega
 ·have h : a < I ∨ (a = I ∧ b < J + 1) := h;omega
theorem acj {I J L : Nat} (pE : I < J) (kt : J < L) (h : ¬ (cb L I J).2 < L) {a b : Nat} (gb : a < b) (ab : b < L) : (a < I ∨ (a = I ∧ b < J)) ∨ (a = I ∧ b = J) := by
 unfold cb at h
 split at h
 ·have h : ¬ I + 2 < L := h;omega
 ·have h : ¬ J + 1 < L := h;omega
theorem aeb {o : cP α} {ok : Nat → List α × List Int → Prop} (af : kp o ok) {s : aU α} (ab : jB o s) (h : Inv1 o s) : h6 o ok (tQ o s) ∧ eL o (tQ o s) < eL o s := by
 have pE := h.xU;have kt := h.J;have u5 : eL o s = ((o.n - s.I) * o.n - s.J) + (o.R + 1) * dZ o := by simp only [eL, h.ph]
 rw [u5];obtain ⟨eJ, ft⟩ := PR pE kt
 have main : ∀ h2, jB o ({ s with hot := h2 } : aU α) → (∀ x ∈ s.hot, x ∈ h2) → h6 o ok (if ({ s with hot := h2 } : aU α).ph = 5 then ({ s with hot := h2 } : aU α) else if (cb o.n s.I s.J).2 < o.n then { ({ s with hot := h2 } : aU α) with I := (cb o.n s.I s.J).1, J := (cb o.n s.I s.J).2 } else lx o ({ s with hot := h2 } : aU α)) ∧ eL o (if ({ s with hot := h2 } : aU α).ph = 5 then ({ s with hot := h2 } : aU α) else if (cb o.n s.I s.J).2 < o.n then { ({ s with hot := h2 } : aU α) with I := (cb o.n s.I s.J).1, J := (cb o.n s.I s.J).2 } else lx o ({ s with hot := h2 } : aU α)) < ((o.n - s.I) * o.n - s.J) + (o.R + 1) * dZ o := fun h2 b2 s2 => by
  rw [if_neg (show ({ s with hot := h2 } : aU α).ph ≠ 5 by show s.ph ≠ 5; rw [h.ph]; decide)];have hw : A5 o ({ s with hot := h2 } : aU α) o.n := fun i hi => ⟨s2 _ (h.Ay i hi).1, s2 _ (h.Ay i hi).2⟩
  split
  ·rename_i bb;obtain ⟨oR, qZ⟩ := ft bb;refine ⟨⟨⟨b2.nd, b2.room, b2.gS⟩, .inr (.inl ⟨h.ph, h.dirty, h.fnd, h.ch, oR, bb, h.T, hw⟩)⟩, ?_⟩;unfold eL;show (match s.ph with | 0 => _ | 1 => ((o.n - (cb o.n s.I s.J).1) * o.n - (cb o.n s.I s.J).2) + (o.R + 1) * dZ o | 2 => _ | 3 => _ | _ => _) < _;rw [h.ph];show ((o.n - (cb o.n s.I s.J).1) * o.n - (cb o.n s.I s.J).2) + (o.R + 1) * dZ o < _;omega
  ·have := OM af (s := ({ s with hot := h2 } : aU α)) ⟨b2.nd, b2.room, b2.gS⟩ h.dirty (by omega) hw;exact ⟨this.1, sn this.2 (by omega)⟩
 unfold tQ;cases hp : o.tR s.I s.J with
 | none => exact main s.hot ab fun x aa => aa
 | some x =>
  show h6 o ok (if (dR o s x).ph = 5 then _ else if _ then { dR o s x with I := _, J := _ } else lx o (dR o s x)) ∧ eL o (if (dR o s x).ph = 5 then _ else if _ then { dR o s x with I := _, J := _ } else lx o (dR o s x)) < _;rcases Cg o ab x (af.MN _ _ x pE kt hp) with ⟨aF, f1⟩ | ⟨h2, aF, b2, m2, s2, _⟩
  ·rw [show kw o s (some x) = dR o s x from rfl, aF, if_pos (show (fh s 5 0 0).ph = 5 from rfl)];have := CO (ok := ok) ab f1 (.inl ⟨h.ch, h.dirty⟩);exact ⟨this.1, by rw [this.2]; omega⟩
  ·rw [show kw o s (some x) = dR o s x from rfl, aF];exact main h2 b2 s2
end Go.Proofs.YtbcecodakfejaaaGreat.bq
namespace Go.Proofs.YtbcecodakfejaaaGreat.bq
variable {α : Type} [DecidableEq α]
theorem ys {V : List α} {j : Nat} {l : List α} : (db V j l).length = V.length + l.length := by
  unfold db;rw [cF, cF, dX, h0]; omega
theorem Fz {D : List Int} {j n : Nat} (h : j < D.length) : (et D j n).length = D.length + n := by
  unfold et;rw [cF, cF, dX, h0, List.length_replicate]; omega
theorem LQ {V : List α} {j : Nat} {l : List α} {x : α} (h : x ∈ db V j l) : x ∈ V ∨ x ∈ l := by
  unfold db at h;rcases jS.1 h with h | h
  · rcases jS.1 h with h | h
    · exact .inl (mI h)
    · exact .inr h
  · exact .inl (mJ h)
theorem Wh {V : List α} {j : Nat} {l : List α} (h : V ≠ []) : (db V j l).head? = V.head? := by
  match V, h with
  | v :: W, _ => rfl
theorem Wi {V : List α} {j : Nat} {l : List α} (h : j + 1 < V.length) : (db V j l).getLast? = V.getLast? := by
  unfold db;rw [List.getLast?_append, List.getLast?_drop, if_neg (by omega)];cases mr : V.getLast? with
  | none => rw [List.getLast?_eq_none_iff.1 mr] at h; simp at h
  | some z => rfl
theorem LP {V : List α} {j i : Nat} {l : List α} (h : i < j + 1) (ae : j + 1 ≤ V.length) : (db V j l)[i]? = V[i]? := by
  unfold db;rw [im, gl (by rw [dX]; omega), fw h]
theorem Wj {V : List α} {j : Nat} {l : List α} (h : j + 1 < V.length) : ∃ x, (db V j l)[j + 1]? = some x := by
  have : j + 1 < (db V j l).length := by rw [ys]; omega
  exact ⟨_, bJ this⟩
theorem Wf {D : List Int} {j n : Nat} {d : Int} (ae : j < D.length) (h : d ∈ et D j n) : ∃ e ∈ D, d = e ∨ d = e + 1 := by
  unfold et at h;rcases jS.1 h with h | h
  · rcases jS.1 h with h | h
    · exact ⟨d, mI h, .inl rfl⟩
    · refine ⟨D[j], List.getElem_mem ae, .inr ?_⟩
      rw [List.eq_of_mem_replicate h, fX, bJ ae]; rfl
  · exact ⟨d, mJ h, .inl rfl⟩
theorem AL.cut {o : cP α} {ok : Nat → List α × List Int → Prop} (af : kp o ok) {hot : List α} {i j : Nat} {c : List α × List Int} {p q : α} {bg : List α} (h : AL o ok hot i c) (hp : c.1[j]? = some p) (an : c.1[j + 1]? = some q) (ax : bg.Nodup) (au : ∀ x ∈ bg, x ∈ hot ∧ jo o p q x = true) (bU : bg ≠ []) : AL o ok hot i (db c.1 j (o.gN p q bg), et c.2 j bg.length) := by
  have hs := af.gN p q bg;have ae : j + 1 < c.1.length := (bA.1 an).1;have ak := h.len;have Cl : j < c.2.length := by omega
  have aiL : 0 < bg.length := List.length_pos_iff.2 bU;refine ⟨af.split _ _ _ _ _ _ h.gT h.len hp an ax bU (fun x aa => (au x aa).2), ?_, ?_, ?_, fun v hv => ?_, fun d hd => ?_⟩
  · show (db c.1 j (o.gN p q bg)).length = (et c.2 j bg.length).length + 1
    rw [ys, Fz Cl, hs.length_eq]; omega
  · rw [← h.head]; exact Wh (fun e => by rw [e] at ae; simp at ae)
  · rw [← h.last]; exact Wi ae
  · rcases LQ hv with hv | hv
    · exact h.hot v hv
    · exact (au v (hs.mem_iff.1 hv)).1
  · show 1 ≤ d ∧ d ≤ ((et c.2 j bg.length).length : Int)
    obtain ⟨e, he, j9⟩ := Wf Cl hd;have := h.deep e he;rw [Fz Cl]; omega
theorem My {f : α → Bool} {l : List α} {n : Nat} {x : α} (h : l[n]? = some x) : (l.take (n + 1)).filter f = if f x = true then (l.take n).filter f ++ [x] else (l.take n).filter f := by
  obtain ⟨ak, e⟩ := bA.1 h;rw [jT ak, e, List.filter_append];cases aa : f x with
  | true => rw [if_pos rfl, List.filter_cons_of_pos aa]; rfl
  | false => rw [if_neg (by decide), List.filter_cons_of_neg (by rw [aa]; decide)]; exact p0 _
theorem afn {o : cP α} {ok : Nat → List α × List Int → Prop} (af : kp o ok) {s : aU α} (ab : jB o s) (h : Inv2 o ok s) : h6 o ok (xt o s) ∧ eL o (xt o s) < eL o s := by
  obtain ⟨c, p, q, al, hp, an, au⟩ := h.link;have cB := h.T;have aa : s.hot[s.T]? = some s.hot[s.T] := bJ cB;generalize s.hot[s.T] = x at aa;have u5 : eL o s = (o.R - s.hot.length) * dZ o + (2 * (o.n * o.R) - n9 s - (a6 s.ch).length) * o.R + (s.hot.length - s.T) + o.n * o.R * (o.n * o.R) := by simp only [eL, h.ph]
  have yP := h.laid.hR s.I c al;have ae : s.J + 1 < c.1.length := (bA.1 an).1;have hm := h.laid.many af ab
  have YF : li o p q x s.fnd = (s.hot.take (s.T + 1)).filter (jo o p q) := by
    unfold li;rw [My aa, au]
  obtain ⟨agu, aaZ⟩ := Xt al;have bj : s.I < s.ch.length := (bA.1 al).1
  have aif : (a6 s.ch).length = (a6 (s.ch.take s.I)).length + ((c.1.length - 1) + (a6 (s.ch.drop (s.I + 1))).length) := by
    conv => lhs; rw [agu]
    rw [C4, C5, cF, cF, tA]
  have Cw : n9 s = (a6 (s.ch.take s.I)).length + s.J := rfl;have k1 := ab.room;rw [u5];unfold xt;rw [al];show h6 o ok (match c.1[s.J]?, c.1[s.J + 1]?, s.hot[s.T]? with | some p, some q, some x => sa o s c p q (li o p q x s.fnd) | _, _, _ => s) ∧ eL o (match c.1[s.J]?, c.1[s.J + 1]?, s.hot[s.T]? with | some p, some q, some x => sa o s c p q (li o p q x s.fnd) | _, _, _ => s) < _;rw [hp, an, aa];show h6 o ok (sa o s c p q (li o p q x s.fnd)) ∧ eL o (sa o s c p q (li o p q x s.fnd)) < _;rw [YF];unfold sa
  by_cases bb : s.T + 1 < s.hot.length
  · rw [if_pos bb]
    refine ⟨⟨⟨ab.nd, ab.room, ab.gS⟩, .inr (.inr (.inl ⟨h.ph, h.dirty, ⟨h.laid.len, h.laid.hR⟩, ⟨c, p, q, al, hp, an, rfl⟩, bb, h.Bb⟩))⟩, ?_⟩;unfold eL;show (match s.ph with | 0 => _ | 1 => _ | 2 => (o.R - s.hot.length) * dZ o + (2 * (o.n * o.R) - n9 s - (a6 s.ch).length) * o.R + (s.hot.length - (s.T + 1)) + o.n * o.R * (o.n * o.R) | 3 => _ | _ => _) < _;rw [h.ph];show (o.R - s.hot.length) * dZ o + (2 * (o.n * o.R) - n9 s - (a6 s.ch).length) * o.R + (s.hot.length - (s.T + 1)) + o.n * o.R * (o.n * o.R) < _;omega
  · rw [if_neg bb]
    have XV : s.T + 1 = s.hot.length := by omega
    rw [XV, List.take_length]
    by_cases he : s.hot.filter (jo o p q) = []
    · rw [if_pos he]
      have iz : ry o s.hot p q := fun y ai => by
        cases aq : jo o p q y with
        | false => rfl
        | true => have := List.mem_filter.2 ⟨ai, aq⟩; rw [he] at this; cases this
      have key := I4 (s := { s with T := 0, fnd := [], J := s.J + 1 }) af ⟨ab.nd, ab.room, ab.gS⟩ ⟨h.laid.len, h.laid.hR⟩ h.ph h.dirty rfl rfl (show 0 < s.hot.length by omega) ?_ ?_
      · refine ⟨key.1, Nat.lt_of_le_of_lt key.2 ?_⟩
        show (o.R - s.hot.length) * dZ o + (2 * (o.n * o.R) - ((a6 (s.ch.take s.I)).length + (s.J + 1)) - (a6 s.ch).length) * o.R + s.hot.length + o.n * o.R * (o.n * o.R) < _;rw [Cw];have := kg o.R (show 2 * (o.n * o.R) - ((a6 (s.ch.take s.I)).length + (s.J + 1)) - (a6 s.ch).length + 1 ≤ 2 * (o.n * o.R) - ((a6 (s.ch.take s.I)).length + s.J) - (a6 s.ch).length by omega);rw [kf, Nat.one_mul] at this;omega
      · intro i d j fH cd hi ng qP gH
        have gH : i < s.I ∨ (i = s.I ∧ j < s.J + 1) := gH
        by_cases wT : i = s.I ∧ j = s.J
        · obtain ⟨rfl, rfl⟩ := wT
          have e : some c = some d := by rw [← al]; exact hi
          cases e;have e : some p = some fH := by rw [← hp]; exact ng
          cases e;have e : some q = some cd := by rw [← an]; exact qP
          cases e;exact iz
        · exact h.Bb i d j fH cd hi ng qP (by omega)
      · intro d hd
        have e : some c = some d := by rw [← al]; exact hd
        cases e;rw [tA];show s.J + 1 ≤ _;omega
    · rw [if_neg he]
      have hh : (s.hot.filter (jo o p q)).Nodup := ab.nd.filter _;have hcut := yP.cut af hp an hh (fun y ai => ⟨(List.mem_filter.1 ai).1, (List.mem_filter.1 ai).2⟩) he;have hlen := (af.gN p q (s.hot.filter (jo o p q))).length_eq;have aiQ : 0 < (s.hot.filter (jo o p q)).length := List.length_pos_iff.2 he;generalize s.hot.filter (jo o p q) = bg at *
      have Hi : ∀ i, (s.ch.set s.I (db c.1 s.J (o.gN p q bg), et c.2 s.J bg.length))[i]? = if i = s.I then some (db c.1 s.J (o.gN p q bg), et c.2 s.J bg.length) else s.ch[i]? := fun i => by
        by_cases hi : i = s.I
        · rw [if_pos hi, hi, List.getElem?_set_self bj]
        · rw [if_neg hi, List.getElem?_set_ne (Ne.symm hi)]
      have Nq : kP o ok ({ s with T := 0, fnd := [], ch := s.ch.set s.I (db c.1 s.J (o.gN p q bg), et c.2 s.J bg.length) } : aU α) := ⟨by show (s.ch.set s.I _).length = o.n; rw [List.length_set]; exact h.laid.len, fun i d hd => by
        have hd : (s.ch.set s.I (db c.1 s.J (o.gN p q bg), et c.2 s.J bg.length))[i]? = some d := hd;rw [Hi] at hd
        split at hd
        · rename_i hi
          cases hd;rw [hi]; exact hcut
        · exact h.laid.hR i d hd⟩
      have dc : jB o ({ s with T := 0, fnd := [], ch := s.ch.set s.I (db c.1 s.J (o.gN p q bg), et c.2 s.J bg.length) } : aU α) := ⟨ab.nd, ab.room, ab.gS⟩;have fq : (a6 (s.ch.set s.I (db c.1 s.J (o.gN p q bg), et c.2 s.J bg.length))).length ≤ o.n * o.R := Nq.many af dc;obtain ⟨y, ai⟩ := Wj (l := o.gN p q bg) ae;have ng : (db c.1 s.J (o.gN p q bg))[s.J]? = some p := by rw [LP (by omega) (by omega)]; exact hp
      refine ⟨⟨dc, .inr (.inr (.inl ⟨h.ph, h.dirty, Nq, ⟨(db c.1 s.J (o.gN p q bg), et c.2 s.J bg.length), p, y, ?_, ng, ai, rfl⟩, show 0 < s.hot.length by omega, ?_⟩))⟩, ?_⟩
      · show (s.ch.set s.I (db c.1 s.J (o.gN p q bg), et c.2 s.J bg.length))[s.I]? = _
        rw [Hi, if_pos rfl]
      · intro i d j fH cd hi ng qP gH
        have hi : (s.ch.set s.I (db c.1 s.J (o.gN p q bg), et c.2 s.J bg.length))[i]? = some d := hi;have gH : i < s.I ∨ (i = s.I ∧ j < s.J) := gH;rw [Hi] at hi
        split at hi
        · rename_i fp
          cases hi;rw [LP (by omega) (by omega)] at ng qP;exact h.Bb i c j fH cd (by rw [fp]; exact al) ng qP gH
        · exact h.Bb i d j fH cd hi ng qP gH
      · have Mj : s.ch.set s.I (db c.1 s.J (o.gN p q bg), et c.2 s.J bg.length) = s.ch.take s.I ++ (db c.1 s.J (o.gN p q bg), et c.2 s.J bg.length) :: s.ch.drop (s.I + 1) := List.set_eq_take_append_cons_drop.trans (if_pos bj)
        have aih : (a6 (s.ch.set s.I (db c.1 s.J (o.gN p q bg), et c.2 s.J bg.length))).length = (a6 (s.ch.take s.I)).length + ((c.1.length + bg.length - 1) + (a6 (s.ch.drop (s.I + 1))).length) := by
          rw [Mj, C4, C5, cF, cF, tA, ys, hlen]
        have rK : n9 ({ s with T := 0, fnd := [], ch := s.ch.set s.I (db c.1 s.J (o.gN p q bg), et c.2 s.J bg.length) } : aU α) = (a6 (s.ch.take s.I)).length + s.J := by
          show (a6 ((s.ch.set s.I (db c.1 s.J (o.gN p q bg), et c.2 s.J bg.length)).take s.I)).length + s.J = _;rw [Mj, List.take_left' aaZ]
        unfold eL;rw [rK];show (match s.ph with | 0 => _ | 1 => _ | 2 => (o.R - s.hot.length) * dZ o + (2 * (o.n * o.R) - ((a6 (s.ch.take s.I)).length + s.J) - (a6 (s.ch.set s.I (db c.1 s.J (o.gN p q bg), et c.2 s.J bg.length))).length) * o.R + (s.hot.length - 0) + o.n * o.R * (o.n * o.R) | 3 => _ | _ => _) < _;rw [h.ph];show (o.R - s.hot.length) * dZ o + (2 * (o.n * o.R) - ((a6 (s.ch.take s.I)).length + s.J) - (a6 (s.ch.set s.I (db c.1 s.J (o.gN p q bg), et c.2 s.J bg.length))).length) * o.R + (s.hot.length - 0) + o.n * o.R * (o.n * o.R) < _;rw [Cw];generalize (a6 (s.ch.set s.I (db c.1 s.J (o.gN p q bg), et c.2 s.J bg.length))).length = L' at *;have := kg o.R (show 2 * (o.n * o.R) - ((a6 (s.ch.take s.I)).length + s.J) - L' + 1 ≤ 2 * (o.n * o.R) - ((a6 (s.ch.take s.I)).length + s.J) - (a6 s.ch).length by omega);rw [kf, Nat.one_mul] at this;omega
theorem C2 {o : cP α} {ok : Nat → List α × List Int → Prop} (af : kp o ok) {s : aU α} (ak : kP o ok s) {l : α × α} (h : l ∈ a6 s.ch) : l.1 ≠ l.2 ∧ l.1 ∈ s.hot ∧ l.2 ∈ s.hot := by
  obtain ⟨i, c, j, hi, h1, h2⟩ := HL h;have yP := ak.hR i c hi;have ax := af.nodup _ _ yP.gT;refine ⟨fun e => ?_, yP.hot _ (cV h1), yP.hot _ (cV h2)⟩;obtain ⟨g1, bn⟩ := bA.1 h1;obtain ⟨g2, bY⟩ := bA.1 h2;exact (List.pairwise_iff_getElem.1 ax) j (j + 1) g1 g2 (by omega) (by rw [bn, bY]; exact e)
theorem Wk {o : cP α} {ok : Nat → List α × List Int → Prop} (af : kp o ok) {s : aU α} (ab : jB o s) (ak : kP o ok s) {i j : Nat} {a b : α × α} (aJ : (a6 s.ch)[i]? = some a) (dc : (a6 s.ch)[j]? = some b) {x : α} (al : o.cut a b = some x) : o.gT x := by
  obtain ⟨_, a2, a3⟩ := C2 af ak (cV aJ);obtain ⟨_, b2, dm⟩ := C2 af ak (cV dc);exact af.ML a.1 a.2 b.1 b.2 x (ab.gS _ a2) (ab.gS _ a3) (ab.gS _ b2) (ab.gS _ dm) al
theorem Za {o : cP α} {ok : Nat → List α × List Int → Prop} (af : kp o ok) {s : aU α} (ab : jB o s) (h : EK o ok s) {a b : α × α} (aJ : (a6 s.ch)[s.I]? = some a) (dc : (a6 s.ch)[s.J]? = some b) :
    (dY o s (o.cut a b) = fh s 5 0 0 ∧ s.hot.length = o.R) ∨ (o.cut a b = none ∧ dY o s (o.cut a b) = s) ∨
    ∃ hot', dY o s (o.cut a b) = { s with hot := hot', dirty := true } ∧ jB o ({ s with hot := hot', dirty := true } : aU α) ∧ (∀ x ∈ s.hot, x ∈ hot') ∧ s.hot.length ≤ hot'.length ∧ (s.dirty = false → hot'.length = s.hot.length + 1) := by
  cases hcut : o.cut a b with
  | none => exact .inr (.inl ⟨rfl, rfl⟩)
  | some x =>
    unfold dY;rcases Cg o ab x (Wk af ab h.laid aJ dc hcut) with ⟨aF, f1⟩ | ⟨h2, aF, b2, m2, s2, l2, ft, _⟩
    · left
      show (if (dR o s x).ph = 5 then dR o s x else { dR o s x with dirty := true }) = _ ∧ _;rw [aF, if_pos (show (fh s 5 0 0).ph = 5 from rfl)];exact ⟨rfl, f1⟩
    · refine .inr (.inr ⟨h2, ?_, ⟨b2.nd, b2.room, b2.gS⟩, s2, l2, fun hd => ft ?_⟩)
      · show (if (dR o s x).ph = 5 then dR o s x else { dR o s x with dirty := true }) = _
        rw [aF, if_neg (show ({ s with hot := h2 } : aU α).ph ≠ 5 by show s.ph ≠ 5; rw [h.ph]; decide)]
      · have hs := (h.clean hd).1
        have key : ∀ l, l ∈ a6 s.ch → l.1 ≠ l.2 ∧ l.1 ∈ s.hot ∧ l.2 ∈ s.hot ∧ ry o s.hot l.1 l.2 := fun l ak => by
          obtain ⟨cy, cz, jf⟩ := C2 af h.laid ak;exact ⟨cy, cz, jf, hs l ak⟩
        obtain ⟨a1, a2, a3, a4⟩ := key a (cV aJ);obtain ⟨b1, b2, dm, cY⟩ := key b (cV dc);exact af.cut s.hot a.1 a.2 b.1 b.2 x ab.gS a1 b1 a2 a3 b2 dm a4 cY hcut
theorem kP.mono {o : cP α} {ok : Nat → List α × List Int → Prop} {s t : aU α} (h : kP o ok s) (al : t.ch = s.ch) (aR : ∀ x ∈ s.hot, x ∈ t.hot) : kP o ok t :=
  ⟨by rw [al]; exact h.len, fun i c hi => by
    have := h.hR i c (by rw [← al]; exact hi);exact ⟨this.gT, this.len, this.head, this.last, fun v hv => aR v (this.hot v hv), this.deep⟩⟩
theorem abn {o : cP α} {ok : Nat → List α × List Int → Prop} (af : kp o ok) {s : aU α} (ab : jB o s) (h : EK o ok s) : h6 o ok (sc o s) ∧ eL o (sc o s) < eL o s := by
  have pE := h.xU;have kt := h.J;have k1 := ab.room;have hm := h.laid.many af ab;obtain ⟨eJ, ft⟩ := PR pE kt;have u5 : eL o s = (o.R - s.hot.length) * dZ o + (if s.dirty = true then dZ o else 0) + (((a6 s.ch).length - s.I) * (a6 s.ch).length - s.J) := by simp only [eL, h.ph]
  have aJ : (a6 s.ch)[s.I]? = some (a6 s.ch)[s.I] := bJ (by omega);have dc : (a6 s.ch)[s.J]? = some (a6 s.ch)[s.J] := bJ kt;generalize (a6 s.ch)[s.I] = a at aJ;generalize (a6 s.ch)[s.J] = b at dc
  have aiO : 0 < s.hot.length := by
    obtain ⟨i, c, j, hi, h1, h2⟩ := HL (cV aJ);exact List.length_pos_of_mem ((h.laid.hR i c hi).hot _ (cV h1))
  rw [u5];unfold sc;rw [aJ, dc];show h6 o ok (if (dY o s (o.cut a b)).ph = 5 then dY o s (o.cut a b) else if (cb (a6 s.ch).length s.I s.J).2 < (a6 s.ch).length then { dY o s (o.cut a b) with I := (cb (a6 s.ch).length s.I s.J).1, J := (cb (a6 s.ch).length s.I s.J).2 } else nE (dY o s (o.cut a b))) ∧ eL o (if (dY o s (o.cut a b)).ph = 5 then dY o s (o.cut a b) else if (cb (a6 s.ch).length s.I s.J).2 < (a6 s.ch).length then { dY o s (o.cut a b) with I := (cb (a6 s.ch).length s.I s.J).1, J := (cb (a6 s.ch).length s.I s.J).2 } else nE (dY o s (o.cut a b))) < _
 
  have main : ∀ hot', jB o ({ s with hot := hot', dirty := true } : aU α) → (∀ x ∈ s.hot, x ∈ hot') → s.hot.length ≤ hot'.length → (s.dirty = false → hot'.length = s.hot.length + 1) →
      h6 o ok (if ({ s with hot := hot', dirty := true } : aU α).ph = 5 then ({ s with hot := hot', dirty := true } : aU α) else if (cb (a6 s.ch).length s.I s.J).2 < (a6 s.ch).length then { ({ s with hot := hot', dirty := true } : aU α) with I := (cb (a6 s.ch).length s.I s.J).1, J := (cb (a6 s.ch).length s.I s.J).2 } else nE ({ s with hot := hot', dirty := true } : aU α)) ∧ eL o (if ({ s with hot := hot', dirty := true } : aU α).ph = 5 then ({ s with hot := hot', dirty := true } : aU α) else if (cb (a6 s.ch).length s.I s.J).2 < (a6 s.ch).length then { ({ s with hot := hot', dirty := true } : aU α) with I := (cb (a6 s.ch).length s.I s.J).1, J := (cb (a6 s.ch).length s.I s.J).2 } else nE ({ s with hot := hot', dirty := true } : aU α)) < (o.R - s.hot.length) * dZ o + (if s.dirty = true then dZ o else 0) + (((a6 s.ch).length - s.I) * (a6 s.ch).length - s.J) := fun hot' b2 s2 l2 d2 => by
    have ak : kP o ok ({ s with hot := hot', dirty := true } : aU α) := h.laid.mono rfl s2;have dF : hot'.length ≤ o.R := b2.room
    have aiC : (o.R - hot'.length) * dZ o + dZ o ≤ (o.R - s.hot.length) * dZ o + (if s.dirty = true then dZ o else 0) := by
      cases hd : s.dirty with
      | true =>
        rw [if_pos rfl];have := kg (dZ o) (show o.R - hot'.length ≤ o.R - s.hot.length by omega);omega
      | false =>
        rw [if_neg (by decide)];have := d2 hd;have := kg (dZ o) (show o.R - hot'.length + 1 ≤ o.R - s.hot.length by omega);rw [kf, Nat.one_mul] at this;omega
    rw [if_neg (show ({ s with hot := hot', dirty := true } : aU α).ph ≠ 5 by show s.ph ≠ 5; rw [h.ph]; decide)]
    split
    · rename_i bb
      obtain ⟨oR, qZ⟩ := ft bb;refine ⟨⟨⟨b2.nd, b2.room, b2.gS⟩, .inr (.inr (.inr (.inl ⟨h.ph, ⟨ak.len, ak.hR⟩, oR, bb, h.T, h.fnd, fun hd => by cases hd⟩)))⟩, ?_⟩;unfold eL;show (match s.ph with | 0 => _ | 1 => _ | 2 => _ | 3 => (o.R - hot'.length) * dZ o + (if true = true then dZ o else 0) + (((a6 s.ch).length - (cb (a6 s.ch).length s.I s.J).1) * (a6 s.ch).length - (cb (a6 s.ch).length s.I s.J).2) | _ => _) < _;rw [h.ph];show (o.R - hot'.length) * dZ o + (if true = true then dZ o else 0) + (((a6 s.ch).length - (cb (a6 s.ch).length s.I s.J).1) * (a6 s.ch).length - (cb (a6 s.ch).length s.I s.J).2) < _;rw [if_pos rfl];omega
    · unfold nE
      rw [if_pos rfl]
      have key := I4 (s := fh ({ s with hot := hot', dirty := false } : aU α) 2 0 0) af ⟨b2.nd, b2.room, b2.gS⟩ (ak.mono rfl fun x aa => aa) rfl rfl rfl rfl (show 0 < hot'.length by omega) (fun i c j p q _ _ _ gH => by
        have : i < 0 ∨ (i = 0 ∧ j < 0) := gH;omega) (fun c _ => dx _)
      refine ⟨key.1, Nat.lt_of_le_of_lt key.2 ?_⟩;show (o.R - hot'.length) * dZ o + (2 * (o.n * o.R) - (0 + 0) - (a6 s.ch).length) * o.R + hot'.length + o.n * o.R * (o.n * o.R) < _;have aP : dZ o = 2 * (o.n * o.R) * o.R + o.n * o.R * (o.n * o.R) + 1 := rfl;have := kg o.R (show 2 * (o.n * o.R) - (0 + 0) - (a6 s.ch).length + 1 ≤ 2 * (o.n * o.R) by omega);rw [kf, Nat.one_mul] at this;omega
  rcases Za af ab h aJ dc with ⟨aF, f1⟩ | ⟨FI, aF⟩ | ⟨hot', aF, b2, s2, l2, d2⟩
  · rw [aF, if_pos (show (fh s 5 0 0).ph = 5 from rfl)]
    have := CO (ok := ok) ab f1 (.inr h.laid);exact ⟨this.1, by rw [this.2]; omega⟩
  · cases hd : s.dirty with
    | true =>
      have es : ({ s with hot := s.hot, dirty := true } : aU α) = s := by cases s; cases hd; rfl
      rw [aF];have := main s.hot (by rw [es]; exact ab) (fun x aa => aa) (dE _) (fun aR => by rw [hd] at aR; cases aR);rw [es, hd] at this;exact this
    | false =>
      rw [aF, if_neg (show ¬ s.ph = 5 by rw [h.ph]; decide), if_neg (show ¬ (false = true) by decide)];obtain ⟨c1, c2⟩ := h.clean hd
      have Nx : ∀ x y l m, (a6 s.ch)[x]? = some l → (a6 s.ch)[y]? = some m → ((x < s.I ∨ (x = s.I ∧ y < s.J)) ∨ (x = s.I ∧ y = s.J)) → x < y → o.cut l m = none := fun x y l m aa ai aR ie => by
        rcases aR with aR | ⟨rfl, rfl⟩
        · exact c2 x y l m aa ai ie aR
        · rw [aJ] at aa; rw [dc] at ai
          cases aa; cases ai;exact FI
      by_cases bb : (cb (a6 s.ch).length s.I s.J).2 < (a6 s.ch).length
      · rw [if_pos bb]
        obtain ⟨oR, qZ⟩ := ft bb;refine ⟨⟨⟨ab.nd, ab.room, ab.gS⟩, .inr (.inr (.inr (.inl ⟨h.ph, ⟨h.laid.len, h.laid.hR⟩, oR, bb, h.T, h.fnd, fun _ => ⟨c1, fun x y l m aa ai ie aR => Nx x y l m aa ai (aci pE kt ie (bA.1 ai).1 aR) ie⟩⟩)))⟩, ?_⟩;unfold eL;show (match s.ph with | 0 => _ | 1 => _ | 2 => _ | 3 => (o.R - s.hot.length) * dZ o + (if s.dirty = true then dZ o else 0) + (((a6 s.ch).length - (cb (a6 s.ch).length s.I s.J).1) * (a6 s.ch).length - (cb (a6 s.ch).length s.I s.J).2) | _ => _) < _;rw [h.ph];show (o.R - s.hot.length) * dZ o + (if s.dirty = true then dZ o else 0) + (((a6 s.ch).length - (cb (a6 s.ch).length s.I s.J).1) * (a6 s.ch).length - (cb (a6 s.ch).length s.I s.J).2) < _;rw [hd, if_neg (by decide)];omega
      · rw [if_neg bb]
        unfold nE;rw [if_neg (show ¬ s.dirty = true by rw [hd]; decide)];refine ⟨⟨⟨ab.nd, ab.room, ab.gS⟩, .inr (.inr (.inr (.inr (.inl ⟨rfl, hd, ⟨h.laid.len, h.laid.hR⟩, rfl, rfl, rfl, rfl, c1, fun x y l m aa ai ie _ => ?_⟩))))⟩, ?_⟩
        · exact Nx x y l m aa ai (acj pE kt bb ie (bA.1 ai).1) ie
        · show 0 < _
          omega
  · rw [aF]
    exact main hot' b2 s2 l2 d2
theorem xD {o : cP α} {ok : Nat → List α × List Int → Prop} (af : kp o ok) {s : aU α} (h : h6 o ok s) : h6 o ok (eP o s) ∧ (s.ph < 4 → eL o (eP o s) < eL o s) ∧ (4 ≤ s.ph → eP o s = s) := by
  obtain ⟨ab, az | h1 | h2 | ao | aD | cm⟩ := h
  · have e : eP o s = s6 o s := by simp only [eP, az.ph]
    have := WV af ab az;rw [e]; exact ⟨this.1, fun _ => this.2, fun aR => by rw [az.ph] at aR; omega⟩
  · have e : eP o s = tQ o s := by simp only [eP, h1.ph]
    have := aeb af ab h1;rw [e]; exact ⟨this.1, fun _ => this.2, fun aR => by rw [h1.ph] at aR; omega⟩
  · have e : eP o s = xt o s := by simp only [eP, h2.ph]
    have := afn af ab h2;rw [e]; exact ⟨this.1, fun _ => this.2, fun aR => by rw [h2.ph] at aR; omega⟩
  · have e : eP o s = sc o s := by simp only [eP, ao.ph]
    have := abn af ab ao;rw [e]; exact ⟨this.1, fun _ => this.2, fun aR => by rw [ao.ph] at aR; omega⟩
  · have e : eP o s = s := by simp only [eP, aD.ph]
    rw [e]; exact ⟨⟨ab, .inr (.inr (.inr (.inr (.inl aD))))⟩, fun aR => by rw [aD.ph] at aR; omega, fun _ => rfl⟩
  · have e : eP o s = s := by simp only [eP, cm.ph]
    rw [e]; exact ⟨⟨ab, .inr (.inr (.inr (.inr (.inr cm))))⟩, fun aR => by rw [cm.ph] at aR; omega, fun _ => rfl⟩
def lv (o : cP α) : Nat → aU α → aU α
  | 0, s => s
  | n + 1, s => lv o n (eP o s)
theorem CQ {o : cP α} {ok : Nat → List α × List Int → Prop} (af : kp o ok) : ∀ (n : Nat) {s : aU α}, h6 o ok s → h6 o ok (lv o n s) ∧ (eL o s ≤ n → 4 ≤ (lv o n s).ph)
  | 0, s, h => ⟨h, fun ax => by
    refine Nat.not_lt.1 fun bb => ?_;have := (xD af h).2.1 bb;show False;have ax : eL o s ≤ 0 := ax;omega⟩
  | n + 1, s, h => by
    obtain ⟨h1, h2, ao⟩ := xD af h;obtain ⟨g1, g2⟩ := CQ af n h1;refine ⟨g1, fun ax => ?_⟩
    by_cases bb : s.ph < 4
    · exact g2 (by have := h2 bb; omega)
    · have e := ao (by omega)
      show 4 ≤ (lv o n (eP o s)).ph;rw [e]
      have key : ∀ m, lv o m s = s := fun m => by
        induction m with
        | zero => rfl
        | succ m bI => show lv o m (eP o s) = s; rw [e]; exact bI
      rw [key]; omega
def fu (o : cP α) : aU α := ⟨if o.n = 0 then 4 else 0, 0, 0, 0, false, [], [], []⟩
theorem vn (o : cP α) (ok : Nat → List α × List Int → Prop) : h6 o ok (fu o) := by
  refine ⟨⟨List.nodup_nil, dx _, fun x aa => absurd aa List.not_mem_nil⟩, ?_⟩
  by_cases h : o.n = 0
  · refine .inr (.inr (.inr (.inr (.inl ⟨by simp [fu, h], rfl, ⟨h.symm, fun i c hi => by simp [fu] at hi⟩, rfl, rfl, rfl, rfl, (fun l ak => by cases ak), (fun a b l m aJ => by simp [fu, a6] at aJ)⟩))))
  · exact .inl ⟨by simp [fu, h], rfl, rfl, rfl, show 0 < o.n by omega, rfl, rfl, fun i hi => by cases hi⟩
theorem ab4 (o : cP α) (aw : 0 < o.R) : eL o (fu o) ≤ 8 * (o.R + 2) * ((o.n * o.R + 1) * (o.n * o.R + 1)) := by
  by_cases h : o.n = 0
  · have : eL o (fu o) = 0 := by simp [eL, fu, h]
    rw [this]; exact dx _
  · have e : eL o (fu o) = (o.n - 0) + o.n * o.n + (o.R + 1) * dZ o := by simp [eL, fu, h]
    rw [e];have h1 : o.n ≤ o.n * o.R := Nat.le_mul_of_pos_right _ aw;have h2 : o.R ≤ o.n * o.R := Nat.le_mul_of_pos_left _ (by omega);have ao := Nat.mul_le_mul h1 h1;unfold dZ;generalize o.n * o.R = N at *;have aD : 2 * N * o.R ≤ 2 * (N * N) := by rw [Nat.mul_assoc]; exact Nat.mul_le_mul_left 2 (Nat.mul_le_mul_left N h2)
    have cm : (o.R + 1) * (2 * N * o.R + N * N + 1) ≤ (o.R + 2) * (3 * (N * N) + 1) := Nat.mul_le_mul (by omega) (by omega);have cr : (N + 1) * (N + 1) = N * N + 2 * N + 1 := by grind
    have eQ : (o.R + 2) * (3 * (N * N) + 1) ≤ (o.R + 2) * (3 * ((N + 1) * (N + 1))) := Nat.mul_le_mul_left _ (by rw [cr]; omega);have ew : 8 * (o.R + 2) * ((N + 1) * (N + 1)) = (o.R + 2) * (3 * ((N + 1) * (N + 1))) + 5 * ((o.R + 2) * ((N + 1) * (N + 1))) := by grind
    have jE : (N + 1) * (N + 1) ≤ (o.R + 2) * ((N + 1) * (N + 1)) := Nat.le_mul_of_pos_left _ (by omega);rw [ew];omega
end Go.Proofs.YtbcecodakfejaaaGreat.bq
namespace Go.Proofs.YtbcecodakfejaaaGreat.bq
variable {α : Type} [DecidableEq α]
def qx (N : Int → Rat → α → Prop) : Rat → List α → List Int → Prop
 | t, p :: q :: V, d :: D => ∃ mP, t ≤ mP ∧ mP ≤ 1 ∧ N d t p ∧ N d mP q ∧ qx N mP (q :: V) D
 | _, _, _ => True
def Br (N : Int → Rat → α → Prop) (d : Int) (t2 : Rat) : Rat → List α → Prop
 | t1, [] => t1 ≤ t2
 | t1, x :: l => ∃ t, t1 ≤ t ∧ t ≤ t2 ∧ N d t x ∧ Br N d t2 t l
theorem LD {N : Int → Rat → α → Prop} {d : Int} {t2 : Rat} {q : α} {V : List α} {D : List Int} (h1 : t2 ≤ 1) (an : N d t2 q) (mr : qx N t2 (q :: V) D) : ∀ (l : List α) (t1 : Rat) (p : α), N d t1 p → Br N d t2 t1 l → qx N t1 (p :: (l ++ q :: V)) (List.replicate (l.length + 1) d ++ D)
 | [], t1, p, hp, ab => ⟨t2, ab, h1, hp, an, mr⟩
 | x :: l, t1, p, hp, ⟨t, g1, g2, g3, g4⟩ => by
  have bI := LD h1 an mr l t x g3 g4;exact ⟨t, g1, o4 g2 h1, hp, g3, bI⟩
theorem LC {N : Int → Rat → α → Prop} (ey : ∀ d t x, N d t x → N (d + 1) t x) {l : List α} {p q : α} (ak : ∀ d t1 t2, t1 ≤ t2 → t2 ≤ 1 → N d t1 p → N d t2 q → Br N (d + 1) t2 t1 l) : ∀ (V : List α) (D : List Int) (j : Nat) (t : Rat), V.length = D.length + 1 → V[j]? = some p → V[j + 1]? = some q → qx N t V D → qx N t (db V j l) (et D j l.length)
 | [], D, j, t, _, h, _, _ => by simp at h
 | [_], D, j, t, _, _, h, _ => by simp at h
 | _ :: _ :: _, [], j, t, h, _, _, _ => by simp at h
 | a :: b :: V, d :: D, 0, t, hlen, hp, an, ⟨mP, h1, h2, ao, aD, cm⟩ => by
  simp only [sk, hY] at hp;simp only [xp, sk, hY] at an;subst hp; subst an;have aF : db (a :: b :: V) 0 l = a :: (l ++ b :: V) := by unfold db; simp
  have aP : et (d :: D) 0 l.length = List.replicate (l.length + 1) (d + 1) ++ D := by unfold et; simp
  rw [aF, aP];exact LD h2 (ey _ _ _ aD) cm l t a (ey _ _ _ ao) (ak d t mP h1 h2 ao aD)
 | a :: b :: V, d :: D, j + 1, t, hlen, hp, an, ⟨mP, h1, h2, ao, aD, cm⟩ => by
  have bI := LC ey ak (b :: V) D j mP (by simp at hlen ⊢; omega) hp an cm;have aF : db (a :: b :: V) (j + 1) l = a :: db (b :: V) j l := by unfold db; simp
  have aP : et (d :: D) (j + 1) l.length = d :: et D j l.length := by unfold et; simp
  rw [aF, aP];have cr : db (b :: V) j l = b :: (V.take j ++ l ++ V.drop j) := by unfold db; simp
  rw [cr] at bI ⊢;exact ⟨mP, h1, h2, ao, aD, bI⟩
end Go.Proofs.YtbcecodakfejaaaGreat.bq
namespace Go.Proofs.YtbcecodakfejaaaGreat.bq
variable {α : Type} [DecidableEq α]
theorem Bx {o : cP α} {ok : Nat → List α × List Int → Prop} (af : kp o ok) {s : aU α} (ab : jB o s) (ak : kP o ok s) {c : List α × List Int} (al : c ∈ s.ch) : c.1.length ≤ o.R ∧ ∀ d ∈ c.2, 1 ≤ d ∧ d + 1 ≤ o.R := by
 obtain ⟨i, hi⟩ := jR al;have h := ak.hR i c hi;have h1 := il (Ia (af.nodup _ _ h.gT) h.hot) ab.room;refine ⟨h1, fun d hd => ?_⟩;have := h.deep d hd;have := h.len;omega
theorem Mf {o : cP α} {ok : Nat → List α × List Int → Prop} {s : aU α} (h : h6 o ok s) (aD : 4 ≤ s.ph) : xV o ok s ∨ AW o ok s := by
 obtain ⟨_, aK | aK | aK | aK | aK | aK⟩ := h
 ·have := aK.ph; omega
 ·have := aK.ph; omega
 ·have := aK.ph; omega
 ·have := aK.ph; omega
 ·exact .inl aK
 ·exact .inr aK
def Fv (N : Rat → α → Prop) : Rat → List α → Prop
 | _, [] => True
 | t0, v :: V => ∃ t, t0 ≤ t ∧ t ≤ 1 ∧ N t v ∧ Fv N t V
theorem LB {N : Int → Rat → α → Prop} {m : Int} (ey : ∀ d t x, d ≤ m → N d t x → N m t x) : ∀ (V : List α) (D : List Int) (t0 t : Rat), t0 ≤ t → t ≤ 1 → V.length = D.length + 1 → (∀ d ∈ D, d ≤ m) → (∀ v, V.head? = some v → N m t v) → qx N t V D → Fv (N m) t0 V
 | [], D, _, _, _, _, h, _, _, _ => by simp at h
 | [v], _, t0, t, az, h1, _, _, hv, _ => ⟨t, az, h1, hv v rfl, trivial⟩
 | _ :: _ :: _, [], _, _, _, _, h, _, _, _ => by simp at h
 | p :: q :: V, d :: D, t0, t, az, h1, hlen, hd, hv, ⟨mP, g1, g2, g3, g4, g5⟩ => by
  have hm := hd d (jd ..)
  exact ⟨t, az, h1, ey _ _ _ hm g3, LB ey (q :: V) D t mP g1 g2 (by simp at hlen ⊢; omega) (fun e he => hd e (k5 _ he)) (fun v bQ => by
   have : some q = some v := bQ;cases this;exact ey _ _ _ hm g4) g5⟩
theorem VX {N : Int → Rat → α → Prop} {p q : α} (hp : N 1 0 p) (an : N 1 1 q) : qx N 0 (hn p q).1 (hn p q).2 := by
 unfold hn
 split
 ·trivial
 ·exact ⟨1, by decide, Rat.le_refl, hp, an, trivial⟩
theorem WU {o : cP α} {ok : Nat → List α × List Int → Prop} (af : kp o ok) (aw : 0 < o.R) {n : Nat} (ax : 8 * (o.R + 2) * ((o.n * o.R + 1) * (o.n * o.R + 1)) ≤ n) : h6 o ok (lv o n (fu o)) ∧ (xV o ok (lv o n (fu o)) ∨ AW o ok (lv o n (fu o))) := by
 have h := CQ af n (vn o ok);exact ⟨h.1, Mf h.1 (h.2 (il (ab4 o aw) ax))⟩
end Go.Proofs.YtbcecodakfejaaaGreat.bq
