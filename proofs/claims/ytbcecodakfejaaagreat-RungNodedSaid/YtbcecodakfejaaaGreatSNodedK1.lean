/-
  My own texts, without what this claim does not need. My own text.
-/
import Derived.Tactics
import Derived.IntWalk
import Derived.ProofKit
import Derived.WalkKit
import Derived.WalkSpells
import Derived.Lib.Hide
import Derived.BigQuiet
import Derived.BigGuardPart
import Derived.Deep.RegionHeld3
import Derived.Test.YtbcecodakfejaaaGreatRows
set_option maxRecDepth 100000
set_option maxHeartbeats 64000000
set_option linter.unusedVariables false
set_option linter.unusedSimpArgs false
set_option linter.unusedSectionVars false
open Go.Proofs.Tryz renaming prog → ag
namespace Go.Proofs.YtbcecodakfejaaaGreat
theorem bM : type_of% @List.getElem?_eq_some_iff := @List.getElem?_eq_some_iff
theorem bN : type_of% @List.getElem?_eq_getElem := @List.getElem?_eq_getElem
theorem cq : type_of% @decide_eq_true_eq := @decide_eq_true_eq
theorem cw : type_of% @decide_eq_true := @decide_eq_true
theorem cB : type_of% @List.all_eq_true := @List.all_eq_true
theorem cJ : type_of% @List.length_append := @List.length_append
theorem c3 : type_of% @decide_eq_false := @decide_eq_false
theorem c7 : type_of% @List.mem_of_getElem? := @List.mem_of_getElem?
theorem dc : type_of% @Bool.and_eq_true := @Bool.and_eq_true
theorem dq : type_of% @Nat.le_of_ble_eq_true := @Nat.le_of_ble_eq_true
theorem dC : type_of% @Nat.zero_le := @Nat.zero_le
theorem dJ : type_of% @Nat.le_refl := @Nat.le_refl
theorem dK : type_of% @List.length_take := @List.length_take
theorem eg : type_of% @List.getElem?_map := @List.getElem?_map
theorem fD : type_of% @List.mem_cons := @List.mem_cons
theorem fE : type_of% @List.getElem?_take_of_lt := @List.getElem?_take_of_lt
theorem fV : type_of% @List.getElem?_drop := @List.getElem?_drop
theorem gd : type_of% @List.getElem?_append_left := @List.getElem?_append_left
theorem gn : type_of% @List.take_of_length_le := @List.take_of_length_le
theorem gy : type_of% @List.getD_eq_getElem?_getD := @List.getD_eq_getElem?_getD
theorem gz : type_of% @List.getElem?_append_right := @List.getElem?_append_right
theorem gL : type_of% @Option.map_some := @Option.map_some
theorem gM : type_of% @Int.mul_nonneg := @Int.mul_nonneg
theorem ha : type_of% @Nat.le_trans := @Nat.le_trans
theorem hb : type_of% @Nat.eq_of_beq_eq_true := @Nat.eq_of_beq_eq_true
theorem hz : type_of% @Nat.lt_or_ge := @Nat.lt_or_ge
theorem hA : type_of% @Int.mul_comm := @Int.mul_comm
theorem hO : type_of% @Int.pow_pos := @Int.pow_pos
theorem h0 : type_of% @Option.some.injEq := @Option.some.injEq
theorem h3 : type_of% @List.length_drop := @List.length_drop
theorem iu : type_of% @List.append_assoc := @List.append_assoc
theorem iv : type_of% @List.mem_map := @List.mem_map
theorem iI : type_of% @List.length_cons := @List.length_cons
theorem jd : type_of% @Nat.zero_add := @Nat.zero_add
theorem je : type_of% @List.pairwise_cons := @List.pairwise_cons
theorem ju : type_of% @Nat.mul_le_mul_right := @Nat.mul_le_mul_right
theorem jv : type_of% @Array.getElem?_eq_some_iff := @Array.getElem?_eq_some_iff
theorem jw : type_of% @Nat.zero_lt_succ := @Nat.zero_lt_succ
theorem j1 : type_of% @List.getElem?_of_mem := @List.getElem?_of_mem
theorem j2 : type_of% @List.take_append_drop := @List.take_append_drop
theorem j3 : type_of% @List.take_succ_eq_append_getElem := @List.take_succ_eq_append_getElem
theorem j4 : type_of% @List.map_cons := @List.map_cons
theorem kq : type_of% @Nat.add_mul := @Nat.add_mul
theorem kr : type_of% @List.mem_append := @List.mem_append
theorem ks : type_of% @Option.bind_some := @Option.bind_some
theorem kt : type_of% @List.eq_nil_of_length_eq_zero := @List.eq_nil_of_length_eq_zero
theorem ku : type_of% @List.all_cons := @List.all_cons
theorem kv : type_of% @Int.mul_assoc := @Int.mul_assoc
theorem kw : type_of% @Rat.mul_nonneg := @Rat.mul_nonneg
theorem kJ : type_of% @Option.some.inj := @Option.some.inj
theorem kK : type_of% @Int.toNat_natCast := @Int.toNat_natCast
theorem k5 : type_of% @decide_eq_false_iff_not := @decide_eq_false_iff_not
theorem k6 : type_of% @List.mem_cons_self := @List.mem_cons_self
theorem k7 : type_of% @List.getElem?_eq_none := @List.getElem?_eq_none
theorem lD : type_of% @Bool.eq_iff_iff := @Bool.eq_iff_iff
theorem mf : type_of% @Int.eq_ofNat_of_zero_le := @Int.eq_ofNat_of_zero_le
theorem mg : type_of% @List.mem_singleton := @List.mem_singleton
theorem mN : type_of% @List.drop_eq_getElem_cons := @List.drop_eq_getElem_cons
theorem mO : type_of% @List.mem_of_mem_drop := @List.mem_of_mem_drop
theorem mP : type_of% @List.length_map := @List.length_map
theorem mQ : type_of% @Int.le_of_lt := @Int.le_of_lt
theorem mR : type_of% @List.all_nil := @List.all_nil
theorem nB : type_of% @List.mem_of_mem_take := @List.mem_of_mem_take
theorem nC : type_of% @List.append_nil := @List.append_nil
theorem nD : type_of% @Bool.false_eq_true := @Bool.false_eq_true
theorem nE : type_of% @List.map_congr_left := @List.map_congr_left
theorem nF : type_of% @Int.emod_lt_of_pos := @Int.emod_lt_of_pos
theorem nG : type_of% @Int.ediv_nonneg := @Int.ediv_nonneg
theorem n7 : type_of% @Int.le_refl := @Int.le_refl
theorem n8 : type_of% @Int.mul_le_mul_of_nonneg_right := @Int.mul_le_mul_of_nonneg_right
theorem n9 : type_of% @Int.emod_nonneg := @Int.emod_nonneg
theorem oa : type_of% @Int.pow_succ := @Int.pow_succ
theorem ob : type_of% @Int.le_ediv_iff_mul_le := @Int.le_ediv_iff_mul_le
theorem o4 : type_of% @List.mem_cons_of_mem := @List.mem_cons_of_mem
theorem o5 : type_of% @Nat.add_assoc := @Nat.add_assoc
theorem o6 : type_of% @Nat.add_comm := @Nat.add_comm
theorem o7 : type_of% @List.foldl_cons := @List.foldl_cons
theorem o8 : type_of% @Nat.min_eq_left := @Nat.min_eq_left
theorem o9 : type_of% @Int.lt_or_le := @Int.lt_or_le
theorem pW : type_of% @Nat.lt_of_lt_of_le := @Nat.lt_of_lt_of_le
theorem pX : type_of% @Bool.or_eq_true := @Bool.or_eq_true
theorem pY : type_of% @Int.mul_le_mul_of_nonneg_left := @Int.mul_le_mul_of_nonneg_left
theorem pZ : type_of% @Int.mul_ediv_add_emod := @Int.mul_ediv_add_emod
theorem p0 : type_of% @Bool.true_and := @Bool.true_and
theorem q5 : type_of% @Option.map_none := @Option.map_none
theorem sA : type_of% @List.getElem?_cons_zero := @List.getElem?_cons_zero
theorem sB : type_of% @List.mem_filter := @List.mem_filter
theorem sC : type_of% @List.not_mem_nil := @List.not_mem_nil
theorem sD : type_of% @Int.mul_eq_zero := @Int.mul_eq_zero
theorem sE : type_of% @Int.mul_le_mul := @Int.mul_le_mul
theorem sF : type_of% @Rat.intCast_add := @Rat.intCast_add
theorem uc : type_of% @Array.getElem?_modify := @Array.getElem?_modify
theorem ud : type_of% @Bool.not_eq_true' := @Bool.not_eq_true'
theorem ue : type_of% @Nat.eq_zero_or_pos := @Nat.eq_zero_or_pos
theorem uf : type_of% @List.drop_of_length_le := @List.drop_of_length_le
theorem xE : type_of% @List.getElem?_cons_succ := @List.getElem?_cons_succ
theorem xF : type_of% @Array.getElem?_eq_none := @Array.getElem?_eq_none
theorem xG : type_of% @Int.ediv_ediv_of_nonneg := @Int.ediv_ediv_of_nonneg
theorem Ac : type_of% @List.take_append_of_le_length := @List.take_append_of_le_length
end Go.Proofs.YtbcecodakfejaaaGreat
namespace Go.Proofs.YtbcecodakfejaaaGreat
theorem qs : (∀ b : Bool, ((!b) = true) = (b = false)) ∧ (∀ b : Bool, ((!b) = false) = (b = true)) ∧ (∀ (p : Prop) [Decidable p], (decide p = true) = p) ∧ ∀ (p : Prop) [Decidable p], (decide p = false) = ¬ p := ⟨by simp, by simp, by simp, by simp⟩
end Go.Proofs.YtbcecodakfejaaaGreat
namespace Go.Proofs.YtbcecodakfejaaaGreat
structure pr (Q : Prop) : Prop where
  h : Q
theorem jC {P Q : Prop} (k : Q) (h : pr Q → P := by intro q; (first | ((with_reducible apply E7); exact rfl) | ((with_reducible apply Uj); (iterate 5 exact rfl)) | ((with_reducible apply Uk); (iterate 5 exact rfl)) | ((with_reducible apply T9); (iterate 3 exact rfl)) | ((with_reducible apply Ud); (iterate 3 exact rfl); (first | decide | omega); (first | decide | omega); (first | assumption | exact rfl); exact rfl) | ((with_reducible apply J9); (iterate 3 exact rfl); omega; omega; exact rfl) | ((with_reducible apply Uv); (iterate 3 exact rfl)) | ((with_reducible apply T0); (iterate 4 exact rfl)) | ((with_reducible apply TZ); (iterate 4 exact rfl)) | ((with_reducible apply Uu); (iterate 4 exact rfl)) | ((with_reducible apply TR); (iterate 3 exact rfl); (first | exact n2 (by omega) | assumption | rfl); exact rfl) | ((with_reducible apply UH); (iterate 3 exact rfl); (first | exact n2 (by omega) | assumption | rfl); exact rfl) | ((with_reducible apply Ur); (iterate 3 exact rfl); (first | exact n2 (by omega) | assumption | rfl); exact rfl) | ((with_reducible apply Us); exact rfl; exact rfl; (first | exact n2 (by omega) | assumption | rfl); exact rfl) | ((with_reducible apply ahA); (iterate 3 exact rfl); (first | assumption | omega); (first | assumption | omega); exact rfl) | ((with_reducible apply TY); exact rfl; exact rfl; (first | exact n2 (by omega) | assumption | rfl); exact rfl) | ((with_reducible apply Un); (iterate 4 exact rfl)) | ((with_reducible apply Um); (iterate 4 exact rfl)) | ((with_reducible apply Ka); (iterate 3 exact rfl)) | ((with_reducible apply UE); (iterate 3 exact rfl); (first | assumption | omega); (first | assumption | omega); (first | assumption | exact rfl); (first | assumption | exact rfl); exact rfl) | ((with_reducible apply UD); (iterate 3 exact rfl); (first | assumption | omega); (first | assumption | omega); (first | assumption | exact rfl); (first | assumption | exact rfl); exact rfl) | ((with_reducible apply UF); (iterate 4 exact rfl); (first | assumption | omega); (first | assumption | omega); (first | assumption | omega); (first | assumption | exact rfl); (first | assumption | exact rfl); exact rfl) | ((with_reducible apply TV); (iterate 10 exact rfl)) | ((with_reducible apply ahx); exact rfl; exact (fun W => rfl); exact rfl) | ((with_reducible apply Up); (iterate 4 exact rfl)) | ((with_reducible apply T7); (iterate 4 exact rfl)) | ((with_reducible apply ahv); (iterate 4 exact rfl)) | ((with_reducible apply ahw); (iterate 3 exact rfl); (first | decide | omega); (first | decide | omega); (first | assumption | exact rfl); exact rfl) | ((with_reducible apply Uf); (iterate 3 exact rfl); (first | decide | omega); (first | decide | omega); (first | assumption | exact rfl); exact rfl) | ((with_reducible apply aht); (iterate 4 exact rfl)) | ((with_reducible apply T3); (iterate 3 exact rfl)) | ((with_reducible apply T4); exact rfl; exact rfl; kernel_rfl; exact rfl) | ((with_reducible apply ahy); exact rfl; exact rfl; kernel_rfl; exact rfl) | ((with_reducible apply ahu); exact rfl; exact rfl; kernel_rfl; exact rfl) | ((with_reducible apply ahz); exact rfl; exact rfl; kernel_rfl; exact rfl) | ((with_reducible apply Uw); (iterate 3 exact rfl)) | ((with_reducible apply Ua); (iterate 3 exact rfl)) | ((with_reducible apply uL); (iterate 5 exact rfl); (intro W; go_simp; try rfl); (intro W; go_simp; try rfl); exact rfl; exact rfl) | ((with_reducible apply Ke); exact rfl; exact rfl; (intro W; go_simp; try rfl); exact rfl; exact rfl) | ((with_reducible apply J7); exact rfl; exact rfl; (intro W; go_simp; try rfl); exact rfl; exact rfl)); (with_reducible exact q.h)) : P := h ⟨k⟩
theorem ez {P Q : Prop} (k : Q) (h : pr Q → P := by intro q; (first | refine jC ?_ | ((with_reducible apply Kc); kernel_rfl) | ((with_reducible apply Ks); kernel_rfl; kernel_rfl; exact rfl) | (with_reducible first | apply Ku | apply Kj | apply Kr | apply iy | apply Kt | apply Kv | apply UR | apply UT | apply TC | apply TD | apply TE | apply UW | apply UQ | apply ahB | apply afb) | ((with_reducible apply ahr); exact rfl) | ((with_reducible apply Kp); exact rfl) | ((with_reducible apply Ko); exact rfl) | ((with_reducible apply UU); exact rfl; (first | assumption | exact cw (by omega) | (simp only [qs]; (first | done | omega)) | exact rfl)) | ((with_reducible apply Km); exact rfl; (first | assumption | exact c3 (by omega) | (simp only [qs]; (first | done | omega)) | exact rfl))); (with_reducible exact q.h)) : P := h ⟨k⟩
theorem eF {P Q : Prop} (k : Q) (h : pr Q → P := by intro q; (repeat refine ez ?_); (with_reducible exact q.h)) : P := h ⟨k⟩
theorem e9 {P Q A : Prop} (c : A) (k : Q) (h : A → pr Q → P := by intro c q; (first | refine J3 rfl rfl (by exact c) rfl ?_ | refine J4 rfl rfl rfl (by exact c) rfl ?_ | refine E4 rfl rfl rfl rfl (by exact c) rfl ?_ | refine E5 rfl rfl rfl rfl rfl (by exact c) rfl ?_ | refine J5 rfl rfl rfl rfl rfl rfl (by exact c) rfl ?_ | refine J6 rfl rfl rfl rfl rfl rfl rfl (by exact c) rfl ?_ | refine s7 (bs := [_]) (args := []) rfl rfl rfl rfl (by exact c) rfl ?_ | refine s7 (bs := [_]) (args := [_]) rfl rfl rfl rfl (by exact c) rfl ?_ | refine s7 (bs := [_]) (args := [_, _]) rfl rfl rfl rfl (by exact c) rfl ?_ | refine s7 (bs := [_]) (args := [_, _, _]) rfl rfl rfl rfl (by exact c) rfl ?_ | refine s6 (args := []) rfl rfl rfl (by exact c) rfl ?_ | refine s6 (args := [_]) rfl rfl rfl (by exact c) rfl ?_ | refine s6 (args := [_, _]) rfl rfl rfl (by exact c) rfl ?_ | refine s6 (args := [_, _, _]) rfl rfl rfl (by exact c) rfl ?_); (with_reducible exact q.h)) : P := h c ⟨k⟩
theorem jB {P Q : Prop} (k : Q) (h : pr Q → P := by intro q; (first | refine J3 rfl rfl (by first | with_reducible assumption | assumption) rfl ?_ | refine J4 rfl rfl rfl (by first | with_reducible assumption | assumption) rfl ?_ | refine E4 rfl rfl rfl rfl (by first | with_reducible assumption | assumption) rfl ?_ | refine E5 rfl rfl rfl rfl rfl (by first | with_reducible assumption | assumption) rfl ?_ | refine J5 rfl rfl rfl rfl rfl rfl (by first | with_reducible assumption | assumption) rfl ?_ | refine J6 rfl rfl rfl rfl rfl rfl rfl (by first | with_reducible assumption | assumption) rfl ?_ | refine s7 (bs := [_]) (args := []) rfl rfl rfl rfl (by first | with_reducible assumption | assumption) rfl ?_ | refine s7 (bs := [_]) (args := [_]) rfl rfl rfl rfl (by first | with_reducible assumption | assumption) rfl ?_ | refine s7 (bs := [_]) (args := [_, _]) rfl rfl rfl rfl (by first | with_reducible assumption | assumption) rfl ?_ | refine s7 (bs := [_]) (args := [_, _, _]) rfl rfl rfl rfl (by first | with_reducible assumption | assumption) rfl ?_ | refine s6 (args := []) rfl rfl rfl (by first | with_reducible assumption | assumption) rfl ?_ | refine s6 (args := [_]) rfl rfl rfl (by first | with_reducible assumption | assumption) rfl ?_ | refine s6 (args := [_, _]) rfl rfl rfl (by first | with_reducible assumption | assumption) rfl ?_ | refine s6 (args := [_, _, _]) rfl rfl rfl (by first | with_reducible assumption | assumption) rfl ?_); (with_reducible exact q.h)) : P := h ⟨k⟩
theorem bY {P Q : Prop} (k : Q) (h : pr Q → P := by intro q; (repeat (first | refine ez ?_ | refine jB ?_)); (with_reducible exact q.h)) : P := h ⟨k⟩
theorem c5 {P Q : Prop} (k : Q) (h : pr Q → P := by intro q; (first | ((with_reducible apply jo); exact rfl; (with_reducible apply E7); exact rfl; with_reducible apply iy) | ((with_reducible apply YU); kernel_rfl) | (with_reducible first | apply Rm | apply afp | apply afE | apply YT | apply afF | apply afG | apply afq | apply afA | apply aeL | apply aeM | apply aeN | apply afD | apply afo | apply aje) | ((with_reducible apply ajd); exact rfl) | ((with_reducible apply afC); exact rfl; (first | assumption | exact cw (by omega) | (simp only [qs]; (first | done | omega)) | exact rfl)) | ((with_reducible apply afB); exact rfl; (first | assumption | exact c3 (by omega) | (simp only [qs]; (first | done | omega)) | exact rfl)) | ((with_reducible apply jo); exact rfl; (repeat refine jC ?_); with_reducible apply iy)); (with_reducible exact q.h)) : P := h ⟨k⟩
theorem a7 {P Q : Prop} (k : Q) (h : pr Q → P := by intro q; (repeat refine c5 ?_); (with_reducible exact q.h)) : P := h ⟨k⟩
theorem iw {P Q : Prop} (k : Q) (h : pr Q → P := by intro q; ((with_reducible apply jo); exact rfl; (repeat (first | refine jC ?_ | refine jB ?_)); with_reducible apply iy); (with_reducible exact q.h)) : P := h ⟨k⟩
theorem mU {P Q : Prop} (k : Q) (h : pr Q → P := by intro q; (repeat (first | refine c5 ?_ | refine iw ?_)); (with_reducible exact q.h)) : P := h ⟨k⟩
theorem ajl {P Q A : Prop} (c : A) (k : Q) (h : A → pr Q → P := by intro c q; ((with_reducible apply jo); exact rfl; (repeat (first | refine e9 c ?_ | refine jC ?_)); with_reducible apply iy); (with_reducible exact q.h)) : P := h c ⟨k⟩
end Go.Proofs.YtbcecodakfejaaaGreat
namespace Go.Proofs.YtbcecodakfejaaaGreat
open Go.RowKit
@[go_sem] theorem aiT (w : World) (a b : Addr) (v : Value) : ((w.setCell a v).cell? b).isSome = (w.cell? b).isSome := by
  unfold World.setCell World.cell?;simp only [uc]
  by_cases e : a.block = b.block
  · rw [if_pos e]
    cases w.heap[b.block]? with
    | none => rfl
    | some o =>
      cases o <;> simp only [gL]
      by_cases s : a.spot.isSome = true
      · simp [s]
      · by_cases t : b.spot.isSome = true
        · simp [t]
        · simp only [if_neg s, if_neg t]
          rw [Array.getElem?_setIfInBounds]
          split
          · rename_i h1
            rw [← h1]
            split
            · rename_i h2; simp [h2]
            · rename_i h2; simp [h2]
          · rfl
  · rw [if_neg e]
theorem fa {w W w1 : World} (h : Below w.heap.size w W) (ab : Below W.heap.size W w1) : Below w.heap.size w w1 := h.trans (ab.mono h.size)
theorem dV {w W : World} (h : Below w.heap.size w W) (o : Obj) : Below w.heap.size w (W.alloc o) := h.alloc h.size o
theorem iR {w W : World} (h : Below w.heap.size w W) (b o : Nat) (v : Value) (ab : w.heap.size ≤ b) : Below w.heap.size w (W.setCell ⟨b, o, none⟩ v) := h.setCell (p := ⟨b, o, none⟩) ab v
def dd (w : World) (b : Nat) (u v : Value) : Prop := (w.cell? ⟨b, 0, none⟩ = some u ∧ w.cell? ⟨b, 1, none⟩ = some v) ∧ (w.frozen? ⟨b, 0, none⟩ = false ∧ w.frozen? ⟨b, 1, none⟩ = false)
theorem dd.lt {w : World} {b : Nat} {u v : Value} (h : dd w b u v) : b < w.heap.size := World.block_lt_of_cell? w _ h.1.1
theorem dd.call {W w1 : World} {b : Nat} {u v : Value} (h : dd W b u v) (ab : Below W.heap.size W w1) : dd w1 b u v := by
  have ak := h.lt;obtain ⟨⟨h1, h2⟩, an, aE⟩ := h;exact ⟨⟨(ab.cell (p := ⟨b, 0, none⟩) ak).trans h1, (ab.cell (p := ⟨b, 1, none⟩) ak).trans h2⟩, (ab.frozen (p := ⟨b, 0, none⟩) ak).trans an, (ab.frozen (p := ⟨b, 1, none⟩) ak).trans aE⟩
theorem dd.alloc {W : World} {b : Nat} {u v : Value} (h : dd W b u v) (o : Obj) : dd (W.alloc o) b u v := h.call ((Below.refl _ _).alloc (dJ _) o)
theorem dd.drew {W : World} {b : Nat} {u v : Value} (h : dd W b u v) : dd W.drew b u v := h.call ((Below.refl _ _).drew)
theorem dd.new {W : World} {b : Nat} {u v : Value} {t : TypeId} (e : b = W.heap.size) : dd (W.alloc (.cells #[u, v] t)) b u v := by
  subst e;unfold dd
  go_simp
theorem dd.set {W : World} {b g : Nat} {u v x : Value} (h : dd W b u v) (o : Nat) (ne : g ≠ b) : dd (W.setCell ⟨g, o, none⟩ x) b u v := by
  obtain ⟨⟨h1, h2⟩, an, aE⟩ := h;have gb : (⟨g, o, none⟩ : Addr) ≠ ⟨b, 0, none⟩ := fun e => ne (congrArg Addr.block e);have dp : (⟨g, o, none⟩ : Addr) ≠ ⟨b, 1, none⟩ := fun e => ne (congrArg Addr.block e);refine ⟨⟨?_, ?_⟩, ?_, ?_⟩
  · rw [World.cell?_setCell_other _ _ _ _ gb]; exact h1
  · rw [World.cell?_setCell_other _ _ _ _ dp]; exact h2
  · go_simp
  · go_simp
def we (w : World) (b : Nat) : Prop := ((w.cell? ⟨b, 0, none⟩).isSome = true ∧ (w.cell? ⟨b, 1, none⟩).isSome = true) ∧ (w.frozen? ⟨b, 0, none⟩ = false ∧ w.frozen? ⟨b, 1, none⟩ = false)
theorem we.of {W : World} {b : Nat} {u v : Value} (h : dd W b u v) : we W b := by
  obtain ⟨⟨h1, h2⟩, an, aE⟩ := h;exact ⟨⟨by rw [h1]; rfl, by rw [h2]; rfl⟩, an, aE⟩
theorem we.box {W : World} {b : Nat} (h : we W b) : ∃ u v, dd W b u v := by
  obtain ⟨⟨h1, h2⟩, an, aE⟩ := h;obtain ⟨u, hu⟩ := Option.isSome_iff_exists.1 h1;obtain ⟨v, hv⟩ := Option.isSome_iff_exists.1 h2;exact ⟨u, v, ⟨hu, hv⟩, an, aE⟩
theorem dd.put {W : World} {b : Nat} {oe v' : Value} (h : we W b) : dd ((W.setCell ⟨b, 0, none⟩ oe).setCell ⟨b, 1, none⟩ v') b oe v' := by
  obtain ⟨u, v, k⟩ := h.box;obtain ⟨⟨h1, h2⟩, an, aE⟩ := k;unfold dd
  go_simp
theorem Lg {p q : Prop} (h : p) (k : p → q) : q := k h
def fO (a b c d : Int) : Bool := a == c && b == d
theorem LN (a b c d : Int) (w : World) : (Op.equalIn 10000 146 (.agg #[.int .i64 a, .int .u64 b]) (.agg #[.int .i64 c, .int .u64 d])).run ag w = .ok (fO a b c d) w := by
  unfold fO
  go_simp
  by_cases h : a = c <;> by_cases k : b = d <;> simp [h, k]
@[go_sem ↓ high] theorem ahZ (a b c d : Int) (w : World) : (binOp .eql 146 (.agg #[.int .i64 a, .int .u64 b]) (.agg #[.int .i64 c, .int .u64 d])).run ag w = .ok (.bool (fO a b c d)) w := by
  rw [run_eql_struct, LN]; rfl
@[go_sem ↓ high] theorem ai5 (a b c d : Int) (w : World) : (binOp .neq 146 (.agg #[.int .i64 a, .int .u64 b]) (.agg #[.int .i64 c, .int .u64 d])).run ag w = .ok (.bool (!fO a b c d)) w := by
  rw [run_neq_struct, LN]; rfl
theorem Wr (a b c d : Int) (w : World) : (Op.equalIn 10000 250 (.agg #[.int .u64 a, .int .u64 b]) (.agg #[.int .u64 c, .int .u64 d])).run ag w = .ok (fO a b c d) w := by
  unfold fO
  go_simp
  by_cases h : a = c <;> by_cases k : b = d <;> simp [h, k]
@[go_sem ↓ high] theorem ai4 (a b c d : Int) (w : World) : (binOp .neq 250 (.agg #[.int .u64 a, .int .u64 b]) (.agg #[.int .u64 c, .int .u64 d])).run ag w = .ok (.bool (!fO a b c d)) w := by
  rw [run_neq_struct, Wr]; rfl
def cP (H L n : Int) : Prop := (-9223372036854775808 ≤ H ∧ H < 9223372036854775808) ∧ (0 ≤ L ∧ L < 18446744073709551616) ∧ n = H * 18446744073709551616 + L
def dI (H L n : Int) : Prop := (0 ≤ H ∧ H < 18446744073709551616) ∧ (0 ≤ L ∧ L < 18446744073709551616) ∧ n = H * 18446744073709551616 + L
def wr (n : Int) : Int := (n + 170141183460469231731687303715884105728) % 340282366920938463463374607431768211456 - 170141183460469231731687303715884105728
def fits (n : Int) : Bool := decide (-170141183460469231731687303715884105728 ≤ n ∧ n < 170141183460469231731687303715884105728)
def EV (n : Int) (w : World) (e : Ending) (w' : World) : Prop := ∃ H L, e = .returned (.agg #[.int .i64 H, .int .u64 L]) ∧ cP H L n ∧ Below w.heap.size w w'
def pn (n : Int) (w : World) (e : Ending) (w' : World) : Prop := ∃ H L, e = .returned (.tuple #[.agg #[.int .i64 H, .int .u64 L], .bool (fits n)]) ∧ cP H L (if fits n then n else 0) ∧ Below w.heap.size w w'
def aV (n : Int) (w : World) (e : Ending) (w' : World) : Prop := ∃ H L, e = .returned (.agg #[.int .u64 H, .int .u64 L]) ∧ dI H L n ∧ Below w.heap.size w w'
def kQ (v : Value) (w : World) (e : Ending) (w' : World) : Prop := e = .returned v ∧ Below w.heap.size w w'
def b9 (n m : Int) : Int := if n = m then 0 else if n < m then -1 else 1
theorem xj : cP 0 0 0 := by unfold cP; omega
theorem cP.fits {H L n : Int} (h : cP H L n) : fits n = true := by
  obtain ⟨a, b, rfl⟩ := h;unfold Proofs.YtbcecodakfejaaaGreat.fits;rw [cq];omega
theorem cP.neg {H L n : Int} (h : cP H L n) : H < 0 ↔ n < 0 := by
  obtain ⟨a, b, rfl⟩ := h;omega
theorem cP.fO {H L x3 L' n m : Int} (h : cP H L n) (k : cP x3 L' m) : fO H L x3 L' = decide (n = m) := by
  obtain ⟨a, b, rfl⟩ := h;obtain ⟨c, d, rfl⟩ := k;unfold Proofs.YtbcecodakfejaaaGreat.fO;rw [lD];simp only [dc, beq_iff_eq, cq];omega
theorem dI.fO {H L x3 L' n m : Int} (h : dI H L n) (k : dI x3 L' m) : fO H L x3 L' = decide (n = m) := by
  obtain ⟨a, b, rfl⟩ := h;obtain ⟨c, d, rfl⟩ := k;unfold Proofs.YtbcecodakfejaaaGreat.fO;rw [lD];simp only [dc, beq_iff_eq, cq];omega
theorem zC : dI 0 0 0 := by unfold dI; omega
theorem Jh {n : Int} (h : fits n = true) : wr n = n := by
  unfold Proofs.YtbcecodakfejaaaGreat.fits at h;unfold wr;rw [cq] at h;omega
theorem sI {n H L : Int} {w w' : World} (h : fits n = true) (k : cP H L n) (b : Below w.heap.size w w') : pn n w (.returned (.tuple #[.agg #[.int .i64 H, .int .u64 L], .bool true])) w' := ⟨H, L, by rw [h], by rw [h]; exact k, b⟩
theorem An {n : Int} {w w' : World} (h : fits n = false) (b : Below w.heap.size w w') : pn n w (.returned (.tuple #[.agg #[.int .i64 0, .int .u64 0], .bool false])) w' := ⟨0, 0, by rw [h], by rw [h]; exact xj, b⟩
theorem Bm (x y c : Int) (aa : 0 ≤ x) (ai : 0 ≤ y) (u6 : 0 ≤ c) (aj : c ≤ 1) (w : World) :
    (callFunc 207 #[.int .u64 x, .int .u64 y, .int .u64 c]).run ag w =
      .ok (.value (.tuple #[.int .u64 ((x + y + c) % 18446744073709551616), .int .u64 ((x + y + c) / 18446744073709551616)])) w := by
  rw [run_callFunc_extern Tryz.func207 (by kernel_rfl) (by kernel_rfl) (by kernel_rfl) (e := add64Entry) (by kernel_rfl), run_add64 x y c aa ai u6 aj];rfl
def RB : Array Value → Sem Value := fun args => do
  let (x, y, b) ← Extern.MathBitsCarry.three "Sub64" args
  pure (Extern.MathBitsCarry.pair ((x + Extern.MathBitsCarry.m64 - y - b) % Extern.MathBitsCarry.m64) (if x < y + b then 1 else 0))
theorem afz {P : Program} (x y b : Nat) (ab : b ≤ 1) (w : World) :
    (RB #[.int .u64 x, .int .u64 y, .int .u64 b]).run P w =
      .ok (.tuple #[.int .u64 (((x + 18446744073709551616 - y - b) % 18446744073709551616 : Nat) : Int), .int .u64 ((if x < y + b then 1 else 0 : Nat) : Int)]) w := by
  have : b = 0 ∨ b = 1 := by omega
  rcases this with rfl | rfl <;> rfl
theorem Eh (x y c : Int) (aa : 0 ≤ x) (Ha : x < 18446744073709551616) (ai : 0 ≤ y) (Hc : y < 18446744073709551616) (u6 : 0 ≤ c) (aj : c ≤ 1) (w : World) :
    (callFunc 193 #[.int .u64 x, .int .u64 y, .int .u64 c]).run ag w =
      .ok (.value (.tuple #[.int .u64 ((x - y - c) % 18446744073709551616), .int .u64 (-((x - y - c) / 18446744073709551616))])) w := by
  obtain ⟨X, rfl⟩ := mf aa;obtain ⟨Y, rfl⟩ := mf ai;obtain ⟨C, rfl⟩ := mf u6;rw [run_callFunc_extern Tryz.func193 (by kernel_rfl) (by kernel_rfl) (by kernel_rfl) (e := RB) (by kernel_rfl), afz X Y C (by omega)];simp only [Result.andThen];have aF : (((X + 18446744073709551616 - Y - C) % 18446744073709551616 : Nat) : Int) = ((X : Int) - Y - C) % 18446744073709551616 := by omega
  have aM : ((if X < Y + C then 1 else 0 : Nat) : Int) = -(((X : Int) - Y - C) / 18446744073709551616) := by split <;> omega
  rw [aF, aM]
theorem aeh (h1 l1 h2 l2 : Int) (b1 : -9223372036854775808 ≤ h1 ∧ h1 < 9223372036854775808) (b2 : 0 ≤ l1 ∧ l1 < 18446744073709551616)
   (ed : -9223372036854775808 ≤ h2 ∧ h2 < 9223372036854775808) (dM : 0 ≤ l2 ∧ l2 < 18446744073709551616) :
   cP (wrap64 ((IntKind.u64.wrap h1 + IntKind.u64.wrap h2 + (l1 + l2 + 0) / 18446744073709551616) % 18446744073709551616)) ((l1 + l2 + 0) % 18446744073709551616) (wr ((h1 * 18446744073709551616 + l1) + (h2 * 18446744073709551616 + l2))) := by
  unfold cP wr wrap64;rw [IntKind.wrap_u64, IntKind.wrap_u64];omega
theorem abc (h1 l1 h2 l2 : Int) (b1 : -9223372036854775808 ≤ h1 ∧ h1 < 9223372036854775808) (b2 : 0 ≤ l1 ∧ l1 < 18446744073709551616)
   (ed : -9223372036854775808 ≤ h2 ∧ h2 < 9223372036854775808) (dM : 0 ≤ l2 ∧ l2 < 18446744073709551616) :
   cP (wrap64 ((IntKind.u64.wrap h1 - IntKind.u64.wrap h2 - -((l1 - l2 - 0) / 18446744073709551616)) % 18446744073709551616)) ((l1 - l2 - 0) % 18446744073709551616) (wr ((h1 * 18446744073709551616 + l1) - (h2 * 18446744073709551616 + l2))) := by
  unfold cP wr wrap64;rw [IntKind.wrap_u64, IntKind.wrap_u64];omega
theorem vR (h : Int) : 0 ≤ IntKind.u64.wrap h ∧ IntKind.u64.wrap h < 18446744073709551616 := by rw [IntKind.wrap_u64]; omega
theorem Qi (h1 l1 h2 l2 n m : Int) (w : World) (H1 : cP h1 l1 n) (c9 : cP h2 l2 m) :
    Calls ag 213 #[.agg #[.int .i64 h1, .int .u64 l1], .agg #[.int .i64 h2, .int .u64 l2]] w (EV (wr (n + m)) w) := by
  obtain ⟨b1, b2, rfl⟩ := H1;obtain ⟨ed, dM, rfl⟩ := c9;have hv := aeh h1 l1 h2 l2 b1 b2 ed dM;have aF := fun w => Bm l1 l2 0 b2.1 dM.1 (by omega) (by omega) w;have aM := fun w => Bm (IntKind.u64.wrap h1) (IntKind.u64.wrap h2) ((l1 + l2 + 0) / 18446744073709551616) (vR h1).1 (vR h2).1 (by omega) (by omega) w;generalize (l1 + l2 + 0) / 18446744073709551616 = c at *;generalize (l1 + l2 + 0) % 18446744073709551616 = s at *;generalize (IntKind.u64.wrap h1 + IntKind.u64.wrap h2 + c) % 18446744073709551616 = s' at *;generalize (IntKind.u64.wrap h1 + IntKind.u64.wrap h2 + c) / 18446744073709551616 = c' at *;generalize (h1 * 18446744073709551616 + l1) + (h2 * 18446744073709551616 + l2) = vC at *;clear b1 b2 ed dM
  go_enter Tryz.func213, Tryz.ntmps213
  go_wp2
  refine bodyPost_ret (v := .agg #[.int .i64 (wrap64 s'), .int .u64 s]) (by simp only [results, Tryz.results213]; go_simp) rfl ⟨_, _, rfl, hv, ?_⟩;(repeat first | with_reducible exact Below.refl _ _ | with_reducible refine dV ?_ _)
theorem zR (h1 l1 h2 l2 n m : Int) (w : World) (H1 : cP h1 l1 n) (c9 : cP h2 l2 m) :
    Calls ag 166 #[.agg #[.int .i64 h1, .int .u64 l1], .agg #[.int .i64 h2, .int .u64 l2]] w (EV (wr (n - m)) w) := by
  obtain ⟨b1, b2, rfl⟩ := H1;obtain ⟨ed, dM, rfl⟩ := c9;have hv := abc h1 l1 h2 l2 b1 b2 ed dM;have aF := fun w => Eh l1 l2 0 b2.1 b2.2 dM.1 dM.2 (by omega) (by omega) w;have aM := fun w => Eh (IntKind.u64.wrap h1) (IntKind.u64.wrap h2) (-((l1 - l2 - 0) / 18446744073709551616)) (vR h1).1 (vR h1).2 (vR h2).1 (vR h2).2 (by omega) (by omega) w;generalize -((l1 - l2 - 0) / 18446744073709551616) = c at *;generalize (l1 - l2 - 0) % 18446744073709551616 = s at *;generalize (IntKind.u64.wrap h1 - IntKind.u64.wrap h2 - c) % 18446744073709551616 = s' at *;generalize -((IntKind.u64.wrap h1 - IntKind.u64.wrap h2 - c) / 18446744073709551616) = c' at *;generalize (h1 * 18446744073709551616 + l1) - (h2 * 18446744073709551616 + l2) = vC at *;clear b1 b2 ed dM
  go_enter Tryz.func166, Tryz.ntmps166
  go_wp2
  refine bodyPost_ret (v := .agg #[.int .i64 (wrap64 s'), .int .u64 s]) (by simp only [results, Tryz.results166]; go_simp) rfl ⟨_, _, rfl, hv, ?_⟩;(repeat first | with_reducible exact Below.refl _ _ | with_reducible refine dV ?_ _)
theorem Bn {h1 l1 h2 l2 gp h6 n m : Int} (H1 : cP h1 l1 n) (c9 : cP h2 l2 m) (uw : cP gp h6 (wr (n + m))) (h : ¬ (decide (h1 < 0) = decide (h2 < 0)) ∨ (!decide (gp < 0) == decide (h2 < 0)) = false) : fits (n + m) = true ∧ cP gp h6 (n + m) := by
  obtain ⟨b1, b2, rfl⟩ := H1;obtain ⟨ed, dM, rfl⟩ := c9;obtain ⟨Fg, Fh, e⟩ := uw;unfold wr at e;unfold fits cP;simp only [decide_eq_decide, Bool.not_eq_false', beq_iff_eq] at h;rw [cq];omega
theorem TJ {h1 l1 h2 l2 gp h6 n m : Int} (H1 : cP h1 l1 n) (c9 : cP h2 l2 m) (uw : cP gp h6 (wr (n + m))) (h : (decide (h1 < 0) = decide (h2 < 0))) (k : (!decide (gp < 0) == decide (h2 < 0)) = true) : fits (n + m) = false := by
  obtain ⟨b1, b2, rfl⟩ := H1;obtain ⟨ed, dM, rfl⟩ := c9;obtain ⟨Fg, Fh, e⟩ := uw;unfold wr at e;unfold fits;simp only [decide_eq_decide, ud, beq_eq_false_iff_ne, ne_eq] at h k;rw [k5];omega
theorem Sb (h1 l1 h2 l2 n m : Int) (w : World) (H1 : cP h1 l1 n) (c9 : cP h2 l2 m) :
    Calls ag 204 #[.agg #[.int .i64 h1, .int .u64 l1], .agg #[.int .i64 h2, .int .u64 l2]] w (pn (n + m) w) := by
  go_enter Tryz.func204, Tryz.ntmps204
  go_wp2_with (go_at_call 213; refine (Qi _ _ _ _ _ _ _ H1 c9).mono ?_; rintro e w1 ⟨gp, h6, rfl, hs, ab⟩; have wC := Below.cell ab (p := ⟨w.heap.size, 0, none⟩) (by (simp; omega)); have wM := Below.frozen ab (p := ⟨w.heap.size, 0, none⟩) (by (simp; omega)); have wD := Below.cell ab (p := ⟨w.heap.size, 1, none⟩) (by (simp; omega)); have wN := Below.frozen ab (p := ⟨w.heap.size, 1, none⟩) (by (simp; omega)); have ys := Below.cell ab (p := ⟨w.heap.size + 1, 0, none⟩) (by (simp; done)); have yD := Below.frozen ab (p := ⟨w.heap.size + 1, 0, none⟩) (by (simp; done)); have yt := Below.cell ab (p := ⟨w.heap.size + 1, 1, none⟩) (by (simp; done)); have yE := Below.frozen ab (p := ⟨w.heap.size + 1, 1, none⟩) (by (simp; done)); have Vd := Below.cell ab (p := ⟨w.heap.size + 1 + 1, 0, none⟩) (by (simp; done)); have Wy := Below.frozen ab (p := ⟨w.heap.size + 1 + 1, 0, none⟩) (by (simp; done)); have Ve := Below.cell ab (p := ⟨w.heap.size + 1 + 1, 1, none⟩) (by (simp; done)); have Wz := Below.frozen ab (p := ⟨w.heap.size + 1 + 1, 1, none⟩) (by (simp; done)); have n1 := Below.size ab; (try simp at n1); have xr : ¬ w1.heap.size = w.heap.size := (by omega); have zT : ¬ w1.heap.size = w.heap.size + 1 := (by omega); have abE : ¬ w1.heap.size = w.heap.size + 1 + 1 := (by omega))
  · refine bodyPost_ret (v := .tuple #[.agg #[.int .i64 0, .int .u64 0], .bool false]) (by simp only [results, Tryz.results204]; go_simp) rfl (An (TJ H1 c9 hs ‹_› ‹_›) ?_)
    (repeat first | with_reducible exact Below.refl _ _ | with_reducible refine dV ?_ _ | focus ((with_reducible refine iR ?_ _ _ _ ?_); rotate_left; omega) | with_reducible refine fa ?_ ab)
  · refine bodyPost_ret (v := .tuple #[.agg #[.int .i64 gp, .int .u64 h6], .bool true]) (by simp only [results, Tryz.results204]; go_simp) rfl (sI (Bn H1 c9 hs (.inr ‹_›)).1 (Bn H1 c9 hs (.inr ‹_›)).2 ?_)
    (repeat first | with_reducible exact Below.refl _ _ | with_reducible refine dV ?_ _ | focus ((with_reducible refine iR ?_ _ _ _ ?_); rotate_left; omega) | with_reducible refine fa ?_ ab)
  · refine bodyPost_ret (v := .tuple #[.agg #[.int .i64 gp, .int .u64 h6], .bool true]) (by simp only [results, Tryz.results204]; go_simp) rfl (sI (Bn H1 c9 hs (.inl ‹_›)).1 (Bn H1 c9 hs (.inl ‹_›)).2 ?_)
    (repeat first | with_reducible exact Below.refl _ _ | with_reducible refine dV ?_ _ | focus ((with_reducible refine iR ?_ _ _ _ ?_); rotate_left; omega) | with_reducible refine fa ?_ ab)
theorem Ei {h1 l1 h2 l2 gp h6 n m : Int} (H1 : cP h1 l1 n) (c9 : cP h2 l2 m) (uw : cP gp h6 (wr (n - m))) (h : (decide (h1 < 0) = decide (h2 < 0)) ∨ (!decide (gp < 0) == decide (h1 < 0)) = false) : fits (n - m) = true ∧ cP gp h6 (n - m) := by
  obtain ⟨b1, b2, rfl⟩ := H1;obtain ⟨ed, dM, rfl⟩ := c9;obtain ⟨Fg, Fh, e⟩ := uw;unfold wr at e;unfold fits cP;simp only [decide_eq_decide, Bool.not_eq_false', beq_iff_eq] at h;rw [cq];omega
theorem agw {h1 l1 h2 l2 gp h6 n m : Int} (H1 : cP h1 l1 n) (c9 : cP h2 l2 m) (uw : cP gp h6 (wr (n - m))) (h : ¬ (decide (h1 < 0) = decide (h2 < 0))) (k : (!decide (gp < 0) == decide (h1 < 0)) = true) : fits (n - m) = false := by
  obtain ⟨b1, b2, rfl⟩ := H1;obtain ⟨ed, dM, rfl⟩ := c9;obtain ⟨Fg, Fh, e⟩ := uw;unfold wr at e;unfold fits;simp only [decide_eq_decide, ud, beq_eq_false_iff_ne, ne_eq] at h k;rw [k5];omega
theorem Tk (h1 l1 h2 l2 n m : Int) (w : World) (H1 : cP h1 l1 n) (c9 : cP h2 l2 m) :
    Calls ag 149 #[.agg #[.int .i64 h1, .int .u64 l1], .agg #[.int .i64 h2, .int .u64 l2]] w (pn (n - m) w) := by
  go_enter Tryz.func149, Tryz.ntmps149
  go_wp2_with (go_at_call 166; refine (zR _ _ _ _ _ _ _ H1 c9).mono ?_; rintro e w1 ⟨gp, h6, rfl, hs, ab⟩; have wC := Below.cell ab (p := ⟨w.heap.size, 0, none⟩) (by (simp; omega)); have wM := Below.frozen ab (p := ⟨w.heap.size, 0, none⟩) (by (simp; omega)); have wD := Below.cell ab (p := ⟨w.heap.size, 1, none⟩) (by (simp; omega)); have wN := Below.frozen ab (p := ⟨w.heap.size, 1, none⟩) (by (simp; omega)); have ys := Below.cell ab (p := ⟨w.heap.size + 1, 0, none⟩) (by (simp; done)); have yD := Below.frozen ab (p := ⟨w.heap.size + 1, 0, none⟩) (by (simp; done)); have yt := Below.cell ab (p := ⟨w.heap.size + 1, 1, none⟩) (by (simp; done)); have yE := Below.frozen ab (p := ⟨w.heap.size + 1, 1, none⟩) (by (simp; done)); have Vd := Below.cell ab (p := ⟨w.heap.size + 1 + 1, 0, none⟩) (by (simp; done)); have Wy := Below.frozen ab (p := ⟨w.heap.size + 1 + 1, 0, none⟩) (by (simp; done)); have Ve := Below.cell ab (p := ⟨w.heap.size + 1 + 1, 1, none⟩) (by (simp; done)); have Wz := Below.frozen ab (p := ⟨w.heap.size + 1 + 1, 1, none⟩) (by (simp; done)); have n1 := Below.size ab; (try simp at n1); have xr : ¬ w1.heap.size = w.heap.size := (by omega); have zT : ¬ w1.heap.size = w.heap.size + 1 := (by omega); have abE : ¬ w1.heap.size = w.heap.size + 1 + 1 := (by omega))
  · refine bodyPost_ret (v := .tuple #[.agg #[.int .i64 0, .int .u64 0], .bool false]) (by simp only [results, Tryz.results149]; go_simp) rfl (An (agw H1 c9 hs ‹_› ‹_›) ?_)
    (repeat first | with_reducible exact Below.refl _ _ | with_reducible refine dV ?_ _ | focus ((with_reducible refine iR ?_ _ _ _ ?_); rotate_left; omega) | with_reducible refine fa ?_ ab)
  · refine bodyPost_ret (v := .tuple #[.agg #[.int .i64 gp, .int .u64 h6], .bool true]) (by simp only [results, Tryz.results149]; go_simp) rfl (sI (Ei H1 c9 hs (.inr ‹_›)).1 (Ei H1 c9 hs (.inr ‹_›)).2 ?_)
    (repeat first | with_reducible exact Below.refl _ _ | with_reducible refine dV ?_ _ | focus ((with_reducible refine iR ?_ _ _ _ ?_); rotate_left; omega) | with_reducible refine fa ?_ ab)
  · refine bodyPost_ret (v := .tuple #[.agg #[.int .i64 gp, .int .u64 h6], .bool true]) (by simp only [results, Tryz.results149]; go_simp) rfl (sI (Ei H1 c9 hs (.inl ‹_›)).1 (Ei H1 c9 hs (.inl ‹_›)).2 ?_)
    (repeat first | with_reducible exact Below.refl _ _ | with_reducible refine dV ?_ _ | focus ((with_reducible refine iR ?_ _ _ _ ?_); rotate_left; omega) | with_reducible refine fa ?_ ab)
end Go.Proofs.YtbcecodakfejaaaGreat
namespace Go.Proofs.YtbcecodakfejaaaGreat
open Go.RowKit
theorem ui {k : IntKind} {a b : Int} (h : a = b) : Ending.returned (.int k a) = .returned (.int k b) := by rw [h]
theorem aeT {a b : Bool} (h : a = b) : Ending.returned (.bool a) = .returned (.bool b) := by rw [h]
theorem ZJ : cP (-9223372036854775808) 0 (-170141183460469231731687303715884105728) := by unfold cP; omega
theorem abF {n : Int} (H : fits n = true) : fits (0 - n) = !decide (n = -170141183460469231731687303715884105728) := by
  unfold fits at *;rw [cq] at H;rw [lD];simp only [cq, ud, k5];omega
theorem SZ (h1 l1 n : Int) (w : World) (H1 : cP h1 l1 n) :
    Calls ag 169 #[.agg #[.int .i64 h1, .int .u64 l1]] w (pn (-n) w) := by
  have A5 := Lib.hid (abF H1.fits);have he := H1.fO ZJ;rw [← Int.zero_sub]
  by_cases e : n = -170141183460469231731687303715884105728
  · have hd : fO h1 l1 (-9223372036854775808) 0 = true := by rw [he]; exact cw e
    have A4 : Hid (fits (0 - n) = false) := by have := A5.out; rw [cw e] at this; exact this
    clear he A5 e
    go_enter Tryz.func169, Tryz.ntmps169
    go_wp2
    refine bodyPost_ret (v := .tuple #[.agg #[.int .i64 0, .int .u64 0], .bool false]) (by simp only [results, Tryz.results169]; go_simp) rfl (An A4.out ?_);(repeat first | with_reducible exact Below.refl _ _ | with_reducible refine dV ?_ _)
  · have hd : fO h1 l1 (-9223372036854775808) 0 = false := by rw [he]; exact c3 e
    have A4 : Hid (fits (0 - n) = true) := by have := A5.out; rw [c3 e] at this; exact this
    clear he A5 e
    go_enter Tryz.func169, Tryz.ntmps169
    go_wp2_with (go_at_call 166; refine (zR _ _ _ _ _ _ _ xj H1).mono ?_; rintro e w1 ⟨gp, h6, rfl, hs, ab⟩; have wC := Below.cell ab (p := ⟨w.heap.size, 0, none⟩) (by (simp; omega)); have wM := Below.frozen ab (p := ⟨w.heap.size, 0, none⟩) (by (simp; omega)); have wD := Below.cell ab (p := ⟨w.heap.size, 1, none⟩) (by (simp; omega)); have wN := Below.frozen ab (p := ⟨w.heap.size, 1, none⟩) (by (simp; omega)); have ys := Below.cell ab (p := ⟨w.heap.size + 1, 0, none⟩) (by (simp; done)); have yD := Below.frozen ab (p := ⟨w.heap.size + 1, 0, none⟩) (by (simp; done)); have yt := Below.cell ab (p := ⟨w.heap.size + 1, 1, none⟩) (by (simp; done)); have yE := Below.frozen ab (p := ⟨w.heap.size + 1, 1, none⟩) (by (simp; done)); have n1 := Below.size ab; (try simp at n1); have xr : ¬ w1.heap.size = w.heap.size := (by omega); have zT : ¬ w1.heap.size = w.heap.size + 1 := (by omega))
    rw [Jh A4.out] at hs;refine bodyPost_ret (v := .tuple #[.agg #[.int .i64 gp, .int .u64 h6], .bool true]) (by simp only [results, Tryz.results169]; go_simp) rfl (sI A4.out hs ?_);(repeat first | with_reducible exact Below.refl _ _ | with_reducible refine dV ?_ _ | focus ((with_reducible refine iR ?_ _ _ _ ?_); rotate_left; omega) | with_reducible refine fa ?_ ab)
theorem Jl (h1 l1 h2 l2 n m : Int) (w : World) (H1 : cP h1 l1 n) (c9 : cP h2 l2 m) :
    Calls ag 197 #[.agg #[.int .i64 h1, .int .u64 l1], .agg #[.int .i64 h2, .int .u64 l2]] w (kQ (.int .i64 (b9 n m)) w) := by
  go_enter Tryz.func197, Tryz.ntmps197
  go_wp2
  all_goals
    go_ret
    refine ⟨ui ?_, by (repeat first | with_reducible exact Below.refl _ _ | with_reducible refine dV ?_ _)⟩;simp only [H1.fO c9, cq, k5] at *;obtain ⟨b1, b2, aF⟩ := H1;obtain ⟨ed, dM, aM⟩ := c9;unfold b9
    repeat' split
    all_goals omega
theorem Th (h1 l1 n : Int) (w : World) (H1 : cP h1 l1 n) :
    Calls ag 168 #[.agg #[.int .i64 h1, .int .u64 l1]] w (kQ (.int .i64 (b9 n 0)) w) := by
  go_enter Tryz.func168, Tryz.ntmps168
  go_wp2_with (go_at_call 197; refine (Jl _ _ _ _ _ _ _ H1 xj).mono ?_; rintro e w1 ⟨rfl, ab⟩)
  go_ret
  exact ⟨rfl, by (repeat first | with_reducible exact Below.refl _ _ | with_reducible refine dV ?_ _ | with_reducible refine fa ?_ ab)⟩
theorem ab8 (n : Int) (aD : -9223372036854775808 ≤ n) (h1 : n < 9223372036854775808) : cP (n / 9223372036854775808) (IntKind.u64.wrap n) n := by
  unfold cP;rw [IntKind.wrap_u64];omega
theorem Jz (n : Int) (w : World) (aD : -9223372036854775808 ≤ n) (h1 : n < 9223372036854775808) :
    Calls ag 152 #[.int .i64 n] w (EV n w) := by
  have hv := ab8 n aD h1
  go_enter Tryz.func152, Tryz.ntmps152
  go_wp2
  refine bodyPost_ret (v := .agg #[.int .i64 (n / 9223372036854775808), .int .u64 (IntKind.u64.wrap n)]) (by simp only [results, Tryz.results152]; go_simp) rfl ⟨_, _, rfl, hv, ?_⟩;(repeat first | with_reducible exact Below.refl _ _ | with_reducible refine dV ?_ _)
def small (n : Int) : Bool := decide (-9223372036854775808 ≤ n ∧ n < 9223372036854775808)
theorem Rx (l : Int) : -9223372036854775808 ≤ wrap64 l ∧ wrap64 l < 9223372036854775808 := by unfold wrap64; omega
theorem agf {h l n a b : Int} (H : cP h l n) (K : cP a b (wrap64 l)) (e : fO a b h l = true) : small n = true ∧ wrap64 l = n := by
  rw [K.fO H, cq] at e;have Wb := e; clear e;obtain ⟨b1, b2, rfl⟩ := H;obtain ⟨ed, dM, e⟩ := K;unfold wrap64 at *;unfold small;rw [cq];omega
theorem age {h l n a b : Int} (H : cP h l n) (K : cP a b (wrap64 l)) (e : fO a b h l = false) : small n = false := by
  rw [K.fO H, k5] at e;have Wb := e; clear e;obtain ⟨b1, b2, rfl⟩ := H;obtain ⟨ed, dM, e⟩ := K;unfold wrap64 at *;unfold small;rw [k5];omega
def wo (n : Int) (w : World) (e : Ending) (w' : World) : Prop := e = .returned (.tuple #[.int .i64 (if small n then n else 0), .bool (small n)]) ∧ Below w.heap.size w w'
theorem afn {n m : Int} {w w' : World} (h : small n = true) (e : m = n) (b : Below w.heap.size w w') : wo n w (.returned (.tuple #[.int .i64 m, .bool true])) w' := ⟨by rw [h, e]; rfl, b⟩
theorem afm {n : Int} {w w' : World} (h : small n = false) (b : Below w.heap.size w w') : wo n w (.returned (.tuple #[.int .i64 0, .bool false])) w' := ⟨by rw [h]; rfl, b⟩
theorem EX (h1 l1 n : Int) (w : World) (H1 : cP h1 l1 n) :
    Calls ag 162 #[.agg #[.int .i64 h1, .int .u64 l1]] w (wo n w) := by
  go_enter Tryz.func162, Tryz.ntmps162
  go_wp2_with fail
  go_region_held3 (fun w' => w'.cell? ⟨w.heap.size, 0, none⟩ = some (.int .i64 h1) ∧ w'.cell? ⟨w.heap.size, 1, none⟩ = some (.int .u64 l1)) (go_keep)
    ((go_at_call 152; refine (Jz _ _ (Rx l1).1 (Rx l1).2).mono ?_; rintro e w1 ⟨gp, h6, rfl, hs, ab⟩; have wC := Below.cell ab (p := ⟨w.heap.size, 0, none⟩) (by (simp; done)); have wM := Below.frozen ab (p := ⟨w.heap.size, 0, none⟩) (by (simp; done)); have wD := Below.cell ab (p := ⟨w.heap.size, 1, none⟩) (by (simp; done)); have wN := Below.frozen ab (p := ⟨w.heap.size, 1, none⟩) (by (simp; done)); have n1 := Below.size ab; (try simp at n1); have xr : ¬ w1.heap.size = w.heap.size := (by omega)))
  go_wp2
  · go_ret2
    exact afm (age H1 hs (by simpa using ‹(!fO gp h6 h1 l1) = true›)) (by (repeat first | with_reducible exact Below.refl _ _ | with_reducible refine dV ?_ _ | with_reducible refine Below.drew ?_ | with_reducible refine fa ?_ ab))
  · go_ret2
    have ai := agf H1 hs (by simpa using ‹(!fO gp h6 h1 l1) = false›);exact afn ai.1 ai.2 (by (repeat first | with_reducible exact Below.refl _ _ | with_reducible refine dV ?_ _ | with_reducible refine Below.drew ?_ | with_reducible refine fa ?_ ab))
end Go.Proofs.YtbcecodakfejaaaGreat
namespace Go.Proofs.YtbcecodakfejaaaGreat.bu
structure cU (α : Type) where
 Cn : α → α → α → Bool
 gO : α → α → List α → List α
 cut : α × α → α × α → Option α
 n : Nat
 P : Nat → α
 Q : Nat → α
 tZ : Nat → Nat → Option α
 R : Nat
 hh : α → Prop
structure aV (α : Type) where
 ph : Nat
 I : Nat
 J : Nat
 T : Nat
 dirty : Bool
 hot : List α
 fnd : List α
 ch : List (List α × List Int)
variable {α : Type} [DecidableEq α]
def fI : List α → List (α × α)
 | p :: q :: W => (p, q) :: fI (q :: W)
 | _ => []
def aW (ch : List (List α × List Int)) : List (α × α) := ch.flatMap fun c => fI c.1
def dl (V : List α) (j : Nat) (l : List α) : List α := V.take (j + 1) ++ l ++ V.drop (j + 1)
def ey (D : List Int) (j : Nat) (n : Nat) : List Int := D.take j ++ List.replicate (n + 1) (D.getD j 0 + 1) ++ D.drop (j + 1)
def hx (p q : α) : List α × List Int := if p = q then ([p], []) else ([p, q], [1])
def fo (s : aV α) (ph I J : Nat) : aV α := { s with ph := ph, I := I, J := J, T := 0, fnd := [] }
def dO (o : cU α) (s : aV α) (q : α) : aV α :=
 if q ∈ s.hot then s else if s.hot.length < o.R then { s with hot := s.hot ++ [q] } else fo s 5 0 0
def uj : List (List α × List Int) → Nat → Nat → Option (Nat × Nat)
 | [], _, _ => none
 | c :: cs, i, j => if j + 1 < c.1.length then some (i, j) else uj cs (i + 1) 0
def mh (s : aV α) : aV α :=
 match uj (s.ch.drop s.I) s.I s.J with
 | some CJ => { s with I := CJ.1, J := CJ.2 }
 | none => if (aW s.ch).length < 2 then fo s 4 0 0 else fo s 3 0 1
def nH (s : aV α) : aV α := if s.dirty = true then mh (fo { s with dirty := false } 2 0 0) else fo s 4 0 0
def lB (o : cU α) (s : aV α) : aV α := mh (fo { s with ch := (List.range o.n).map fun k => hx (o.P k) (o.Q k) } 2 0 0)
def th (o : cU α) (s : aV α) : aV α :=
 if (dO o s (o.P s.I)).ph = 5 then dO o s (o.P s.I) else
 if (dO o (dO o s (o.P s.I)) (o.Q s.I)).ph = 5 then dO o (dO o s (o.P s.I)) (o.Q s.I) else
 if s.I + 1 < o.n then { dO o (dO o s (o.P s.I)) (o.Q s.I) with I := s.I + 1 } else
 if o.n < 2 then lB o (dO o (dO o s (o.P s.I)) (o.Q s.I)) else fo (dO o (dO o s (o.P s.I)) (o.Q s.I)) 1 0 1
def cn (many I J : Nat) : Nat × Nat := if many ≤ J + 1 then (I + 1, I + 2) else (I, J + 1)
def kD (o : cU α) (s : aV α) : Option α → aV α
 | some x => dO o s x
 | none => s
def tY (o : cU α) (s : aV α) : aV α :=
 if (kD o s (o.tZ s.I s.J)).ph = 5 then kD o s (o.tZ s.I s.J) else
 if (cn o.n s.I s.J).2 < o.n then { kD o s (o.tZ s.I s.J) with I := (cn o.n s.I s.J).1, J := (cn o.n s.I s.J).2 } else lB o (kD o s (o.tZ s.I s.J))
def jl (o : cU α) (p q x : α) : Bool := decide (x ≠ p) && decide (x ≠ q) && o.Cn p q x
def ln (o : cU α) (p q x : α) (fnd : List α) : List α := if jl o p q x = true then fnd ++ [x] else fnd
def sf (o : cU α) (s : aV α) (c : List α × List Int) (p q : α) (fnd : List α) : aV α :=
 if s.T + 1 < s.hot.length then { s with fnd := fnd, T := s.T + 1 } else
 if fnd = [] then mh { s with T := 0, fnd := [], J := s.J + 1 } else
 { s with T := 0, fnd := [], ch := s.ch.set s.I (dl c.1 s.J (o.gO p q fnd), ey c.2 s.J fnd.length) }
def xJ (o : cU α) (s : aV α) : aV α :=
 match s.ch[s.I]? with
 | some c =>
  match c.1[s.J]?, c.1[s.J + 1]?, s.hot[s.T]? with
  | some p, some q, some x => sf o s c p q (ln o p q x s.fnd)
  | _, _, _ => s
 | none => s
def dW (o : cU α) (s : aV α) : Option α → aV α
 | some x => if (dO o s x).ph = 5 then dO o s x else { dO o s x with dirty := true }
 | none => s
def so (o : cU α) (s : aV α) : aV α :=
 match (aW s.ch)[s.I]?, (aW s.ch)[s.J]? with
 | some a, some b =>
  if (dW o s (o.cut a b)).ph = 5 then dW o s (o.cut a b) else
  if (cn (aW s.ch).length s.I s.J).2 < (aW s.ch).length then { dW o s (o.cut a b) with I := (cn (aW s.ch).length s.I s.J).1, J := (cn (aW s.ch).length s.I s.J).2 } else nH (dW o s (o.cut a b))
 | _, _ => s
def eQ (o : cU α) (s : aV α) : aV α :=
 match s.ph with
 | 0 => th o s
 | 1 => tY o s
 | 2 => xJ o s
 | 3 => so o s
 | _ => s
def rC (o : cU α) (hot : List α) (p q : α) : Prop := ∀ x ∈ hot, jl o p q x = false
structure j9 (o : cU α) (ok : Nat → List α × List Int → Prop) : Prop where
 nodup : ∀ i c, ok i c → c.1.Nodup
 new : ∀ i, i < o.n → ok i (hx (o.P i) (o.Q i))
 split : ∀ (i : Nat) (c : List α × List Int) (j : Nat) (p q : α) (bi : List α), ok i c → c.1.length = c.2.length + 1 → c.1[j]? = some p → c.1[j + 1]? = some q → bi.Nodup → bi ≠ [] → (∀ x ∈ bi, jl o p q x = true) → ok i (dl c.1 j (o.gO p q bi), ey c.2 j bi.length)
 gO : ∀ (p q : α) (bi : List α), (o.gO p q bi).Perm bi
 FT : ∀ i, i < o.n → o.hh (o.P i) ∧ o.hh (o.Q i)
 Mm : ∀ i j x, i < j → j < o.n → o.tZ i j = some x → o.hh x
 Mj : ∀ (p q eB bX x : α), o.hh p → o.hh q → o.hh eB → o.hh bX → o.cut (p, q) (eB, bX) = some x → o.hh x
 cut : ∀ (hot : List α) (p q eB bX x : α), (∀ y ∈ hot, o.hh y) → p ≠ q → eB ≠ bX → p ∈ hot → q ∈ hot → eB ∈ hot → bX ∈ hot → rC o hot p q → rC o hot eB bX → o.cut (p, q) (eB, bX) = some x → x ∉ hot
structure jG (o : cU α) (s : aV α) : Prop where
 nd : s.hot.Nodup
 room : s.hot.length ≤ o.R
 fb : ∀ x ∈ s.hot, o.hh x
structure AX (o : cU α) (ok : Nat → List α × List Int → Prop) (hot : List α) (i : Nat) (c : List α × List Int) : Prop where
 hh : ok i c
 len : c.1.length = c.2.length + 1
 head : c.1.head? = some (o.P i)
 last : c.1.getLast? = some (o.Q i)
 hot : ∀ v ∈ c.1, v ∈ hot
 deep : ∀ d ∈ c.2, 1 ≤ d ∧ d ≤ c.2.length
structure lh (o : cU α) (ok : Nat → List α × List Int → Prop) (s : aV α) : Prop where
 len : s.ch.length = o.n
 ib : ∀ i c, s.ch[i]? = some c → AX o ok s.hot i c
def AQ (o : cU α) (hot : List α) (ch : List (List α × List Int)) (I J : Nat) : Prop :=
 ∀ i c j p q, ch[i]? = some c → c.1[j]? = some p → c.1[j + 1]? = some q → (i < I ∨ (i = I ∧ j < J)) → rC o hot p q
def Jx (o : cU α) (ch : List (List α × List Int)) (I J : Nat) : Prop :=
 ∀ a b l m, (aW ch)[a]? = some l → (aW ch)[b]? = some m → a < b → (a < I ∨ (a = I ∧ b < J)) → o.cut l m = none
def AR (o : cU α) (s : aV α) : Prop := ∀ l ∈ aW s.ch, rC o s.hot l.1 l.2
def Bj (o : cU α) (s : aV α) (I : Nat) : Prop := ∀ i, i < I → o.P i ∈ s.hot ∧ o.Q i ∈ s.hot
structure Jt (o : cU α) (s : aV α) : Prop where
 ph : s.ph = 0
 dirty : s.dirty = false
 fnd : s.fnd = []
 ch : s.ch = []
 I : s.I < o.n
 J : s.J = 0
 T : s.T = 0
 AM : Bj o s s.I
structure Inv1 (o : cU α) (s : aV α) : Prop where
 ph : s.ph = 1
 dirty : s.dirty = false
 fnd : s.fnd = []
 ch : s.ch = []
 x9 : s.I < s.J
 J : s.J < o.n
 T : s.T = 0
 AM : Bj o s o.n
structure Inv2 (o : cU α) (ok : Nat → List α × List Int → Prop) (s : aV α) : Prop where
 ph : s.ph = 2
 dirty : s.dirty = false
 laid : lh o ok s
 link : ∃ c p q, s.ch[s.I]? = some c ∧ c.1[s.J]? = some p ∧ c.1[s.J + 1]? = some q ∧ s.fnd = (s.hot.take s.T).filter (jl o p q)
 T : s.T < s.hot.length
 Bp : AQ o s.hot s.ch s.I s.J
structure EG (o : cU α) (ok : Nat → List α × List Int → Prop) (s : aV α) : Prop where
 ph : s.ph = 3
 laid : lh o ok s
 x9 : s.I < s.J
 J : s.J < (aW s.ch).length
 T : s.T = 0
 fnd : s.fnd = []
 clean : s.dirty = false → AR o s ∧ Jx o s.ch s.I s.J
structure sT (o : cU α) (ok : Nat → List α × List Int → Prop) (s : aV α) : Prop where
 ph : s.ph = 4
 dirty : s.dirty = false
 laid : lh o ok s
 I : s.I = 0
 J : s.J = 0
 T : s.T = 0
 fnd : s.fnd = []
 RA : AR o s
 abM : Jx o s.ch (aW s.ch).length 0
structure A7 (o : cU α) (ok : Nat → List α × List Int → Prop) (s : aV α) : Prop where
 ph : s.ph = 5
 I : s.I = 0
 J : s.J = 0
 T : s.T = 0
 fnd : s.fnd = []
 full : s.hot.length = o.R
 ch : (s.ch = [] ∧ s.dirty = false) ∨ lh o ok s
def h8 (o : cU α) (ok : Nat → List α × List Int → Prop) (s : aV α) : Prop := jG o s ∧ (Jt o s ∨ Inv1 o s ∨ Inv2 o ok s ∨ EG o ok s ∨ sT o ok s ∨ A7 o ok s)
def dY (o : cU α) : Nat := 2 * (o.n * o.R) * o.R + o.n * o.R * (o.n * o.R) + 1
def n6 (s : aV α) : Nat := (aW (s.ch.take s.I)).length + s.J
def eO (o : cU α) (s : aV α) : Nat :=
 match s.ph with
 | 0 => (o.n - s.I) + o.n * o.n + (o.R + 1) * dY o
 | 1 => ((o.n - s.I) * o.n - s.J) + (o.R + 1) * dY o
 | 2 => (o.R - s.hot.length) * dY o + (2 * (o.n * o.R) - n6 s - (aW s.ch).length) * o.R + (s.hot.length - s.T) + o.n * o.R * (o.n * o.R)
 | 3 => (o.R - s.hot.length) * dY o + (if s.dirty = true then dY o else 0) + (((aW s.ch).length - s.I) * (aW s.ch).length - s.J)
 | _ => 0
theorem HS : ∀ {l m : List α}, l.Nodup → (∀ x ∈ l, x ∈ m) → l.length ≤ m.length
 | [], _, _, _ => dC _
 | a :: l, m, h, hs => by
  have aj := List.nodup_cons.1 h;have aJ := hs a (k6 ..);have := HS (l := l) (m := m.erase a) aj.2 fun x aa => (List.mem_erase_of_ne (fun e => aj.1 (by rw [← e]; exact aa))).2 (hs x (o4 _ aa));rw [List.length_erase_of_mem aJ] at this;have := List.length_pos_of_mem aJ;simp only [iI]; omega
theorem si : ∀ V : List α, (fI V).length = V.length - 1
 | [] => rfl
 | [_] => rfl
 | p :: q :: W => by
  have := si (q :: W);simp only [fI, iI] at this ⊢; omega
theorem Oe : ∀ {V : List α} {l : α × α}, l ∈ fI V → ∃ j, V[j]? = some l.1 ∧ V[j + 1]? = some l.2
 | p :: q :: W, l, h => by
  rcases fD.1 (show l ∈ (p, q) :: fI (q :: W) from h) with rfl | h
  ·exact ⟨0, rfl, rfl⟩
  ·obtain ⟨j, h1, h2⟩ := Oe h;exact ⟨j + 1, h1, h2⟩
theorem zO (A B : List (List α × List Int)) : aW (A ++ B) = aW A ++ aW B := List.flatMap_append ..
theorem C1 (c : List α × List Int) (B : List (List α × List Int)) : aW (c :: B) = fI c.1 ++ aW B := rfl
theorem Hu {ch : List (List α × List Int)} {l : α × α} (h : l ∈ aW ch) : ∃ (i : Nat) (c : List α × List Int) (j : Nat), ch[i]? = some c ∧ c.1[j]? = some l.1 ∧ c.1[j + 1]? = some l.2 := by
 obtain ⟨c, aj, ak⟩ := List.mem_flatMap.1 h;obtain ⟨i, hi⟩ := j1 aj;obtain ⟨j, h1, h2⟩ := Oe ak;exact ⟨i, c, j, hi, h1, h2⟩
theorem xk {m : Nat} : ∀ {ch : List (List α × List Int)}, (∀ c ∈ ch, c.1.length ≤ m) → (aW ch).length ≤ ch.length * m
 | [], _ => dC _
 | c :: B, h => by
  have b5 := xk (ch := B) fun c aj => h c (o4 _ aj);have h1 := h c (k6 ..);rw [C1, cJ, si, iI, kq, Nat.one_mul]; omega
theorem WV {β : Type} {l : List β} {i : Nat} {c : β} (h : l[i]? = some c) : l = l.take i ++ c :: l.drop (i + 1) ∧ (l.take i).length = i := by
 obtain ⟨ak, e⟩ := bM.1 h;refine ⟨?_, by rw [dK]; omega⟩
 conv => lhs; rw [← j2 i l, mN ak, e]
end Go.Proofs.YtbcecodakfejaaaGreat.bu
namespace Go.Proofs.YtbcecodakfejaaaGreat.bu
variable {α : Type} [DecidableEq α]
theorem Rp : ∀ (cs : List (List α × List Int)) (i j fl eS : Nat), uj cs i j = some (fl, eS) → (∀ c, cs[0]? = some c → j ≤ (fI c.1).length) →
  ∃ (k : Nat) (c : List α × List Int), fl = i + k ∧ cs[k]? = some c ∧ eS + 1 < c.1.length ∧ j ≤ (aW (cs.take k)).length + eS ∧ (∀ (m : Nat) (d : List α × List Int) (l : Nat), cs[m]? = some d → l + 1 < d.1.length → (m < k ∨ (m = k ∧ l < eS)) → m = 0 ∧ l < j)
 | [], i, j, fl, eS, h, _ => by cases h
 | c :: cs, i, j, fl, eS, h, ae => by
  have aD : j ≤ (fI c.1).length := ae c rfl;rw [si] at aD;unfold uj at h
  split at h
  ·rename_i aj;cases h;refine ⟨0, c, rfl, rfl, aj, by simp, fun m d l _ _ aU => ?_⟩;omega
  ·rename_i aj;obtain ⟨k, c', aF, aM, cg, dZ, kV⟩ := Rp cs (i + 1) 0 fl eS h (fun _ _ => dC _);refine ⟨k + 1, c', by omega, aM, cg, ?_, fun m d l hd ak aU => ?_⟩
   ·rw [List.take_succ_cons, C1, cJ, si]; omega
   ·match m, hd, aU with
    | 0, hd, aU =>
     simp only [sA, h0] at hd;subst hd;exact ⟨rfl, by omega⟩
    | m + 1, hd, aU =>
     have := kV m d l hd ak (by omega);omega
theorem Ro : ∀ (cs : List (List α × List Int)) (i j : Nat), uj cs i j = none → ∀ (m : Nat) (d : List α × List Int) (l : Nat), cs[m]? = some d → l + 1 < d.1.length → m = 0 ∧ l < j
 | [], _, _, _, m, d, l, hd, _ => by simp at hd
 | c :: cs, i, j, h, m, d, l, hd, ak => by
  unfold uj at h
  split at h
  ·cases h
  ·rename_i aj
   match m, hd with
   | 0, hd =>
    simp only [sA, h0] at hd;subst hd;exact ⟨rfl, by omega⟩
   | m + 1, hd =>
    have := Ro cs (i + 1) 0 h m d l hd ak;omega
theorem lh.many {o : cU α} {ok : Nat → List α × List Int → Prop} (af : j9 o ok) {s : aV α} (ab : jG o s) (h : lh o ok s) : (aW s.ch).length ≤ o.n * o.R := by
 rw [← h.len];refine xk fun c aj => ?_;obtain ⟨i, hi⟩ := j1 aj;have aU := h.ib i c hi;exact ha (HS (af.nodup _ _ aU.hh) aU.hot) ab.room
theorem UI {o : cU α} {s : aV α} {I J : Nat} (aJ : AQ o s.hot s.ch I J) (ax : ∀ (i : Nat) (d : List α × List Int) (l : Nat), s.ch[i]? = some d → l + 1 < d.1.length → i < I ∨ (i = I ∧ l < J)) : AR o s := fun l ak => by
 obtain ⟨i, c, j, hi, h1, h2⟩ := Hu ak;have := (bM.1 h2).1;exact aJ i c j l.1 l.2 hi h1 h2 (ax i c j hi this)
theorem IH {o : cU α} {ok : Nat → List α × List Int → Prop} (af : j9 o ok) {s : aV α} (ab : jG o s) (ak : lh o ok s) (ho : s.ph = 2) (hd : s.dirty = false) (cK : s.T = 0) (ar : s.fnd = []) (aU : 0 < s.hot.length) (aJ : AQ o s.hot s.ch s.I s.J) (ae : ∀ c, s.ch[s.I]? = some c → s.J ≤ (fI c.1).length) :
  h8 o ok (mh s) ∧ eO o (mh s) ≤ (o.R - s.hot.length) * dY o + (2 * (o.n * o.R) - n6 s - (aW s.ch).length) * o.R + s.hot.length + o.n * o.R * (o.n * o.R) := by
 have hm := ak.many af ab;unfold mh;cases h : uj (s.ch.drop s.I) s.I s.J with
 | some CJ =>
  obtain ⟨fl, eS⟩ := CJ;obtain ⟨k, c, aF, aM, cg, dZ, kV⟩ := Rp _ _ _ _ _ h (fun c aj => ae c (by rw [fV] at aj; exact aj));rw [fV] at aM;rw [← aF] at aM;show h8 o ok ({ s with I := fl, J := eS } : aV α) ∧ eO o ({ s with I := fl, J := eS } : aV α) ≤ _;have w8 : eS < c.1.length := by omega
  refine ⟨⟨⟨ab.nd, ab.room, ab.fb⟩, .inr (.inr (.inl ⟨ho, hd, ⟨ak.len, ak.ib⟩, ⟨c, c.1[eS], c.1[eS + 1], aM, bN w8, bN cg, ?_⟩, ?_, ?_⟩))⟩, ?_⟩
  ·show s.fnd = (s.hot.take s.T).filter _;rw [cK, ar]; rfl
  ·show s.T < s.hot.length;omega
  ·show AQ o s.hot s.ch fl eS;intro i d j p q hi hp al gG;have r2 := (bM.1 al).1;refine aJ i d j p q hi hp al ?_
   by_cases c8 : i < s.I
   ·exact .inl c8
   ·have := kV (i - s.I) d j (by rw [fV, show s.I + (i - s.I) = i by omega]; exact hi) r2 (by omega);omega
  ·have hp : n6 s ≤ n6 ({ s with I := fl, J := eS } : aV α) := by
    unfold n6;show (aW (s.ch.take s.I)).length + s.J ≤ (aW (s.ch.take fl)).length + eS;rw [aF, List.take_add, zO, cJ]; omega
   show eO o ({ s with I := fl, J := eS } : aV α) ≤ _;unfold eO;show (match s.ph with | 0 => _ | 1 => _ | 2 => _ | 3 => _ | _ => _) ≤ _;rw [ho];show (o.R - s.hot.length) * dY o + (2 * (o.n * o.R) - n6 ({ s with I := fl, J := eS } : aV α) - (aW s.ch).length) * o.R + (s.hot.length - s.T) + o.n * o.R * (o.n * o.R) ≤ _;generalize n6 ({ s with I := fl, J := eS } : aV α) = S7 at *;have := ju o.R (show 2 * (o.n * o.R) - S7 - (aW s.ch).length ≤ 2 * (o.n * o.R) - n6 s - (aW s.ch).length by omega);omega
 | none =>
  have dF : AR o s := UI aJ fun i d l hi e1 => by
   by_cases c8 : i < s.I
   ·exact .inl c8
   ·have := Ro _ _ _ h (i - s.I) d l (by rw [fV, show s.I + (i - s.I) = i by omega]; exact hi) e1;omega
  show h8 o ok (if (aW s.ch).length < 2 then fo s 4 0 0 else fo s 3 0 1) ∧ eO o (if (aW s.ch).length < 2 then fo s 4 0 0 else fo s 3 0 1) ≤ _
  split
  ·rename_i h2;refine ⟨⟨⟨ab.nd, ab.room, ab.fb⟩, .inr (.inr (.inr (.inr (.inl ⟨rfl, hd, ⟨ak.len, ak.ib⟩, rfl, rfl, rfl, rfl, dF, ?_⟩))))⟩, dC _⟩;intro a b l m an aE jm _;have := (bM.1 aE).1;have : b < (aW s.ch).length := this;omega
  ·rename_i h2;refine ⟨⟨⟨ab.nd, ab.room, ab.fb⟩, .inr (.inr (.inr (.inl ⟨rfl, ⟨ak.len, ak.ib⟩, Nat.zero_lt_one, show 1 < (aW s.ch).length by omega, rfl, rfl, fun _ => ⟨dF, ?_⟩⟩)))⟩, ?_⟩
   ·intro a b l m an aE jm Gr;have : a < 0 ∨ (a = 0 ∧ b < 1) := Gr;omega
   ·show (o.R - s.hot.length) * dY o + (if s.dirty = true then dY o else 0) + (((aW s.ch).length - 0) * (aW s.ch).length - 1) ≤ _;rw [hd, if_neg (by decide), Nat.sub_zero];have := Nat.mul_le_mul hm hm;omega
theorem Cl (o : cU α) {s : aV α} (ab : jG o s) (q : α) (al : o.hh q) : (dO o s q = fo s 5 0 0 ∧ s.hot.length = o.R) ∨
  ∃ hot', dO o s q = { s with hot := hot' } ∧ jG o ({ s with hot := hot' } : aV α) ∧ q ∈ hot' ∧ (∀ x ∈ s.hot, x ∈ hot') ∧ s.hot.length ≤ hot'.length ∧ (q ∉ s.hot → hot'.length = s.hot.length + 1) ∧ (q ∈ s.hot → hot' = s.hot) := by
 have := ab.room;unfold dO
 by_cases h : q ∈ s.hot
 ·rw [if_pos h];exact .inr ⟨s.hot, rfl, ab, h, fun x aa => aa, dJ _, fun aO => absurd h aO, fun _ => rfl⟩
 ·rw [if_neg h]
  by_cases h2 : s.hot.length < o.R
  ·rw [if_pos h2];refine .inr ⟨s.hot ++ [q], rfl, ⟨?_, ?_, fun x aa => (kr.1 aa).elim (ab.fb x) fun h => by rw [mg.1 h]; exact al⟩, by simp, fun x aa => List.mem_append_left _ aa, by simp, fun _ => by simp, fun aO => absurd aO h⟩
   ·show (s.hot ++ [q]).Nodup;refine List.nodup_append.2 ⟨ab.nd, by simp, fun a aJ b c4 => ?_⟩;rw [mg] at c4;subst c4;exact fun e => h (by rw [← e]; exact aJ)
   ·show (s.hot ++ [q]).length ≤ o.R;rw [cJ, List.length_singleton]; omega
  ·rw [if_neg h2];exact .inl ⟨rfl, by omega⟩
theorem Vw {o : cU α} (ax : 0 < o.n) (ap : 0 < o.R) : o.R ≤ dY o := by
 have h1 : o.R ≤ o.n * o.R := Nat.le_mul_of_pos_left _ ax;have h2 : o.n * o.R ≤ o.n * o.R * o.R := Nat.le_mul_of_pos_right _ ap;unfold dY;rw [Nat.mul_assoc 2];omega
theorem N6 {o : cU α} {ok : Nat → List α × List Int → Prop} (af : j9 o ok) {s : aV α} (ab : jG o s) (hd : s.dirty = false) (ax : 0 < o.n) (hw : Bj o s o.n) : h8 o ok (lB o s) ∧ eO o (lB o s) < (o.R + 1) * dY o := by
 have aU : 0 < s.hot.length := List.length_pos_of_mem (hw 0 ax).1;have key := IH (s := fo { s with ch := (List.range o.n).map fun k => hx (o.P k) (o.Q k) } 2 0 0) af ⟨ab.nd, ab.room, ab.fb⟩ ⟨?_, ?_⟩ rfl hd rfl rfl aU ?_ ?_
 ·refine ⟨key.1, Nat.lt_of_le_of_lt key.2 ?_⟩;show (o.R - s.hot.length) * dY o + (2 * (o.n * o.R) - (0 + 0) - (aW ((List.range o.n).map fun k => hx (o.P k) (o.Q k))).length) * o.R + s.hot.length + o.n * o.R * (o.n * o.R) < (o.R + 1) * dY o;generalize (aW ((List.range o.n).map fun k => hx (o.P k) (o.Q k))).length = L;have ap := ab.room;have aj := Vw ax (show 0 < o.R by omega);have h1 := ju (dY o) (show o.R - s.hot.length ≤ o.R - 1 by omega);have h2 := ju o.R (show 2 * (o.n * o.R) - (0 + 0) - L ≤ 2 * (o.n * o.R) by omega);have aF : (o.R + 1) * dY o = (o.R - 1) * dY o + 2 * dY o := by rw [← kq]; congr 1; omega
  have aM : dY o = 2 * (o.n * o.R) * o.R + o.n * o.R * (o.n * o.R) + 1 := rfl;omega
 ·show ((List.range o.n).map fun k => hx (o.P k) (o.Q k)).length = o.n;simp
 ·intro i c hi;have hi : ((List.range o.n).map fun k => hx (o.P k) (o.Q k))[i]? = some c := hi;have kh : i < o.n := by have := (bM.1 hi).1; simpa using this
  rw [eg, List.getElem?_range kh] at hi;have hi : hx (o.P i) (o.Q i) = c := kJ hi;have aq := af.new i kh;subst hi;refine ⟨aq, ?_, ?_, ?_, fun v hv => ?_, fun d hd => ?_⟩
  ·unfold hx; split <;> rfl
  ·unfold hx; split <;> rfl
  ·unfold hx
   split
   ·rename_i e; rw [e]; rfl
   ·rfl
  ·show v ∈ s.hot;unfold hx at hv
   split at hv
   ·rw [mg.1 hv]; exact (hw i kh).1
   ·rcases fD.1 hv with rfl | hv
    ·exact (hw i kh).1
    ·rw [mg.1 hv]; exact (hw i kh).2
  ·unfold hx at hd ⊢
   split at hd
   ·cases hd
   ·rename_i e;rw [if_neg e];rw [mg.1 hd];exact ⟨n7 1, n7 1⟩
 ·intro i c j p q _ _ _ gG;have : i < 0 ∨ (i = 0 ∧ j < 0) := gG;omega
 ·intro c _;exact dC _
theorem CN {o : cU α} {ok : Nat → List α × List Int → Prop} {s : aV α} (ab : jG o s) (ar : s.hot.length = o.R) (aj : (s.ch = [] ∧ s.dirty = false) ∨ lh o ok s) : h8 o ok (fo s 5 0 0) ∧ eO o (fo s 5 0 0) = 0 :=
 ⟨⟨⟨ab.nd, ab.room, ab.fb⟩, .inr (.inr (.inr (.inr (.inr ⟨rfl, rfl, rfl, rfl, rfl, ar, aj.imp id fun h => ⟨h.len, h.ib⟩⟩))))⟩, rfl⟩
theorem Wl {o : cU α} {ok : Nat → List α × List Int → Prop} (af : j9 o ok) {s : aV α} (ab : jG o s) (h : Jt o s) : h8 o ok (th o s) ∧ eO o (th o s) < eO o s := by
 have bj := h.I;have vj : eO o s = (o.n - s.I) + o.n * o.n + (o.R + 1) * dY o := by simp only [eO, h.ph]
 rw [vj];unfold th;rcases Cl o ab (o.P s.I) (af.FT _ bj).1 with ⟨aF, f1⟩ | ⟨h1, aF, b1, m1, s1, l1, _, _⟩
 ·rw [aF, if_pos (show (fo s 5 0 0).ph = 5 from rfl)];have := CN (ok := ok) ab f1 (.inl ⟨h.ch, h.dirty⟩);exact ⟨this.1, by rw [this.2]; omega⟩
 ·rw [aF, if_neg (show ({ s with hot := h1 } : aV α).ph ≠ 5 by show s.ph ≠ 5; rw [h.ph]; decide)];rcases Cl o b1 (o.Q s.I) (af.FT _ bj).2 with ⟨aM, f2⟩ | ⟨h2, aM, b2, m2, s2, l2, _, _⟩
  ·rw [aM, if_pos (show (fo ({ s with hot := h1 } : aV α) 5 0 0).ph = 5 from rfl)];have := CN (ok := ok) b1 f2 (.inl ⟨h.ch, h.dirty⟩);exact ⟨this.1, by rw [this.2]; omega⟩
  ·have s2 : ∀ x ∈ h1, x ∈ h2 := s2;rw [aM, if_neg (show ({ s with hot := h2 } : aV α).ph ≠ 5 by show s.ph ≠ 5; rw [h.ph]; decide)]
   have hw : ∀ i, i < s.I + 1 → o.P i ∈ h2 ∧ o.Q i ∈ h2 := fun i hi => by
    rcases hz i s.I with g | g
    ·exact ⟨s2 _ (s1 _ (h.AM i g).1), s2 _ (s1 _ (h.AM i g).2)⟩
    ·rw [show i = s.I by omega]; exact ⟨s2 _ m1, m2⟩
   split
   ·rename_i bg;refine ⟨⟨⟨b2.nd, b2.room, b2.fb⟩, .inl ⟨h.ph, h.dirty, h.fnd, h.ch, bg, h.J, h.T, hw⟩⟩, ?_⟩;show eO o ({ s with hot := h2, I := s.I + 1 } : aV α) < _;unfold eO;show (match s.ph with | 0 => (o.n - (s.I + 1)) + o.n * o.n + (o.R + 1) * dY o | 1 => _ | 2 => _ | 3 => _ | _ => _) < _;rw [h.ph];show (o.n - (s.I + 1)) + o.n * o.n + (o.R + 1) * dY o < _;omega
   ·rename_i kE;have ax : o.n = s.I + 1 := by omega
    split
    ·have := N6 af (s := ({ s with hot := h2 } : aV α)) ⟨b2.nd, b2.room, b2.fb⟩ h.dirty (by omega) (by rw [ax]; exact hw);exact ⟨this.1, pW this.2 (by omega)⟩
    ·rename_i ah9;refine ⟨⟨⟨b2.nd, b2.room, b2.fb⟩, .inr (.inl ⟨rfl, h.dirty, rfl, h.ch, Nat.zero_lt_one, show 1 < o.n by omega, rfl, by rw [ax]; exact hw⟩)⟩, ?_⟩;show ((o.n - 0) * o.n - 1) + (o.R + 1) * dY o < _;rw [Nat.sub_zero]; omega
theorem Pg {I J L : Nat} (pB : I < J) (kB : J < L) : (L - I) * L - J ≥ 1 ∧ ((cn L I J).2 < L → (cn L I J).1 < (cn L I J).2 ∧ (L - (cn L I J).1) * L - (cn L I J).2 < (L - I) * L - J) := by
 have e : (L - I) * L = (L - I - 1) * L + L := by rw [← Nat.succ_mul]; congr 1; omega
 refine ⟨by omega, fun h => ?_⟩;unfold cn at h ⊢
 by_cases ak : L ≤ J + 1
 ·rw [if_pos ak] at h ⊢;refine ⟨by show I + 1 < I + 2; omega, ?_⟩;show (L - (I + 1)) * L - (I + 2) < _;rw [show L - (I + 1) = L - I - 1 by omega]; omega
 ·rw [if_neg ak] at h ⊢;refine ⟨by show I < J + 1; omega, ?_⟩;show (L - I) * L - (J + 1) < _;omega
theorem abW {I J L a b : Nat} (pB : I < J) (kB : J < L) (jm : a < b) (ab : b < L) (h : a < (cn L I J).1 ∨ (a = (cn L I J).1 ∧ b < (cn L I J).2)) : (a < I ∨ (a = I ∧ b < J)) ∨ (a = I ∧ b = J) := by
 unfold cn at h
 split at h
 ·have h : a < I + 1 ∨ (a = I + 1 ∧ b < I + 2) := h;omega
 ·have h : a < I ∨ (a = I ∧ b < J + 1) := h;omega
theorem abX {I J L : Nat} (pB : I < J) (kB : J < L) (h : ¬ (cn L I J).2 < L) {a b : Nat} (jm : a < b) (ab : b < L) : (a < I ∨ (a = I ∧ b < J)) ∨ (a = I ∧ b = J) := by
 unfold cn at h
 split at h
 ·have h : ¬ I + 2 < L := h;omega
 ·have h : ¬ J + 1 < L := h;omega
theorem adZ {o : cU α} {ok : Nat → List α × List Int → Prop} (af : j9 o ok) {s : aV α} (ab : jG o s) (h : Inv1 o s) : h8 o ok (tY o s) ∧ eO o (tY o s) < eO o s := by
 have pB := h.x9;have kB := h.J;have vj : eO o s = ((o.n - s.I) * o.n - s.J) + (o.R + 1) * dY o := by simp only [eO, h.ph]
 rw [vj];obtain ⟨dp, dX⟩ := Pg pB kB
 have main : ∀ h2, jG o ({ s with hot := h2 } : aV α) → (∀ x ∈ s.hot, x ∈ h2) → h8 o ok (if ({ s with hot := h2 } : aV α).ph = 5 then ({ s with hot := h2 } : aV α) else if (cn o.n s.I s.J).2 < o.n then { ({ s with hot := h2 } : aV α) with I := (cn o.n s.I s.J).1, J := (cn o.n s.I s.J).2 } else lB o ({ s with hot := h2 } : aV α)) ∧ eO o (if ({ s with hot := h2 } : aV α).ph = 5 then ({ s with hot := h2 } : aV α) else if (cn o.n s.I s.J).2 < o.n then { ({ s with hot := h2 } : aV α) with I := (cn o.n s.I s.J).1, J := (cn o.n s.I s.J).2 } else lB o ({ s with hot := h2 } : aV α)) < ((o.n - s.I) * o.n - s.J) + (o.R + 1) * dY o := fun h2 b2 s2 => by
  rw [if_neg (show ({ s with hot := h2 } : aV α).ph ≠ 5 by show s.ph ≠ 5; rw [h.ph]; decide)];have hw : Bj o ({ s with hot := h2 } : aV α) o.n := fun i hi => ⟨s2 _ (h.AM i hi).1, s2 _ (h.AM i hi).2⟩
  split
  ·rename_i bg;obtain ⟨ja, l5⟩ := dX bg;refine ⟨⟨⟨b2.nd, b2.room, b2.fb⟩, .inr (.inl ⟨h.ph, h.dirty, h.fnd, h.ch, ja, bg, h.T, hw⟩)⟩, ?_⟩;unfold eO;show (match s.ph with | 0 => _ | 1 => ((o.n - (cn o.n s.I s.J).1) * o.n - (cn o.n s.I s.J).2) + (o.R + 1) * dY o | 2 => _ | 3 => _ | _ => _) < _;rw [h.ph];show ((o.n - (cn o.n s.I s.J).1) * o.n - (cn o.n s.I s.J).2) + (o.R + 1) * dY o < _;omega
  ·have := N6 af (s := ({ s with hot := h2 } : aV α)) ⟨b2.nd, b2.room, b2.fb⟩ h.dirty (by omega) hw;exact ⟨this.1, pW this.2 (by omega)⟩
 unfold tY;cases hp : o.tZ s.I s.J with
 | none => exact main s.hot ab fun x aa => aa
 | some x =>
  show h8 o ok (if (dO o s x).ph = 5 then _ else if _ then { dO o s x with I := _, J := _ } else lB o (dO o s x)) ∧ eO o (if (dO o s x).ph = 5 then _ else if _ then { dO o s x with I := _, J := _ } else lB o (dO o s x)) < _;rcases Cl o ab x (af.Mm _ _ x pB kB hp) with ⟨aF, f1⟩ | ⟨h2, aF, b2, m2, s2, _⟩
  ·rw [show kD o s (some x) = dO o s x from rfl, aF, if_pos (show (fo s 5 0 0).ph = 5 from rfl)];have := CN (ok := ok) ab f1 (.inl ⟨h.ch, h.dirty⟩);exact ⟨this.1, by rw [this.2]; omega⟩
  ·rw [show kD o s (some x) = dO o s x from rfl, aF];exact main h2 b2 s2
end Go.Proofs.YtbcecodakfejaaaGreat.bu
namespace Go.Proofs.YtbcecodakfejaaaGreat.bu
variable {α : Type} [DecidableEq α]
theorem yw {V : List α} {j : Nat} {l : List α} : (dl V j l).length = V.length + l.length := by
  unfold dl;rw [cJ, cJ, dK, h3]; omega
theorem Fv {D : List Int} {j n : Nat} (h : j < D.length) : (ey D j n).length = D.length + n := by
  unfold ey;rw [cJ, cJ, dK, h3, List.length_replicate]; omega
theorem Lj {V : List α} {j : Nat} {l : List α} {x : α} (h : x ∈ dl V j l) : x ∈ V ∨ x ∈ l := by
  unfold dl at h;rcases kr.1 h with h | h
  · rcases kr.1 h with h | h
    · exact .inl (nB h)
    · exact .inr h
  · exact .inl (mO h)
theorem VH {V : List α} {j : Nat} {l : List α} (h : V ≠ []) : (dl V j l).head? = V.head? := by
  match V, h with
  | v :: W, _ => rfl
theorem VI {V : List α} {j : Nat} {l : List α} (h : j + 1 < V.length) : (dl V j l).getLast? = V.getLast? := by
  unfold dl;rw [List.getLast?_append, List.getLast?_drop, if_neg (by omega)];cases nf : V.getLast? with
  | none => rw [List.getLast?_eq_none_iff.1 nf] at h; simp at h
  | some z => rfl
theorem Li {V : List α} {j i : Nat} {l : List α} (h : i < j + 1) (ae : j + 1 ≤ V.length) : (dl V j l)[i]? = V[i]? := by
  unfold dl;rw [iu, gd (by rw [dK]; omega), fE h]
theorem VJ {V : List α} {j : Nat} {l : List α} (h : j + 1 < V.length) : ∃ x, (dl V j l)[j + 1]? = some x := by
  have : j + 1 < (dl V j l).length := by rw [yw]; omega
  exact ⟨_, bN this⟩
theorem VF {D : List Int} {j n : Nat} {d : Int} (ae : j < D.length) (h : d ∈ ey D j n) : ∃ e ∈ D, d = e ∨ d = e + 1 := by
  unfold ey at h;rcases kr.1 h with h | h
  · rcases kr.1 h with h | h
    · exact ⟨d, nB h, .inl rfl⟩
    · refine ⟨D[j], List.getElem_mem ae, .inr ?_⟩
      rw [List.eq_of_mem_replicate h, gy, bN ae]; rfl
  · exact ⟨d, mO h, .inl rfl⟩
theorem AX.cut {o : cU α} {ok : Nat → List α × List Int → Prop} (af : j9 o ok) {hot : List α} {i j : Nat} {c : List α × List Int} {p q : α} {bi : List α} (h : AX o ok hot i c) (hp : c.1[j]? = some p) (al : c.1[j + 1]? = some q) (ax : bi.Nodup) (ar : ∀ x ∈ bi, x ∈ hot ∧ jl o p q x = true) (bU : bi ≠ []) : AX o ok hot i (dl c.1 j (o.gO p q bi), ey c.2 j bi.length) := by
  have hs := af.gO p q bi;have ae : j + 1 < c.1.length := (bM.1 al).1;have ak := h.len;have Co : j < c.2.length := by omega
  have Ym : 0 < bi.length := List.length_pos_iff.2 bU;refine ⟨af.split _ _ _ _ _ _ h.hh h.len hp al ax bU (fun x aa => (ar x aa).2), ?_, ?_, ?_, fun v hv => ?_, fun d hd => ?_⟩
  · show (dl c.1 j (o.gO p q bi)).length = (ey c.2 j bi.length).length + 1
    rw [yw, Fv Co, hs.length_eq]; omega
  · rw [← h.head]; exact VH (fun e => by rw [e] at ae; simp at ae)
  · rw [← h.last]; exact VI ae
  · rcases Lj hv with hv | hv
    · exact h.hot v hv
    · exact (ar v (hs.mem_iff.1 hv)).1
  · show 1 ≤ d ∧ d ≤ ((ey c.2 j bi.length).length : Int)
    obtain ⟨e, he, lV⟩ := VF Co hd;have := h.deep e he;rw [Fv Co]; omega
theorem L4 {f : α → Bool} {l : List α} {n : Nat} {x : α} (h : l[n]? = some x) : (l.take (n + 1)).filter f = if f x = true then (l.take n).filter f ++ [x] else (l.take n).filter f := by
  obtain ⟨ak, e⟩ := bM.1 h;rw [j3 ak, e, List.filter_append];cases aa : f x with
  | true => rw [if_pos rfl, List.filter_cons_of_pos aa]; rfl
  | false => rw [if_neg (by decide), List.filter_cons_of_neg (by rw [aa]; decide)]; exact nC _
theorem afd {o : cU α} {ok : Nat → List α × List Int → Prop} (af : j9 o ok) {s : aV α} (ab : jG o s) (h : Inv2 o ok s) : h8 o ok (xJ o s) ∧ eO o (xJ o s) < eO o s := by
  obtain ⟨c, p, q, aj, hp, al, ar⟩ := h.link;have cK := h.T;have aa : s.hot[s.T]? = some s.hot[s.T] := bN cK;generalize s.hot[s.T] = x at aa;have vj : eO o s = (o.R - s.hot.length) * dY o + (2 * (o.n * o.R) - n6 s - (aW s.ch).length) * o.R + (s.hot.length - s.T) + o.n * o.R * (o.n * o.R) := by simp only [eO, h.ph]
  have yU := h.laid.ib s.I c aj;have ae : s.J + 1 < c.1.length := (bM.1 al).1;have hm := h.laid.many af ab
  have X2 : ln o p q x s.fnd = (s.hot.take (s.T + 1)).filter (jl o p q) := by
    unfold ln;rw [L4 aa, ar]
  obtain ⟨agn, aaA⟩ := WV aj;have bj : s.I < s.ch.length := (bM.1 aj).1
  have ahW : (aW s.ch).length = (aW (s.ch.take s.I)).length + ((c.1.length - 1) + (aW (s.ch.drop (s.I + 1))).length) := by
    conv => lhs; rw [agn]
    rw [zO, C1, cJ, cJ, si]
  have GR : n6 s = (aW (s.ch.take s.I)).length + s.J := rfl;have lW := ab.room;rw [vj];unfold xJ;rw [aj];show h8 o ok (match c.1[s.J]?, c.1[s.J + 1]?, s.hot[s.T]? with | some p, some q, some x => sf o s c p q (ln o p q x s.fnd) | _, _, _ => s) ∧ eO o (match c.1[s.J]?, c.1[s.J + 1]?, s.hot[s.T]? with | some p, some q, some x => sf o s c p q (ln o p q x s.fnd) | _, _, _ => s) < _;rw [hp, al, aa];show h8 o ok (sf o s c p q (ln o p q x s.fnd)) ∧ eO o (sf o s c p q (ln o p q x s.fnd)) < _;rw [X2];unfold sf
  by_cases bg : s.T + 1 < s.hot.length
  · rw [if_pos bg]
    refine ⟨⟨⟨ab.nd, ab.room, ab.fb⟩, .inr (.inr (.inl ⟨h.ph, h.dirty, ⟨h.laid.len, h.laid.ib⟩, ⟨c, p, q, aj, hp, al, rfl⟩, bg, h.Bp⟩))⟩, ?_⟩;unfold eO;show (match s.ph with | 0 => _ | 1 => _ | 2 => (o.R - s.hot.length) * dY o + (2 * (o.n * o.R) - n6 s - (aW s.ch).length) * o.R + (s.hot.length - (s.T + 1)) + o.n * o.R * (o.n * o.R) | 3 => _ | _ => _) < _;rw [h.ph];show (o.R - s.hot.length) * dY o + (2 * (o.n * o.R) - n6 s - (aW s.ch).length) * o.R + (s.hot.length - (s.T + 1)) + o.n * o.R * (o.n * o.R) < _;omega
  · rw [if_neg bg]
    have Xl : s.T + 1 = s.hot.length := by omega
    rw [Xl, List.take_length]
    by_cases he : s.hot.filter (jl o p q) = []
    · rw [if_pos he]
      have iW : rC o s.hot p q := fun y ai => by
        cases aq : jl o p q y with
        | false => rfl
        | true => have := sB.2 ⟨ai, aq⟩; rw [he] at this; cases this
      have key := IH (s := { s with T := 0, fnd := [], J := s.J + 1 }) af ⟨ab.nd, ab.room, ab.fb⟩ ⟨h.laid.len, h.laid.ib⟩ h.ph h.dirty rfl rfl (show 0 < s.hot.length by omega) ?_ ?_
      · refine ⟨key.1, Nat.lt_of_le_of_lt key.2 ?_⟩
        show (o.R - s.hot.length) * dY o + (2 * (o.n * o.R) - ((aW (s.ch.take s.I)).length + (s.J + 1)) - (aW s.ch).length) * o.R + s.hot.length + o.n * o.R * (o.n * o.R) < _;rw [GR];have := ju o.R (show 2 * (o.n * o.R) - ((aW (s.ch.take s.I)).length + (s.J + 1)) - (aW s.ch).length + 1 ≤ 2 * (o.n * o.R) - ((aW (s.ch.take s.I)).length + s.J) - (aW s.ch).length by omega);rw [kq, Nat.one_mul] at this;omega
      · intro i d j eB bX hi oJ nX gG
        have gG : i < s.I ∨ (i = s.I ∧ j < s.J + 1) := gG
        by_cases Yj : i = s.I ∧ j = s.J
        · obtain ⟨rfl, rfl⟩ := Yj
          have e : some c = some d := by rw [← aj]; exact hi
          cases e;have e : some p = some eB := by rw [← hp]; exact oJ
          cases e;have e : some q = some bX := by rw [← al]; exact nX
          cases e;exact iW
        · exact h.Bp i d j eB bX hi oJ nX (by omega)
      · intro d hd
        have e : some c = some d := by rw [← aj]; exact hd
        cases e;rw [si];show s.J + 1 ≤ _;omega
    · rw [if_neg he]
      have hl : (s.hot.filter (jl o p q)).Nodup := ab.nd.filter _;have hcut := yU.cut af hp al hl (fun y ai => ⟨(sB.1 ai).1, (sB.1 ai).2⟩) he;have hlen := (af.gO p q (s.hot.filter (jl o p q))).length_eq;have aiu : 0 < (s.hot.filter (jl o p q)).length := List.length_pos_iff.2 he;generalize s.hot.filter (jl o p q) = bi at *
      have G1 : ∀ i, (s.ch.set s.I (dl c.1 s.J (o.gO p q bi), ey c.2 s.J bi.length))[i]? = if i = s.I then some (dl c.1 s.J (o.gO p q bi), ey c.2 s.J bi.length) else s.ch[i]? := fun i => by
        by_cases hi : i = s.I
        · rw [if_pos hi, hi, List.getElem?_set_self bj]
        · rw [if_neg hi, List.getElem?_set_ne (Ne.symm hi)]
      have MW : lh o ok ({ s with T := 0, fnd := [], ch := s.ch.set s.I (dl c.1 s.J (o.gO p q bi), ey c.2 s.J bi.length) } : aV α) := ⟨by show (s.ch.set s.I _).length = o.n; rw [List.length_set]; exact h.laid.len, fun i d hd => by
        have hd : (s.ch.set s.I (dl c.1 s.J (o.gO p q bi), ey c.2 s.J bi.length))[i]? = some d := hd;rw [G1] at hd
        split at hd
        · rename_i hi
          cases hd;rw [hi]; exact hcut
        · exact h.laid.ib i d hd⟩
      have c4 : jG o ({ s with T := 0, fnd := [], ch := s.ch.set s.I (dl c.1 s.J (o.gO p q bi), ey c.2 s.J bi.length) } : aV α) := ⟨ab.nd, ab.room, ab.fb⟩;have fR : (aW (s.ch.set s.I (dl c.1 s.J (o.gO p q bi), ey c.2 s.J bi.length))).length ≤ o.n * o.R := MW.many af c4;obtain ⟨y, ai⟩ := VJ (l := o.gO p q bi) ae;have oJ : (dl c.1 s.J (o.gO p q bi))[s.J]? = some p := by rw [Li (by omega) (by omega)]; exact hp
      refine ⟨⟨c4, .inr (.inr (.inl ⟨h.ph, h.dirty, MW, ⟨(dl c.1 s.J (o.gO p q bi), ey c.2 s.J bi.length), p, y, ?_, oJ, ai, rfl⟩, show 0 < s.hot.length by omega, ?_⟩))⟩, ?_⟩
      · show (s.ch.set s.I (dl c.1 s.J (o.gO p q bi), ey c.2 s.J bi.length))[s.I]? = _
        rw [G1, if_pos rfl]
      · intro i d j eB bX hi oJ nX gG
        have hi : (s.ch.set s.I (dl c.1 s.J (o.gO p q bi), ey c.2 s.J bi.length))[i]? = some d := hi;have gG : i < s.I ∨ (i = s.I ∧ j < s.J) := gG;rw [G1] at hi
        split at hi
        · rename_i gv
          cases hi;rw [Li (by omega) (by omega)] at oJ nX;exact h.Bp i c j eB bX (by rw [gv]; exact aj) oJ nX gG
        · exact h.Bp i d j eB bX hi oJ nX gG
      · have LO : s.ch.set s.I (dl c.1 s.J (o.gO p q bi), ey c.2 s.J bi.length) = s.ch.take s.I ++ (dl c.1 s.J (o.gO p q bi), ey c.2 s.J bi.length) :: s.ch.drop (s.I + 1) := List.set_eq_take_append_cons_drop.trans (if_pos bj)
        have ahX : (aW (s.ch.set s.I (dl c.1 s.J (o.gO p q bi), ey c.2 s.J bi.length))).length = (aW (s.ch.take s.I)).length + ((c.1.length + bi.length - 1) + (aW (s.ch.drop (s.I + 1))).length) := by
          rw [LO, zO, C1, cJ, cJ, si, yw, hlen]
        have rP : n6 ({ s with T := 0, fnd := [], ch := s.ch.set s.I (dl c.1 s.J (o.gO p q bi), ey c.2 s.J bi.length) } : aV α) = (aW (s.ch.take s.I)).length + s.J := by
          show (aW ((s.ch.set s.I (dl c.1 s.J (o.gO p q bi), ey c.2 s.J bi.length)).take s.I)).length + s.J = _;rw [LO, List.take_left' aaA]
        unfold eO;rw [rP];show (match s.ph with | 0 => _ | 1 => _ | 2 => (o.R - s.hot.length) * dY o + (2 * (o.n * o.R) - ((aW (s.ch.take s.I)).length + s.J) - (aW (s.ch.set s.I (dl c.1 s.J (o.gO p q bi), ey c.2 s.J bi.length))).length) * o.R + (s.hot.length - 0) + o.n * o.R * (o.n * o.R) | 3 => _ | _ => _) < _;rw [h.ph];show (o.R - s.hot.length) * dY o + (2 * (o.n * o.R) - ((aW (s.ch.take s.I)).length + s.J) - (aW (s.ch.set s.I (dl c.1 s.J (o.gO p q bi), ey c.2 s.J bi.length))).length) * o.R + (s.hot.length - 0) + o.n * o.R * (o.n * o.R) < _;rw [GR];generalize (aW (s.ch.set s.I (dl c.1 s.J (o.gO p q bi), ey c.2 s.J bi.length))).length = L' at *;have := ju o.R (show 2 * (o.n * o.R) - ((aW (s.ch.take s.I)).length + s.J) - L' + 1 ≤ 2 * (o.n * o.R) - ((aW (s.ch.take s.I)).length + s.J) - (aW s.ch).length by omega);rw [kq, Nat.one_mul] at this;omega
theorem tI {o : cU α} {ok : Nat → List α × List Int → Prop} (af : j9 o ok) {s : aV α} (ak : lh o ok s) {l : α × α} (h : l ∈ aW s.ch) : l.1 ≠ l.2 ∧ l.1 ∈ s.hot ∧ l.2 ∈ s.hot := by
  obtain ⟨i, c, j, hi, h1, h2⟩ := Hu h;have yU := ak.ib i c hi;have ax := af.nodup _ _ yU.hh;refine ⟨fun e => ?_, yU.hot _ (c7 h1), yU.hot _ (c7 h2)⟩;obtain ⟨g1, bl⟩ := bM.1 h1;obtain ⟨g2, bJ⟩ := bM.1 h2;exact (List.pairwise_iff_getElem.1 ax) j (j + 1) g1 g2 (by omega) (by rw [bl, bJ]; exact e)
theorem VK {o : cU α} {ok : Nat → List α × List Int → Prop} (af : j9 o ok) {s : aV α} (ab : jG o s) (ak : lh o ok s) {i j : Nat} {a b : α × α} (aJ : (aW s.ch)[i]? = some a) (c4 : (aW s.ch)[j]? = some b) {x : α} (aj : o.cut a b = some x) : o.hh x := by
  obtain ⟨_, a2, a3⟩ := tI af ak (c7 aJ);obtain ⟨_, b2, ed⟩ := tI af ak (c7 c4);exact af.Mj a.1 a.2 b.1 b.2 x (ab.fb _ a2) (ab.fb _ a3) (ab.fb _ b2) (ab.fb _ ed) aj
theorem YA {o : cU α} {ok : Nat → List α × List Int → Prop} (af : j9 o ok) {s : aV α} (ab : jG o s) (h : EG o ok s) {a b : α × α} (aJ : (aW s.ch)[s.I]? = some a) (c4 : (aW s.ch)[s.J]? = some b) :
    (dW o s (o.cut a b) = fo s 5 0 0 ∧ s.hot.length = o.R) ∨ (o.cut a b = none ∧ dW o s (o.cut a b) = s) ∨
    ∃ hot', dW o s (o.cut a b) = { s with hot := hot', dirty := true } ∧ jG o ({ s with hot := hot', dirty := true } : aV α) ∧ (∀ x ∈ s.hot, x ∈ hot') ∧ s.hot.length ≤ hot'.length ∧ (s.dirty = false → hot'.length = s.hot.length + 1) := by
  cases hcut : o.cut a b with
  | none => exact .inr (.inl ⟨rfl, rfl⟩)
  | some x =>
    unfold dW;rcases Cl o ab x (VK af ab h.laid aJ c4 hcut) with ⟨aF, f1⟩ | ⟨h2, aF, b2, m2, s2, l2, dX, _⟩
    · left
      show (if (dO o s x).ph = 5 then dO o s x else { dO o s x with dirty := true }) = _ ∧ _;rw [aF, if_pos (show (fo s 5 0 0).ph = 5 from rfl)];exact ⟨rfl, f1⟩
    · refine .inr (.inr ⟨h2, ?_, ⟨b2.nd, b2.room, b2.fb⟩, s2, l2, fun hd => dX ?_⟩)
      · show (if (dO o s x).ph = 5 then dO o s x else { dO o s x with dirty := true }) = _
        rw [aF, if_neg (show ({ s with hot := h2 } : aV α).ph ≠ 5 by show s.ph ≠ 5; rw [h.ph]; decide)]
      · have hs := (h.clean hd).1
        have key : ∀ l, l ∈ aW s.ch → l.1 ≠ l.2 ∧ l.1 ∈ s.hot ∧ l.2 ∈ s.hot ∧ rC o s.hot l.1 l.2 := fun l ak => by
          obtain ⟨b3, b7, fq⟩ := tI af h.laid ak;exact ⟨b3, b7, fq, hs l ak⟩
        obtain ⟨a1, a2, a3, a4⟩ := key a (c7 aJ);obtain ⟨b1, b2, ed, dM⟩ := key b (c7 c4);exact af.cut s.hot a.1 a.2 b.1 b.2 x ab.fb a1 b1 a2 a3 b2 ed a4 dM hcut
theorem lh.mono {o : cU α} {ok : Nat → List α × List Int → Prop} {s t : aV α} (h : lh o ok s) (aj : t.ch = s.ch) (aU : ∀ x ∈ s.hot, x ∈ t.hot) : lh o ok t :=
  ⟨by rw [aj]; exact h.len, fun i c hi => by
    have := h.ib i c (by rw [← aj]; exact hi);exact ⟨this.hh, this.len, this.head, this.last, fun v hv => aU v (this.hot v hv), this.deep⟩⟩
theorem aa0 {o : cU α} {ok : Nat → List α × List Int → Prop} (af : j9 o ok) {s : aV α} (ab : jG o s) (h : EG o ok s) : h8 o ok (so o s) ∧ eO o (so o s) < eO o s := by
  have pB := h.x9;have kB := h.J;have lW := ab.room;have hm := h.laid.many af ab;obtain ⟨dp, dX⟩ := Pg pB kB;have vj : eO o s = (o.R - s.hot.length) * dY o + (if s.dirty = true then dY o else 0) + (((aW s.ch).length - s.I) * (aW s.ch).length - s.J) := by simp only [eO, h.ph]
  have aJ : (aW s.ch)[s.I]? = some (aW s.ch)[s.I] := bN (by omega);have c4 : (aW s.ch)[s.J]? = some (aW s.ch)[s.J] := bN kB;generalize (aW s.ch)[s.I] = a at aJ;generalize (aW s.ch)[s.J] = b at c4
  have ais : 0 < s.hot.length := by
    obtain ⟨i, c, j, hi, h1, h2⟩ := Hu (c7 aJ);exact List.length_pos_of_mem ((h.laid.ib i c hi).hot _ (c7 h1))
  rw [vj];unfold so;rw [aJ, c4];show h8 o ok (if (dW o s (o.cut a b)).ph = 5 then dW o s (o.cut a b) else if (cn (aW s.ch).length s.I s.J).2 < (aW s.ch).length then { dW o s (o.cut a b) with I := (cn (aW s.ch).length s.I s.J).1, J := (cn (aW s.ch).length s.I s.J).2 } else nH (dW o s (o.cut a b))) ∧ eO o (if (dW o s (o.cut a b)).ph = 5 then dW o s (o.cut a b) else if (cn (aW s.ch).length s.I s.J).2 < (aW s.ch).length then { dW o s (o.cut a b) with I := (cn (aW s.ch).length s.I s.J).1, J := (cn (aW s.ch).length s.I s.J).2 } else nH (dW o s (o.cut a b))) < _
 
  have main : ∀ hot', jG o ({ s with hot := hot', dirty := true } : aV α) → (∀ x ∈ s.hot, x ∈ hot') → s.hot.length ≤ hot'.length → (s.dirty = false → hot'.length = s.hot.length + 1) →
      h8 o ok (if ({ s with hot := hot', dirty := true } : aV α).ph = 5 then ({ s with hot := hot', dirty := true } : aV α) else if (cn (aW s.ch).length s.I s.J).2 < (aW s.ch).length then { ({ s with hot := hot', dirty := true } : aV α) with I := (cn (aW s.ch).length s.I s.J).1, J := (cn (aW s.ch).length s.I s.J).2 } else nH ({ s with hot := hot', dirty := true } : aV α)) ∧ eO o (if ({ s with hot := hot', dirty := true } : aV α).ph = 5 then ({ s with hot := hot', dirty := true } : aV α) else if (cn (aW s.ch).length s.I s.J).2 < (aW s.ch).length then { ({ s with hot := hot', dirty := true } : aV α) with I := (cn (aW s.ch).length s.I s.J).1, J := (cn (aW s.ch).length s.I s.J).2 } else nH ({ s with hot := hot', dirty := true } : aV α)) < (o.R - s.hot.length) * dY o + (if s.dirty = true then dY o else 0) + (((aW s.ch).length - s.I) * (aW s.ch).length - s.J) := fun hot' b2 s2 l2 d2 => by
    have ak : lh o ok ({ s with hot := hot', dirty := true } : aV α) := h.laid.mono rfl s2;have cD : hot'.length ≤ o.R := b2.room
    have aij : (o.R - hot'.length) * dY o + dY o ≤ (o.R - s.hot.length) * dY o + (if s.dirty = true then dY o else 0) := by
      cases hd : s.dirty with
      | true =>
        rw [if_pos rfl];have := ju (dY o) (show o.R - hot'.length ≤ o.R - s.hot.length by omega);omega
      | false =>
        rw [if_neg (by decide)];have := d2 hd;have := ju (dY o) (show o.R - hot'.length + 1 ≤ o.R - s.hot.length by omega);rw [kq, Nat.one_mul] at this;omega
    rw [if_neg (show ({ s with hot := hot', dirty := true } : aV α).ph ≠ 5 by show s.ph ≠ 5; rw [h.ph]; decide)]
    split
    · rename_i bg
      obtain ⟨ja, l5⟩ := dX bg;refine ⟨⟨⟨b2.nd, b2.room, b2.fb⟩, .inr (.inr (.inr (.inl ⟨h.ph, ⟨ak.len, ak.ib⟩, ja, bg, h.T, h.fnd, fun hd => by cases hd⟩)))⟩, ?_⟩;unfold eO;show (match s.ph with | 0 => _ | 1 => _ | 2 => _ | 3 => (o.R - hot'.length) * dY o + (if true = true then dY o else 0) + (((aW s.ch).length - (cn (aW s.ch).length s.I s.J).1) * (aW s.ch).length - (cn (aW s.ch).length s.I s.J).2) | _ => _) < _;rw [h.ph];show (o.R - hot'.length) * dY o + (if true = true then dY o else 0) + (((aW s.ch).length - (cn (aW s.ch).length s.I s.J).1) * (aW s.ch).length - (cn (aW s.ch).length s.I s.J).2) < _;rw [if_pos rfl];omega
    · unfold nH
      rw [if_pos rfl]
      have key := IH (s := fo ({ s with hot := hot', dirty := false } : aV α) 2 0 0) af ⟨b2.nd, b2.room, b2.fb⟩ (ak.mono rfl fun x aa => aa) rfl rfl rfl rfl (show 0 < hot'.length by omega) (fun i c j p q _ _ _ gG => by
        have : i < 0 ∨ (i = 0 ∧ j < 0) := gG;omega) (fun c _ => dC _)
      refine ⟨key.1, Nat.lt_of_le_of_lt key.2 ?_⟩;show (o.R - hot'.length) * dY o + (2 * (o.n * o.R) - (0 + 0) - (aW s.ch).length) * o.R + hot'.length + o.n * o.R * (o.n * o.R) < _;have aM : dY o = 2 * (o.n * o.R) * o.R + o.n * o.R * (o.n * o.R) + 1 := rfl;have := ju o.R (show 2 * (o.n * o.R) - (0 + 0) - (aW s.ch).length + 1 ≤ 2 * (o.n * o.R) by omega);rw [kq, Nat.one_mul] at this;omega
  rcases YA af ab h aJ c4 with ⟨aF, f1⟩ | ⟨FA, aF⟩ | ⟨hot', aF, b2, s2, l2, d2⟩
  · rw [aF, if_pos (show (fo s 5 0 0).ph = 5 from rfl)]
    have := CN (ok := ok) ab f1 (.inr h.laid);exact ⟨this.1, by rw [this.2]; omega⟩
  · cases hd : s.dirty with
    | true =>
      have es : ({ s with hot := s.hot, dirty := true } : aV α) = s := by cases s; cases hd; rfl
      rw [aF];have := main s.hot (by rw [es]; exact ab) (fun x aa => aa) (dJ _) (fun aU => by rw [hd] at aU; cases aU);rw [es, hd] at this;exact this
    | false =>
      rw [aF, if_neg (show ¬ s.ph = 5 by rw [h.ph]; decide), if_neg (show ¬ (false = true) by decide)];obtain ⟨c1, c2⟩ := h.clean hd
      have M1 : ∀ x y l m, (aW s.ch)[x]? = some l → (aW s.ch)[y]? = some m → ((x < s.I ∨ (x = s.I ∧ y < s.J)) ∨ (x = s.I ∧ y = s.J)) → x < y → o.cut l m = none := fun x y l m aa ai aU im => by
        rcases aU with aU | ⟨rfl, rfl⟩
        · exact c2 x y l m aa ai im aU
        · rw [aJ] at aa; rw [c4] at ai
          cases aa; cases ai;exact FA
      by_cases bg : (cn (aW s.ch).length s.I s.J).2 < (aW s.ch).length
      · rw [if_pos bg]
        obtain ⟨ja, l5⟩ := dX bg;refine ⟨⟨⟨ab.nd, ab.room, ab.fb⟩, .inr (.inr (.inr (.inl ⟨h.ph, ⟨h.laid.len, h.laid.ib⟩, ja, bg, h.T, h.fnd, fun _ => ⟨c1, fun x y l m aa ai im aU => M1 x y l m aa ai (abW pB kB im (bM.1 ai).1 aU) im⟩⟩)))⟩, ?_⟩;unfold eO;show (match s.ph with | 0 => _ | 1 => _ | 2 => _ | 3 => (o.R - s.hot.length) * dY o + (if s.dirty = true then dY o else 0) + (((aW s.ch).length - (cn (aW s.ch).length s.I s.J).1) * (aW s.ch).length - (cn (aW s.ch).length s.I s.J).2) | _ => _) < _;rw [h.ph];show (o.R - s.hot.length) * dY o + (if s.dirty = true then dY o else 0) + (((aW s.ch).length - (cn (aW s.ch).length s.I s.J).1) * (aW s.ch).length - (cn (aW s.ch).length s.I s.J).2) < _;rw [hd, if_neg (by decide)];omega
      · rw [if_neg bg]
        unfold nH;rw [if_neg (show ¬ s.dirty = true by rw [hd]; decide)];refine ⟨⟨⟨ab.nd, ab.room, ab.fb⟩, .inr (.inr (.inr (.inr (.inl ⟨rfl, hd, ⟨h.laid.len, h.laid.ib⟩, rfl, rfl, rfl, rfl, c1, fun x y l m aa ai im _ => ?_⟩))))⟩, ?_⟩
        · exact M1 x y l m aa ai (abX pB kB bg im (bM.1 ai).1) im
        · show 0 < _
          omega
  · rw [aF]
    exact main hot' b2 s2 l2 d2
theorem xR {o : cU α} {ok : Nat → List α × List Int → Prop} (af : j9 o ok) {s : aV α} (h : h8 o ok s) : h8 o ok (eQ o s) ∧ (s.ph < 4 → eO o (eQ o s) < eO o s) ∧ (4 ≤ s.ph → eQ o s = s) := by
  obtain ⟨ab, aD | h1 | h2 | an | aE | cY⟩ := h
  · have e : eQ o s = th o s := by simp only [eQ, aD.ph]
    have := Wl af ab aD;rw [e]; exact ⟨this.1, fun _ => this.2, fun aU => by rw [aD.ph] at aU; omega⟩
  · have e : eQ o s = tY o s := by simp only [eQ, h1.ph]
    have := adZ af ab h1;rw [e]; exact ⟨this.1, fun _ => this.2, fun aU => by rw [h1.ph] at aU; omega⟩
  · have e : eQ o s = xJ o s := by simp only [eQ, h2.ph]
    have := afd af ab h2;rw [e]; exact ⟨this.1, fun _ => this.2, fun aU => by rw [h2.ph] at aU; omega⟩
  · have e : eQ o s = so o s := by simp only [eQ, an.ph]
    have := aa0 af ab an;rw [e]; exact ⟨this.1, fun _ => this.2, fun aU => by rw [an.ph] at aU; omega⟩
  · have e : eQ o s = s := by simp only [eQ, aE.ph]
    rw [e]; exact ⟨⟨ab, .inr (.inr (.inr (.inr (.inl aE))))⟩, fun aU => by rw [aE.ph] at aU; omega, fun _ => rfl⟩
  · have e : eQ o s = s := by simp only [eQ, cY.ph]
    rw [e]; exact ⟨⟨ab, .inr (.inr (.inr (.inr (.inr cY))))⟩, fun aU => by rw [cY.ph] at aU; omega, fun _ => rfl⟩
def lz (o : cU α) : Nat → aV α → aV α
  | 0, s => s
  | n + 1, s => lz o n (eQ o s)
theorem CP {o : cU α} {ok : Nat → List α × List Int → Prop} (af : j9 o ok) : ∀ (n : Nat) {s : aV α}, h8 o ok s → h8 o ok (lz o n s) ∧ (eO o s ≤ n → 4 ≤ (lz o n s).ph)
  | 0, s, h => ⟨h, fun ax => by
    refine Nat.not_lt.1 fun bg => ?_;have := (xR af h).2.1 bg;show False;have ax : eO o s ≤ 0 := ax;omega⟩
  | n + 1, s, h => by
    obtain ⟨h1, h2, an⟩ := xR af h;obtain ⟨g1, g2⟩ := CP af n h1;refine ⟨g1, fun ax => ?_⟩
    by_cases bg : s.ph < 4
    · exact g2 (by have := h2 bg; omega)
    · have e := an (by omega)
      show 4 ≤ (lz o n (eQ o s)).ph;rw [e]
      have key : ∀ m, lz o m s = s := fun m => by
        induction m with
        | zero => rfl
        | succ m b5 => show lz o m (eQ o s) = s; rw [e]; exact b5
      rw [key]; omega
def fB (o : cU α) : aV α := ⟨if o.n = 0 then 4 else 0, 0, 0, 0, false, [], [], []⟩
theorem vB (o : cU α) (ok : Nat → List α × List Int → Prop) : h8 o ok (fB o) := by
  refine ⟨⟨List.nodup_nil, dC _, fun x aa => absurd aa sC⟩, ?_⟩
  by_cases h : o.n = 0
  · refine .inr (.inr (.inr (.inr (.inl ⟨by simp [fB, h], rfl, ⟨h.symm, fun i c hi => by simp [fB] at hi⟩, rfl, rfl, rfl, rfl, (fun l ak => by cases ak), (fun a b l m aJ => by simp [fB, aW] at aJ)⟩))))
  · exact .inl ⟨by simp [fB, h], rfl, rfl, rfl, show 0 < o.n by omega, rfl, rfl, fun i hi => by cases hi⟩
theorem abH (o : cU α) (aw : 0 < o.R) : eO o (fB o) ≤ 8 * (o.R + 2) * ((o.n * o.R + 1) * (o.n * o.R + 1)) := by
  by_cases h : o.n = 0
  · have : eO o (fB o) = 0 := by simp [eO, fB, h]
    rw [this]; exact dC _
  · have e : eO o (fB o) = (o.n - 0) + o.n * o.n + (o.R + 1) * dY o := by simp [eO, fB, h]
    rw [e];have h1 : o.n ≤ o.n * o.R := Nat.le_mul_of_pos_right _ aw;have h2 : o.R ≤ o.n * o.R := Nat.le_mul_of_pos_left _ (by omega);have an := Nat.mul_le_mul h1 h1;unfold dY;generalize o.n * o.R = N at *;have aE : 2 * N * o.R ≤ 2 * (N * N) := by rw [Nat.mul_assoc]; exact Nat.mul_le_mul_left 2 (Nat.mul_le_mul_left N h2)
    have cY : (o.R + 1) * (2 * N * o.R + N * N + 1) ≤ (o.R + 2) * (3 * (N * N) + 1) := Nat.mul_le_mul (by omega) (by omega);have cg : (N + 1) * (N + 1) = N * N + 2 * N + 1 := by grind
    have fh : (o.R + 2) * (3 * (N * N) + 1) ≤ (o.R + 2) * (3 * ((N + 1) * (N + 1))) := Nat.mul_le_mul_left _ (by rw [cg]; omega);have dZ : 8 * (o.R + 2) * ((N + 1) * (N + 1)) = (o.R + 2) * (3 * ((N + 1) * (N + 1))) + 5 * ((o.R + 2) * ((N + 1) * (N + 1))) := by grind
    have jM : (N + 1) * (N + 1) ≤ (o.R + 2) * ((N + 1) * (N + 1)) := Nat.le_mul_of_pos_left _ (by omega);rw [dZ];omega
end Go.Proofs.YtbcecodakfejaaaGreat.bu
namespace Go.Proofs.YtbcecodakfejaaaGreat.bu
variable {α : Type} [DecidableEq α]
def rK (N : Int → Rat → α → Prop) : Rat → List α → List Int → Prop
 | t, p :: q :: V, d :: D => ∃ fW, t ≤ fW ∧ fW ≤ 1 ∧ N d t p ∧ N d fW q ∧ rK N fW (q :: V) D
 | _, _, _ => True
def BG (N : Int → Rat → α → Prop) (d : Int) (t2 : Rat) : Rat → List α → Prop
 | t1, [] => t1 ≤ t2
 | t1, x :: l => ∃ t, t1 ≤ t ∧ t ≤ t2 ∧ N d t x ∧ BG N d t2 t l
theorem K9 {N : Int → Rat → α → Prop} {d : Int} {t2 : Rat} {q : α} {V : List α} {D : List Int} (h1 : t2 ≤ 1) (al : N d t2 q) (nf : rK N t2 (q :: V) D) : ∀ (l : List α) (t1 : Rat) (p : α), N d t1 p → BG N d t2 t1 l → rK N t1 (p :: (l ++ q :: V)) (List.replicate (l.length + 1) d ++ D)
 | [], t1, p, hp, ab => ⟨t2, ab, h1, hp, al, nf⟩
 | x :: l, t1, p, hp, ⟨t, g1, g2, g3, g4⟩ => by
  have b5 := K9 h1 al nf l t x g3 g4;exact ⟨t, g1, Rat.le_trans g2 h1, hp, g3, b5⟩
theorem K8 {N : Int → Rat → α → Prop} (fi : ∀ d t x, N d t x → N (d + 1) t x) {l : List α} {p q : α} (ak : ∀ d t1 t2, t1 ≤ t2 → t2 ≤ 1 → N d t1 p → N d t2 q → BG N (d + 1) t2 t1 l) : ∀ (V : List α) (D : List Int) (j : Nat) (t : Rat), V.length = D.length + 1 → V[j]? = some p → V[j + 1]? = some q → rK N t V D → rK N t (dl V j l) (ey D j l.length)
 | [], D, j, t, _, h, _, _ => by simp at h
 | [_], D, j, t, _, _, h, _ => by simp at h
 | _ :: _ :: _, [], j, t, h, _, _, _ => by simp at h
 | a :: b :: V, d :: D, 0, t, hlen, hp, al, ⟨fW, h1, h2, an, aE, cY⟩ => by
  simp only [sA, h0] at hp;simp only [xE, sA, h0] at al;subst hp; subst al;have aF : dl (a :: b :: V) 0 l = a :: (l ++ b :: V) := by unfold dl; simp
  have aM : ey (d :: D) 0 l.length = List.replicate (l.length + 1) (d + 1) ++ D := by unfold ey; simp
  rw [aF, aM];exact K9 h2 (fi _ _ _ aE) cY l t a (fi _ _ _ an) (ak d t fW h1 h2 an aE)
 | a :: b :: V, d :: D, j + 1, t, hlen, hp, al, ⟨fW, h1, h2, an, aE, cY⟩ => by
  have b5 := K8 fi ak (b :: V) D j fW (by simp at hlen ⊢; omega) hp al cY;have aF : dl (a :: b :: V) (j + 1) l = a :: dl (b :: V) j l := by unfold dl; simp
  have aM : ey (d :: D) (j + 1) l.length = d :: ey D j l.length := by unfold ey; simp
  rw [aF, aM];have cg : dl (b :: V) j l = b :: (V.take j ++ l ++ V.drop j) := by unfold dl; simp
  rw [cg] at b5 ⊢;exact ⟨fW, h1, h2, an, aE, b5⟩
end Go.Proofs.YtbcecodakfejaaaGreat.bu
namespace Go.Proofs.YtbcecodakfejaaaGreat.bu
variable {α : Type} [DecidableEq α]
theorem Lp {o : cU α} {ok : Nat → List α × List Int → Prop} (af : j9 o ok) {s : aV α} (ab : jG o s) (ak : lh o ok s) {c : List α × List Int} (aj : c ∈ s.ch) : c.1.length ≤ o.R ∧ ∀ d ∈ c.2, 1 ≤ d ∧ d + 1 ≤ o.R := by
 obtain ⟨i, hi⟩ := j1 aj;have h := ak.ib i c hi;have h1 := ha (HS (af.nodup _ _ h.hh) h.hot) ab.room;refine ⟨h1, fun d hd => ?_⟩;have := h.deep d hd;have := h.len;omega
theorem LK {o : cU α} {ok : Nat → List α × List Int → Prop} {s : aV α} (h : h8 o ok s) (aE : 4 ≤ s.ph) : sT o ok s ∨ A7 o ok s := by
 obtain ⟨_, aO | aO | aO | aO | aO | aO⟩ := h
 ·have := aO.ph; omega
 ·have := aO.ph; omega
 ·have := aO.ph; omega
 ·have := aO.ph; omega
 ·exact .inl aO
 ·exact .inr aO
theorem abN {o : cU α} {ok : Nat → List α × List Int → Prop} {s : aV α} (h : sT o ok s) {a b : Nat} {l m : α × α} (aJ : (aW s.ch)[a]? = some l) (ab : (aW s.ch)[b]? = some m) (jm : a < b) : o.cut l m = none :=
 h.abM a b l m aJ ab jm (.inl (bM.1 aJ).1)
theorem Vq {N : Int → Rat → α → Prop} {p q : α} (hp : N 1 0 p) (al : N 1 1 q) : rK N 0 (hx p q).1 (hx p q).2 := by
 unfold hx
 split
 ·trivial
 ·exact ⟨1, by decide, Rat.le_refl, hp, al, trivial⟩
theorem Wk {o : cU α} {ok : Nat → List α × List Int → Prop} (af : j9 o ok) (aw : 0 < o.R) {n : Nat} (ax : 8 * (o.R + 2) * ((o.n * o.R + 1) * (o.n * o.R + 1)) ≤ n) : h8 o ok (lz o n (fB o)) ∧ (sT o ok (lz o n (fB o)) ∨ A7 o ok (lz o n (fB o))) := by
 have h := CP af n (vB o ok);exact ⟨h.1, LK h.1 (h.2 (ha (abH o aw) ax))⟩
end Go.Proofs.YtbcecodakfejaaaGreat.bu
