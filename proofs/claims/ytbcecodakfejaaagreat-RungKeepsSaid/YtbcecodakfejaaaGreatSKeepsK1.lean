/-
  My own texts, without what this claim does not need. My own text.
-/
import Derived.Tactics
import Derived.IntWalk
import Derived.ProofKit
import Derived.WalkKit
import Derived.WalkSpells
import Derived.Lib.Hide
import Derived.BigQuiet
import Derived.BigGuardPart
import Derived.Deep.RegionHeld3
import Derived.Test.YtbcecodakfejaaaGreatRows
set_option maxRecDepth 100000
set_option maxHeartbeats 64000000
set_option linter.unusedVariables false
set_option linter.unusedSimpArgs false
set_option linter.unusedSectionVars false
open Go.Proofs.Tryz renaming prog → ag
namespace Go.Proofs.YtbcecodakfejaaaGreat
theorem bL : type_of% @List.getElem?_eq_some_iff := @List.getElem?_eq_some_iff
theorem bN : type_of% @List.getElem?_eq_getElem := @List.getElem?_eq_getElem
theorem cd : type_of% @decide_eq_true := @decide_eq_true
theorem cg : type_of% @decide_eq_true_eq := @decide_eq_true_eq
theorem cA : type_of% @decide_eq_false := @decide_eq_false
theorem cB : type_of% @List.all_eq_true := @List.all_eq_true
theorem cO : type_of% @List.length_append := @List.length_append
theorem c6 : type_of% @Bool.and_eq_true := @Bool.and_eq_true
theorem dc : type_of% @List.mem_of_getElem? := @List.mem_of_getElem?
theorem dA : type_of% @Nat.le_of_ble_eq_true := @Nat.le_of_ble_eq_true
theorem dI : type_of% @Nat.le_refl := @Nat.le_refl
theorem dJ : type_of% @Nat.zero_le := @Nat.zero_le
theorem dL : type_of% @List.getElem?_map := @List.getElem?_map
theorem ei : type_of% @List.length_take := @List.length_take
theorem fl : type_of% @List.mem_cons := @List.mem_cons
theorem fJ : type_of% @List.getElem?_take_of_lt := @List.getElem?_take_of_lt
theorem fY : type_of% @List.getElem?_drop := @List.getElem?_drop
theorem fZ : type_of% @List.getElem?_append_left := @List.getElem?_append_left
theorem ga : type_of% @Int.mul_nonneg := @Int.mul_nonneg
theorem gq : type_of% @Int.mul_comm := @Int.mul_comm
theorem gF : type_of% @List.getD_eq_getElem?_getD := @List.getD_eq_getElem?_getD
theorem gK : type_of% @Nat.lt_or_ge := @Nat.lt_or_ge
theorem gL : type_of% @Nat.eq_of_beq_eq_true := @Nat.eq_of_beq_eq_true
theorem gM : type_of% @List.getElem?_append_right := @List.getElem?_append_right
theorem gV : type_of% @List.mem_map := @List.mem_map
theorem hr : type_of% @Option.map_some := @Option.map_some
theorem ht : type_of% @Nat.le_trans := @Nat.le_trans
theorem hx : type_of% @List.mem_singleton := @List.mem_singleton
theorem hK : type_of% @List.append_assoc := @List.append_assoc
theorem hL : type_of% @Int.pow_pos := @Int.pow_pos
theorem h0 : type_of% @List.mem_append := @List.mem_append
theorem h4 : type_of% @List.take_of_length_le := @List.take_of_length_le
theorem iC : type_of% @List.length_drop := @List.length_drop
theorem iD : type_of% @List.length_map := @List.length_map
theorem iT : type_of% @Option.some.injEq := @Option.some.injEq
theorem jj : type_of% @List.length_cons := @List.length_cons
theorem jJ : type_of% @List.map_cons := @List.map_cons
theorem jK : type_of% @List.pairwise_cons := @List.pairwise_cons
theorem j1 : type_of% @List.getElem?_of_mem := @List.getElem?_of_mem
theorem j2 : type_of% @Array.getElem?_eq_some_iff := @Array.getElem?_eq_some_iff
theorem j3 : type_of% @Nat.zero_add := @Nat.zero_add
theorem j4 : type_of% @Nat.zero_lt_succ := @Nat.zero_lt_succ
theorem j5 : type_of% @Int.mul_assoc := @Int.mul_assoc
theorem kq : type_of% @decide_eq_false_iff_not := @decide_eq_false_iff_not
theorem kr : type_of% @List.take_append_drop := @List.take_append_drop
theorem ks : type_of% @List.eq_nil_of_length_eq_zero := @List.eq_nil_of_length_eq_zero
theorem kt : type_of% @List.all_cons := @List.all_cons
theorem ku : type_of% @Prod.ext := @Prod.ext
theorem kR : type_of% @Bool.eq_iff_iff := @Bool.eq_iff_iff
theorem kS : type_of% @Nat.add_mul := @Nat.add_mul
theorem kT : type_of% @Nat.mul_le_mul_right := @Nat.mul_le_mul_right
theorem kU : type_of% @Option.bind_some := @Option.bind_some
theorem kV : type_of% @Rat.mul_nonneg := @Rat.mul_nonneg
theorem lc : type_of% @Option.some.inj := @Option.some.inj
theorem ld : type_of% @Int.toNat_natCast := @Int.toNat_natCast
theorem lf : type_of% @Int.le_of_lt := @Int.le_of_lt
theorem lI : type_of% @List.mem_cons_self := @List.mem_cons_self
theorem lJ : type_of% @List.getElem?_eq_none := @List.getElem?_eq_none
theorem lK : type_of% @Int.mul_le_mul_of_nonneg_right := @Int.mul_le_mul_of_nonneg_right
theorem me : type_of% @List.append_nil := @List.append_nil
theorem mL : type_of% @Int.eq_ofNat_of_zero_le := @Int.eq_ofNat_of_zero_le
theorem mM : type_of% @List.take_succ_eq_append_getElem := @List.take_succ_eq_append_getElem
theorem nm : type_of% @List.drop_eq_getElem_cons := @List.drop_eq_getElem_cons
theorem nn : type_of% @List.mem_of_mem_drop := @List.mem_of_mem_drop
theorem np : type_of% @List.map_congr_left := @List.map_congr_left
theorem nr : type_of% @List.all_nil := @List.all_nil
theorem n2 : type_of% @List.mem_of_mem_take := @List.mem_of_mem_take
theorem n3 : type_of% @Bool.false_eq_true := @Bool.false_eq_true
theorem n4 : type_of% @Int.emod_lt_of_pos := @Int.emod_lt_of_pos
theorem n5 : type_of% @Int.pow_succ := @Int.pow_succ
theorem n6 : type_of% @Int.ediv_nonneg := @Int.ediv_nonneg
theorem oI : type_of% @Int.le_refl := @Int.le_refl
theorem oJ : type_of% @Bool.or_eq_true := @Bool.or_eq_true
theorem oK : type_of% @Nat.add_comm := @Nat.add_comm
theorem oL : type_of% @Int.emod_nonneg := @Int.emod_nonneg
theorem oM : type_of% @Int.le_ediv_iff_mul_le := @Int.le_ediv_iff_mul_le
theorem oN : type_of% @Bool.true_and := @Bool.true_and
theorem pJ : type_of% @List.mem_cons_of_mem := @List.mem_cons_of_mem
theorem pK : type_of% @List.not_mem_nil := @List.not_mem_nil
theorem pL : type_of% @List.mem_range := @List.mem_range
theorem pM : type_of% @Nat.add_assoc := @Nat.add_assoc
theorem pN : type_of% @List.foldl_cons := @List.foldl_cons
theorem pO : type_of% @Int.mul_le_mul_of_nonneg_left := @Int.mul_le_mul_of_nonneg_left
theorem pP : type_of% @Nat.min_eq_left := @Nat.min_eq_left
theorem pQ : type_of% @Int.lt_or_le := @Int.lt_or_le
theorem pR : type_of% @Prod.mk.injEq := @Prod.mk.injEq
theorem qQ : type_of% @Nat.lt_of_lt_of_le := @Nat.lt_of_lt_of_le
theorem qR : type_of% @List.map_append := @List.map_append
theorem qS : type_of% @Int.mul_ediv_add_emod := @Int.mul_ediv_add_emod
theorem qT : type_of% @List.drop_drop := @List.drop_drop
theorem r5 : type_of% @Int.le_antisymm := @Int.le_antisymm
theorem tp : type_of% @List.mem_filter := @List.mem_filter
theorem tq : type_of% @Nat.eq_zero_or_pos := @Nat.eq_zero_or_pos
theorem tr : type_of% @Int.mul_eq_zero := @Int.mul_eq_zero
theorem ts : type_of% @Option.map_none := @Option.map_none
theorem tu : type_of% @Int.mul_le_mul := @Int.mul_le_mul
theorem tv : type_of% @Rat.intCast_add := @Rat.intCast_add
theorem u0 : type_of% @Array.getElem?_modify := @Array.getElem?_modify
theorem u1 : type_of% @Bool.not_eq_true' := @Bool.not_eq_true'
theorem u2 : type_of% @List.getElem?_cons_zero := @List.getElem?_cons_zero
theorem uX : type_of% @List.getElem?_range := @List.getElem?_range
theorem uY : type_of% @List.any_eq_true := @List.any_eq_true
theorem uZ : type_of% @List.drop_of_length_le := @List.drop_of_length_le
theorem yn : type_of% @Array.getElem?_eq_none := @Array.getElem?_eq_none
theorem yo : type_of% @Int.ediv_ediv_of_nonneg := @Int.ediv_ediv_of_nonneg
theorem A9 : type_of% @List.take_append_of_le_length := @List.take_append_of_le_length
end Go.Proofs.YtbcecodakfejaaaGreat
namespace Go.Proofs.YtbcecodakfejaaaGreat
theorem iY : (∀ b : Bool, ((!b) = true) = (b = false)) ∧ (∀ b : Bool, ((!b) = false) = (b = true)) ∧ (∀ (p : Prop) [Decidable p], (decide p = true) = p) ∧ ∀ (p : Prop) [Decidable p], (decide p = false) = ¬ p := ⟨by simp, by simp, by simp, by simp⟩
end Go.Proofs.YtbcecodakfejaaaGreat
namespace Go.Proofs.YtbcecodakfejaaaGreat
structure qb (Q : Prop) : Prop where
  h : Q
theorem gu {P Q : Prop} (k : Q) (h : qb Q → P := by intro q; (first | ((with_reducible apply Cp); exact rfl) | ((with_reducible apply Wh); (iterate 5 exact rfl)) | ((with_reducible apply Wi); (iterate 5 exact rfl)) | ((with_reducible apply V7); (iterate 3 exact rfl)) | ((with_reducible apply Wb); (iterate 3 exact rfl); (first | decide | omega); (first | decide | omega); (first | assumption | exact rfl); exact rfl) | ((with_reducible apply LW); (iterate 3 exact rfl); omega; omega; exact rfl) | ((with_reducible apply Wu); (iterate 3 exact rfl)) | ((with_reducible apply VY); (iterate 4 exact rfl)) | ((with_reducible apply VX); (iterate 4 exact rfl)) | ((with_reducible apply Ws); (iterate 4 exact rfl)) | ((with_reducible apply VO); (iterate 3 exact rfl); (first | exact k9 (by omega) | assumption | rfl); exact rfl) | ((with_reducible apply WG); (iterate 3 exact rfl); (first | exact k9 (by omega) | assumption | rfl); exact rfl) | ((with_reducible apply Wp); (iterate 3 exact rfl); (first | exact k9 (by omega) | assumption | rfl); exact rfl) | ((with_reducible apply Wq); exact rfl; exact rfl; (first | exact k9 (by omega) | assumption | rfl); exact rfl) | ((with_reducible apply ajJ); (iterate 3 exact rfl); (first | assumption | omega); (first | assumption | omega); exact rfl) | ((with_reducible apply VW); exact rfl; exact rfl; (first | exact k9 (by omega) | assumption | rfl); exact rfl) | ((with_reducible apply Wl); (iterate 4 exact rfl)) | ((with_reducible apply Wk); (iterate 4 exact rfl)) | ((with_reducible apply LX); (iterate 3 exact rfl)) | ((with_reducible apply WC); (iterate 3 exact rfl); (first | assumption | omega); (first | assumption | omega); (first | assumption | exact rfl); (first | assumption | exact rfl); exact rfl) | ((with_reducible apply ajK); (iterate 3 exact rfl); (first | assumption | omega); (first | assumption | omega); (first | assumption | exact rfl); (first | assumption | exact rfl); exact rfl) | ((with_reducible apply WD); (iterate 4 exact rfl); (first | assumption | omega); (first | assumption | omega); (first | assumption | omega); (first | assumption | exact rfl); (first | assumption | exact rfl); exact rfl) | ((with_reducible apply VT); (iterate 10 exact rfl)) | ((with_reducible apply ajG); exact rfl; exact (fun W => rfl); exact rfl) | ((with_reducible apply Wn); (iterate 4 exact rfl)) | ((with_reducible apply V5); (iterate 4 exact rfl)) | ((with_reducible apply ajE); (iterate 4 exact rfl)) | ((with_reducible apply ajF); (iterate 3 exact rfl); (first | decide | omega); (first | decide | omega); (first | assumption | exact rfl); exact rfl) | ((with_reducible apply Wd); (iterate 3 exact rfl); (first | decide | omega); (first | decide | omega); (first | assumption | exact rfl); exact rfl) | ((with_reducible apply ajC); (iterate 4 exact rfl)) | ((with_reducible apply V1); (iterate 3 exact rfl)) | ((with_reducible apply V2); exact rfl; exact rfl; kernel_rfl; exact rfl) | ((with_reducible apply ajH); exact rfl; exact rfl; kernel_rfl; exact rfl) | ((with_reducible apply ajD); exact rfl; exact rfl; kernel_rfl; exact rfl) | ((with_reducible apply ajI); exact rfl; exact rfl; kernel_rfl; exact rfl) | ((with_reducible apply Wv); (iterate 3 exact rfl)) | ((with_reducible apply V8); (iterate 3 exact rfl)) | ((with_reducible apply vy); (iterate 5 exact rfl); (intro W; go_simp; try rfl); (intro W; go_simp; try rfl); exact rfl; exact rfl) | ((with_reducible apply L0); exact rfl; exact rfl; (intro W; go_simp; try rfl); exact rfl; exact rfl) | ((with_reducible apply LU); exact rfl; exact rfl; (intro W; go_simp; try rfl); exact rfl; exact rfl)); (with_reducible exact q.h)) : P := h ⟨k⟩
theorem dv {P Q : Prop} (k : Q) (h : qb Q → P := by intro q; (first | refine gu ?_ | ((with_reducible apply LY); kernel_rfl) | ((with_reducible apply Mg); kernel_rfl; kernel_rfl; exact rfl) | (with_reducible first | apply Mi | apply L7 | apply Mf | apply fC | apply Mh | apply Mj | apply WR | apply WT | apply Vz | apply VA | apply VB | apply WV | apply WQ | apply ajL | apply ahh) | ((with_reducible apply ajA); exact rfl) | ((with_reducible apply Md); exact rfl) | ((with_reducible apply Mc); exact rfl) | ((with_reducible apply WU); exact rfl; (first | assumption | exact cd (by omega) | (simp only [iY]; (first | done | omega)) | exact rfl)) | ((with_reducible apply Ma); exact rfl; (first | assumption | exact cA (by omega) | (simp only [iY]; (first | done | omega)) | exact rfl))); (with_reducible exact q.h)) : P := h ⟨k⟩
theorem eF {P Q : Prop} (k : Q) (h : qb Q → P := by intro q; (repeat refine dv ?_); (with_reducible exact q.h)) : P := h ⟨k⟩
theorem ff {P Q A : Prop} (c : A) (k : Q) (h : A → qb Q → P := by intro c q; (first | refine LQ rfl rfl (by exact c) rfl ?_ | refine GG rfl rfl rfl (by exact c) rfl ?_ | refine GH rfl rfl rfl rfl (by exact c) rfl ?_ | refine GI rfl rfl rfl rfl rfl (by exact c) rfl ?_ | refine LR rfl rfl rfl rfl rfl rfl (by exact c) rfl ?_ | refine LS rfl rfl rfl rfl rfl rfl rfl (by exact c) rfl ?_ | refine tS (bs := [_]) (args := []) rfl rfl rfl rfl (by exact c) rfl ?_ | refine tS (bs := [_]) (args := [_]) rfl rfl rfl rfl (by exact c) rfl ?_ | refine tS (bs := [_]) (args := [_, _]) rfl rfl rfl rfl (by exact c) rfl ?_ | refine tS (bs := [_]) (args := [_, _, _]) rfl rfl rfl rfl (by exact c) rfl ?_ | refine tR (args := []) rfl rfl rfl (by exact c) rfl ?_ | refine tR (args := [_]) rfl rfl rfl (by exact c) rfl ?_ | refine tR (args := [_, _]) rfl rfl rfl (by exact c) rfl ?_ | refine tR (args := [_, _, _]) rfl rfl rfl (by exact c) rfl ?_); (with_reducible exact q.h)) : P := h c ⟨k⟩
theorem e7 {P Q : Prop} (k : Q) (h : qb Q → P := by intro q; (first | refine LQ rfl rfl (by first | with_reducible assumption | assumption) rfl ?_ | refine GG rfl rfl rfl (by first | with_reducible assumption | assumption) rfl ?_ | refine GH rfl rfl rfl rfl (by first | with_reducible assumption | assumption) rfl ?_ | refine GI rfl rfl rfl rfl rfl (by first | with_reducible assumption | assumption) rfl ?_ | refine LR rfl rfl rfl rfl rfl rfl (by first | with_reducible assumption | assumption) rfl ?_ | refine LS rfl rfl rfl rfl rfl rfl rfl (by first | with_reducible assumption | assumption) rfl ?_ | refine tS (bs := [_]) (args := []) rfl rfl rfl rfl (by first | with_reducible assumption | assumption) rfl ?_ | refine tS (bs := [_]) (args := [_]) rfl rfl rfl rfl (by first | with_reducible assumption | assumption) rfl ?_ | refine tS (bs := [_]) (args := [_, _]) rfl rfl rfl rfl (by first | with_reducible assumption | assumption) rfl ?_ | refine tS (bs := [_]) (args := [_, _, _]) rfl rfl rfl rfl (by first | with_reducible assumption | assumption) rfl ?_ | refine tR (args := []) rfl rfl rfl (by first | with_reducible assumption | assumption) rfl ?_ | refine tR (args := [_]) rfl rfl rfl (by first | with_reducible assumption | assumption) rfl ?_ | refine tR (args := [_, _]) rfl rfl rfl (by first | with_reducible assumption | assumption) rfl ?_ | refine tR (args := [_, _, _]) rfl rfl rfl (by first | with_reducible assumption | assumption) rfl ?_); (with_reducible exact q.h)) : P := h ⟨k⟩
theorem bS {P Q : Prop} (k : Q) (h : qb Q → P := by intro q; (repeat (first | refine dv ?_ | refine e7 ?_)); (with_reducible exact q.h)) : P := h ⟨k⟩
theorem cG {P Q : Prop} (k : Q) (h : qb Q → P := by intro q; (first | ((with_reducible apply fX); exact rfl; (with_reducible apply Cp); exact rfl; with_reducible apply fC) | ((with_reducible apply aaY); kernel_rfl) | (with_reducible first | apply Kn | apply Tc | apply Tk | apply Pc | apply ahL | apply Tl | apply ahw | apply ahI | apply agS | apply agT | apply agU | apply ahK | apply ahv | apply alw) | ((with_reducible apply alv); exact rfl) | ((with_reducible apply ahJ); exact rfl; (first | assumption | exact cd (by omega) | (simp only [iY]; (first | done | omega)) | exact rfl)) | ((with_reducible apply Ti); exact rfl; (first | assumption | exact cA (by omega) | (simp only [iY]; (first | done | omega)) | exact rfl)) | ((with_reducible apply fX); exact rfl; (repeat refine gu ?_); with_reducible apply fC)); (with_reducible exact q.h)) : P := h ⟨k⟩
theorem bc {P Q : Prop} (k : Q) (h : qb Q → P := by intro q; (repeat refine cG ?_); (with_reducible exact q.h)) : P := h ⟨k⟩
theorem iF {P Q : Prop} (k : Q) (h : qb Q → P := by intro q; ((with_reducible apply fX); exact rfl; (repeat (first | refine gu ?_ | refine e7 ?_)); with_reducible apply fC); (with_reducible exact q.h)) : P := h ⟨k⟩
theorem oV {P Q : Prop} (k : Q) (h : qb Q → P := by intro q; (repeat (first | refine cG ?_ | refine iF ?_)); (with_reducible exact q.h)) : P := h ⟨k⟩
theorem alK {P Q A : Prop} (c : A) (k : Q) (h : A → qb Q → P := by intro c q; ((with_reducible apply fX); exact rfl; (repeat (first | refine ff c ?_ | refine gu ?_)); with_reducible apply fC); (with_reducible exact q.h)) : P := h c ⟨k⟩
end Go.Proofs.YtbcecodakfejaaaGreat
namespace Go.Proofs.YtbcecodakfejaaaGreat
open Go.RowKit
@[go_sem] theorem ak8 (w : World) (a b : Addr) (v : Value) : ((w.setCell a v).cell? b).isSome = (w.cell? b).isSome := by
  unfold World.setCell World.cell?;simp only [u0]
  by_cases e : a.block = b.block
  · rw [if_pos e]
    cases w.heap[b.block]? with
    | none => rfl
    | some o =>
      cases o <;> simp only [hr]
      by_cases s : a.spot.isSome = true
      · simp [s]
      · by_cases t : b.spot.isSome = true
        · simp [t]
        · simp only [if_neg s, if_neg t]
          rw [Array.getElem?_setIfInBounds]
          split
          · rename_i h1
            rw [← h1]
            split
            · rename_i h2; simp [h2]
            · rename_i h2; simp [h2]
          · rfl
  · rw [if_neg e]
theorem e5 {w W w1 : World} (h : Below w.heap.size w W) (ab : Below W.heap.size W w1) : Below w.heap.size w w1 := h.trans (ab.mono h.size)
theorem dX {w W : World} (h : Below w.heap.size w W) (o : Obj) : Below w.heap.size w (W.alloc o) := h.alloc h.size o
theorem hO {w W : World} (h : Below w.heap.size w W) (b o : Nat) (v : Value) (ab : w.heap.size ≤ b) : Below w.heap.size w (W.setCell ⟨b, o, none⟩ v) := h.setCell (p := ⟨b, o, none⟩) ab v
def c8 (w : World) (b : Nat) (u v : Value) : Prop := (w.cell? ⟨b, 0, none⟩ = some u ∧ w.cell? ⟨b, 1, none⟩ = some v) ∧ (w.frozen? ⟨b, 0, none⟩ = false ∧ w.frozen? ⟨b, 1, none⟩ = false)
theorem c8.lt {w : World} {b : Nat} {u v : Value} (h : c8 w b u v) : b < w.heap.size := World.block_lt_of_cell? w _ h.1.1
theorem c8.call {W w1 : World} {b : Nat} {u v : Value} (h : c8 W b u v) (ab : Below W.heap.size W w1) : c8 w1 b u v := by
  have hl := h.lt;obtain ⟨⟨h1, h2⟩, h3, aD⟩ := h;exact ⟨⟨(ab.cell (p := ⟨b, 0, none⟩) hl).trans h1, (ab.cell (p := ⟨b, 1, none⟩) hl).trans h2⟩, (ab.frozen (p := ⟨b, 0, none⟩) hl).trans h3, (ab.frozen (p := ⟨b, 1, none⟩) hl).trans aD⟩
theorem c8.alloc {W : World} {b : Nat} {u v : Value} (h : c8 W b u v) (o : Obj) : c8 (W.alloc o) b u v := h.call ((Below.refl _ _).alloc (dI _) o)
theorem c8.drew {W : World} {b : Nat} {u v : Value} (h : c8 W b u v) : c8 W.drew b u v := h.call ((Below.refl _ _).drew)
theorem c8.new {W : World} {b : Nat} {u v : Value} {t : TypeId} (e : b = W.heap.size) : c8 (W.alloc (.cells #[u, v] t)) b u v := by
  subst e;unfold c8
  go_simp
theorem c8.set {W : World} {b g : Nat} {u v x : Value} (h : c8 W b u v) (o : Nat) (ne : g ≠ b) : c8 (W.setCell ⟨g, o, none⟩ x) b u v := by
  obtain ⟨⟨h1, h2⟩, h3, aD⟩ := h;have gp : (⟨g, o, none⟩ : Addr) ≠ ⟨b, 0, none⟩ := fun e => ne (congrArg Addr.block e);have cE : (⟨g, o, none⟩ : Addr) ≠ ⟨b, 1, none⟩ := fun e => ne (congrArg Addr.block e);refine ⟨⟨?_, ?_⟩, ?_, ?_⟩
  · rw [World.cell?_setCell_other _ _ _ _ gp]; exact h1
  · rw [World.cell?_setCell_other _ _ _ _ cE]; exact h2
  · go_simp
  · go_simp
def vm (w : World) (b : Nat) : Prop := ((w.cell? ⟨b, 0, none⟩).isSome = true ∧ (w.cell? ⟨b, 1, none⟩).isSome = true) ∧ (w.frozen? ⟨b, 0, none⟩ = false ∧ w.frozen? ⟨b, 1, none⟩ = false)
theorem vm.of {W : World} {b : Nat} {u v : Value} (h : c8 W b u v) : vm W b := by
  obtain ⟨⟨h1, h2⟩, h3, aD⟩ := h;exact ⟨⟨by rw [h1]; rfl, by rw [h2]; rfl⟩, h3, aD⟩
theorem vm.box {W : World} {b : Nat} (h : vm W b) : ∃ u v, c8 W b u v := by
  obtain ⟨⟨h1, h2⟩, h3, aD⟩ := h;obtain ⟨u, hu⟩ := Option.isSome_iff_exists.1 h1;obtain ⟨v, hv⟩ := Option.isSome_iff_exists.1 h2;exact ⟨u, v, ⟨hu, hv⟩, h3, aD⟩
theorem c8.put {W : World} {b : Nat} {oQ v' : Value} (h : vm W b) : c8 ((W.setCell ⟨b, 0, none⟩ oQ).setCell ⟨b, 1, none⟩ v') b oQ v' := by
  obtain ⟨u, v, k⟩ := h.box;obtain ⟨⟨h1, h2⟩, h3, aD⟩ := k;unfold c8
  go_simp
theorem M5 {p q : Prop} (h : p) (k : p → q) : q := k h
def fS (a b c d : Int) : Bool := a == c && b == d
theorem NB (a b c d : Int) (w : World) : (Op.equalIn 10000 146 (.agg #[.int .i64 a, .int .u64 b]) (.agg #[.int .i64 c, .int .u64 d])).run ag w = .ok (fS a b c d) w := by
  unfold fS
  go_simp
  by_cases h : a = c <;> by_cases k : b = d <;> simp [h, k]
@[go_sem ↓ high] theorem akh (a b c d : Int) (w : World) : (binOp .eql 146 (.agg #[.int .i64 a, .int .u64 b]) (.agg #[.int .i64 c, .int .u64 d])).run ag w = .ok (.bool (fS a b c d)) w := by
  rw [run_eql_struct, NB]; rfl
@[go_sem ↓ high] theorem aln (a b c d : Int) (w : World) : (binOp .neq 146 (.agg #[.int .i64 a, .int .u64 b]) (.agg #[.int .i64 c, .int .u64 d])).run ag w = .ok (.bool (!fS a b c d)) w := by
  rw [run_neq_struct, NB]; rfl
theorem Ys (a b c d : Int) (w : World) : (Op.equalIn 10000 250 (.agg #[.int .u64 a, .int .u64 b]) (.agg #[.int .u64 c, .int .u64 d])).run ag w = .ok (fS a b c d) w := by
  unfold fS
  go_simp
  by_cases h : a = c <;> by_cases k : b = d <;> simp [h, k]
@[go_sem ↓ high] theorem alm (a b c d : Int) (w : World) : (binOp .neq 250 (.agg #[.int .u64 a, .int .u64 b]) (.agg #[.int .u64 c, .int .u64 d])).run ag w = .ok (.bool (!fS a b c d)) w := by
  rw [run_neq_struct, Ys]; rfl
def c0 (H L n : Int) : Prop := (-9223372036854775808 ≤ H ∧ H < 9223372036854775808) ∧ (0 ≤ L ∧ L < 18446744073709551616) ∧ n = H * 18446744073709551616 + L
def dR (H L n : Int) : Prop := (0 ≤ H ∧ H < 18446744073709551616) ∧ (0 ≤ L ∧ L < 18446744073709551616) ∧ n = H * 18446744073709551616 + L
def wr (n : Int) : Int := (n + 170141183460469231731687303715884105728) % 340282366920938463463374607431768211456 - 170141183460469231731687303715884105728
def fits (n : Int) : Bool := decide (-170141183460469231731687303715884105728 ≤ n ∧ n < 170141183460469231731687303715884105728)
def Gs (n : Int) (w : World) (e : Ending) (w' : World) : Prop := ∃ H L, e = .returned (.agg #[.int .i64 H, .int .u64 L]) ∧ c0 H L n ∧ Below w.heap.size w w'
def p8 (n : Int) (w : World) (e : Ending) (w' : World) : Prop := ∃ H L, e = .returned (.tuple #[.agg #[.int .i64 H, .int .u64 L], .bool (fits n)]) ∧ c0 H L (if fits n then n else 0) ∧ Below w.heap.size w w'
def aT (n : Int) (w : World) (e : Ending) (w' : World) : Prop := ∃ H L, e = .returned (.agg #[.int .u64 H, .int .u64 L]) ∧ dR H L n ∧ Below w.heap.size w w'
def ll (v : Value) (w : World) (e : Ending) (w' : World) : Prop := e = .returned v ∧ Below w.heap.size w w'
def bR (n m : Int) : Int := if n = m then 0 else if n < m then -1 else 1
theorem x3 : c0 0 0 0 := by unfold c0; omega
theorem c0.fits {H L n : Int} (h : c0 H L n) : fits n = true := by
  obtain ⟨a, b, rfl⟩ := h;unfold Proofs.YtbcecodakfejaaaGreat.fits;rw [cg];omega
theorem c0.neg {H L n : Int} (h : c0 H L n) : H < 0 ↔ n < 0 := by
  obtain ⟨a, b, rfl⟩ := h;omega
theorem c0.fS {H L yM L' n m : Int} (h : c0 H L n) (k : c0 yM L' m) : fS H L yM L' = decide (n = m) := by
  obtain ⟨a, b, rfl⟩ := h;obtain ⟨c, d, rfl⟩ := k;unfold Proofs.YtbcecodakfejaaaGreat.fS;rw [kR];simp only [c6, beq_iff_eq, cg];omega
theorem dR.fS {H L yM L' n m : Int} (h : dR H L n) (k : dR yM L' m) : fS H L yM L' = decide (n = m) := by
  obtain ⟨a, b, rfl⟩ := h;obtain ⟨c, d, rfl⟩ := k;unfold Proofs.YtbcecodakfejaaaGreat.fS;rw [kR];simp only [c6, beq_iff_eq, cg];omega
theorem AB : dR 0 0 0 := by unfold dR; omega
theorem K0 {n : Int} (h : fits n = true) : wr n = n := by
  unfold Proofs.YtbcecodakfejaaaGreat.fits at h;unfold wr;rw [cg] at h;omega
theorem tz {n H L : Int} {w w' : World} (h : fits n = true) (k : c0 H L n) (b : Below w.heap.size w w') : p8 n w (.returned (.tuple #[.agg #[.int .i64 H, .int .u64 L], .bool true])) w' := ⟨H, L, by rw [h], by rw [h]; exact k, b⟩
theorem Bm {n : Int} {w w' : World} (h : fits n = false) (b : Below w.heap.size w w') : p8 n w (.returned (.tuple #[.agg #[.int .i64 0, .int .u64 0], .bool false])) w' := ⟨0, 0, by rw [h], by rw [h]; exact x3, b⟩
theorem Ck (x y c : Int) (aa : 0 ≤ x) (ai : 0 ≤ y) (vR : 0 ≤ c) (aj : c ≤ 1) (w : World) :
    (callFunc 207 #[.int .u64 x, .int .u64 y, .int .u64 c]).run ag w =
      .ok (.value (.tuple #[.int .u64 ((x + y + c) % 18446744073709551616), .int .u64 ((x + y + c) / 18446744073709551616)])) w := by
  rw [run_callFunc_extern Tryz.func207 (by kernel_rfl) (by kernel_rfl) (by kernel_rfl) (e := add64Entry) (by kernel_rfl), run_add64 x y c aa ai vR aj];rfl
def TA : Array Value → Sem Value := fun args => do
  let (x, y, b) ← Extern.MathBitsCarry.three "Sub64" args
  pure (Extern.MathBitsCarry.pair ((x + Extern.MathBitsCarry.m64 - y - b) % Extern.MathBitsCarry.m64) (if x < y + b then 1 else 0))
theorem ahF {P : Program} (x y b : Nat) (ab : b ≤ 1) (w : World) :
    (TA #[.int .u64 x, .int .u64 y, .int .u64 b]).run P w =
      .ok (.tuple #[.int .u64 (((x + 18446744073709551616 - y - b) % 18446744073709551616 : Nat) : Int), .int .u64 ((if x < y + b then 1 else 0 : Nat) : Int)]) w := by
  have : b = 0 ∨ b = 1 := by omega
  rcases this with rfl | rfl <;> rfl
theorem FI (x y c : Int) (aa : 0 ≤ x) (IU : x < 18446744073709551616) (ai : 0 ≤ y) (IX : y < 18446744073709551616) (vR : 0 ≤ c) (aj : c ≤ 1) (w : World) :
    (callFunc 193 #[.int .u64 x, .int .u64 y, .int .u64 c]).run ag w =
      .ok (.value (.tuple #[.int .u64 ((x - y - c) % 18446744073709551616), .int .u64 (-((x - y - c) / 18446744073709551616))])) w := by
  obtain ⟨X, rfl⟩ := mL aa;obtain ⟨Y, rfl⟩ := mL ai;obtain ⟨C, rfl⟩ := mL vR;rw [run_callFunc_extern Tryz.func193 (by kernel_rfl) (by kernel_rfl) (by kernel_rfl) (e := TA) (by kernel_rfl), ahF X Y C (by omega)];simp only [Result.andThen];have aG : (((X + 18446744073709551616 - Y - C) % 18446744073709551616 : Nat) : Int) = ((X : Int) - Y - C) % 18446744073709551616 := by omega
  have aO : ((if X < Y + C then 1 else 0 : Nat) : Int) = -(((X : Int) - Y - C) / 18446744073709551616) := by split <;> omega
  rw [aG, aO]
theorem agp (h1 l1 h2 l2 : Int) (b1 : -9223372036854775808 ≤ h1 ∧ h1 < 9223372036854775808) (b2 : 0 ≤ l1 ∧ l1 < 18446744073709551616)
   (ee : -9223372036854775808 ≤ h2 ∧ h2 < 9223372036854775808) (dO : 0 ≤ l2 ∧ l2 < 18446744073709551616) :
   c0 (wrap64 ((IntKind.u64.wrap h1 + IntKind.u64.wrap h2 + (l1 + l2 + 0) / 18446744073709551616) % 18446744073709551616)) ((l1 + l2 + 0) % 18446744073709551616) (wr ((h1 * 18446744073709551616 + l1) + (h2 * 18446744073709551616 + l2))) := by
  unfold c0 wr wrap64;rw [IntKind.wrap_u64, IntKind.wrap_u64];omega
theorem adl (h1 l1 h2 l2 : Int) (b1 : -9223372036854775808 ≤ h1 ∧ h1 < 9223372036854775808) (b2 : 0 ≤ l1 ∧ l1 < 18446744073709551616)
   (ee : -9223372036854775808 ≤ h2 ∧ h2 < 9223372036854775808) (dO : 0 ≤ l2 ∧ l2 < 18446744073709551616) :
   c0 (wrap64 ((IntKind.u64.wrap h1 - IntKind.u64.wrap h2 - -((l1 - l2 - 0) / 18446744073709551616)) % 18446744073709551616)) ((l1 - l2 - 0) % 18446744073709551616) (wr ((h1 * 18446744073709551616 + l1) - (h2 * 18446744073709551616 + l2))) := by
  unfold c0 wr wrap64;rw [IntKind.wrap_u64, IntKind.wrap_u64];omega
theorem wT (h : Int) : 0 ≤ IntKind.u64.wrap h ∧ IntKind.u64.wrap h < 18446744073709551616 := by rw [IntKind.wrap_u64]; omega
theorem R9 (h1 l1 h2 l2 n m : Int) (w : World) (H1 : c0 h1 l1 n) (dd : c0 h2 l2 m) :
    Calls ag 213 #[.agg #[.int .i64 h1, .int .u64 l1], .agg #[.int .i64 h2, .int .u64 l2]] w (Gs (wr (n + m)) w) := by
  obtain ⟨b1, b2, rfl⟩ := H1;obtain ⟨ee, dO, rfl⟩ := dd;have hv := agp h1 l1 h2 l2 b1 b2 ee dO;have aG := fun w => Ck l1 l2 0 b2.1 dO.1 (by omega) (by omega) w;have aO := fun w => Ck (IntKind.u64.wrap h1) (IntKind.u64.wrap h2) ((l1 + l2 + 0) / 18446744073709551616) (wT h1).1 (wT h2).1 (by omega) (by omega) w;generalize (l1 + l2 + 0) / 18446744073709551616 = c at *;generalize (l1 + l2 + 0) % 18446744073709551616 = s at *;generalize (IntKind.u64.wrap h1 + IntKind.u64.wrap h2 + c) % 18446744073709551616 = s' at *;generalize (IntKind.u64.wrap h1 + IntKind.u64.wrap h2 + c) / 18446744073709551616 = c' at *;generalize (h1 * 18446744073709551616 + l1) + (h2 * 18446744073709551616 + l2) = wC at *;clear b1 b2 ee dO
  go_enter Tryz.func213, Tryz.ntmps213
  go_wp2
  refine bodyPost_ret (v := .agg #[.int .i64 (wrap64 s'), .int .u64 s]) (by simp only [results, Tryz.results213]; go_simp) rfl ⟨_, _, rfl, hv, ?_⟩;(repeat first | with_reducible exact Below.refl _ _ | with_reducible refine dX ?_ _)
theorem AU (h1 l1 h2 l2 n m : Int) (w : World) (H1 : c0 h1 l1 n) (dd : c0 h2 l2 m) :
    Calls ag 166 #[.agg #[.int .i64 h1, .int .u64 l1], .agg #[.int .i64 h2, .int .u64 l2]] w (Gs (wr (n - m)) w) := by
  obtain ⟨b1, b2, rfl⟩ := H1;obtain ⟨ee, dO, rfl⟩ := dd;have hv := adl h1 l1 h2 l2 b1 b2 ee dO;have aG := fun w => FI l1 l2 0 b2.1 b2.2 dO.1 dO.2 (by omega) (by omega) w;have aO := fun w => FI (IntKind.u64.wrap h1) (IntKind.u64.wrap h2) (-((l1 - l2 - 0) / 18446744073709551616)) (wT h1).1 (wT h1).2 (wT h2).1 (wT h2).2 (by omega) (by omega) w;generalize -((l1 - l2 - 0) / 18446744073709551616) = c at *;generalize (l1 - l2 - 0) % 18446744073709551616 = s at *;generalize (IntKind.u64.wrap h1 - IntKind.u64.wrap h2 - c) % 18446744073709551616 = s' at *;generalize -((IntKind.u64.wrap h1 - IntKind.u64.wrap h2 - c) / 18446744073709551616) = c' at *;generalize (h1 * 18446744073709551616 + l1) - (h2 * 18446744073709551616 + l2) = wC at *;clear b1 b2 ee dO
  go_enter Tryz.func166, Tryz.ntmps166
  go_wp2
  refine bodyPost_ret (v := .agg #[.int .i64 (wrap64 s'), .int .u64 s]) (by simp only [results, Tryz.results166]; go_simp) rfl ⟨_, _, rfl, hv, ?_⟩;(repeat first | with_reducible exact Below.refl _ _ | with_reducible refine dX ?_ _)
theorem Cl {h1 l1 h2 l2 gG iH n m : Int} (H1 : c0 h1 l1 n) (dd : c0 h2 l2 m) (vj : c0 gG iH (wr (n + m))) (h : ¬ (decide (h1 < 0) = decide (h2 < 0)) ∨ (!decide (gG < 0) == decide (h2 < 0)) = false) : fits (n + m) = true ∧ c0 gG iH (n + m) := by
  obtain ⟨b1, b2, rfl⟩ := H1;obtain ⟨ee, dO, rfl⟩ := dd;obtain ⟨GR, Cw, e⟩ := vj;unfold wr at e;unfold fits c0;simp only [decide_eq_decide, Bool.not_eq_false', beq_iff_eq] at h;rw [cg];omega
theorem VG {h1 l1 h2 l2 gG iH n m : Int} (H1 : c0 h1 l1 n) (dd : c0 h2 l2 m) (vj : c0 gG iH (wr (n + m))) (h : (decide (h1 < 0) = decide (h2 < 0))) (k : (!decide (gG < 0) == decide (h2 < 0)) = true) : fits (n + m) = false := by
  obtain ⟨b1, b2, rfl⟩ := H1;obtain ⟨ee, dO, rfl⟩ := dd;obtain ⟨GR, Cw, e⟩ := vj;unfold wr at e;unfold fits;simp only [decide_eq_decide, u1, beq_eq_false_iff_ne, ne_eq] at h k;rw [kq];omega
theorem T6 (h1 l1 h2 l2 n m : Int) (w : World) (H1 : c0 h1 l1 n) (dd : c0 h2 l2 m) :
    Calls ag 204 #[.agg #[.int .i64 h1, .int .u64 l1], .agg #[.int .i64 h2, .int .u64 l2]] w (p8 (n + m) w) := by
  go_enter Tryz.func204, Tryz.ntmps204
  go_wp2_with (go_at_call 213; refine (R9 _ _ _ _ _ _ _ H1 dd).mono ?_; rintro e w1 ⟨gG, iH, rfl, hs, ab⟩; have xl := Below.cell ab (p := ⟨w.heap.size, 0, none⟩) (by (simp; omega)); have xy := Below.frozen ab (p := ⟨w.heap.size, 0, none⟩) (by (simp; omega)); have xm := Below.cell ab (p := ⟨w.heap.size, 1, none⟩) (by (simp; omega)); have xz := Below.frozen ab (p := ⟨w.heap.size, 1, none⟩) (by (simp; omega)); have zg := Below.cell ab (p := ⟨w.heap.size + 1, 0, none⟩) (by (simp; done)); have zp := Below.frozen ab (p := ⟨w.heap.size + 1, 0, none⟩) (by (simp; done)); have zh := Below.cell ab (p := ⟨w.heap.size + 1, 1, none⟩) (by (simp; done)); have zq := Below.frozen ab (p := ⟨w.heap.size + 1, 1, none⟩) (by (simp; done)); have Xd := Below.cell ab (p := ⟨w.heap.size + 1 + 1, 0, none⟩) (by (simp; done)); have Yz := Below.frozen ab (p := ⟨w.heap.size + 1 + 1, 0, none⟩) (by (simp; done)); have Xe := Below.cell ab (p := ⟨w.heap.size + 1 + 1, 1, none⟩) (by (simp; done)); have YA := Below.frozen ab (p := ⟨w.heap.size + 1 + 1, 1, none⟩) (by (simp; done)); have oC := Below.size ab; (try simp at oC); have yc : ¬ w1.heap.size = w.heap.size := (by omega); have AW : ¬ w1.heap.size = w.heap.size + 1 := (by omega); have adN : ¬ w1.heap.size = w.heap.size + 1 + 1 := (by omega))
  · refine bodyPost_ret (v := .tuple #[.agg #[.int .i64 0, .int .u64 0], .bool false]) (by simp only [results, Tryz.results204]; go_simp) rfl (Bm (VG H1 dd hs ‹_› ‹_›) ?_)
    (repeat first | with_reducible exact Below.refl _ _ | with_reducible refine dX ?_ _ | focus ((with_reducible refine hO ?_ _ _ _ ?_); rotate_left; omega) | with_reducible refine e5 ?_ ab)
  · refine bodyPost_ret (v := .tuple #[.agg #[.int .i64 gG, .int .u64 iH], .bool true]) (by simp only [results, Tryz.results204]; go_simp) rfl (tz (Cl H1 dd hs (.inr ‹_›)).1 (Cl H1 dd hs (.inr ‹_›)).2 ?_)
    (repeat first | with_reducible exact Below.refl _ _ | with_reducible refine dX ?_ _ | focus ((with_reducible refine hO ?_ _ _ _ ?_); rotate_left; omega) | with_reducible refine e5 ?_ ab)
  · refine bodyPost_ret (v := .tuple #[.agg #[.int .i64 gG, .int .u64 iH], .bool true]) (by simp only [results, Tryz.results204]; go_simp) rfl (tz (Cl H1 dd hs (.inl ‹_›)).1 (Cl H1 dd hs (.inl ‹_›)).2 ?_)
    (repeat first | with_reducible exact Below.refl _ _ | with_reducible refine dX ?_ _ | focus ((with_reducible refine hO ?_ _ _ _ ?_); rotate_left; omega) | with_reducible refine e5 ?_ ab)
theorem FJ {h1 l1 h2 l2 gG iH n m : Int} (H1 : c0 h1 l1 n) (dd : c0 h2 l2 m) (vj : c0 gG iH (wr (n - m))) (h : (decide (h1 < 0) = decide (h2 < 0)) ∨ (!decide (gG < 0) == decide (h1 < 0)) = false) : fits (n - m) = true ∧ c0 gG iH (n - m) := by
  obtain ⟨b1, b2, rfl⟩ := H1;obtain ⟨ee, dO, rfl⟩ := dd;obtain ⟨GR, Cw, e⟩ := vj;unfold wr at e;unfold fits c0;simp only [decide_eq_decide, Bool.not_eq_false', beq_iff_eq] at h;rw [cg];omega
theorem aiD {h1 l1 h2 l2 gG iH n m : Int} (H1 : c0 h1 l1 n) (dd : c0 h2 l2 m) (vj : c0 gG iH (wr (n - m))) (h : ¬ (decide (h1 < 0) = decide (h2 < 0))) (k : (!decide (gG < 0) == decide (h1 < 0)) = true) : fits (n - m) = false := by
  obtain ⟨b1, b2, rfl⟩ := H1;obtain ⟨ee, dO, rfl⟩ := dd;obtain ⟨GR, Cw, e⟩ := vj;unfold wr at e;unfold fits;simp only [decide_eq_decide, u1, beq_eq_false_iff_ne, ne_eq] at h k;rw [kq];omega
theorem Vf (h1 l1 h2 l2 n m : Int) (w : World) (H1 : c0 h1 l1 n) (dd : c0 h2 l2 m) :
    Calls ag 149 #[.agg #[.int .i64 h1, .int .u64 l1], .agg #[.int .i64 h2, .int .u64 l2]] w (p8 (n - m) w) := by
  go_enter Tryz.func149, Tryz.ntmps149
  go_wp2_with (go_at_call 166; refine (AU _ _ _ _ _ _ _ H1 dd).mono ?_; rintro e w1 ⟨gG, iH, rfl, hs, ab⟩; have xl := Below.cell ab (p := ⟨w.heap.size, 0, none⟩) (by (simp; omega)); have xy := Below.frozen ab (p := ⟨w.heap.size, 0, none⟩) (by (simp; omega)); have xm := Below.cell ab (p := ⟨w.heap.size, 1, none⟩) (by (simp; omega)); have xz := Below.frozen ab (p := ⟨w.heap.size, 1, none⟩) (by (simp; omega)); have zg := Below.cell ab (p := ⟨w.heap.size + 1, 0, none⟩) (by (simp; done)); have zp := Below.frozen ab (p := ⟨w.heap.size + 1, 0, none⟩) (by (simp; done)); have zh := Below.cell ab (p := ⟨w.heap.size + 1, 1, none⟩) (by (simp; done)); have zq := Below.frozen ab (p := ⟨w.heap.size + 1, 1, none⟩) (by (simp; done)); have Xd := Below.cell ab (p := ⟨w.heap.size + 1 + 1, 0, none⟩) (by (simp; done)); have Yz := Below.frozen ab (p := ⟨w.heap.size + 1 + 1, 0, none⟩) (by (simp; done)); have Xe := Below.cell ab (p := ⟨w.heap.size + 1 + 1, 1, none⟩) (by (simp; done)); have YA := Below.frozen ab (p := ⟨w.heap.size + 1 + 1, 1, none⟩) (by (simp; done)); have oC := Below.size ab; (try simp at oC); have yc : ¬ w1.heap.size = w.heap.size := (by omega); have AW : ¬ w1.heap.size = w.heap.size + 1 := (by omega); have adN : ¬ w1.heap.size = w.heap.size + 1 + 1 := (by omega))
  · refine bodyPost_ret (v := .tuple #[.agg #[.int .i64 0, .int .u64 0], .bool false]) (by simp only [results, Tryz.results149]; go_simp) rfl (Bm (aiD H1 dd hs ‹_› ‹_›) ?_)
    (repeat first | with_reducible exact Below.refl _ _ | with_reducible refine dX ?_ _ | focus ((with_reducible refine hO ?_ _ _ _ ?_); rotate_left; omega) | with_reducible refine e5 ?_ ab)
  · refine bodyPost_ret (v := .tuple #[.agg #[.int .i64 gG, .int .u64 iH], .bool true]) (by simp only [results, Tryz.results149]; go_simp) rfl (tz (FJ H1 dd hs (.inr ‹_›)).1 (FJ H1 dd hs (.inr ‹_›)).2 ?_)
    (repeat first | with_reducible exact Below.refl _ _ | with_reducible refine dX ?_ _ | focus ((with_reducible refine hO ?_ _ _ _ ?_); rotate_left; omega) | with_reducible refine e5 ?_ ab)
  · refine bodyPost_ret (v := .tuple #[.agg #[.int .i64 gG, .int .u64 iH], .bool true]) (by simp only [results, Tryz.results149]; go_simp) rfl (tz (FJ H1 dd hs (.inl ‹_›)).1 (FJ H1 dd hs (.inl ‹_›)).2 ?_)
    (repeat first | with_reducible exact Below.refl _ _ | with_reducible refine dX ?_ _ | focus ((with_reducible refine hO ?_ _ _ _ ?_); rotate_left; omega) | with_reducible refine e5 ?_ ab)
end Go.Proofs.YtbcecodakfejaaaGreat
namespace Go.Proofs.YtbcecodakfejaaaGreat
open Go.RowKit
theorem u7 {k : IntKind} {a b : Int} (h : a = b) : Ending.returned (.int k a) = .returned (.int k b) := by rw [h]
theorem ag0 {a b : Bool} (h : a = b) : Ending.returned (.bool a) = .returned (.bool b) := by rw [h]
theorem abO : c0 (-9223372036854775808) 0 (-170141183460469231731687303715884105728) := by unfold c0; omega
theorem adO {n : Int} (H : fits n = true) : fits (0 - n) = !decide (n = -170141183460469231731687303715884105728) := by
  unfold fits at *;rw [cg] at H;rw [kR];simp only [cg, u1, kq];omega
theorem UZ (h1 l1 n : Int) (w : World) (H1 : c0 h1 l1 n) :
    Calls ag 169 #[.agg #[.int .i64 h1, .int .u64 l1]] w (p8 (-n) w) := by
  have B3 := Lib.hid (adO H1.fits);have he := H1.fS abO;rw [← Int.zero_sub]
  by_cases e : n = -170141183460469231731687303715884105728
  · have hd : fS h1 l1 (-9223372036854775808) 0 = true := by rw [he]; exact cd e
    have B2 : Hid (fits (0 - n) = false) := by have := B3.out; rw [cd e] at this; exact this
    clear he B3 e
    go_enter Tryz.func169, Tryz.ntmps169
    go_wp2
    refine bodyPost_ret (v := .tuple #[.agg #[.int .i64 0, .int .u64 0], .bool false]) (by simp only [results, Tryz.results169]; go_simp) rfl (Bm B2.out ?_);(repeat first | with_reducible exact Below.refl _ _ | with_reducible refine dX ?_ _)
  · have hd : fS h1 l1 (-9223372036854775808) 0 = false := by rw [he]; exact cA e
    have B2 : Hid (fits (0 - n) = true) := by have := B3.out; rw [cA e] at this; exact this
    clear he B3 e
    go_enter Tryz.func169, Tryz.ntmps169
    go_wp2_with (go_at_call 166; refine (AU _ _ _ _ _ _ _ x3 H1).mono ?_; rintro e w1 ⟨gG, iH, rfl, hs, ab⟩; have xl := Below.cell ab (p := ⟨w.heap.size, 0, none⟩) (by (simp; omega)); have xy := Below.frozen ab (p := ⟨w.heap.size, 0, none⟩) (by (simp; omega)); have xm := Below.cell ab (p := ⟨w.heap.size, 1, none⟩) (by (simp; omega)); have xz := Below.frozen ab (p := ⟨w.heap.size, 1, none⟩) (by (simp; omega)); have zg := Below.cell ab (p := ⟨w.heap.size + 1, 0, none⟩) (by (simp; done)); have zp := Below.frozen ab (p := ⟨w.heap.size + 1, 0, none⟩) (by (simp; done)); have zh := Below.cell ab (p := ⟨w.heap.size + 1, 1, none⟩) (by (simp; done)); have zq := Below.frozen ab (p := ⟨w.heap.size + 1, 1, none⟩) (by (simp; done)); have oC := Below.size ab; (try simp at oC); have yc : ¬ w1.heap.size = w.heap.size := (by omega); have AW : ¬ w1.heap.size = w.heap.size + 1 := (by omega))
    rw [K0 B2.out] at hs;refine bodyPost_ret (v := .tuple #[.agg #[.int .i64 gG, .int .u64 iH], .bool true]) (by simp only [results, Tryz.results169]; go_simp) rfl (tz B2.out hs ?_);(repeat first | with_reducible exact Below.refl _ _ | with_reducible refine dX ?_ _ | focus ((with_reducible refine hO ?_ _ _ _ ?_); rotate_left; omega) | with_reducible refine e5 ?_ ab)
theorem K4 (h1 l1 h2 l2 n m : Int) (w : World) (H1 : c0 h1 l1 n) (dd : c0 h2 l2 m) :
    Calls ag 197 #[.agg #[.int .i64 h1, .int .u64 l1], .agg #[.int .i64 h2, .int .u64 l2]] w (ll (.int .i64 (bR n m)) w) := by
  go_enter Tryz.func197, Tryz.ntmps197
  go_wp2
  all_goals
    go_ret
    refine ⟨u7 ?_, by (repeat first | with_reducible exact Below.refl _ _ | with_reducible refine dX ?_ _)⟩;simp only [H1.fS dd, cg, kq] at *;obtain ⟨b1, b2, aG⟩ := H1;obtain ⟨ee, dO, aO⟩ := dd;unfold bR
    repeat' split
    all_goals omega
theorem Vc (h1 l1 n : Int) (w : World) (H1 : c0 h1 l1 n) :
    Calls ag 168 #[.agg #[.int .i64 h1, .int .u64 l1]] w (ll (.int .i64 (bR n 0)) w) := by
  go_enter Tryz.func168, Tryz.ntmps168
  go_wp2_with (go_at_call 197; refine (K4 _ _ _ _ _ _ _ H1 x3).mono ?_; rintro e w1 ⟨rfl, ab⟩)
  go_ret
  exact ⟨rfl, by (repeat first | with_reducible exact Below.refl _ _ | with_reducible refine dX ?_ _ | with_reducible refine e5 ?_ ab)⟩
theorem aef (n : Int) (aA : -9223372036854775808 ≤ n) (h1 : n < 9223372036854775808) : c0 (n / 9223372036854775808) (IntKind.u64.wrap n) n := by
  unfold c0;rw [IntKind.wrap_u64];omega
theorem Lj (n : Int) (w : World) (aA : -9223372036854775808 ≤ n) (h1 : n < 9223372036854775808) :
    Calls ag 152 #[.int .i64 n] w (Gs n w) := by
  have hv := aef n aA h1
  go_enter Tryz.func152, Tryz.ntmps152
  go_wp2
  refine bodyPost_ret (v := .agg #[.int .i64 (n / 9223372036854775808), .int .u64 (IntKind.u64.wrap n)]) (by simp only [results, Tryz.results152]; go_simp) rfl ⟨_, _, rfl, hv, ?_⟩;(repeat first | with_reducible exact Below.refl _ _ | with_reducible refine dX ?_ _)
def small (n : Int) : Bool := decide (-9223372036854775808 ≤ n ∧ n < 9223372036854775808)
theorem Tx (l : Int) : -9223372036854775808 ≤ wrap64 l ∧ wrap64 l < 9223372036854775808 := by unfold wrap64; omega
theorem aim {h l n a b : Int} (H : c0 h l n) (K : c0 a b (wrap64 l)) (e : fS a b h l = true) : small n = true ∧ wrap64 l = n := by
  rw [K.fS H, cg] at e;have Yd := e; clear e;obtain ⟨b1, b2, rfl⟩ := H;obtain ⟨ee, dO, e⟩ := K;unfold wrap64 at *;unfold small;rw [cg];omega
theorem ail {h l n a b : Int} (H : c0 h l n) (K : c0 a b (wrap64 l)) (e : fS a b h l = false) : small n = false := by
  rw [K.fS H, kq] at e;have Yd := e; clear e;obtain ⟨b1, b2, rfl⟩ := H;obtain ⟨ee, dO, e⟩ := K;unfold wrap64 at *;unfold small;rw [kq];omega
def xd (n : Int) (w : World) (e : Ending) (w' : World) : Prop := e = .returned (.tuple #[.int .i64 (if small n then n else 0), .bool (small n)]) ∧ Below w.heap.size w w'
theorem ahu {n m : Int} {w w' : World} (h : small n = true) (e : m = n) (b : Below w.heap.size w w') : xd n w (.returned (.tuple #[.int .i64 m, .bool true])) w' := ⟨by rw [h, e]; rfl, b⟩
theorem aht {n : Int} {w w' : World} (h : small n = false) (b : Below w.heap.size w w') : xd n w (.returned (.tuple #[.int .i64 0, .bool false])) w' := ⟨by rw [h]; rfl, b⟩
theorem Gu (h1 l1 n : Int) (w : World) (H1 : c0 h1 l1 n) :
    Calls ag 162 #[.agg #[.int .i64 h1, .int .u64 l1]] w (xd n w) := by
  go_enter Tryz.func162, Tryz.ntmps162
  go_wp2_with fail
  go_region_held3 (fun w' => w'.cell? ⟨w.heap.size, 0, none⟩ = some (.int .i64 h1) ∧ w'.cell? ⟨w.heap.size, 1, none⟩ = some (.int .u64 l1)) (go_keep)
    ((go_at_call 152; refine (Lj _ _ (Tx l1).1 (Tx l1).2).mono ?_; rintro e w1 ⟨gG, iH, rfl, hs, ab⟩; have xl := Below.cell ab (p := ⟨w.heap.size, 0, none⟩) (by (simp; done)); have xy := Below.frozen ab (p := ⟨w.heap.size, 0, none⟩) (by (simp; done)); have xm := Below.cell ab (p := ⟨w.heap.size, 1, none⟩) (by (simp; done)); have xz := Below.frozen ab (p := ⟨w.heap.size, 1, none⟩) (by (simp; done)); have oC := Below.size ab; (try simp at oC); have yc : ¬ w1.heap.size = w.heap.size := (by omega)))
  go_wp2
  · go_ret2
    exact aht (ail H1 hs (by simpa using ‹(!fS gG iH h1 l1) = true›)) (by (repeat first | with_reducible exact Below.refl _ _ | with_reducible refine dX ?_ _ | with_reducible refine Below.drew ?_ | with_reducible refine e5 ?_ ab))
  · go_ret2
    have ai := aim H1 hs (by simpa using ‹(!fS gG iH h1 l1) = false›);exact ahu ai.1 ai.2 (by (repeat first | with_reducible exact Below.refl _ _ | with_reducible refine dX ?_ _ | with_reducible refine Below.drew ?_ | with_reducible refine e5 ?_ ab))
end Go.Proofs.YtbcecodakfejaaaGreat
namespace Go.Proofs.YtbcecodakfejaaaGreat.br
structure cw (α : Type) where
 qy : α → α → α → Bool
 gb : α → α → List α → List α
 cut : α × α → α × α → Option α
 n : Nat
 P : Nat → α
 Q : Nat → α
 iy : Nat → Nat → Option α
 R : Nat
 gP : α → Prop
structure aT (α : Type) where
 ph : Nat
 I : Nat
 J : Nat
 T : Nat
 dirty : Bool
 hot : List α
 fnd : List α
 ch : List (List α × List Int)
variable {α : Type} [DecidableEq α]
def iw : List α → List (α × α)
 | p :: q :: W => (p, q) :: iw (q :: W)
 | _ => []
def aP (ch : List (List α × List Int)) : List (α × α) := ch.flatMap fun c => iw c.1
def b5 (V : List α) (j : Nat) (l : List α) : List α := V.take (j + 1) ++ l ++ V.drop (j + 1)
def eB (D : List Int) (j : Nat) (n : Nat) : List Int := D.take j ++ List.replicate (n + 1) (D.getD j 0 + 1) ++ D.drop (j + 1)
def fj (p q : α) : List α × List Int := if p = q then ([p], []) else ([p, q], [1])
def et (s : aT α) (ph I J : Nat) : aT α := { s with ph := ph, I := I, J := J, T := 0, fnd := [] }
def cI (o : cw α) (s : aT α) (q : α) : aT α :=
 if q ∈ s.hot then s else if s.hot.length < o.R then { s with hot := s.hot ++ [q] } else et s 5 0 0
def n8 : List (List α × List Int) → Nat → Nat → Option (Nat × Nat)
 | [], _, _ => none
 | c :: cs, i, j => if j + 1 < c.1.length then some (i, j) else n8 cs (i + 1) 0
def jm (s : aT α) : aT α :=
 match n8 (s.ch.drop s.I) s.I s.J with
 | some uC => { s with I := uC.1, J := uC.2 }
 | none => if (aP s.ch).length < 2 then et s 4 0 0 else et s 3 0 1
def jn (s : aT α) : aT α := if s.dirty = true then jm (et { s with dirty := false } 2 0 0) else et s 4 0 0
def kO (o : cw α) (s : aT α) : aT α := jm (et { s with ch := (List.range o.n).map fun k => fj (o.P k) (o.Q k) } 2 0 0)
def ou (o : cw α) (s : aT α) : aT α :=
 if (cI o s (o.P s.I)).ph = 5 then cI o s (o.P s.I) else
 if (cI o (cI o s (o.P s.I)) (o.Q s.I)).ph = 5 then cI o (cI o s (o.P s.I)) (o.Q s.I) else
 if s.I + 1 < o.n then { cI o (cI o s (o.P s.I)) (o.Q s.I) with I := s.I + 1 } else
 if o.n < 2 then kO o (cI o (cI o s (o.P s.I)) (o.Q s.I)) else et (cI o (cI o s (o.P s.I)) (o.Q s.I)) 1 0 1
def bT (many I J : Nat) : Nat × Nat := if many ≤ J + 1 then (I + 1, I + 2) else (I, J + 1)
def ir (o : cw α) (s : aT α) : Option α → aT α
 | some x => cI o s x
 | none => s
def oF (o : cw α) (s : aT α) : aT α :=
 if (ir o s (o.iy s.I s.J)).ph = 5 then ir o s (o.iy s.I s.J) else
 if (bT o.n s.I s.J).2 < o.n then { ir o s (o.iy s.I s.J) with I := (bT o.n s.I s.J).1, J := (bT o.n s.I s.J).2 } else kO o (ir o s (o.iy s.I s.J))
def hB (o : cw α) (p q x : α) : Bool := decide (x ≠ p) && decide (x ≠ q) && o.qy p q x
def hf (o : cw α) (p q x : α) (fnd : List α) : List α := if hB o p q x = true then fnd ++ [x] else fnd
def ma (o : cw α) (s : aT α) (c : List α × List Int) (p q : α) (fnd : List α) : aT α :=
 if s.T + 1 < s.hot.length then { s with fnd := fnd, T := s.T + 1 } else
 if fnd = [] then jm { s with T := 0, fnd := [], J := s.J + 1 } else
 { s with T := 0, fnd := [], ch := s.ch.set s.I (b5 c.1 s.J (o.gb p q fnd), eB c.2 s.J fnd.length) }
def n7 (o : cw α) (s : aT α) : aT α :=
 match s.ch[s.I]? with
 | some c =>
  match c.1[s.J]?, c.1[s.J + 1]?, s.hot[s.T]? with
  | some p, some q, some x => ma o s c p q (hf o p q x s.fnd)
  | _, _, _ => s
 | none => s
def cY (o : cw α) (s : aT α) : Option α → aT α
 | some x => if (cI o s x).ph = 5 then cI o s x else { cI o s x with dirty := true }
 | none => s
def nX (o : cw α) (s : aT α) : aT α :=
 match (aP s.ch)[s.I]?, (aP s.ch)[s.J]? with
 | some a, some b =>
  if (cY o s (o.cut a b)).ph = 5 then cY o s (o.cut a b) else
  if (bT (aP s.ch).length s.I s.J).2 < (aP s.ch).length then { cY o s (o.cut a b) with I := (bT (aP s.ch).length s.I s.J).1, J := (bT (aP s.ch).length s.I s.J).2 } else jn (cY o s (o.cut a b))
 | _, _ => s
def cJ (o : cw α) (s : aT α) : aT α :=
 match s.ph with
 | 0 => ou o s
 | 1 => oF o s
 | 2 => n7 o s
 | 3 => nX o s
 | _ => s
def sw (o : cw α) (hot : List α) (p q : α) : Prop := ∀ x ∈ hot, hB o p q x = false
structure jw (o : cw α) (ok : Nat → List α × List Int → Prop) : Prop where
 nodup : ∀ i c, ok i c → c.1.Nodup
 new : ∀ i, i < o.n → ok i (fj (o.P i) (o.Q i))
 split : ∀ (i : Nat) (c : List α × List Int) (j : Nat) (p q : α) (bi : List α), ok i c → c.1.length = c.2.length + 1 → c.1[j]? = some p → c.1[j + 1]? = some q → bi.Nodup → bi ≠ [] → (∀ x ∈ bi, hB o p q x = true) → ok i (b5 c.1 j (o.gb p q bi), eB c.2 j bi.length)
 gb : ∀ (p q : α) (bi : List α), (o.gb p q bi).Perm bi
 ug : ∀ i, i < o.n → o.gP (o.P i) ∧ o.gP (o.Q i)
 C8 : ∀ i j x, i < j → j < o.n → o.iy i j = some x → o.gP x
 C4 : ∀ (p q e1 cf x : α), o.gP p → o.gP q → o.gP e1 → o.gP cf → o.cut (p, q) (e1, cf) = some x → o.gP x
 cut : ∀ (hot : List α) (p q e1 cf x : α), (∀ y ∈ hot, o.gP y) → p ≠ q → e1 ≠ cf → p ∈ hot → q ∈ hot → e1 ∈ hot → cf ∈ hot → sw o hot p q → sw o hot e1 cf → o.cut (p, q) (e1, cf) = some x → x ∉ hot
structure iX (o : cw α) (s : aT α) : Prop where
 nd : s.hot.Nodup
 room : s.hot.length ≤ o.R
 hg : ∀ x ∈ s.hot, o.gP x
structure BS (o : cw α) (ok : Nat → List α × List Int → Prop) (hot : List α) (i : Nat) (c : List α × List Int) : Prop where
 gP : ok i c
 len : c.1.length = c.2.length + 1
 head : c.1.head? = some (o.P i)
 last : c.1.getLast? = some (o.Q i)
 hot : ∀ v ∈ c.1, v ∈ hot
 deep : ∀ d ∈ c.2, 1 ≤ d ∧ d ≤ c.2.length
structure lU (o : cw α) (ok : Nat → List α × List Int → Prop) (s : aT α) : Prop where
 len : s.ch.length = o.n
 ie : ∀ i c, s.ch[i]? = some c → BS o ok s.hot i c
def BN (o : cw α) (hot : List α) (ch : List (List α × List Int)) (I J : Nat) : Prop :=
 ∀ i c j p q, ch[i]? = some c → c.1[j]? = some p → c.1[j + 1]? = some q → (i < I ∨ (i = I ∧ j < J)) → sw o hot p q
def Lh (o : cw α) (ch : List (List α × List Int)) (I J : Nat) : Prop :=
 ∀ a b l m, (aP ch)[a]? = some l → (aP ch)[b]? = some m → a < b → (a < I ∨ (a = I ∧ b < J)) → o.cut l m = none
def BO (o : cw α) (s : aT α) : Prop := ∀ l ∈ aP s.ch, sw o s.hot l.1 l.2
def Ch (o : cw α) (s : aT α) (I : Nat) : Prop := ∀ i, i < I → o.P i ∈ s.hot ∧ o.Q i ∈ s.hot
structure Ld (o : cw α) (s : aT α) : Prop where
 ph : s.ph = 0
 dirty : s.dirty = false
 fnd : s.fnd = []
 ch : s.ch = []
 I : s.I < o.n
 J : s.J = 0
 T : s.T = 0
 BI : Ch o s s.I
structure Inv1 (o : cw α) (s : aT α) : Prop where
 ph : s.ph = 1
 dirty : s.dirty = false
 fnd : s.fnd = []
 ch : s.ch = []
 ra : s.I < s.J
 J : s.J < o.n
 T : s.T = 0
 BI : Ch o s o.n
structure Inv2 (o : cw α) (ok : Nat → List α × List Int → Prop) (s : aT α) : Prop where
 ph : s.ph = 2
 dirty : s.dirty = false
 laid : lU o ok s
 link : ∃ c p q, s.ch[s.I]? = some c ∧ c.1[s.J]? = some p ∧ c.1[s.J + 1]? = some q ∧ s.fnd = (s.hot.take s.T).filter (hB o p q)
 T : s.T < s.hot.length
 Cn : BN o s.hot s.ch s.I s.J
structure Gc (o : cw α) (ok : Nat → List α × List Int → Prop) (s : aT α) : Prop where
 ph : s.ph = 3
 laid : lU o ok s
 ra : s.I < s.J
 J : s.J < (aP s.ch).length
 T : s.T = 0
 fnd : s.fnd = []
 clean : s.dirty = false → BO o s ∧ Lh o s.ch s.I s.J
structure Gd (o : cw α) (ok : Nat → List α × List Int → Prop) (s : aT α) : Prop where
 ph : s.ph = 4
 dirty : s.dirty = false
 laid : lU o ok s
 I : s.I = 0
 J : s.J = 0
 T : s.T = 0
 fnd : s.fnd = []
 aly : BO o s
 alo : Lh o s.ch (aP s.ch).length 0
structure Ge (o : cw α) (ok : Nat → List α × List Int → Prop) (s : aT α) : Prop where
 ph : s.ph = 5
 I : s.I = 0
 J : s.J = 0
 T : s.T = 0
 fnd : s.fnd = []
 full : s.hot.length = o.R
 ch : (s.ch = [] ∧ s.dirty = false) ∨ lU o ok s
def ha (o : cw α) (ok : Nat → List α × List Int → Prop) (s : aT α) : Prop := iX o s ∧ (Ld o s ∨ Inv1 o s ∨ Inv2 o ok s ∨ Gc o ok s ∨ Gd o ok s ∨ Ge o ok s)
def eg (o : cw α) : Nat := 2 * (o.n * o.R) * o.R + o.n * o.R * (o.n * o.R) + 1
def oH (s : aT α) : Nat := (aP (s.ch.take s.I)).length + s.J
def eS (o : cw α) (s : aT α) : Nat :=
 match s.ph with
 | 0 => (o.n - s.I) + o.n * o.n + (o.R + 1) * eg o
 | 1 => ((o.n - s.I) * o.n - s.J) + (o.R + 1) * eg o
 | 2 => (o.R - s.hot.length) * eg o + (2 * (o.n * o.R) - oH s - (aP s.ch).length) * o.R + (s.hot.length - s.T) + o.n * o.R * (o.n * o.R)
 | 3 => (o.R - s.hot.length) * eg o + (if s.dirty = true then eg o else 0) + (((aP s.ch).length - s.I) * (aP s.ch).length - s.J)
 | _ => 0
theorem Ez : ∀ {l m : List α}, l.Nodup → (∀ x ∈ l, x ∈ m) → l.length ≤ m.length
 | [], _, _, _ => dJ _
 | a :: l, m, h, hs => by
  have aj := List.nodup_cons.1 h;have aF := hs a (lI ..);have := Ez (l := l) (m := m.erase a) aj.2 fun x aa => (List.mem_erase_of_ne (fun e => aj.1 (by rw [← e]; exact aa))).2 (hs x (pJ _ aa));rw [List.length_erase_of_mem aF] at this;have := List.length_pos_of_mem aF;simp only [jj]; omega
theorem uG : ∀ V : List α, (iw V).length = V.length - 1
 | [] => rfl
 | [_] => rfl
 | p :: q :: W => by
  have := uG (q :: W);simp only [iw, jj] at this ⊢; omega
theorem P9 : ∀ {V : List α} {l : α × α}, l ∈ iw V → ∃ j, V[j]? = some l.1 ∧ V[j + 1]? = some l.2
 | p :: q :: W, l, h => by
  rcases fl.1 (show l ∈ (p, q) :: iw (q :: W) from h) with rfl | h
  ·exact ⟨0, rfl, rfl⟩
  ·obtain ⟨j, h1, h2⟩ := P9 h;exact ⟨j + 1, h1, h2⟩
theorem Ed (A B : List (List α × List Int)) : aP (A ++ B) = aP A ++ aP B := List.flatMap_append ..
theorem x7 (c : List α × List Int) (B : List (List α × List Int)) : aP (c :: B) = iw c.1 ++ aP B := rfl
theorem AP {ch : List (List α × List Int)} {l : α × α} (h : l ∈ aP ch) : ∃ (i : Nat) (c : List α × List Int) (j : Nat), ch[i]? = some c ∧ c.1[j]? = some l.1 ∧ c.1[j + 1]? = some l.2 := by
 obtain ⟨c, aj, hl⟩ := List.mem_flatMap.1 h;obtain ⟨i, hi⟩ := j1 aj;obtain ⟨j, h1, h2⟩ := P9 hl;exact ⟨i, c, j, hi, h1, h2⟩
theorem Ee {m : Nat} : ∀ {ch : List (List α × List Int)}, (∀ c ∈ ch, c.1.length ≤ m) → (aP ch).length ≤ ch.length * m
 | [], _ => dJ _
 | c :: B, h => by
  have b9 := Ee (ch := B) fun c aj => h c (pJ _ aj);have h1 := h c (lI ..);rw [x7, cO, uG, jj, kS, Nat.one_mul]; omega
theorem YV {β : Type} {l : List β} {i : Nat} {c : β} (h : l[i]? = some c) : l = l.take i ++ c :: l.drop (i + 1) ∧ (l.take i).length = i := by
 obtain ⟨hl, e⟩ := bL.1 h;refine ⟨?_, by rw [ei]; omega⟩
 conv => lhs; rw [← kr i l, nm hl, e]
end Go.Proofs.YtbcecodakfejaaaGreat.br
namespace Go.Proofs.YtbcecodakfejaaaGreat.br
variable {α : Type} [DecidableEq α]
theorem Tp : ∀ (cs : List (List α × List Int)) (i j eH dH : Nat), n8 cs i j = some (eH, dH) → (∀ c, cs[0]? = some c → j ≤ (iw c.1).length) →
  ∃ (k : Nat) (c : List α × List Int), eH = i + k ∧ cs[k]? = some c ∧ dH + 1 < c.1.length ∧ j ≤ (aP (cs.take k)).length + dH ∧ (∀ (m : Nat) (d : List α × List Int) (l : Nat), cs[m]? = some d → l + 1 < d.1.length → (m < k ∨ (m = k ∧ l < dH)) → m = 0 ∧ l < j)
 | [], i, j, eH, dH, h, _ => by cases h
 | c :: cs, i, j, eH, dH, h, ae => by
  have aA : j ≤ (iw c.1).length := ae c rfl;rw [uG] at aA;unfold n8 at h
  split at h
  ·rename_i aj;cases h;refine ⟨0, c, rfl, rfl, aj, by simp, fun m d l _ _ aR => ?_⟩;omega
  ·rename_i aj;obtain ⟨k, c', aG, aO, cl, ey, k2⟩ := Tp cs (i + 1) 0 eH dH h (fun _ _ => dJ _);refine ⟨k + 1, c', by omega, aO, cl, ?_, fun m d l hd hl aR => ?_⟩
   ·rw [List.take_succ_cons, x7, cO, uG]; omega
   ·match m, hd, aR with
    | 0, hd, aR =>
     simp only [u2, iT] at hd;subst hd;exact ⟨rfl, by omega⟩
    | m + 1, hd, aR =>
     have := k2 m d l hd hl (by omega);omega
theorem To : ∀ (cs : List (List α × List Int)) (i j : Nat), n8 cs i j = none → ∀ (m : Nat) (d : List α × List Int) (l : Nat), cs[m]? = some d → l + 1 < d.1.length → m = 0 ∧ l < j
 | [], _, _, _, m, d, l, hd, _ => by simp at hd
 | c :: cs, i, j, h, m, d, l, hd, hl => by
  unfold n8 at h
  split at h
  ·cases h
  ·rename_i aj
   match m, hd with
   | 0, hd =>
    simp only [u2, iT] at hd;subst hd;exact ⟨rfl, by omega⟩
   | m + 1, hd =>
    have := To cs (i + 1) 0 h m d l hd hl;omega
theorem lU.many {o : cw α} {ok : Nat → List α × List Int → Prop} (af : jw o ok) {s : aT α} (ab : iX o s) (h : lU o ok s) : (aP s.ch).length ≤ o.n * o.R := by
 rw [← h.len];refine Ee fun c aj => ?_;obtain ⟨i, hi⟩ := j1 aj;have aR := h.ie i c hi;exact ht (Ez (af.nodup _ _ aR.gP) aR.hot) ab.room
theorem WJ {o : cw α} {s : aT α} {I J : Nat} (aF : BN o s.hot s.ch I J) (aw : ∀ (i : Nat) (d : List α × List Int) (l : Nat), s.ch[i]? = some d → l + 1 < d.1.length → i < I ∨ (i = I ∧ l < J)) : BO o s := fun l hl => by
 obtain ⟨i, c, j, hi, h1, h2⟩ := AP hl;have := (bL.1 h2).1;exact aF i c j l.1 l.2 hi h1 h2 (aw i c j hi this)
theorem Kr {o : cw α} {ok : Nat → List α × List Int → Prop} (af : jw o ok) {s : aT α} (ab : iX o s) (hl : lU o ok s) (gT : s.ph = 2) (hd : s.dirty = false) (cH : s.T = 0) (ap : s.fnd = []) (aR : 0 < s.hot.length) (aF : BN o s.hot s.ch s.I s.J) (ae : ∀ c, s.ch[s.I]? = some c → s.J ≤ (iw c.1).length) :
  ha o ok (jm s) ∧ eS o (jm s) ≤ (o.R - s.hot.length) * eg o + (2 * (o.n * o.R) - oH s - (aP s.ch).length) * o.R + s.hot.length + o.n * o.R * (o.n * o.R) := by
 have hm := hl.many af ab;unfold jm;cases h : n8 (s.ch.drop s.I) s.I s.J with
 | some uC =>
  obtain ⟨eH, dH⟩ := uC;obtain ⟨k, c, aG, aO, cl, ey, k2⟩ := Tp _ _ _ _ _ h (fun c aj => ae c (by rw [fY] at aj; exact aj));rw [fY] at aO;rw [← aG] at aO;show ha o ok ({ s with I := eH, J := dH } : aT α) ∧ eS o ({ s with I := eH, J := dH } : aT α) ≤ _;have xT : dH < c.1.length := by omega
  refine ⟨⟨⟨ab.nd, ab.room, ab.hg⟩, .inr (.inr (.inl ⟨gT, hd, ⟨hl.len, hl.ie⟩, ⟨c, c.1[dH], c.1[dH + 1], aO, bN xT, bN cl, ?_⟩, ?_, ?_⟩))⟩, ?_⟩
  ·show s.fnd = (s.hot.take s.T).filter _;rw [cH, ap]; rfl
  ·show s.T < s.hot.length;omega
  ·show BN o s.hot s.ch eH dH;intro i d j p q hi hp ak e0;have sW := (bL.1 ak).1;refine aF i d j p q hi hp ak ?_
   by_cases da : i < s.I
   ·exact .inl da
   ·have := k2 (i - s.I) d j (by rw [fY, show s.I + (i - s.I) = i by omega]; exact hi) sW (by omega);omega
  ·have hp : oH s ≤ oH ({ s with I := eH, J := dH } : aT α) := by
    unfold oH;show (aP (s.ch.take s.I)).length + s.J ≤ (aP (s.ch.take eH)).length + dH;rw [aG, List.take_add, Ed, cO]; omega
   show eS o ({ s with I := eH, J := dH } : aT α) ≤ _;unfold eS;show (match s.ph with | 0 => _ | 1 => _ | 2 => _ | 3 => _ | _ => _) ≤ _;rw [gT];show (o.R - s.hot.length) * eg o + (2 * (o.n * o.R) - oH ({ s with I := eH, J := dH } : aT α) - (aP s.ch).length) * o.R + (s.hot.length - s.T) + o.n * o.R * (o.n * o.R) ≤ _;generalize oH ({ s with I := eH, J := dH } : aT α) = U2 at *;have := kT o.R (show 2 * (o.n * o.R) - U2 - (aP s.ch).length ≤ 2 * (o.n * o.R) - oH s - (aP s.ch).length by omega);omega
 | none =>
  have dD : BO o s := WJ aF fun i d l hi e6 => by
   by_cases da : i < s.I
   ·exact .inl da
   ·have := To _ _ _ h (i - s.I) d l (by rw [fY, show s.I + (i - s.I) = i by omega]; exact hi) e6;omega
  show ha o ok (if (aP s.ch).length < 2 then et s 4 0 0 else et s 3 0 1) ∧ eS o (if (aP s.ch).length < 2 then et s 4 0 0 else et s 3 0 1) ≤ _
  split
  ·rename_i h2;refine ⟨⟨⟨ab.nd, ab.room, ab.hg⟩, .inr (.inr (.inr (.inr (.inl ⟨rfl, hd, ⟨hl.len, hl.ie⟩, rfl, rfl, rfl, rfl, dD, ?_⟩))))⟩, dJ _⟩;intro a b l m h3 aD nH _;have := (bL.1 aD).1;have : b < (aP s.ch).length := this;omega
  ·rename_i h2;refine ⟨⟨⟨ab.nd, ab.room, ab.hg⟩, .inr (.inr (.inr (.inl ⟨rfl, ⟨hl.len, hl.ie⟩, Nat.zero_lt_one, show 1 < (aP s.ch).length by omega, rfl, rfl, fun _ => ⟨dD, ?_⟩⟩)))⟩, ?_⟩
   ·intro a b l m h3 aD nH H8;have : a < 0 ∨ (a = 0 ∧ b < 1) := H8;omega
   ·show (o.R - s.hot.length) * eg o + (if s.dirty = true then eg o else 0) + (((aP s.ch).length - 0) * (aP s.ch).length - 1) ≤ _;rw [hd, if_neg (by decide), Nat.sub_zero];have := Nat.mul_le_mul hm hm;omega
theorem Dw (o : cw α) {s : aT α} (ab : iX o s) (q : α) (ak : o.gP q) : (cI o s q = et s 5 0 0 ∧ s.hot.length = o.R) ∨
  ∃ hot', cI o s q = { s with hot := hot' } ∧ iX o ({ s with hot := hot' } : aT α) ∧ q ∈ hot' ∧ (∀ x ∈ s.hot, x ∈ hot') ∧ s.hot.length ≤ hot'.length ∧ (q ∉ s.hot → hot'.length = s.hot.length + 1) ∧ (q ∈ s.hot → hot' = s.hot) := by
 have := ab.room;unfold cI
 by_cases h : q ∈ s.hot
 ·rw [if_pos h];exact .inr ⟨s.hot, rfl, ab, h, fun x aa => aa, dI _, fun aM => absurd h aM, fun _ => rfl⟩
 ·rw [if_neg h]
  by_cases h2 : s.hot.length < o.R
  ·rw [if_pos h2];refine .inr ⟨s.hot ++ [q], rfl, ⟨?_, ?_, fun x aa => (h0.1 aa).elim (ab.hg x) fun h => by rw [hx.1 h]; exact ak⟩, by simp, fun x aa => List.mem_append_left _ aa, by simp, fun _ => by simp, fun aM => absurd aM h⟩
   ·show (s.hot ++ [q]).Nodup;refine List.nodup_append.2 ⟨ab.nd, by simp, fun a aF b cL => ?_⟩;rw [hx] at cL;subst cL;exact fun e => h (by rw [← e]; exact aF)
   ·show (s.hot ++ [q]).length ≤ o.R;rw [cO, List.length_singleton]; omega
  ·rw [if_neg h2];exact .inl ⟨rfl, by omega⟩
theorem Xw {o : cw α} (aw : 0 < o.n) (al : 0 < o.R) : o.R ≤ eg o := by
 have h1 : o.R ≤ o.n * o.R := Nat.le_mul_of_pos_left _ aw;have h2 : o.n * o.R ≤ o.n * o.R * o.R := Nat.le_mul_of_pos_right _ al;unfold eg;rw [Nat.mul_assoc 2];omega
theorem P0 {o : cw α} {ok : Nat → List α × List Int → Prop} (af : jw o ok) {s : aT α} (ab : iX o s) (hd : s.dirty = false) (aw : 0 < o.n) (hw : Ch o s o.n) : ha o ok (kO o s) ∧ eS o (kO o s) < (o.R + 1) * eg o := by
 have aR : 0 < s.hot.length := List.length_pos_of_mem (hw 0 aw).1;have key := Kr (s := et { s with ch := (List.range o.n).map fun k => fj (o.P k) (o.Q k) } 2 0 0) af ⟨ab.nd, ab.room, ab.hg⟩ ⟨?_, ?_⟩ rfl hd rfl rfl aR ?_ ?_
 ·refine ⟨key.1, Nat.lt_of_le_of_lt key.2 ?_⟩;show (o.R - s.hot.length) * eg o + (2 * (o.n * o.R) - (0 + 0) - (aP ((List.range o.n).map fun k => fj (o.P k) (o.Q k))).length) * o.R + s.hot.length + o.n * o.R * (o.n * o.R) < (o.R + 1) * eg o;generalize (aP ((List.range o.n).map fun k => fj (o.P k) (o.Q k))).length = L;have al := ab.room;have aj := Xw aw (show 0 < o.R by omega);have h1 := kT (eg o) (show o.R - s.hot.length ≤ o.R - 1 by omega);have h2 := kT o.R (show 2 * (o.n * o.R) - (0 + 0) - L ≤ 2 * (o.n * o.R) by omega);have aG : (o.R + 1) * eg o = (o.R - 1) * eg o + 2 * eg o := by rw [← kS]; congr 1; omega
  have aO : eg o = 2 * (o.n * o.R) * o.R + o.n * o.R * (o.n * o.R) + 1 := rfl;omega
 ·show ((List.range o.n).map fun k => fj (o.P k) (o.Q k)).length = o.n;simp
 ·intro i c hi;have hi : ((List.range o.n).map fun k => fj (o.P k) (o.Q k))[i]? = some c := hi;have gB : i < o.n := by have := (bL.1 hi).1; simpa using this
  rw [dL, uX gB] at hi;have hi : fj (o.P i) (o.Q i) = c := lc hi;have an := af.new i gB;subst hi;refine ⟨an, ?_, ?_, ?_, fun v hv => ?_, fun d hd => ?_⟩
  ·unfold fj; split <;> rfl
  ·unfold fj; split <;> rfl
  ·unfold fj
   split
   ·rename_i e; rw [e]; rfl
   ·rfl
  ·show v ∈ s.hot;unfold fj at hv
   split at hv
   ·rw [hx.1 hv]; exact (hw i gB).1
   ·rcases fl.1 hv with rfl | hv
    ·exact (hw i gB).1
    ·rw [hx.1 hv]; exact (hw i gB).2
  ·unfold fj at hd ⊢
   split at hd
   ·cases hd
   ·rename_i e;rw [if_neg e];rw [hx.1 hd];exact ⟨oI 1, oI 1⟩
 ·intro i c j p q _ _ _ e0;have : i < 0 ∨ (i = 0 ∧ j < 0) := e0;omega
 ·intro c _;exact dJ _
theorem DW {o : cw α} {ok : Nat → List α × List Int → Prop} {s : aT α} (ab : iX o s) (ap : s.hot.length = o.R) (aj : (s.ch = [] ∧ s.dirty = false) ∨ lU o ok s) : ha o ok (et s 5 0 0) ∧ eS o (et s 5 0 0) = 0 :=
 ⟨⟨⟨ab.nd, ab.room, ab.hg⟩, .inr (.inr (.inr (.inr (.inr ⟨rfl, rfl, rfl, rfl, rfl, ap, aj.imp id fun h => ⟨h.len, h.ie⟩⟩))))⟩, rfl⟩
theorem Yl {o : cw α} {ok : Nat → List α × List Int → Prop} (af : jw o ok) {s : aT α} (ab : iX o s) (h : Ld o s) : ha o ok (ou o s) ∧ eS o (ou o s) < eS o s := by
 have bl := h.I;have v8 : eS o s = (o.n - s.I) + o.n * o.n + (o.R + 1) * eg o := by simp only [eS, h.ph]
 rw [v8];unfold ou;rcases Dw o ab (o.P s.I) (af.ug _ bl).1 with ⟨aG, f1⟩ | ⟨h1, aG, b1, m1, s1, l1, _, _⟩
 ·rw [aG, if_pos (show (et s 5 0 0).ph = 5 from rfl)];have := DW (ok := ok) ab f1 (.inl ⟨h.ch, h.dirty⟩);exact ⟨this.1, by rw [this.2]; omega⟩
 ·rw [aG, if_neg (show ({ s with hot := h1 } : aT α).ph ≠ 5 by show s.ph ≠ 5; rw [h.ph]; decide)];rcases Dw o b1 (o.Q s.I) (af.ug _ bl).2 with ⟨aO, f2⟩ | ⟨h2, aO, b2, m2, s2, l2, _, _⟩
  ·rw [aO, if_pos (show (et ({ s with hot := h1 } : aT α) 5 0 0).ph = 5 from rfl)];have := DW (ok := ok) b1 f2 (.inl ⟨h.ch, h.dirty⟩);exact ⟨this.1, by rw [this.2]; omega⟩
  ·have s2 : ∀ x ∈ h1, x ∈ h2 := s2;rw [aO, if_neg (show ({ s with hot := h2 } : aT α).ph ≠ 5 by show s.ph ≠ 5; rw [h.ph]; decide)]
   have hw : ∀ i, i < s.I + 1 → o.P i ∈ h2 ∧ o.Q i ∈ h2 := fun i hi => by
    rcases gK i s.I with g | g
    ·exact ⟨s2 _ (s1 _ (h.BI i g).1), s2 _ (s1 _ (h.BI i g).2)⟩
    ·rw [show i = s.I by omega]; exact ⟨s2 _ m1, m2⟩
   split
   ·rename_i bb;refine ⟨⟨⟨b2.nd, b2.room, b2.hg⟩, .inl ⟨h.ph, h.dirty, h.fnd, h.ch, bb, h.J, h.T, hw⟩⟩, ?_⟩;show eS o ({ s with hot := h2, I := s.I + 1 } : aT α) < _;unfold eS;show (match s.ph with | 0 => (o.n - (s.I + 1)) + o.n * o.n + (o.R + 1) * eg o | 1 => _ | 2 => _ | 3 => _ | _ => _) < _;rw [h.ph];show (o.n - (s.I + 1)) + o.n * o.n + (o.R + 1) * eg o < _;omega
   ·rename_i jR;have aw : o.n = s.I + 1 := by omega
    split
    ·have := P0 af (s := ({ s with hot := h2 } : aT α)) ⟨b2.nd, b2.room, b2.hg⟩ h.dirty (by omega) (by rw [aw]; exact hw);exact ⟨this.1, qQ this.2 (by omega)⟩
    ·rename_i akq;refine ⟨⟨⟨b2.nd, b2.room, b2.hg⟩, .inr (.inl ⟨rfl, h.dirty, rfl, h.ch, Nat.zero_lt_one, show 1 < o.n by omega, rfl, by rw [aw]; exact hw⟩)⟩, ?_⟩;show ((o.n - 0) * o.n - 1) + (o.R + 1) * eg o < _;rw [Nat.sub_zero]; omega
theorem Q9 {I J L : Nat} (ox : I < J) (im : J < L) : (L - I) * L - J ≥ 1 ∧ ((bT L I J).2 < L → (bT L I J).1 < (bT L I J).2 ∧ (L - (bT L I J).1) * L - (bT L I J).2 < (L - I) * L - J) := by
 have e : (L - I) * L = (L - I - 1) * L + L := by rw [← Nat.succ_mul]; congr 1; omega
 refine ⟨by omega, fun h => ?_⟩;unfold bT at h ⊢
 by_cases hl : L ≤ J + 1
 ·rw [if_pos hl] at h ⊢;refine ⟨by show I + 1 < I + 2; omega, ?_⟩;show (L - (I + 1)) * L - (I + 2) < _;rw [show L - (I + 1) = L - I - 1 by omega]; omega
 ·rw [if_neg hl] at h ⊢;refine ⟨by show I < J + 1; omega, ?_⟩;show (L - I) * L - (J + 1) < _;omega
theorem ad4 {I J L a b : Nat} (ox : I < J) (im : J < L) (nH : a < b) (ab : b < L) (h : a < (bT L I J).1 ∨ (a = (bT L I J).1 ∧ b < (bT L I J).2)) : (a < I ∨ (a = I ∧ b < J)) ∨ (a = I ∧ b = J) := by
 unfold bT at h
 split at h
 ·have h : a < I + 1 ∨ (a = I + 1 ∧ b < I + 2) := h;omega
 ·have h : a < I ∨ (a = I ∧ b < J + 1) := h;omega
theorem ad5 {I J L : Nat} (ox : I < J) (im : J < L) (h : ¬ (bT L I J).2 < L) {a b : Nat} (nH : a < b) (ab : b < L) : (a < I ∨ (a = I ∧ b < J)) ∨ (a = I ∧ b = J) := by
 unfold bT at h
 split at h
 ·have h : ¬ I + 2 < L := h;omega
 ·have h : ¬ J + 1 < L := h;omega
theorem af6 {o : cw α} {ok : Nat → List α × List Int → Prop} (af : jw o ok) {s : aT α} (ab : iX o s) (h : Inv1 o s) : ha o ok (oF o s) ∧ eS o (oF o s) < eS o s := by
 have ox := h.ra;have im := h.J;have v8 : eS o s = ((o.n - s.I) * o.n - s.J) + (o.R + 1) * eg o := by simp only [eS, h.ph]
 rw [v8];obtain ⟨cE, cP⟩ := Q9 ox im
 have main : ∀ h2, iX o ({ s with hot := h2 } : aT α) → (∀ x ∈ s.hot, x ∈ h2) → ha o ok (if ({ s with hot := h2 } : aT α).ph = 5 then ({ s with hot := h2 } : aT α) else if (bT o.n s.I s.J).2 < o.n then { ({ s with hot := h2 } : aT α) with I := (bT o.n s.I s.J).1, J := (bT o.n s.I s.J).2 } else kO o ({ s with hot := h2 } : aT α)) ∧ eS o (if ({ s with hot := h2 } : aT α).ph = 5 then ({ s with hot := h2 } : aT α) else if (bT o.n s.I s.J).2 < o.n then { ({ s with hot := h2 } : aT α) with I := (bT o.n s.I s.J).1, J := (bT o.n s.I s.J).2 } else kO o ({ s with hot := h2 } : aT α)) < ((o.n - s.I) * o.n - s.J) + (o.R + 1) * eg o := fun h2 b2 s2 => by
  rw [if_neg (show ({ s with hot := h2 } : aT α).ph ≠ 5 by show s.ph ≠ 5; rw [h.ph]; decide)];have hw : Ch o ({ s with hot := h2 } : aT α) o.n := fun i hi => ⟨s2 _ (h.BI i hi).1, s2 _ (h.BI i hi).2⟩
  split
  ·rename_i bb;obtain ⟨jG, mE⟩ := cP bb;refine ⟨⟨⟨b2.nd, b2.room, b2.hg⟩, .inr (.inl ⟨h.ph, h.dirty, h.fnd, h.ch, jG, bb, h.T, hw⟩)⟩, ?_⟩;unfold eS;show (match s.ph with | 0 => _ | 1 => ((o.n - (bT o.n s.I s.J).1) * o.n - (bT o.n s.I s.J).2) + (o.R + 1) * eg o | 2 => _ | 3 => _ | _ => _) < _;rw [h.ph];show ((o.n - (bT o.n s.I s.J).1) * o.n - (bT o.n s.I s.J).2) + (o.R + 1) * eg o < _;omega
  ·have := P0 af (s := ({ s with hot := h2 } : aT α)) ⟨b2.nd, b2.room, b2.hg⟩ h.dirty (by omega) hw;exact ⟨this.1, qQ this.2 (by omega)⟩
 unfold oF;cases hp : o.iy s.I s.J with
 | none => exact main s.hot ab fun x aa => aa
 | some x =>
  show ha o ok (if (cI o s x).ph = 5 then _ else if _ then { cI o s x with I := _, J := _ } else kO o (cI o s x)) ∧ eS o (if (cI o s x).ph = 5 then _ else if _ then { cI o s x with I := _, J := _ } else kO o (cI o s x)) < _;rcases Dw o ab x (af.C8 _ _ x ox im hp) with ⟨aG, f1⟩ | ⟨h2, aG, b2, m2, s2, _⟩
  ·rw [show ir o s (some x) = cI o s x from rfl, aG, if_pos (show (et s 5 0 0).ph = 5 from rfl)];have := DW (ok := ok) ab f1 (.inl ⟨h.ch, h.dirty⟩);exact ⟨this.1, by rw [this.2]; omega⟩
  ·rw [show ir o s (some x) = cI o s x from rfl, aG];exact main h2 b2 s2
end Go.Proofs.YtbcecodakfejaaaGreat.br
namespace Go.Proofs.YtbcecodakfejaaaGreat.br
variable {α : Type} [DecidableEq α]
theorem zj {V : List α} {j : Nat} {l : List α} : (b5 V j l).length = V.length + l.length := by
  unfold b5;rw [cO, cO, ei, iC]; omega
theorem G6 {D : List Int} {j n : Nat} (h : j < D.length) : (eB D j n).length = D.length + n := by
  unfold eB;rw [cO, cO, ei, iC, List.length_replicate]; omega
theorem M9 {V : List α} {j : Nat} {l : List α} {x : α} (h : x ∈ b5 V j l) : x ∈ V ∨ x ∈ l := by
  unfold b5 at h;rcases h0.1 h with h | h
  · rcases h0.1 h with h | h
    · exact .inl (n2 h)
    · exact .inr h
  · exact .inl (nn h)
theorem XH {V : List α} {j : Nat} {l : List α} (h : V ≠ []) : (b5 V j l).head? = V.head? := by
  match V, h with
  | v :: W, _ => rfl
theorem XI {V : List α} {j : Nat} {l : List α} (h : j + 1 < V.length) : (b5 V j l).getLast? = V.getLast? := by
  unfold b5;rw [List.getLast?_append, List.getLast?_drop, if_neg (by omega)];cases nG : V.getLast? with
  | none => rw [List.getLast?_eq_none_iff.1 nG] at h; simp at h
  | some z => rfl
theorem M7 {V : List α} {j i : Nat} {l : List α} (h : i < j + 1) (ae : j + 1 ≤ V.length) : (b5 V j l)[i]? = V[i]? := by
  unfold b5;rw [hK, fZ (by rw [ei]; omega), fJ h]
theorem XJ {V : List α} {j : Nat} {l : List α} (h : j + 1 < V.length) : ∃ x, (b5 V j l)[j + 1]? = some x := by
  have : j + 1 < (b5 V j l).length := by rw [zj]; omega
  exact ⟨_, bN this⟩
theorem XF {D : List Int} {j n : Nat} {d : Int} (ae : j < D.length) (h : d ∈ eB D j n) : ∃ e ∈ D, d = e ∨ d = e + 1 := by
  unfold eB at h;rcases h0.1 h with h | h
  · rcases h0.1 h with h | h
    · exact ⟨d, n2 h, .inl rfl⟩
    · refine ⟨D[j], List.getElem_mem ae, .inr ?_⟩
      rw [List.eq_of_mem_replicate h, gF, bN ae]; rfl
  · exact ⟨d, nn h, .inl rfl⟩
theorem BS.cut {o : cw α} {ok : Nat → List α × List Int → Prop} (af : jw o ok) {hot : List α} {i j : Nat} {c : List α × List Int} {p q : α} {bi : List α} (h : BS o ok hot i c) (hp : c.1[j]? = some p) (ak : c.1[j + 1]? = some q) (aw : bi.Nodup) (ap : ∀ x ∈ bi, x ∈ hot ∧ hB o p q x = true) (b7 : bi ≠ []) : BS o ok hot i (b5 c.1 j (o.gb p q bi), eB c.2 j bi.length) := by
  have hs := af.gb p q bi;have ae : j + 1 < c.1.length := (bL.1 ak).1;have hl := h.len;have Dy : j < c.2.length := by omega
  have aaq : 0 < bi.length := List.length_pos_iff.2 b7;refine ⟨af.split _ _ _ _ _ _ h.gP h.len hp ak aw b7 (fun x aa => (ap x aa).2), ?_, ?_, ?_, fun v hv => ?_, fun d hd => ?_⟩
  · show (b5 c.1 j (o.gb p q bi)).length = (eB c.2 j bi.length).length + 1
    rw [zj, G6 Dy, hs.length_eq]; omega
  · rw [← h.head]; exact XH (fun e => by rw [e] at ae; simp at ae)
  · rw [← h.last]; exact XI ae
  · rcases M9 hv with hv | hv
    · exact h.hot v hv
    · exact (ap v (hs.mem_iff.1 hv)).1
  · show 1 ≤ d ∧ d ≤ ((eB c.2 j bi.length).length : Int)
    obtain ⟨e, he, mw⟩ := XF Dy hd;have := h.deep e he;rw [G6 Dy]; omega
theorem NR {f : α → Bool} {l : List α} {n : Nat} {x : α} (h : l[n]? = some x) : (l.take (n + 1)).filter f = if f x = true then (l.take n).filter f ++ [x] else (l.take n).filter f := by
  obtain ⟨hl, e⟩ := bL.1 h;rw [mM hl, e, List.filter_append];cases aa : f x with
  | true => rw [if_pos rfl, List.filter_cons_of_pos aa]; rfl
  | false => rw [if_neg (by decide), List.filter_cons_of_neg (by rw [aa]; decide)]; exact me _
theorem ahj {o : cw α} {ok : Nat → List α × List Int → Prop} (af : jw o ok) {s : aT α} (ab : iX o s) (h : Inv2 o ok s) : ha o ok (n7 o s) ∧ eS o (n7 o s) < eS o s := by
  obtain ⟨c, p, q, aj, hp, ak, ap⟩ := h.link;have cH := h.T;have aa : s.hot[s.T]? = some s.hot[s.T] := bN cH;generalize s.hot[s.T] = x at aa;have v8 : eS o s = (o.R - s.hot.length) * eg o + (2 * (o.n * o.R) - oH s - (aP s.ch).length) * o.R + (s.hot.length - s.T) + o.n * o.R * (o.n * o.R) := by simp only [eS, h.ph]
  have qt := h.laid.ie s.I c aj;have ae : s.J + 1 < c.1.length := (bL.1 ak).1;have hm := h.laid.many af ab
  have Z6 : hf o p q x s.fnd = (s.hot.take (s.T + 1)).filter (hB o p q) := by
    unfold hf;rw [NR aa, ap]
  obtain ⟨ait, acM⟩ := YV aj;have bl : s.I < s.ch.length := (bL.1 aj).1
  have CP : (aP s.ch).length = (aP (s.ch.take s.I)).length + ((c.1.length - 1) + (aP (s.ch.drop (s.I + 1))).length) := by
    conv => lhs; rw [ait]
    rw [Ed, x7, cO, cO, uG]
  have Iy : oH s = (aP (s.ch.take s.I)).length + s.J := rfl;have my := ab.room;rw [v8];unfold n7;rw [aj];show ha o ok (match c.1[s.J]?, c.1[s.J + 1]?, s.hot[s.T]? with | some p, some q, some x => ma o s c p q (hf o p q x s.fnd) | _, _, _ => s) ∧ eS o (match c.1[s.J]?, c.1[s.J + 1]?, s.hot[s.T]? with | some p, some q, some x => ma o s c p q (hf o p q x s.fnd) | _, _, _ => s) < _;rw [hp, ak, aa];show ha o ok (ma o s c p q (hf o p q x s.fnd)) ∧ eS o (ma o s c p q (hf o p q x s.fnd)) < _;rw [Z6];unfold ma
  by_cases bb : s.T + 1 < s.hot.length
  · rw [if_pos bb]
    refine ⟨⟨⟨ab.nd, ab.room, ab.hg⟩, .inr (.inr (.inl ⟨h.ph, h.dirty, ⟨h.laid.len, h.laid.ie⟩, ⟨c, p, q, aj, hp, ak, rfl⟩, bb, h.Cn⟩))⟩, ?_⟩;unfold eS;show (match s.ph with | 0 => _ | 1 => _ | 2 => (o.R - s.hot.length) * eg o + (2 * (o.n * o.R) - oH s - (aP s.ch).length) * o.R + (s.hot.length - (s.T + 1)) + o.n * o.R * (o.n * o.R) | 3 => _ | _ => _) < _;rw [h.ph];show (o.R - s.hot.length) * eg o + (2 * (o.n * o.R) - oH s - (aP s.ch).length) * o.R + (s.hot.length - (s.T + 1)) + o.n * o.R * (o.n * o.R) < _;omega
  · rw [if_neg bb]
    have Zn : s.T + 1 = s.hot.length := by omega
    rw [Zn, List.take_length]
    by_cases he : s.hot.filter (hB o p q) = []
    · rw [if_pos he]
      have kj : sw o s.hot p q := fun y ai => by
        cases an : hB o p q y with
        | false => rfl
        | true => have := tp.2 ⟨ai, an⟩; rw [he] at this; cases this
      have key := Kr (s := { s with T := 0, fnd := [], J := s.J + 1 }) af ⟨ab.nd, ab.room, ab.hg⟩ ⟨h.laid.len, h.laid.ie⟩ h.ph h.dirty rfl rfl (show 0 < s.hot.length by omega) ?_ ?_
      · refine ⟨key.1, Nat.lt_of_le_of_lt key.2 ?_⟩
        show (o.R - s.hot.length) * eg o + (2 * (o.n * o.R) - ((aP (s.ch.take s.I)).length + (s.J + 1)) - (aP s.ch).length) * o.R + s.hot.length + o.n * o.R * (o.n * o.R) < _;rw [Iy];have := kT o.R (show 2 * (o.n * o.R) - ((aP (s.ch.take s.I)).length + (s.J + 1)) - (aP s.ch).length + 1 ≤ 2 * (o.n * o.R) - ((aP (s.ch.take s.I)).length + s.J) - (aP s.ch).length by omega);rw [kS, Nat.one_mul] at this;omega
      · intro i d j e1 cf hi nP nc e0
        have e0 : i < s.I ∨ (i = s.I ∧ j < s.J + 1) := e0
        by_cases aan : i = s.I ∧ j = s.J
        · obtain ⟨rfl, rfl⟩ := aan
          have e : some c = some d := by rw [← aj]; exact hi
          cases e;have e : some p = some e1 := by rw [← hp]; exact nP
          cases e;have e : some q = some cf := by rw [← ak]; exact nc
          cases e;exact kj
        · exact h.Cn i d j e1 cf hi nP nc (by omega)
      · intro d hd
        have e : some c = some d := by rw [← aj]; exact hd
        cases e;rw [uG];show s.J + 1 ≤ _;omega
    · rw [if_neg he]
      have hE : (s.hot.filter (hB o p q)).Nodup := ab.nd.filter _;have hcut := qt.cut af hp ak hE (fun y ai => ⟨(tp.1 ai).1, (tp.1 ai).2⟩) he;have hlen := (af.gb p q (s.hot.filter (hB o p q))).length_eq;have akJ : 0 < (s.hot.filter (hB o p q)).length := List.length_pos_iff.2 he;generalize s.hot.filter (hB o p q) = bi at *
      have IH : ∀ i, (s.ch.set s.I (b5 c.1 s.J (o.gb p q bi), eB c.2 s.J bi.length))[i]? = if i = s.I then some (b5 c.1 s.J (o.gb p q bi), eB c.2 s.J bi.length) else s.ch[i]? := fun i => by
        by_cases hi : i = s.I
        · rw [if_pos hi, hi, List.getElem?_set_self bl]
        · rw [if_neg hi, List.getElem?_set_ne (Ne.symm hi)]
      have OQ : lU o ok ({ s with T := 0, fnd := [], ch := s.ch.set s.I (b5 c.1 s.J (o.gb p q bi), eB c.2 s.J bi.length) } : aT α) := ⟨by show (s.ch.set s.I _).length = o.n; rw [List.length_set]; exact h.laid.len, fun i d hd => by
        have hd : (s.ch.set s.I (b5 c.1 s.J (o.gb p q bi), eB c.2 s.J bi.length))[i]? = some d := hd;rw [IH] at hd
        split at hd
        · rename_i hi
          cases hd;rw [hi]; exact hcut
        · exact h.laid.ie i d hd⟩
      have cL : iX o ({ s with T := 0, fnd := [], ch := s.ch.set s.I (b5 c.1 s.J (o.gb p q bi), eB c.2 s.J bi.length) } : aT α) := ⟨ab.nd, ab.room, ab.hg⟩;have fV : (aP (s.ch.set s.I (b5 c.1 s.J (o.gb p q bi), eB c.2 s.J bi.length))).length ≤ o.n * o.R := OQ.many af cL;obtain ⟨y, ai⟩ := XJ (l := o.gb p q bi) ae;have nP : (b5 c.1 s.J (o.gb p q bi))[s.J]? = some p := by rw [M7 (by omega) (by omega)]; exact hp
      refine ⟨⟨cL, .inr (.inr (.inl ⟨h.ph, h.dirty, OQ, ⟨(b5 c.1 s.J (o.gb p q bi), eB c.2 s.J bi.length), p, y, ?_, nP, ai, rfl⟩, show 0 < s.hot.length by omega, ?_⟩))⟩, ?_⟩
      · show (s.ch.set s.I (b5 c.1 s.J (o.gb p q bi), eB c.2 s.J bi.length))[s.I]? = _
        rw [IH, if_pos rfl]
      · intro i d j e1 cf hi nP nc e0
        have hi : (s.ch.set s.I (b5 c.1 s.J (o.gb p q bi), eB c.2 s.J bi.length))[i]? = some d := hi;have e0 : i < s.I ∨ (i = s.I ∧ j < s.J) := e0;rw [IH] at hi
        split at hi
        · rename_i gS
          cases hi;rw [M7 (by omega) (by omega)] at nP nc;exact h.Cn i c j e1 cf (by rw [gS]; exact aj) nP nc e0
        · exact h.Cn i d j e1 cf hi nP nc e0
      · have NC : s.ch.set s.I (b5 c.1 s.J (o.gb p q bi), eB c.2 s.J bi.length) = s.ch.take s.I ++ (b5 c.1 s.J (o.gb p q bi), eB c.2 s.J bi.length) :: s.ch.drop (s.I + 1) := List.set_eq_take_append_cons_drop.trans (if_pos bl)
        have akc : (aP (s.ch.set s.I (b5 c.1 s.J (o.gb p q bi), eB c.2 s.J bi.length))).length = (aP (s.ch.take s.I)).length + ((c.1.length + bi.length - 1) + (aP (s.ch.drop (s.I + 1))).length) := by
          rw [NC, Ed, x7, cO, cO, uG, zj, hlen]
        have qn : oH ({ s with T := 0, fnd := [], ch := s.ch.set s.I (b5 c.1 s.J (o.gb p q bi), eB c.2 s.J bi.length) } : aT α) = (aP (s.ch.take s.I)).length + s.J := by
          show (aP ((s.ch.set s.I (b5 c.1 s.J (o.gb p q bi), eB c.2 s.J bi.length)).take s.I)).length + s.J = _;rw [NC, List.take_left' acM]
        unfold eS;rw [qn];show (match s.ph with | 0 => _ | 1 => _ | 2 => (o.R - s.hot.length) * eg o + (2 * (o.n * o.R) - ((aP (s.ch.take s.I)).length + s.J) - (aP (s.ch.set s.I (b5 c.1 s.J (o.gb p q bi), eB c.2 s.J bi.length))).length) * o.R + (s.hot.length - 0) + o.n * o.R * (o.n * o.R) | 3 => _ | _ => _) < _;rw [h.ph];show (o.R - s.hot.length) * eg o + (2 * (o.n * o.R) - ((aP (s.ch.take s.I)).length + s.J) - (aP (s.ch.set s.I (b5 c.1 s.J (o.gb p q bi), eB c.2 s.J bi.length))).length) * o.R + (s.hot.length - 0) + o.n * o.R * (o.n * o.R) < _;rw [Iy];generalize (aP (s.ch.set s.I (b5 c.1 s.J (o.gb p q bi), eB c.2 s.J bi.length))).length = L' at *;have := kT o.R (show 2 * (o.n * o.R) - ((aP (s.ch.take s.I)).length + s.J) - L' + 1 ≤ 2 * (o.n * o.R) - ((aP (s.ch.take s.I)).length + s.J) - (aP s.ch).length by omega);rw [kS, Nat.one_mul] at this;omega
theorem Eb {o : cw α} {ok : Nat → List α × List Int → Prop} (af : jw o ok) {s : aT α} (hl : lU o ok s) {l : α × α} (h : l ∈ aP s.ch) : l.1 ≠ l.2 ∧ l.1 ∈ s.hot ∧ l.2 ∈ s.hot := by
  obtain ⟨i, c, j, hi, h1, h2⟩ := AP h;have qt := hl.ie i c hi;have aw := af.nodup _ _ qt.gP;refine ⟨fun e => ?_, qt.hot _ (dc h1), qt.hot _ (dc h2)⟩;obtain ⟨g1, ba⟩ := bL.1 h1;obtain ⟨g2, bo⟩ := bL.1 h2;exact (List.pairwise_iff_getElem.1 aw) j (j + 1) g1 g2 (by omega) (by rw [ba, bo]; exact e)
theorem XK {o : cw α} {ok : Nat → List α × List Int → Prop} (af : jw o ok) {s : aT α} (ab : iX o s) (hl : lU o ok s) {i j : Nat} {a b : α × α} (aF : (aP s.ch)[i]? = some a) (cL : (aP s.ch)[j]? = some b) {x : α} (aj : o.cut a b = some x) : o.gP x := by
  obtain ⟨_, a2, a3⟩ := Eb af hl (dc aF);obtain ⟨_, b2, ee⟩ := Eb af hl (dc cL);exact af.C4 a.1 a.2 b.1 b.2 x (ab.hg _ a2) (ab.hg _ a3) (ab.hg _ b2) (ab.hg _ ee) aj
theorem aaE {o : cw α} {ok : Nat → List α × List Int → Prop} (af : jw o ok) {s : aT α} (ab : iX o s) (h : Gc o ok s) {a b : α × α} (aF : (aP s.ch)[s.I]? = some a) (cL : (aP s.ch)[s.J]? = some b) :
    (cY o s (o.cut a b) = et s 5 0 0 ∧ s.hot.length = o.R) ∨ (o.cut a b = none ∧ cY o s (o.cut a b) = s) ∨
    ∃ hot', cY o s (o.cut a b) = { s with hot := hot', dirty := true } ∧ iX o ({ s with hot := hot', dirty := true } : aT α) ∧ (∀ x ∈ s.hot, x ∈ hot') ∧ s.hot.length ≤ hot'.length ∧ (s.dirty = false → hot'.length = s.hot.length + 1) := by
  cases hcut : o.cut a b with
  | none => exact .inr (.inl ⟨rfl, rfl⟩)
  | some x =>
    unfold cY;rcases Dw o ab x (XK af ab h.laid aF cL hcut) with ⟨aG, f1⟩ | ⟨h2, aG, b2, m2, s2, l2, cP, _⟩
    · left
      show (if (cI o s x).ph = 5 then cI o s x else { cI o s x with dirty := true }) = _ ∧ _;rw [aG, if_pos (show (et s 5 0 0).ph = 5 from rfl)];exact ⟨rfl, f1⟩
    · refine .inr (.inr ⟨h2, ?_, ⟨b2.nd, b2.room, b2.hg⟩, s2, l2, fun hd => cP ?_⟩)
      · show (if (cI o s x).ph = 5 then cI o s x else { cI o s x with dirty := true }) = _
        rw [aG, if_neg (show ({ s with hot := h2 } : aT α).ph ≠ 5 by show s.ph ≠ 5; rw [h.ph]; decide)]
      · have hs := (h.clean hd).1
        have key : ∀ l, l ∈ aP s.ch → l.1 ≠ l.2 ∧ l.1 ∈ s.hot ∧ l.2 ∈ s.hot ∧ sw o s.hot l.1 l.2 := fun l hl => by
          obtain ⟨bY, b0, gf⟩ := Eb af h.laid hl;exact ⟨bY, b0, gf, hs l hl⟩
        obtain ⟨a1, a2, a3, a4⟩ := key a (dc aF);obtain ⟨b1, b2, ee, dO⟩ := key b (dc cL);exact af.cut s.hot a.1 a.2 b.1 b.2 x ab.hg a1 b1 a2 a3 b2 ee a4 dO hcut
theorem lU.mono {o : cw α} {ok : Nat → List α × List Int → Prop} {s t : aT α} (h : lU o ok s) (aj : t.ch = s.ch) (aR : ∀ x ∈ s.hot, x ∈ t.hot) : lU o ok t :=
  ⟨by rw [aj]; exact h.len, fun i c hi => by
    have := h.ie i c (by rw [← aj]; exact hi);exact ⟨this.gP, this.len, this.head, this.last, fun v hv => aR v (this.hot v hv), this.deep⟩⟩
theorem ac7 {o : cw α} {ok : Nat → List α × List Int → Prop} (af : jw o ok) {s : aT α} (ab : iX o s) (h : Gc o ok s) : ha o ok (nX o s) ∧ eS o (nX o s) < eS o s := by
  have ox := h.ra;have im := h.J;have my := ab.room;have hm := h.laid.many af ab;obtain ⟨cE, cP⟩ := Q9 ox im;have v8 : eS o s = (o.R - s.hot.length) * eg o + (if s.dirty = true then eg o else 0) + (((aP s.ch).length - s.I) * (aP s.ch).length - s.J) := by simp only [eS, h.ph]
  have aF : (aP s.ch)[s.I]? = some (aP s.ch)[s.I] := bN (by omega);have cL : (aP s.ch)[s.J]? = some (aP s.ch)[s.J] := bN im;generalize (aP s.ch)[s.I] = a at aF;generalize (aP s.ch)[s.J] = b at cL
  have akH : 0 < s.hot.length := by
    obtain ⟨i, c, j, hi, h1, h2⟩ := AP (dc aF);exact List.length_pos_of_mem ((h.laid.ie i c hi).hot _ (dc h1))
  rw [v8];unfold nX;rw [aF, cL];show ha o ok (if (cY o s (o.cut a b)).ph = 5 then cY o s (o.cut a b) else if (bT (aP s.ch).length s.I s.J).2 < (aP s.ch).length then { cY o s (o.cut a b) with I := (bT (aP s.ch).length s.I s.J).1, J := (bT (aP s.ch).length s.I s.J).2 } else jn (cY o s (o.cut a b))) ∧ eS o (if (cY o s (o.cut a b)).ph = 5 then cY o s (o.cut a b) else if (bT (aP s.ch).length s.I s.J).2 < (aP s.ch).length then { cY o s (o.cut a b) with I := (bT (aP s.ch).length s.I s.J).1, J := (bT (aP s.ch).length s.I s.J).2 } else jn (cY o s (o.cut a b))) < _
 
  have main : ∀ hot', iX o ({ s with hot := hot', dirty := true } : aT α) → (∀ x ∈ s.hot, x ∈ hot') → s.hot.length ≤ hot'.length → (s.dirty = false → hot'.length = s.hot.length + 1) →
      ha o ok (if ({ s with hot := hot', dirty := true } : aT α).ph = 5 then ({ s with hot := hot', dirty := true } : aT α) else if (bT (aP s.ch).length s.I s.J).2 < (aP s.ch).length then { ({ s with hot := hot', dirty := true } : aT α) with I := (bT (aP s.ch).length s.I s.J).1, J := (bT (aP s.ch).length s.I s.J).2 } else jn ({ s with hot := hot', dirty := true } : aT α)) ∧ eS o (if ({ s with hot := hot', dirty := true } : aT α).ph = 5 then ({ s with hot := hot', dirty := true } : aT α) else if (bT (aP s.ch).length s.I s.J).2 < (aP s.ch).length then { ({ s with hot := hot', dirty := true } : aT α) with I := (bT (aP s.ch).length s.I s.J).1, J := (bT (aP s.ch).length s.I s.J).2 } else jn ({ s with hot := hot', dirty := true } : aT α)) < (o.R - s.hot.length) * eg o + (if s.dirty = true then eg o else 0) + (((aP s.ch).length - s.I) * (aP s.ch).length - s.J) := fun hot' b2 s2 l2 d2 => by
    have hl : lU o ok ({ s with hot := hot', dirty := true } : aT α) := h.laid.mono rfl s2;have cC : hot'.length ≤ o.R := b2.room
    have aky : (o.R - hot'.length) * eg o + eg o ≤ (o.R - s.hot.length) * eg o + (if s.dirty = true then eg o else 0) := by
      cases hd : s.dirty with
      | true =>
        rw [if_pos rfl];have := kT (eg o) (show o.R - hot'.length ≤ o.R - s.hot.length by omega);omega
      | false =>
        rw [if_neg (by decide)];have := d2 hd;have := kT (eg o) (show o.R - hot'.length + 1 ≤ o.R - s.hot.length by omega);rw [kS, Nat.one_mul] at this;omega
    rw [if_neg (show ({ s with hot := hot', dirty := true } : aT α).ph ≠ 5 by show s.ph ≠ 5; rw [h.ph]; decide)]
    split
    · rename_i bb
      obtain ⟨jG, mE⟩ := cP bb;refine ⟨⟨⟨b2.nd, b2.room, b2.hg⟩, .inr (.inr (.inr (.inl ⟨h.ph, ⟨hl.len, hl.ie⟩, jG, bb, h.T, h.fnd, fun hd => by cases hd⟩)))⟩, ?_⟩;unfold eS;show (match s.ph with | 0 => _ | 1 => _ | 2 => _ | 3 => (o.R - hot'.length) * eg o + (if true = true then eg o else 0) + (((aP s.ch).length - (bT (aP s.ch).length s.I s.J).1) * (aP s.ch).length - (bT (aP s.ch).length s.I s.J).2) | _ => _) < _;rw [h.ph];show (o.R - hot'.length) * eg o + (if true = true then eg o else 0) + (((aP s.ch).length - (bT (aP s.ch).length s.I s.J).1) * (aP s.ch).length - (bT (aP s.ch).length s.I s.J).2) < _;rw [if_pos rfl];omega
    · unfold jn
      rw [if_pos rfl]
      have key := Kr (s := et ({ s with hot := hot', dirty := false } : aT α) 2 0 0) af ⟨b2.nd, b2.room, b2.hg⟩ (hl.mono rfl fun x aa => aa) rfl rfl rfl rfl (show 0 < hot'.length by omega) (fun i c j p q _ _ _ e0 => by
        have : i < 0 ∨ (i = 0 ∧ j < 0) := e0;omega) (fun c _ => dJ _)
      refine ⟨key.1, Nat.lt_of_le_of_lt key.2 ?_⟩;show (o.R - hot'.length) * eg o + (2 * (o.n * o.R) - (0 + 0) - (aP s.ch).length) * o.R + hot'.length + o.n * o.R * (o.n * o.R) < _;have aO : eg o = 2 * (o.n * o.R) * o.R + o.n * o.R * (o.n * o.R) + 1 := rfl;have := kT o.R (show 2 * (o.n * o.R) - (0 + 0) - (aP s.ch).length + 1 ≤ 2 * (o.n * o.R) by omega);rw [kS, Nat.one_mul] at this;omega
  rcases aaE af ab h aF cL with ⟨aG, f1⟩ | ⟨rB, aG⟩ | ⟨hot', aG, b2, s2, l2, d2⟩
  · rw [aG, if_pos (show (et s 5 0 0).ph = 5 from rfl)]
    have := DW (ok := ok) ab f1 (.inr h.laid);exact ⟨this.1, by rw [this.2]; omega⟩
  · cases hd : s.dirty with
    | true =>
      have es : ({ s with hot := s.hot, dirty := true } : aT α) = s := by cases s; cases hd; rfl
      rw [aG];have := main s.hot (by rw [es]; exact ab) (fun x aa => aa) (dI _) (fun aR => by rw [hd] at aR; cases aR);rw [es, hd] at this;exact this
    | false =>
      rw [aG, if_neg (show ¬ s.ph = 5 by rw [h.ph]; decide), if_neg (show ¬ (false = true) by decide)];obtain ⟨c1, c2⟩ := h.clean hd
      have OW : ∀ x y l m, (aP s.ch)[x]? = some l → (aP s.ch)[y]? = some m → ((x < s.I ∨ (x = s.I ∧ y < s.J)) ∨ (x = s.I ∧ y = s.J)) → x < y → o.cut l m = none := fun x y l m aa ai aR hH => by
        rcases aR with aR | ⟨rfl, rfl⟩
        · exact c2 x y l m aa ai hH aR
        · rw [aF] at aa; rw [cL] at ai
          cases aa; cases ai;exact rB
      by_cases bb : (bT (aP s.ch).length s.I s.J).2 < (aP s.ch).length
      · rw [if_pos bb]
        obtain ⟨jG, mE⟩ := cP bb;refine ⟨⟨⟨ab.nd, ab.room, ab.hg⟩, .inr (.inr (.inr (.inl ⟨h.ph, ⟨h.laid.len, h.laid.ie⟩, jG, bb, h.T, h.fnd, fun _ => ⟨c1, fun x y l m aa ai hH aR => OW x y l m aa ai (ad4 ox im hH (bL.1 ai).1 aR) hH⟩⟩)))⟩, ?_⟩;unfold eS;show (match s.ph with | 0 => _ | 1 => _ | 2 => _ | 3 => (o.R - s.hot.length) * eg o + (if s.dirty = true then eg o else 0) + (((aP s.ch).length - (bT (aP s.ch).length s.I s.J).1) * (aP s.ch).length - (bT (aP s.ch).length s.I s.J).2) | _ => _) < _;rw [h.ph];show (o.R - s.hot.length) * eg o + (if s.dirty = true then eg o else 0) + (((aP s.ch).length - (bT (aP s.ch).length s.I s.J).1) * (aP s.ch).length - (bT (aP s.ch).length s.I s.J).2) < _;rw [hd, if_neg (by decide)];omega
      · rw [if_neg bb]
        unfold jn;rw [if_neg (show ¬ s.dirty = true by rw [hd]; decide)];refine ⟨⟨⟨ab.nd, ab.room, ab.hg⟩, .inr (.inr (.inr (.inr (.inl ⟨rfl, hd, ⟨h.laid.len, h.laid.ie⟩, rfl, rfl, rfl, rfl, c1, fun x y l m aa ai hH _ => ?_⟩))))⟩, ?_⟩
        · exact OW x y l m aa ai (ad5 ox im bb hH (bL.1 ai).1) hH
        · show 0 < _
          omega
  · rw [aG]
    exact main hot' b2 s2 l2 d2
theorem wS {o : cw α} {ok : Nat → List α × List Int → Prop} (af : jw o ok) {s : aT α} (h : ha o ok s) : ha o ok (cJ o s) ∧ (s.ph < 4 → eS o (cJ o s) < eS o s) ∧ (4 ≤ s.ph → cJ o s = s) := by
  obtain ⟨ab, aA | h1 | h2 | h3 | aD | cU⟩ := h
  · have e : cJ o s = ou o s := by simp only [cJ, aA.ph]
    have := Yl af ab aA;rw [e]; exact ⟨this.1, fun _ => this.2, fun aR => by rw [aA.ph] at aR; omega⟩
  · have e : cJ o s = oF o s := by simp only [cJ, h1.ph]
    have := af6 af ab h1;rw [e]; exact ⟨this.1, fun _ => this.2, fun aR => by rw [h1.ph] at aR; omega⟩
  · have e : cJ o s = n7 o s := by simp only [cJ, h2.ph]
    have := ahj af ab h2;rw [e]; exact ⟨this.1, fun _ => this.2, fun aR => by rw [h2.ph] at aR; omega⟩
  · have e : cJ o s = nX o s := by simp only [cJ, h3.ph]
    have := ac7 af ab h3;rw [e]; exact ⟨this.1, fun _ => this.2, fun aR => by rw [h3.ph] at aR; omega⟩
  · have e : cJ o s = s := by simp only [cJ, aD.ph]
    rw [e]; exact ⟨⟨ab, .inr (.inr (.inr (.inr (.inl aD))))⟩, fun aR => by rw [aD.ph] at aR; omega, fun _ => rfl⟩
  · have e : cJ o s = s := by simp only [cJ, cU.ph]
    rw [e]; exact ⟨⟨ab, .inr (.inr (.inr (.inr (.inr cU))))⟩, fun aR => by rw [cU.ph] at aR; omega, fun _ => rfl⟩
def la (o : cw α) : Nat → aT α → aT α
  | 0, s => s
  | n + 1, s => la o n (cJ o s)
theorem DY {o : cw α} {ok : Nat → List α × List Int → Prop} (af : jw o ok) : ∀ (n : Nat) {s : aT α}, ha o ok s → ha o ok (la o n s) ∧ (eS o s ≤ n → 4 ≤ (la o n s).ph)
  | 0, s, h => ⟨h, fun aw => by
    refine Nat.not_lt.1 fun bb => ?_;have := (wS af h).2.1 bb;show False;have aw : eS o s ≤ 0 := aw;omega⟩
  | n + 1, s, h => by
    obtain ⟨h1, h2, h3⟩ := wS af h;obtain ⟨g1, g2⟩ := DY af n h1;refine ⟨g1, fun aw => ?_⟩
    by_cases bb : s.ph < 4
    · exact g2 (by have := h2 bb; omega)
    · have e := h3 (by omega)
      show 4 ≤ (la o n (cJ o s)).ph;rw [e]
      have key : ∀ m, la o m s = s := fun m => by
        induction m with
        | zero => rfl
        | succ m b9 => show la o m (cJ o s) = s; rw [e]; exact b9
      rw [key]; omega
def fk (o : cw α) : aT α := ⟨if o.n = 0 then 4 else 0, 0, 0, 0, false, [], [], []⟩
theorem ti (o : cw α) (ok : Nat → List α × List Int → Prop) : ha o ok (fk o) := by
  refine ⟨⟨List.nodup_nil, dJ _, fun x aa => absurd aa pK⟩, ?_⟩
  by_cases h : o.n = 0
  · refine .inr (.inr (.inr (.inr (.inl ⟨by simp [fk, h], rfl, ⟨h.symm, fun i c hi => by simp [fk] at hi⟩, rfl, rfl, rfl, rfl, (fun l hl => by cases hl), (fun a b l m aF => by simp [fk, aP] at aF)⟩))))
  · exact .inl ⟨by simp [fk, h], rfl, rfl, rfl, show 0 < o.n by omega, rfl, rfl, fun i hi => by cases hi⟩
theorem adR (o : cw α) (aq : 0 < o.R) : eS o (fk o) ≤ 8 * (o.R + 2) * ((o.n * o.R + 1) * (o.n * o.R + 1)) := by
  by_cases h : o.n = 0
  · have : eS o (fk o) = 0 := by simp [eS, fk, h]
    rw [this]; exact dJ _
  · have e : eS o (fk o) = (o.n - 0) + o.n * o.n + (o.R + 1) * eg o := by simp [eS, fk, h]
    rw [e];have h1 : o.n ≤ o.n * o.R := Nat.le_mul_of_pos_right _ aq;have h2 : o.R ≤ o.n * o.R := Nat.le_mul_of_pos_left _ (by omega);have h3 := Nat.mul_le_mul h1 h1;unfold eg;generalize o.n * o.R = N at *;have aD : 2 * N * o.R ≤ 2 * (N * N) := by rw [Nat.mul_assoc]; exact Nat.mul_le_mul_left 2 (Nat.mul_le_mul_left N h2)
    have cU : (o.R + 1) * (2 * N * o.R + N * N + 1) ≤ (o.R + 2) * (3 * (N * N) + 1) := Nat.mul_le_mul (by omega) (by omega);have cl : (N + 1) * (N + 1) = N * N + 2 * N + 1 := by grind
    have fs : (o.R + 2) * (3 * (N * N) + 1) ≤ (o.R + 2) * (3 * ((N + 1) * (N + 1))) := Nat.mul_le_mul_left _ (by rw [cl]; omega);have ey : 8 * (o.R + 2) * ((N + 1) * (N + 1)) = (o.R + 2) * (3 * ((N + 1) * (N + 1))) + 5 * ((o.R + 2) * ((N + 1) * (N + 1))) := by grind
    have kb : (N + 1) * (N + 1) ≤ (o.R + 2) * ((N + 1) * (N + 1)) := Nat.le_mul_of_pos_left _ (by omega);rw [ey];omega
end Go.Proofs.YtbcecodakfejaaaGreat.br
namespace Go.Proofs.YtbcecodakfejaaaGreat.br
variable {α : Type} [DecidableEq α]
def sH (N : Int → Rat → α → Prop) : Rat → List α → List Int → Prop
 | t, p :: q :: V, d :: D => ∃ gd, t ≤ gd ∧ gd ≤ 1 ∧ N d t p ∧ N d gd q ∧ sH N gd (q :: V) D
 | _, _, _ => True
def CH (N : Int → Rat → α → Prop) (d : Int) (t2 : Rat) : Rat → List α → Prop
 | t1, [] => t1 ≤ t2
 | t1, x :: l => ∃ t, t1 ≤ t ∧ t ≤ t2 ∧ N d t x ∧ CH N d t2 t l
theorem MY {N : Int → Rat → α → Prop} {d : Int} {t2 : Rat} {q : α} {V : List α} {D : List Int} (h1 : t2 ≤ 1) (ak : N d t2 q) (nG : sH N t2 (q :: V) D) : ∀ (l : List α) (t1 : Rat) (p : α), N d t1 p → CH N d t2 t1 l → sH N t1 (p :: (l ++ q :: V)) (List.replicate (l.length + 1) d ++ D)
 | [], t1, p, hp, ab => ⟨t2, ab, h1, hp, ak, nG⟩
 | x :: l, t1, p, hp, ⟨t, g1, g2, g3, g4⟩ => by
  have b9 := MY h1 ak nG l t x g3 g4;exact ⟨t, g1, Rat.le_trans g2 h1, hp, g3, b9⟩
theorem MX {N : Int → Rat → α → Prop} (eO : ∀ d t x, N d t x → N (d + 1) t x) {l : List α} {p q : α} (hl : ∀ d t1 t2, t1 ≤ t2 → t2 ≤ 1 → N d t1 p → N d t2 q → CH N (d + 1) t2 t1 l) : ∀ (V : List α) (D : List Int) (j : Nat) (t : Rat), V.length = D.length + 1 → V[j]? = some p → V[j + 1]? = some q → sH N t V D → sH N t (b5 V j l) (eB D j l.length)
 | [], D, j, t, _, h, _, _ => by simp at h
 | [_], D, j, t, _, _, h, _ => by simp at h
 | _ :: _ :: _, [], j, t, h, _, _, _ => by simp at h
 | a :: b :: V, d :: D, 0, t, hlen, hp, ak, ⟨gd, h1, h2, h3, aD, cU⟩ => by
  simp only [u2, iT] at hp;simp only [List.getElem?_cons_succ, u2, iT] at ak;subst hp; subst ak;have aG : b5 (a :: b :: V) 0 l = a :: (l ++ b :: V) := by unfold b5; simp
  have aO : eB (d :: D) 0 l.length = List.replicate (l.length + 1) (d + 1) ++ D := by unfold eB; simp
  rw [aG, aO];exact MY h2 (eO _ _ _ aD) cU l t a (eO _ _ _ h3) (hl d t gd h1 h2 h3 aD)
 | a :: b :: V, d :: D, j + 1, t, hlen, hp, ak, ⟨gd, h1, h2, h3, aD, cU⟩ => by
  have b9 := MX eO hl (b :: V) D j gd (by simp at hlen ⊢; omega) hp ak cU;have aG : b5 (a :: b :: V) (j + 1) l = a :: b5 (b :: V) j l := by unfold b5; simp
  have aO : eB (d :: D) (j + 1) l.length = d :: eB D j l.length := by unfold eB; simp
  rw [aG, aO];have cl : b5 (b :: V) j l = b :: (V.take j ++ l ++ V.drop j) := by unfold b5; simp
  rw [cl] at b9 ⊢;exact ⟨gd, h1, h2, h3, aD, b9⟩
end Go.Proofs.YtbcecodakfejaaaGreat.br
namespace Go.Proofs.YtbcecodakfejaaaGreat.br
variable {α : Type} [DecidableEq α]
theorem Ng {o : cw α} {ok : Nat → List α × List Int → Prop} (af : jw o ok) {s : aT α} (ab : iX o s) (hl : lU o ok s) {c : List α × List Int} (aj : c ∈ s.ch) : c.1.length ≤ o.R ∧ ∀ d ∈ c.2, 1 ≤ d ∧ d + 1 ≤ o.R := by
 obtain ⟨i, hi⟩ := j1 aj;have h := hl.ie i c hi;have h1 := ht (Ez (af.nodup _ _ h.gP) h.hot) ab.room;refine ⟨h1, fun d hd => ?_⟩;have := h.deep d hd;have := h.len;omega
theorem Yj {o : cw α} {ok : Nat → List α × List Int → Prop} {s : aT α} (h : ha o ok s) (aD : 4 ≤ s.ph) : Gd o ok s ∨ Ge o ok s := by
 obtain ⟨_, aM | aM | aM | aM | aM | aM⟩ := h
 ·have := aM.ph; omega
 ·have := aM.ph; omega
 ·have := aM.ph; omega
 ·have := aM.ph; omega
 ·exact .inl aM
 ·exact .inr aM
theorem Xq {N : Int → Rat → α → Prop} {p q : α} (hp : N 1 0 p) (ak : N 1 1 q) : sH N 0 (fj p q).1 (fj p q).2 := by
 unfold fj
 split
 ·trivial
 ·exact ⟨1, by decide, Rat.le_refl, hp, ak, trivial⟩
theorem Yk {o : cw α} {ok : Nat → List α × List Int → Prop} (af : jw o ok) (aq : 0 < o.R) {n : Nat} (aw : 8 * (o.R + 2) * ((o.n * o.R + 1) * (o.n * o.R + 1)) ≤ n) : ha o ok (la o n (fk o)) ∧ (Gd o ok (la o n (fk o)) ∨ Ge o ok (la o n (fk o))) := by
 have h := DY af n (ti o ok);exact ⟨h.1, Yj h.1 (h.2 (ht (adR o aq) aw))⟩
end Go.Proofs.YtbcecodakfejaaaGreat.br
