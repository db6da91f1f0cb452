/-
  Layer 5: what is exact is known; the zero meeting. My own text.
-/
import Derived.Test.YtlhgmlebjnkonaaCrossA
namespace Go.Proofs.Ytlhgmlebjnkonaa
open Go.RowKit
set_option linter.unusedVariables false
set_option linter.unusedSimpArgs false
/-- one cell tells no less than another. -/
def CLe (x y : AC) : Prop := ∀ U ρ W v, RpC U ρ W x v → RpC U ρ W y v
def CLes : List AC → List AC → Prop
  | [], [] => True
  | x :: xs, y :: ys => CLe x y ∧ CLes xs ys
  | _, _ => False
theorem CLe.refl (x : AC) : CLe x x := fun _ _ _ _ h => h
theorem CLes.refl : ∀ (xs : List AC), CLes xs xs
  | [] => trivial
  | x :: xs => ⟨.refl x, CLes.refl xs⟩
theorem CLes.rp {U : Nat → Prop} {ρ : Nat → Nat} {W : World} : ∀ {xs ys : List AC} {vs : List Value}, CLes xs ys → RpL U ρ W xs vs → RpL U ρ W ys vs
  | [], [], _, _, h => h
  | x :: xs, y :: ys, [], _, h => by simp [RpL] at h
  | x :: xs, y :: ys, v :: vs, hl, h => by
    have h' : RpL U ρ W xs vs := ⟨by have := h.1; simpa using this, fun i a u ha hu => h.2 (i + 1) a u (by simpa using ha) (by simpa using hu)⟩
    have r := CLes.rp hl.2 h'
    refine ⟨by have := r.1; simp [this], fun i a u ha hu => ?_⟩
    cases i with
    | zero => simp at ha hu; subst ha; subst hu; exact hl.1 U ρ W _ (h.2 0 x v rfl rfl)
    | succ i => exact r.2 i a u (by simpa using ha) (by simpa using hu)
  | [], _ :: _, _, hl, _ => hl.elim
  | _ :: _, [], _, hl, _ => hl.elim
theorem AV.Le.agg {xs ys : List AC} (h : CLes xs ys) : AV.Le (.w (.agg xs)) (.w (.agg ys)) := fun U ρ W v ⟨vs, e, hv⟩ => ⟨vs, e, h.rp hv⟩
theorem cle_nil : CLe (.c (.slice none 0 0)) (.p (NumP 0)) := by
  rintro U ρ W v ⟨rfl, _⟩
  refine ⟨⟨none, 0, 0, rfl, ?_⟩, ?_⟩
  · exact isN_zero W
  · rintro b ⟨A, l, c, a, e, hl, _⟩
    cases e
    omega
/-- a meeting of the reference package: its kind, two fractions, two points. -/
abbrev vM5 (k n d m e p1 p2 q1 q2 : Int) : AV := .w (.agg [.c (.int .i64 k), .c (.bool (decide (n < 0))), .p (NumP n), .c (.bool (decide (d < 0))), .p (NumP d), .c (.bool (decide (m < 0))), .p (NumP m), .c (.bool (decide (e < 0))), .p (NumP e), .c (.int .i64 p1), .c (.int .i64 p2), .c (.int .i64 q1), .c (.int .i64 q2)])
theorem zero_m5 : AV.Le (.w (.agg [.c (.int .i64 0), .c (.bool false), .c (.slice none 0 0), .c (.bool false), .c (.slice none 0 0), .c (.bool false), .c (.slice none 0 0), .c (.bool false), .c (.slice none 0 0), .c (.int .i64 0), .c (.int .i64 0), .c (.int .i64 0), .c (.int .i64 0)])) (vM5 0 0 0 0 0 0 0 0 0) :=
  AV.Le.agg ⟨.refl _, .refl _, cle_nil, .refl _, cle_nil, .refl _, cle_nil, .refl _, cle_nil, .refl _, .refl _, .refl _, .refl _, trivial⟩
set_option maxRecDepth 100000 in
set_option maxHeartbeats 4000000 in
theorem p_r5at {x y : Int} (h : rB5 x y = true) : PCall Try.prog 38 [vP x y] (vM5 1 x 1 y 1 0 0 0 0) := by
  unfold rB5 at h
  simp only [Bool.and_eq_true, decide_eq_true_eq] at h
  have C1 := p_r5num (n := 1) (by omega) (by omega)
  have C2 := p_r5num (n := x) (by omega) (by omega)
  have C3 := p_r5num (n := y) (by omega) (by omega)
  clear h
  refine pcall_body (f := 38) Try.func38 rfl rfl rfl rfl ?_
  (repeat (first | (refine awp_seq ?_) | (refine awp_region ?_) | (refine awp_region_draw (by kernel_rfl) (by kernel_rfl) rfl ?_) | (refine awp_cond_t rfl ?_) | (refine awp_cond_f rfl ?_) | (refine awp_block ?_) | (refine awp_exit ?_) | (refine awp_ret ?_) | (refine awp_skip ?_) | (refine awp_label ?_) | (refine athen_normal ?_) | (refine athen_exit ?_) | (refine athen_ret ?_) | (refine ablock_normal ?_) | (refine ablock_ret ?_) | (refine ablock_same ?_) | (refine ablock_ne rfl ?_) | (refine al_nilS (by kernel_rfl) ?_) | (refine al_nil ?_) | (refine al_fld rfl rfl rfl ?_) | (refine al_idx rfl rfl rfl (by decide) (by decide) rfl ?_) | (refine al_load1 rfl rfl rfl rfl rfl ?_) | (refine al_loadN rfl rfl rfl rfl rfl ?_) | (refine al_store rfl rfl rfl rfl rfl rfl ?_) | (refine al_alloc rfl rfl rfl rfl ?_) | (refine al_box rfl rfl rfl rfl ?_) | (refine al_move rfl rfl rfl ?_) | (refine al_assign rfl rfl rfl ?_) | (refine al_extract rfl rfl rfl rfl ?_) | (refine al_build rfl rfl rfl rfl rfl ?_) | (refine al_lss rfl rfl rfl rfl ?_) | (refine al_leq rfl rfl rfl rfl ?_) | (refine al_gtr rfl rfl rfl rfl ?_) | (refine al_geq rfl rfl rfl rfl ?_) | (refine al_eql rfl rfl rfl rfl ?_) | (refine al_neq rfl rfl rfl rfl ?_) | (refine al_add rfl rfl rfl (by first | exact i64_wrap (by omega) | assumption | rfl) rfl ?_) | (refine al_sub rfl rfl rfl (by first | exact i64_wrap (by omega) | assumption | rfl) rfl ?_) | (refine al_mul rfl rfl rfl (by first | exact i64_wrap (by omega) | assumption | rfl) rfl ?_) | (refine al_not rfl rfl rfl ?_) | (refine al_convI rfl rfl (by first | exact i64_wrap (by omega) | assumption | rfl) rfl ?_) | (refine al_pick_t rfl rfl rfl rfl rfl ?_) | (refine al_pick_f rfl rfl rfl rfl rfl ?_) | (refine al_min rfl rfl rfl rfl ?_) | (refine al_max rfl rfl rfl rfl ?_) | (refine al_pass rfl (by rintro d ⟨⟩; rfl) ?_) | (refine roll_succ ?_) | (refine al_len rfl rfl rfl ?_) | (refine al_idxS rfl rfl rfl ?h0 ?h1 (by first | assumption | rfl) rfl ?_; (case h0 => first | decide | omega); (case h1 => first | decide | omega)) | (refine al_fldP rfl rfl rfl ?_) | (refine al_loadP1 rfl rfl rfl rfl rfl ?_) | (refine al_loadPN rfl rfl rfl rfl rfl ?_) | (refine al_eqP rfl rfl rfl rfl ?_) | (refine al_neqP rfl rfl rfl rfl ?_) | (refine al_eqB rfl rfl rfl rfl ?_) | (refine al_neg rfl rfl (by first | exact i64_wrap (by omega) | assumption | rfl) rfl ?_) | (refine al_rem rfl rfl rfl ?h0 ?h1 rfl ?_; (case h0 => first | assumption | omega); (case h1 => first | assumption | omega)) | (refine al_bslice rfl rfl rfl rfl rfl rfl rfl rfl rfl rfl ?_) | (refine al_call1 rfl rfl rfl (by first | (exact C1) | (exact C2) | (exact C3)) rfl ?_) | (refine al_call2 rfl rfl rfl rfl (by first | (exact C1) | (exact C2) | (exact C3)) rfl ?_) | (refine al_call0 rfl rfl (by first | (exact C1) | (exact C2) | (exact C3)) rfl ?_) | (refine al_call3 rfl rfl rfl rfl rfl (by first | (exact C1) | (exact C2) | (exact C3)) rfl ?_) | (refine al_call4 rfl rfl rfl rfl rfl rfl (by first | (exact C1) | (exact C2) | (exact C3)) rfl ?_) | (refine al_mkfn rfl (fun W => rfl) rfl ?_) | (refine awp_cond_1 rfl (by first | assumption | exact decide_eq_true (by omega) | (simp only [Bool.not_eq_true', decide_eq_false_iff_not, decide_eq_true_eq, Bool.not_eq_false']; omega)) ?_) | (refine awp_cond_0 rfl (by first | assumption | exact decide_eq_false (by omega) | (simp only [Bool.not_eq_true', decide_eq_false_iff_not, decide_eq_true_eq, Bool.not_eq_false']; omega)) ?_) | (refine al_guard_b (c := true) rfl rfl (by first | assumption | exact decide_eq_true (by omega) | (simp only [Bool.not_eq_true', decide_eq_false_iff_not, decide_eq_true_eq, Bool.not_eq_false']; omega)) ?_) | (refine al_guard_b (c := false) rfl rfl (by first | assumption | exact decide_eq_false (by omega) | (simp only [Bool.not_eq_true', decide_eq_false_iff_not, decide_eq_true_eq, Bool.not_eq_false']; omega)) ?_) | (refine al_bin rfl rfl rfl rfl rfl (by intro W; go_simp; try rfl) (by intro W; go_simp; try rfl) rfl rfl ?_) | (refine al_un rfl rfl (by intro W; go_simp; try rfl) rfl rfl ?_) | (refine al_conv rfl rfl (by intro W; go_simp; try rfl) rfl rfl ?_)))
  (first | (refine apost_ret rfl (resl_agg rfl rfl rfl resl_nil) ?_) | (refine apost_ret rfl (resl_one rfl rfl rfl resl_nil) ?_))
  exact AV.Le.refl _
set_option maxRecDepth 100000 in
set_option maxHeartbeats 4000000 in
theorem p_r5Meet_not {a1 a2 b1 b2 c1 c2 d1 d2 : Int} (h : (rB5 a1 a2 && rB5 b1 b2 && rB5 c1 c2 && rB5 d1 d2) = false) : PCall Try.prog 14 [vP a1 a2, vP b1 b2, vP c1 c2, vP d1 d2] (vM5 0 0 0 0 0 0 0 0 0) := by
  have R1 := p_r5Right (x := a1) (y := a2) rfl
  have R2 := p_r5Right (x := b1) (y := b2) rfl
  have R3 := p_r5Right (x := c1) (y := c2) rfl
  have R4 := p_r5Right (x := d1) (y := d2) rfl
  have cs : rB5 a1 a2 = false ∨ (rB5 a1 a2 = true ∧ rB5 b1 b2 = false) ∨ (rB5 a1 a2 = true ∧ rB5 b1 b2 = true ∧ rB5 c1 c2 = false) ∨ (rB5 a1 a2 = true ∧ rB5 b1 b2 = true ∧ rB5 c1 c2 = true ∧ rB5 d1 d2 = false) := by
    generalize rB5 a1 a2 = r1 at *
    generalize rB5 b1 b2 = r2 at *
    generalize rB5 c1 c2 = r3 at *
    generalize rB5 d1 d2 = r4 at *
    cases r1 <;> cases r2 <;> cases r3 <;> cases r4 <;> simp_all
  clear h
  rcases cs with h1 | ⟨h1, h2⟩ | ⟨h1, h2, h3⟩ | ⟨h1, h2, h3, h4⟩ <;> simp only [*] at R1 R2 R3 R4
  all_goals
    refine pcall_body (f := 14) Try.func14 rfl rfl rfl rfl ?_
    (repeat (first | (refine awp_seq ?_) | (refine awp_region ?_) | (refine awp_region_draw (by kernel_rfl) (by kernel_rfl) rfl ?_) | (refine awp_cond_t rfl ?_) | (refine awp_cond_f rfl ?_) | (refine awp_block ?_) | (refine awp_exit ?_) | (refine awp_ret ?_) | (refine awp_skip ?_) | (refine awp_label ?_) | (refine athen_normal ?_) | (refine athen_exit ?_) | (refine athen_ret ?_) | (refine ablock_normal ?_) | (refine ablock_ret ?_) | (refine ablock_same ?_) | (refine ablock_ne rfl ?_) | (refine al_nilS (by kernel_rfl) ?_) | (refine al_nil ?_) | (refine al_fld rfl rfl rfl ?_) | (refine al_idx rfl rfl rfl (by decide) (by decide) rfl ?_) | (refine al_load1 rfl rfl rfl rfl rfl ?_) | (refine al_loadN rfl rfl rfl rfl rfl ?_) | (refine al_store rfl rfl rfl rfl rfl rfl ?_) | (refine al_alloc rfl rfl rfl rfl ?_) | (refine al_box rfl rfl rfl rfl ?_) | (refine al_move rfl rfl rfl ?_) | (refine al_assign rfl rfl rfl ?_) | (refine al_extract rfl rfl rfl rfl ?_) | (refine al_build rfl rfl rfl rfl rfl ?_) | (refine al_lss rfl rfl rfl rfl ?_) | (refine al_leq rfl rfl rfl rfl ?_) | (refine al_gtr rfl rfl rfl rfl ?_) | (refine al_geq rfl rfl rfl rfl ?_) | (refine al_eql rfl rfl rfl rfl ?_) | (refine al_neq rfl rfl rfl rfl ?_) | (refine al_add rfl rfl rfl (by first | exact i64_wrap (by omega) | assumption | rfl) rfl ?_) | (refine al_sub rfl rfl rfl (by first | exact i64_wrap (by omega) | assumption | rfl) rfl ?_) | (refine al_mul rfl rfl rfl (by first | exact i64_wrap (by omega) | assumption | rfl) rfl ?_) | (refine al_not rfl rfl rfl ?_) | (refine al_convI rfl rfl (by first | exact i64_wrap (by omega) | assumption | rfl) rfl ?_) | (refine al_pick_t rfl rfl rfl rfl rfl ?_) | (refine al_pick_f rfl rfl rfl rfl rfl ?_) | (refine al_min rfl rfl rfl rfl ?_) | (refine al_max rfl rfl rfl rfl ?_) | (refine al_pass rfl (by rintro d ⟨⟩; rfl) ?_) | (refine roll_succ ?_) | (refine al_len rfl rfl rfl ?_) | (refine al_idxS rfl rfl rfl ?h0 ?h1 (by first | assumption | rfl) rfl ?_; (case h0 => first | decide | omega); (case h1 => first | decide | omega)) | (refine al_fldP rfl rfl rfl ?_) | (refine al_loadP1 rfl rfl rfl rfl rfl ?_) | (refine al_loadPN rfl rfl rfl rfl rfl ?_) | (refine al_eqP rfl rfl rfl rfl ?_) | (refine al_neqP rfl rfl rfl rfl ?_) | (refine al_eqB rfl rfl rfl rfl ?_) | (refine al_neg rfl rfl (by first | exact i64_wrap (by omega) | assumption | rfl) rfl ?_) | (refine al_rem rfl rfl rfl ?h0 ?h1 rfl ?_; (case h0 => first | assumption | omega); (case h1 => first | assumption | omega)) | (refine al_bslice rfl rfl rfl rfl rfl rfl rfl rfl rfl rfl ?_) | (refine al_call1 rfl rfl rfl (by first | (exact R1) | (exact R2) | (exact R3) | (exact R4)) rfl ?_) | (refine al_call2 rfl rfl rfl rfl (by first | (exact R1) | (exact R2) | (exact R3) | (exact R4)) rfl ?_) | (refine al_call0 rfl rfl (by first | (exact R1) | (exact R2) | (exact R3) | (exact R4)) rfl ?_) | (refine al_call3 rfl rfl rfl rfl rfl (by first | (exact R1) | (exact R2) | (exact R3) | (exact R4)) rfl ?_) | (refine al_call4 rfl rfl rfl rfl rfl rfl (by first | (exact R1) | (exact R2) | (exact R3) | (exact R4)) rfl ?_) | (refine al_mkfn rfl (fun W => rfl) rfl ?_) | (refine awp_cond_1 rfl (by first | assumption | exact decide_eq_true (by omega) | (simp only [Bool.not_eq_true', decide_eq_false_iff_not, decide_eq_true_eq, Bool.not_eq_false']; omega)) ?_) | (refine awp_cond_0 rfl (by first | assumption | exact decide_eq_false (by omega) | (simp only [Bool.not_eq_true', decide_eq_false_iff_not, decide_eq_true_eq, Bool.not_eq_false']; omega)) ?_) | (refine al_guard_b (c := true) rfl rfl (by first | assumption | exact decide_eq_true (by omega) | (simp only [Bool.not_eq_true', decide_eq_false_iff_not, decide_eq_true_eq, Bool.not_eq_false']; omega)) ?_) | (refine al_guard_b (c := false) rfl rfl (by first | assumption | exact decide_eq_false (by omega) | (simp only [Bool.not_eq_true', decide_eq_false_iff_not, decide_eq_true_eq, Bool.not_eq_false']; omega)) ?_) | (refine al_bin rfl rfl rfl rfl rfl (by intro W; go_simp; try rfl) (by intro W; go_simp; try rfl) rfl rfl ?_) | (refine al_un rfl rfl (by intro W; go_simp; try rfl) rfl rfl ?_) | (refine al_conv rfl rfl (by intro W; go_simp; try rfl) rfl rfl ?_)))
    (first | (refine apost_ret rfl (resl_agg rfl rfl rfl resl_nil) ?_) | (refine apost_ret rfl (resl_one rfl rfl rfl resl_nil) ?_))
    exact zero_m5
end Go.Proofs.Ytlhgmlebjnkonaa
