/-
  The statements of layer 3: alive. My own text.
-/
import Derived.Test.YtinjgiigmlikpaaAbsQ
namespace Go.Proofs.Ytinjgiigmlikpaa
open Go.RowKit
set_option linter.unusedVariables false
set_option linter.unusedSimpArgs false
set_option maxRecDepth 100000 in
set_option maxHeartbeats 4000000 in
theorem p_alive3 : PCall Try.prog 35 [] (vB true) := by
  have i2 : IsR 2 2 := isR_nat (r := 2) (by decide)
  have i1 : IsR 1 1 := isR_nat (r := 1) (by decide)
  have O1 : PCall Try.prog 34 [vP 6 (-6), vI 2] (vP 2 (-1)) := p_gOf i2 (by decide) (by decide) (by decide) (by decide)
  have F1 : PCall Try.prog 21 [vI 3] (fv 3 1) := p_fOf (by decide) (by decide)
  have A1 : PCall Try.prog 36 [fv 7 2, fv 3 1, vI 1] (.tup [.agg [.c (.int .i64 2), .c (.int .i64 2)], .one (.c (.bool true))]) := p_At i1 (b := true) (by decide) (by decide) (by decide) (by decide) (by decide)
  have S1 : PCall Try.prog 39 [vP 2 (-1), vI 2] (.tup [.agg [.c (.int .i64 12), .c (.int .i64 (-12))], .agg [.c (.int .i64 20), .c (.int .i64 (-4))]]) := p_Sides i2 (by decide)
  have C1 : PCall Try.prog 38 [vP 2 (-1), vI 2] (vP 8 (-4)) := p_Center i2 (by decide)
  have K1 : PCall Try.prog 44 [vP 2 (-1), vP 2 2] (vI (-1)) := p_gCmp
  have P1 : PCall Try.prog 30 [vI 6, vI 2] (vI 2) := p_gSnap i2 (by decide) (by decide)
  have R1 : PCall Try.prog 32 [vI 28] (vB true) := p_gRight
  have R2 : PCall Try.prog 32 [vI 29] (vB false) := p_gRight
  have I1 : PCall Try.prog 41 [vP 2 (-1), vI 2] (vB true) := p_In i2 (by decide)
  clear i1 i2
  refine pcall_body (f := 35) Try.func35 rfl rfl rfl rfl ?_
  (repeat (first | (refine awp_seq ?_) | (refine awp_region ?_) | (refine awp_region_draw (by kernel_rfl) (by kernel_rfl) rfl ?_) | (refine awp_cond_t rfl ?_) | (refine awp_cond_f rfl ?_) | (refine awp_block ?_) | (refine awp_exit ?_) | (refine awp_ret ?_) | (refine awp_skip ?_) | (refine awp_label ?_) | (refine athen_normal ?_) | (refine athen_exit ?_) | (refine athen_ret ?_) | (refine ablock_normal ?_) | (refine ablock_ret ?_) | (refine ablock_same ?_) | (refine ablock_ne rfl ?_) | (refine al_nilS (by kernel_rfl) ?_) | (refine al_nil ?_) | (refine al_fld rfl rfl rfl ?_) | (refine al_idx rfl rfl rfl (by decide) (by decide) rfl ?_) | (refine al_load1 rfl rfl rfl rfl rfl ?_) | (refine al_loadN rfl rfl rfl rfl rfl ?_) | (refine al_store rfl rfl rfl rfl rfl rfl ?_) | (refine al_alloc rfl rfl rfl rfl ?_) | (refine al_box rfl rfl rfl rfl ?_) | (refine al_move rfl rfl rfl ?_) | (refine al_assign rfl rfl rfl ?_) | (refine al_extract rfl rfl rfl rfl ?_) | (refine al_build rfl rfl rfl rfl rfl ?_) | (refine al_lss rfl rfl rfl rfl ?_) | (refine al_leq rfl rfl rfl rfl ?_) | (refine al_gtr rfl rfl rfl rfl ?_) | (refine al_geq rfl rfl rfl rfl ?_) | (refine al_eql rfl rfl rfl rfl ?_) | (refine al_neq rfl rfl rfl rfl ?_) | (refine al_add rfl rfl rfl (by first | exact i64_wrap (by omega) | assumption | rfl) rfl ?_) | (refine al_sub rfl rfl rfl (by first | exact i64_wrap (by omega) | assumption | rfl) rfl ?_) | (refine al_mul rfl rfl rfl (by first | exact i64_wrap (by omega) | assumption | rfl) rfl ?_) | (refine al_not rfl rfl rfl ?_) | (refine al_convI rfl rfl (by first | exact i64_wrap (by omega) | assumption | rfl) rfl ?_) | (refine al_pick_t rfl rfl rfl rfl rfl ?_) | (refine al_pick_f rfl rfl rfl rfl rfl ?_) | (refine al_min rfl rfl rfl rfl ?_) | (refine al_max rfl rfl rfl rfl ?_) | (refine al_pass rfl (by rintro d ⟨⟩; rfl) ?_) | (refine al_call1 rfl rfl rfl (by first | (exact O1) | (exact p_wOf (by decide) (by decide)) | (exact F1) | (exact A1) | (exact S1) | (exact C1) | (exact K1) | (exact P1) | (exact R1) | (exact R2) | (exact I1)) rfl ?_) | (refine al_call2 rfl rfl rfl rfl (by first | (exact O1) | (exact p_wOf (by decide) (by decide)) | (exact F1) | (exact A1) | (exact S1) | (exact C1) | (exact K1) | (exact P1) | (exact R1) | (exact R2) | (exact I1)) rfl ?_) | (refine al_call0 rfl rfl (by first | (exact O1) | (exact p_wOf (by decide) (by decide)) | (exact F1) | (exact A1) | (exact S1) | (exact C1) | (exact K1) | (exact P1) | (exact R1) | (exact R2) | (exact I1)) rfl ?_) | (refine al_call3 rfl rfl rfl rfl rfl (by first | (exact O1) | (exact p_wOf (by decide) (by decide)) | (exact F1) | (exact A1) | (exact S1) | (exact C1) | (exact K1) | (exact P1) | (exact R1) | (exact R2) | (exact I1)) rfl ?_) | (refine al_call4 rfl rfl rfl rfl rfl rfl (by first | (exact O1) | (exact p_wOf (by decide) (by decide)) | (exact F1) | (exact A1) | (exact S1) | (exact C1) | (exact K1) | (exact P1) | (exact R1) | (exact R2) | (exact I1)) rfl ?_) | (refine al_mkfn rfl (fun W => rfl) rfl ?_) | (refine awp_cond_1 rfl (by first | assumption | exact decide_eq_true (by omega) | (simp only [Bool.not_eq_true', decide_eq_false_iff_not, decide_eq_true_eq, Bool.not_eq_false']; omega)) ?_) | (refine awp_cond_0 rfl (by first | assumption | exact decide_eq_false (by omega) | (simp only [Bool.not_eq_true', decide_eq_false_iff_not, decide_eq_true_eq, Bool.not_eq_false']; omega)) ?_) | (refine al_guard_b (c := true) rfl rfl (by first | assumption | exact decide_eq_true (by omega) | (simp only [Bool.not_eq_true', decide_eq_false_iff_not, decide_eq_true_eq, Bool.not_eq_false']; omega)) ?_) | (refine al_guard_b (c := false) rfl rfl (by first | assumption | exact decide_eq_false (by omega) | (simp only [Bool.not_eq_true', decide_eq_false_iff_not, decide_eq_true_eq, Bool.not_eq_false']; omega)) ?_) | (refine al_bin rfl rfl rfl rfl rfl (by intro W; go_simp; try rfl) (by intro W; go_simp; try rfl) rfl rfl ?_) | (refine al_un rfl rfl (by intro W; go_simp; try rfl) rfl rfl ?_) | (refine al_conv rfl rfl (by intro W; go_simp; try rfl) rfl rfl ?_)))
  (first | (refine apost_ret rfl (resl_tmp rfl resl_nil) ?_))
  exact AV.Le.refl _
end Go.Proofs.Ytinjgiigmlikpaa
