/-
  Package frac, the reference package of layer 2, and the statements' own calls, by values. My own text.
-/
import Derived.Test.YtlhgmlebjnkonaaAbsN
namespace Go.Proofs.Ytlhgmlebjnkonaa
open Go.RowKit
set_option linter.unusedVariables false
set_option linter.unusedSimpArgs false
abbrev fi (n d : Int) : AW := .agg [.c (.int .i64 (hiW n)), .c (.int .u64 (loW n)), .c (.int .i64 (hiW d)), .c (.int .u64 (loW d))]
abbrev fv (n d : Int) : AV := .w (fi n d)
abbrev fx (n d : Int) : Value := .agg #[.int .i64 (hiW n), .int .u64 (loW n), .int .i64 (hiW d), .int .u64 (loW d)]
abbrev wx (n : Int) : Value := .agg #[.int .i64 (hiW n), .int .u64 (loW n)]
@[go_sem] theorem eqF_hl (n d n' d' : Int) : eqF (hiW n) (loW n) (hiW d) (loW d) (hiW n') (loW n') (hiW d') (loW d') = (decide (n = n') && decide (d = d')) := by unfold eqF; rw [eqW_hl, eqW_hl]
@[go_sem] theorem eqF_h0 (n d : Int) : eqF (hiW n) (loW n) (hiW d) (loW d) 0 0 0 0 = (decide (n = 0) && decide (d = 0)) := by unfold eqF; rw [eqW_h0, eqW_h0]
theorem rf_ev {n d : Int} {a b c f : Int} {w w' : World} {e : Ending} (he : e = .returned (.agg #[.int .i64 a, .int .u64 b, .int .i64 c, .int .u64 f])) (h1 : IsW a b n) (h2 : IsW c f d) (hb : Below w.heap.size w w') : e = .returned (fx n d) ∧ Below w.heap.size w w' := by
  obtain ⟨rfl, rfl⟩ := isW_is h1
  obtain ⟨rfl, rfl⟩ := isW_is h2
  exact ⟨he, hb⟩
theorem rfb_ev {s : Bool} {n d : Int} {w w' : World} {e : Ending} (h : RFB s n d w e w') : e = .returned (.tuple #[fx n d, .bool s]) ∧ Below w.heap.size w w' := by
  obtain ⟨a, b, c, f, he, h1, h2, hb⟩ := h
  obtain ⟨rfl, rfl⟩ := isW_is h1
  obtain ⟨rfl, rfl⟩ := isW_is h2
  exact ⟨he, hb⟩
theorem rw_ev {n : Int} {w w' : World} {e : Ending} (h : RW n w e w') : e = .returned (wx n) ∧ Below w.heap.size w w' := by
  obtain ⟨a, b, he, h1, hb⟩ := h
  obtain ⟨rfl, rfl⟩ := isW_is h1
  exact ⟨he, hb⟩
theorem p_fOf {k : Int} (h0 : -9223372036854775808 ≤ k) (h1 : k < 9223372036854775808) : PCall Try.prog 20 [vI k] (fv k 1) :=
  pcall_ev [.int .i64 k] (fx k 1) rfl rfl rfl rfl rfl fun W => (fOf_any k W h0 h1).mono fun e w' ⟨a, b, c, f, he, h1, h2, hb⟩ => rf_ev he h1 h2 hb
theorem p_Make_pos {n d : Int} (f : fits n = true) (g : fits d = true) (hd : 0 < d) : PCall Try.prog 51 [wv n, wv d] (.tup [fi n d, .one (.c (.bool true))]) :=
  pcall_ev [wx n, wx d] (.tuple #[fx n d, .bool true]) rfl rfl rfl rfl rfl fun W => (Make_pos _ _ n _ _ d W (isW_hl f) (isW_hl g) hd).mono fun e w' h => rfb_ev h
theorem p_Make_zero {n : Int} (f : fits n = true) : PCall Try.prog 51 [wv n, wv 0] (.tup [fi 0 0, .one (.c (.bool false))]) :=
  pcall_ev [wx n, wx 0] (.tuple #[fx 0 0, .bool false]) rfl rfl rfl rfl rfl fun W => (Make_zero _ _ n _ _ W (isW_hl f) (isW_hl (n := 0) (by decide))).mono fun e w' h => rfb_ev h
theorem p_Make_neg {n d : Int} (f : fits n = true) (g : fits d = true) (hd : d < 0) {s : Bool} {x y : Int} (hs : (fits (-n) && fits (-d)) = s) (hx : x = if s then -n else 0) (hy : y = if s then -d else 0) : PCall Try.prog 51 [wv n, wv d] (.tup [fi x y, .one (.c (.bool s))]) :=
  pcall_ev [wx n, wx d] (.tuple #[fx x y, .bool s]) rfl rfl rfl rfl rfl fun W => (Make_neg _ _ n _ _ d W (isW_hl f) (isW_hl g) hd).mono fun e w' h => by unfold RFM at h; rw [hs] at h; rw [hx, hy]; exact rfb_ev h
theorem p_Right {n d : Int} (g : fits d = true) : PCall Try.prog 21 [fv n d] (vB (decide (0 < d))) :=
  pcall_ev [fx n d] (.bool (decide (0 < d))) rfl rfl rfl rfl rfl fun W => Right_any _ _ _ _ d W (isW_hl g)
theorem p_fCmp {n d n' d' : Int} (f : fits n = true) (g : fits d = true) (f' : fits n' = true) (g' : fits d' = true) (hd : 0 < d) (hd' : 0 < d') : PCall Try.prog 19 [fv n d, fv n' d'] (vI (icmp (n * d') (n' * d))) :=
  pcall_ev [fx n d, fx n' d'] (.int .i64 (icmp (n * d') (n' * d))) rfl rfl rfl rfl rfl fun W => fCmp_yes _ _ n _ _ d _ _ n' _ _ d' W (isW_hl f) (isW_hl g) (isW_hl f') (isW_hl g') hd hd'
set_option maxRecDepth 100000 in
theorem p_num {n : Int} (f : fits n = true) : PCall Try.prog 53 [wv n] (nv n) := by
  have C := p_rWide f
  clear f
  refine pcall_body (f := 53) Try.func53 rfl rfl rfl rfl ?_
  (repeat (first | (refine awp_seq ?_) | (refine awp_region ?_) | (refine awp_region_draw (by kernel_rfl) (by kernel_rfl) rfl ?_) | (refine awp_cond_t rfl ?_) | (refine awp_cond_f rfl ?_) | (refine awp_block ?_) | (refine awp_exit ?_) | (refine awp_ret ?_) | (refine awp_skip ?_) | (refine awp_label ?_) | (refine athen_normal ?_) | (refine athen_exit ?_) | (refine athen_ret ?_) | (refine ablock_normal ?_) | (refine ablock_ret ?_) | (refine ablock_same ?_) | (refine ablock_ne rfl ?_) | (refine al_nilS (by kernel_rfl) ?_) | (refine al_nil ?_) | (refine al_fld rfl rfl rfl ?_) | (refine al_idx rfl rfl rfl (by decide) (by decide) rfl ?_) | (refine al_load1 rfl rfl rfl rfl rfl ?_) | (refine al_loadN rfl rfl rfl rfl rfl ?_) | (refine al_store rfl rfl rfl rfl rfl rfl ?_) | (refine al_alloc rfl rfl rfl rfl ?_) | (refine al_box rfl rfl rfl rfl ?_) | (refine al_move rfl rfl rfl ?_) | (refine al_assign rfl rfl rfl ?_) | (refine al_extract rfl rfl rfl rfl ?_) | (refine al_build rfl rfl rfl rfl rfl ?_) | (refine al_lss rfl rfl rfl rfl ?_) | (refine al_leq rfl rfl rfl rfl ?_) | (refine al_gtr rfl rfl rfl rfl ?_) | (refine al_geq rfl rfl rfl rfl ?_) | (refine al_eql rfl rfl rfl rfl ?_) | (refine al_neq rfl rfl rfl rfl ?_) | (refine al_add rfl rfl rfl (by first | exact i64_wrap (by omega) | assumption | rfl) rfl ?_) | (refine al_sub rfl rfl rfl (by first | exact i64_wrap (by omega) | assumption | rfl) rfl ?_) | (refine al_mul rfl rfl rfl (by first | exact i64_wrap (by omega) | assumption | rfl) rfl ?_) | (refine al_not rfl rfl rfl ?_) | (refine al_convI rfl rfl (by first | exact i64_wrap (by omega) | assumption | rfl) rfl ?_) | (refine al_pick_t rfl rfl rfl rfl rfl ?_) | (refine al_pick_f rfl rfl rfl rfl rfl ?_) | (refine al_min rfl rfl rfl rfl ?_) | (refine al_max rfl rfl rfl rfl ?_) | (refine al_pass rfl (by rintro d ⟨⟩; rfl) ?_) | (refine roll_succ ?_) | (refine al_len rfl rfl rfl ?_) | (refine al_idxS rfl rfl rfl ?h0 ?h1 (by first | assumption | rfl) rfl ?_; (case h0 => first | decide | omega); (case h1 => first | decide | omega)) | (refine al_fldP rfl rfl rfl ?_) | (refine al_loadP1 rfl rfl rfl rfl rfl ?_) | (refine al_loadPN rfl rfl rfl rfl rfl ?_) | (refine al_eqP rfl rfl rfl rfl ?_) | (refine al_neqP rfl rfl rfl rfl ?_) | (refine al_eqB rfl rfl rfl rfl ?_) | (refine al_neg rfl rfl (by first | exact i64_wrap (by omega) | assumption | rfl) rfl ?_) | (refine al_rem rfl rfl rfl ?h0 ?h1 rfl ?_; (case h0 => first | assumption | omega); (case h1 => first | assumption | omega)) | (refine al_bslice rfl rfl rfl rfl rfl rfl rfl rfl rfl rfl ?_) | (refine al_call1 rfl rfl rfl (by first | (exact C)) rfl ?_) | (refine al_call2 rfl rfl rfl rfl (by first | (exact C)) rfl ?_) | (refine al_call0 rfl rfl (by first | (exact C)) rfl ?_) | (refine al_call3 rfl rfl rfl rfl rfl (by first | (exact C)) rfl ?_) | (refine al_call4 rfl rfl rfl rfl rfl rfl (by first | (exact C)) rfl ?_) | (refine al_mkfn rfl (fun W => rfl) rfl ?_) | (refine awp_cond_1 rfl (by first | assumption | exact decide_eq_true (by omega) | (simp only [Bool.not_eq_true', decide_eq_false_iff_not, decide_eq_true_eq, Bool.not_eq_false']; omega)) ?_) | (refine awp_cond_0 rfl (by first | assumption | exact decide_eq_false (by omega) | (simp only [Bool.not_eq_true', decide_eq_false_iff_not, decide_eq_true_eq, Bool.not_eq_false']; omega)) ?_) | (refine al_guard_b (c := true) rfl rfl (by first | assumption | exact decide_eq_true (by omega) | (simp only [Bool.not_eq_true', decide_eq_false_iff_not, decide_eq_true_eq, Bool.not_eq_false']; omega)) ?_) | (refine al_guard_b (c := false) rfl rfl (by first | assumption | exact decide_eq_false (by omega) | (simp only [Bool.not_eq_true', decide_eq_false_iff_not, decide_eq_true_eq, Bool.not_eq_false']; omega)) ?_) | (refine al_bin rfl rfl rfl rfl rfl (by intro W; go_simp; try rfl) (by intro W; go_simp; try rfl) rfl rfl ?_) | (refine al_un rfl rfl (by intro W; go_simp; try rfl) rfl rfl ?_) | (refine al_conv rfl rfl (by intro W; go_simp; try rfl) rfl rfl ?_)))
  (first | (refine apost_ret rfl (resl_agg rfl rfl rfl resl_nil) ?_) | (refine apost_ret rfl (resl_one rfl rfl rfl resl_nil) ?_))
  exact AV.Le.refl _
/-- a fraction of the reference package. -/
abbrev rfi (n d : Int) : AW := .agg [.c (.bool (decide (n < 0))), .p (NumP n), .c (.bool (decide (d < 0))), .p (NumP d)]
abbrev rfv (n d : Int) : AV := .w (rfi n d)
set_option maxRecDepth 100000 in
theorem p_Old {n d : Int} (f : fits n = true) (g : fits d = true) : PCall Try.prog 30 [fv n d] (rfv n d) := by
  have C := p_num f
  have D := p_num g
  clear f g
  refine pcall_body (f := 30) Try.func30 rfl rfl rfl rfl ?_
  (repeat (first | (refine awp_seq ?_) | (refine awp_region ?_) | (refine awp_region_draw (by kernel_rfl) (by kernel_rfl) rfl ?_) | (refine awp_cond_t rfl ?_) | (refine awp_cond_f rfl ?_) | (refine awp_block ?_) | (refine awp_exit ?_) | (refine awp_ret ?_) | (refine awp_skip ?_) | (refine awp_label ?_) | (refine athen_normal ?_) | (refine athen_exit ?_) | (refine athen_ret ?_) | (refine ablock_normal ?_) | (refine ablock_ret ?_) | (refine ablock_same ?_) | (refine ablock_ne rfl ?_) | (refine al_nilS (by kernel_rfl) ?_) | (refine al_nil ?_) | (refine al_fld rfl rfl rfl ?_) | (refine al_idx rfl rfl rfl (by decide) (by decide) rfl ?_) | (refine al_load1 rfl rfl rfl rfl rfl ?_) | (refine al_loadN rfl rfl rfl rfl rfl ?_) | (refine al_store rfl rfl rfl rfl rfl rfl ?_) | (refine al_alloc rfl rfl rfl rfl ?_) | (refine al_box rfl rfl rfl rfl ?_) | (refine al_move rfl rfl rfl ?_) | (refine al_assign rfl rfl rfl ?_) | (refine al_extract rfl rfl rfl rfl ?_) | (refine al_build rfl rfl rfl rfl rfl ?_) | (refine al_lss rfl rfl rfl rfl ?_) | (refine al_leq rfl rfl rfl rfl ?_) | (refine al_gtr rfl rfl rfl rfl ?_) | (refine al_geq rfl rfl rfl rfl ?_) | (refine al_eql rfl rfl rfl rfl ?_) | (refine al_neq rfl rfl rfl rfl ?_) | (refine al_add rfl rfl rfl (by first | exact i64_wrap (by omega) | assumption | rfl) rfl ?_) | (refine al_sub rfl rfl rfl (by first | exact i64_wrap (by omega) | assumption | rfl) rfl ?_) | (refine al_mul rfl rfl rfl (by first | exact i64_wrap (by omega) | assumption | rfl) rfl ?_) | (refine al_not rfl rfl rfl ?_) | (refine al_convI rfl rfl (by first | exact i64_wrap (by omega) | assumption | rfl) rfl ?_) | (refine al_pick_t rfl rfl rfl rfl rfl ?_) | (refine al_pick_f rfl rfl rfl rfl rfl ?_) | (refine al_min rfl rfl rfl rfl ?_) | (refine al_max rfl rfl rfl rfl ?_) | (refine al_pass rfl (by rintro d ⟨⟩; rfl) ?_) | (refine roll_succ ?_) | (refine al_len rfl rfl rfl ?_) | (refine al_idxS rfl rfl rfl ?h0 ?h1 (by first | assumption | rfl) rfl ?_; (case h0 => first | decide | omega); (case h1 => first | decide | omega)) | (refine al_fldP rfl rfl rfl ?_) | (refine al_loadP1 rfl rfl rfl rfl rfl ?_) | (refine al_loadPN rfl rfl rfl rfl rfl ?_) | (refine al_eqP rfl rfl rfl rfl ?_) | (refine al_neqP rfl rfl rfl rfl ?_) | (refine al_eqB rfl rfl rfl rfl ?_) | (refine al_neg rfl rfl (by first | exact i64_wrap (by omega) | assumption | rfl) rfl ?_) | (refine al_rem rfl rfl rfl ?h0 ?h1 rfl ?_; (case h0 => first | assumption | omega); (case h1 => first | assumption | omega)) | (refine al_bslice rfl rfl rfl rfl rfl rfl rfl rfl rfl rfl ?_) | (refine al_call1 rfl rfl rfl (by first | (exact C) | (exact D)) rfl ?_) | (refine al_call2 rfl rfl rfl rfl (by first | (exact C) | (exact D)) rfl ?_) | (refine al_call0 rfl rfl (by first | (exact C) | (exact D)) rfl ?_) | (refine al_call3 rfl rfl rfl rfl rfl (by first | (exact C) | (exact D)) rfl ?_) | (refine al_call4 rfl rfl rfl rfl rfl rfl (by first | (exact C) | (exact D)) rfl ?_) | (refine al_mkfn rfl (fun W => rfl) rfl ?_) | (refine awp_cond_1 rfl (by first | assumption | exact decide_eq_true (by omega) | (simp only [Bool.not_eq_true', decide_eq_false_iff_not, decide_eq_true_eq, Bool.not_eq_false']; omega)) ?_) | (refine awp_cond_0 rfl (by first | assumption | exact decide_eq_false (by omega) | (simp only [Bool.not_eq_true', decide_eq_false_iff_not, decide_eq_true_eq, Bool.not_eq_false']; omega)) ?_) | (refine al_guard_b (c := true) rfl rfl (by first | assumption | exact decide_eq_true (by omega) | (simp only [Bool.not_eq_true', decide_eq_false_iff_not, decide_eq_true_eq, Bool.not_eq_false']; omega)) ?_) | (refine al_guard_b (c := false) rfl rfl (by first | assumption | exact decide_eq_false (by omega) | (simp only [Bool.not_eq_true', decide_eq_false_iff_not, decide_eq_true_eq, Bool.not_eq_false']; omega)) ?_) | (refine al_bin rfl rfl rfl rfl rfl (by intro W; go_simp; try rfl) (by intro W; go_simp; try rfl) rfl rfl ?_) | (refine al_un rfl rfl (by intro W; go_simp; try rfl) rfl rfl ?_) | (refine al_conv rfl rfl (by intro W; go_simp; try rfl) rfl rfl ?_)))
  (first | (refine apost_ret rfl (resl_agg rfl rfl rfl resl_nil) ?_) | (refine apost_ret rfl (resl_one rfl rfl rfl resl_nil) ?_))
  exact AV.Le.refl _
theorem nea_eq {n d : Int} (hd : 0 < d) : nea n d = (n + n + d) / (d * 2) := by
  have h1 := Int.mul_ediv_add_emod n d
  have h2 := Int.emod_nonneg n (show d ≠ 0 by omega)
  have h3 := Int.emod_lt_of_pos n hd
  unfold nea
  generalize n / d = q at *
  generalize n % d = r at *
  have e : n + n + d = (r + r + d) + q * (d * 2) := by rw [← h1, Int.mul_comm q (d * 2), Int.mul_assoc, Int.mul_left_comm d 2 q]; omega
  rw [e, Int.add_mul_ediv_right _ _ (by omega)]
  split
  · rw [Int.ediv_eq_zero_of_lt (by omega) (by omega)]; omega
  · have : (r + r + d) / (d * 2) = 1 := by
      rw [show r + r + d = (r + r - d) + 1 * (d * 2) by omega, Int.add_mul_ediv_right _ _ (by omega), Int.ediv_eq_zero_of_lt (by omega) (by omega)]
      omega
    rw [this]; omega
theorem snap_eq {n d : Int} (k : Nat) (hd : 0 < d) : (n + n + d * 2 ^ k) / (d * 2 ^ (k + 1)) = sna n d k := by
  unfold sna
  rcases k with _ | k
  · rw [if_pos rfl, nea_eq hd]
    simp
  · rw [if_neg (by omega), nea_eq (Int.pow_pos (by decide))]
    have hp : (0 : Int) < 2 ^ k := Int.pow_pos (by decide)
    rw [Int.pow_succ 2 (k + 1), Int.pow_succ 2 k]
    generalize (2 : Int) ^ k = Q at *
    have e1 : (n + n + d * (Q * 2)) / (d * (Q * 2 * 2)) = (n + d * Q) / (d * (Q * 2)) := by
      rw [show n + n + d * (Q * 2) = 2 * (n + d * Q) by rw [Int.mul_comm Q 2, Int.mul_left_comm]; omega, show d * (Q * 2 * 2) = 2 * (d * (Q * 2)) by rw [Int.mul_comm (Q * 2) 2, Int.mul_left_comm], Int.mul_ediv_mul_of_pos _ _ (by decide)]
    have e2 : (n / d + n / d + Q * 2) / (Q * 2 * 2) = (n / d + Q) / (Q * 2) := by
      rw [show n / d + n / d + Q * 2 = 2 * (n / d + Q) by omega, Int.mul_comm (Q * 2) 2, Int.mul_ediv_mul_of_pos _ _ (by decide)]
    rw [e1, e2, ← Int.ediv_ediv_of_nonneg (by omega), Int.mul_comm d Q, Int.add_mul_ediv_right _ _ (by omega)]
end Go.Proofs.Ytlhgmlebjnkonaa
