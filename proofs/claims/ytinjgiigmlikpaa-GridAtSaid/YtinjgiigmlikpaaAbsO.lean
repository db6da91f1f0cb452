/-
  Package frac, the reference package of layer 2, and the statements' own calls, by values. My own text.
-/
import Derived.Test.YtinjgiigmlikpaaAbsN
namespace Go.Proofs.Ytinjgiigmlikpaa
open Go.RowKit
set_option linter.unusedVariables false
set_option linter.unusedSimpArgs false
abbrev fi (n d : Int) : AW := .agg [.c (.int .i64 (hiW n)), .c (.int .u64 (loW n)), .c (.int .i64 (hiW d)), .c (.int .u64 (loW d))]
abbrev fv (n d : Int) : AV := .w (fi n d)
abbrev fx (n d : Int) : Value := .agg #[.int .i64 (hiW n), .int .u64 (loW n), .int .i64 (hiW d), .int .u64 (loW d)]
abbrev wx (n : Int) : Value := .agg #[.int .i64 (hiW n), .int .u64 (loW n)]
@[go_sem] theorem eqF_hl (n d n' d' : Int) : eqF (hiW n) (loW n) (hiW d) (loW d) (hiW n') (loW n') (hiW d') (loW d') = (decide (n = n') && decide (d = d')) := by unfold eqF; rw [eqW_hl, eqW_hl]
@[go_sem] theorem eqF_h0 (n d : Int) : eqF (hiW n) (loW n) (hiW d) (loW d) 0 0 0 0 = (decide (n = 0) && decide (d = 0)) := by unfold eqF; rw [eqW_h0, eqW_h0]
theorem rf_ev {n d : Int} {a b c f : Int} {w w' : World} {e : Ending} (he : e = .returned (.agg #[.int .i64 a, .int .u64 b, .int .i64 c, .int .u64 f])) (h1 : IsW a b n) (h2 : IsW c f d) (hb : Below w.heap.size w w') : e = .returned (fx n d) ∧ Below w.heap.size w w' := by
  obtain ⟨rfl, rfl⟩ := isW_is h1
  obtain ⟨rfl, rfl⟩ := isW_is h2
  exact ⟨he, hb⟩
theorem rfb_ev {s : Bool} {n d : Int} {w w' : World} {e : Ending} (h : RFB s n d w e w') : e = .returned (.tuple #[fx n d, .bool s]) ∧ Below w.heap.size w w' := by
  obtain ⟨a, b, c, f, he, h1, h2, hb⟩ := h
  obtain ⟨rfl, rfl⟩ := isW_is h1
  obtain ⟨rfl, rfl⟩ := isW_is h2
  exact ⟨he, hb⟩
theorem rw_ev {n : Int} {w w' : World} {e : Ending} (h : RW n w e w') : e = .returned (wx n) ∧ Below w.heap.size w w' := by
  obtain ⟨a, b, he, h1, hb⟩ := h
  obtain ⟨rfl, rfl⟩ := isW_is h1
  exact ⟨he, hb⟩
theorem p_fOf {k : Int} (h0 : -9223372036854775808 ≤ k) (h1 : k < 9223372036854775808) : PCall Try.prog 21 [vI k] (fv k 1) :=
  pcall_ev [.int .i64 k] (fx k 1) rfl rfl rfl rfl rfl fun W => (fOf_any k W h0 h1).mono fun e w' ⟨a, b, c, f, he, h1, h2, hb⟩ => rf_ev he h1 h2 hb
theorem p_Make_pos {n d : Int} (f : fits n = true) (g : fits d = true) (hd : 0 < d) : PCall Try.prog 13 [wv n, wv d] (.tup [fi n d, .one (.c (.bool true))]) :=
  pcall_ev [wx n, wx d] (.tuple #[fx n d, .bool true]) rfl rfl rfl rfl rfl fun W => (Make_pos _ _ n _ _ d W (isW_hl f) (isW_hl g) hd).mono fun e w' h => rfb_ev h
theorem p_Make_zero {n : Int} (f : fits n = true) : PCall Try.prog 13 [wv n, wv 0] (.tup [fi 0 0, .one (.c (.bool false))]) :=
  pcall_ev [wx n, wx 0] (.tuple #[fx 0 0, .bool false]) rfl rfl rfl rfl rfl fun W => (Make_zero _ _ n _ _ W (isW_hl f) (isW_hl (n := 0) (by decide))).mono fun e w' h => rfb_ev h
theorem p_Make_neg {n d : Int} (f : fits n = true) (g : fits d = true) (hd : d < 0) {s : Bool} {x y : Int} (hs : (fits (-n) && fits (-d)) = s) (hx : x = if s then -n else 0) (hy : y = if s then -d else 0) : PCall Try.prog 13 [wv n, wv d] (.tup [fi x y, .one (.c (.bool s))]) :=
  pcall_ev [wx n, wx d] (.tuple #[fx x y, .bool s]) rfl rfl rfl rfl rfl fun W => (Make_neg _ _ n _ _ d W (isW_hl f) (isW_hl g) hd).mono fun e w' h => by unfold RFM at h; rw [hs] at h; rw [hx, hy]; exact rfb_ev h
theorem p_Right {n d : Int} (g : fits d = true) : PCall Try.prog 19 [fv n d] (vB (decide (0 < d))) :=
  pcall_ev [fx n d] (.bool (decide (0 < d))) rfl rfl rfl rfl rfl fun W => Right_any _ _ _ _ d W (isW_hl g)
theorem p_Floor {n d : Int} (f : fits n = true) (g : fits d = true) (hd : 0 < d) : PCall Try.prog 50 [fv n d] (wv (n / d)) :=
  pcall_ev [fx n d] (wx (n / d)) rfl rfl rfl rfl rfl fun W => (Floor_yes _ _ n _ _ d W (isW_hl f) (isW_hl g) hd).mono fun e w' h => rw_ev h
theorem p_fSnap {n d : Int} {k : Nat} (f : fits n = true) (g : fits d = true) (hd : 0 < d) (hk : k ≤ 100) : PCall Try.prog 23 [fv n d, vI k] (.tup [iw (sna n d k), .one (.c (.bool true))]) :=
  pcall_ev [fx n d, .int .i64 k] (.tuple #[wx (sna n d k), .bool true]) rfl rfl rfl rfl rfl fun W => (Snap_yes _ _ n _ _ d k W (isW_hl f) (isW_hl g) hd hk).mono fun e w' ⟨H, L, he, hw, hb⟩ => by
    obtain ⟨rfl, rfl⟩ := isW_is hw; exact ⟨he, hb⟩
theorem p_fSnap_no {n d k : Int} (f : fits n = true) (g : fits d = true) (hno : ¬ (0 < d) ∨ (k < 0 ∨ 100 < k)) : PCall Try.prog 23 [fv n d, vI k] (.tup [.agg [.c (.int .i64 0), .c (.int .u64 0)], .one (.c (.bool false))]) :=
  pcall_ev [fx n d, .int .i64 k] (.tuple #[.agg #[.int .i64 0, .int .u64 0], .bool false]) rfl rfl rfl rfl rfl fun W => Snap_no _ _ n _ _ d k W (isW_hl f) (isW_hl g) hno
theorem p_fCmp {n d n' d' : Int} (f : fits n = true) (g : fits d = true) (f' : fits n' = true) (g' : fits d' = true) (hd : 0 < d) (hd' : 0 < d') : PCall Try.prog 28 [fv n d, fv n' d'] (vI (icmp (n * d') (n' * d))) :=
  pcall_ev [fx n d, fx n' d'] (.int .i64 (icmp (n * d') (n' * d))) rfl rfl rfl rfl rfl fun W => fCmp_yes _ _ n _ _ d _ _ n' _ _ d' W (isW_hl f) (isW_hl g) (isW_hl f') (isW_hl g') hd hd'
set_option maxRecDepth 100000 in
theorem p_num {n : Int} (f : fits n = true) : PCall Try.prog 14 [wv n] (nv n) := by
  have C := p_rWide f
  clear f
  refine pcall_body (f := 14) Try.func14 rfl rfl rfl rfl ?_
  (repeat (first | (refine awp_seq ?_) | (refine awp_region ?_) | (refine awp_region_draw (by kernel_rfl) (by kernel_rfl) rfl ?_) | (refine awp_cond_t rfl ?_) | (refine awp_cond_f rfl ?_) | (refine awp_block ?_) | (refine awp_exit ?_) | (refine awp_ret ?_) | (refine awp_skip ?_) | (refine awp_label ?_) | (refine athen_normal ?_) | (refine athen_exit ?_) | (refine athen_ret ?_) | (refine ablock_normal ?_) | (refine ablock_ret ?_) | (refine ablock_same ?_) | (refine ablock_ne rfl ?_) | (refine al_nilS (by kernel_rfl) ?_) | (refine al_nil ?_) | (refine al_fld rfl rfl rfl ?_) | (refine al_idx rfl rfl rfl (by decide) (by decide) rfl ?_) | (refine al_load1 rfl rfl rfl rfl rfl ?_) | (refine al_loadN rfl rfl rfl rfl rfl ?_) | (refine al_store rfl rfl rfl rfl rfl rfl ?_) | (refine al_alloc rfl rfl rfl rfl ?_) | (refine al_box rfl rfl rfl rfl ?_) | (refine al_move rfl rfl rfl ?_) | (refine al_assign rfl rfl rfl ?_) | (refine al_extract rfl rfl rfl rfl ?_) | (refine al_build rfl rfl rfl rfl rfl ?_) | (refine al_lss rfl rfl rfl rfl ?_) | (refine al_leq rfl rfl rfl rfl ?_) | (refine al_gtr rfl rfl rfl rfl ?_) | (refine al_geq rfl rfl rfl rfl ?_) | (refine al_eql rfl rfl rfl rfl ?_) | (refine al_neq rfl rfl rfl rfl ?_) | (refine al_add rfl rfl rfl (by first | exact i64_wrap (by omega) | assumption | rfl) rfl ?_) | (refine al_sub rfl rfl rfl (by first | exact i64_wrap (by omega) | assumption | rfl) rfl ?_) | (refine al_mul rfl rfl rfl (by first | exact i64_wrap (by omega) | assumption | rfl) rfl ?_) | (refine al_not rfl rfl rfl ?_) | (refine al_convI rfl rfl (by first | exact i64_wrap (by omega) | assumption | rfl) rfl ?_) | (refine al_pick_t rfl rfl rfl rfl rfl ?_) | (refine al_pick_f rfl rfl rfl rfl rfl ?_) | (refine al_min rfl rfl rfl rfl ?_) | (refine al_max rfl rfl rfl rfl ?_) | (refine al_pass rfl (by rintro d ⟨⟩; rfl) ?_) | (refine al_call1 rfl rfl rfl (by first | (exact C)) rfl ?_) | (refine al_call2 rfl rfl rfl rfl (by first | (exact C)) rfl ?_) | (refine al_call0 rfl rfl (by first | (exact C)) rfl ?_) | (refine al_call3 rfl rfl rfl rfl rfl (by first | (exact C)) rfl ?_) | (refine al_call4 rfl rfl rfl rfl rfl rfl (by first | (exact C)) rfl ?_) | (refine al_mkfn rfl (fun W => rfl) rfl ?_) | (refine awp_cond_1 rfl (by first | assumption | exact decide_eq_true (by omega) | (simp only [Bool.not_eq_true', decide_eq_false_iff_not, decide_eq_true_eq, Bool.not_eq_false']; omega)) ?_) | (refine awp_cond_0 rfl (by first | assumption | exact decide_eq_false (by omega) | (simp only [Bool.not_eq_true', decide_eq_false_iff_not, decide_eq_true_eq, Bool.not_eq_false']; omega)) ?_) | (refine al_guard_b (c := true) rfl rfl (by first | assumption | exact decide_eq_true (by omega) | (simp only [Bool.not_eq_true', decide_eq_false_iff_not, decide_eq_true_eq, Bool.not_eq_false']; omega)) ?_) | (refine al_guard_b (c := false) rfl rfl (by first | assumption | exact decide_eq_false (by omega) | (simp only [Bool.not_eq_true', decide_eq_false_iff_not, decide_eq_true_eq, Bool.not_eq_false']; omega)) ?_) | (refine al_bin rfl rfl rfl rfl rfl (by intro W; go_simp; try rfl) (by intro W; go_simp; try rfl) rfl rfl ?_) | (refine al_un rfl rfl (by intro W; go_simp; try rfl) rfl rfl ?_) | (refine al_conv rfl rfl (by intro W; go_simp; try rfl) rfl rfl ?_)))
  (first | (refine apost_ret rfl (resl_agg rfl rfl rfl resl_nil) ?_) | (refine apost_ret rfl (resl_one rfl rfl rfl resl_nil) ?_))
  exact AV.Le.refl _
/-- a fraction of the reference package. -/
abbrev rfi (n d : Int) : AW := .agg [.c (.bool (decide (n < 0))), .p (NumP n), .c (.bool (decide (d < 0))), .p (NumP d)]
abbrev rfv (n d : Int) : AV := .w (rfi n d)
set_option maxRecDepth 100000 in
theorem p_Old {n d : Int} (f : fits n = true) (g : fits d = true) : PCall Try.prog 26 [fv n d] (rfv n d) := by
  have C := p_num f
  have D := p_num g
  clear f g
  refine pcall_body (f := 26) Try.func26 rfl rfl rfl rfl ?_
  (repeat (first | (refine awp_seq ?_) | (refine awp_region ?_) | (refine awp_region_draw (by kernel_rfl) (by kernel_rfl) rfl ?_) | (refine awp_cond_t rfl ?_) | (refine awp_cond_f rfl ?_) | (refine awp_block ?_) | (refine awp_exit ?_) | (refine awp_ret ?_) | (refine awp_skip ?_) | (refine awp_label ?_) | (refine athen_normal ?_) | (refine athen_exit ?_) | (refine athen_ret ?_) | (refine ablock_normal ?_) | (refine ablock_ret ?_) | (refine ablock_same ?_) | (refine ablock_ne rfl ?_) | (refine al_nilS (by kernel_rfl) ?_) | (refine al_nil ?_) | (refine al_fld rfl rfl rfl ?_) | (refine al_idx rfl rfl rfl (by decide) (by decide) rfl ?_) | (refine al_load1 rfl rfl rfl rfl rfl ?_) | (refine al_loadN rfl rfl rfl rfl rfl ?_) | (refine al_store rfl rfl rfl rfl rfl rfl ?_) | (refine al_alloc rfl rfl rfl rfl ?_) | (refine al_box rfl rfl rfl rfl ?_) | (refine al_move rfl rfl rfl ?_) | (refine al_assign rfl rfl rfl ?_) | (refine al_extract rfl rfl rfl rfl ?_) | (refine al_build rfl rfl rfl rfl rfl ?_) | (refine al_lss rfl rfl rfl rfl ?_) | (refine al_leq rfl rfl rfl rfl ?_) | (refine al_gtr rfl rfl rfl rfl ?_) | (refine al_geq rfl rfl rfl rfl ?_) | (refine al_eql rfl rfl rfl rfl ?_) | (refine al_neq rfl rfl rfl rfl ?_) | (refine al_add rfl rfl rfl (by first | exact i64_wrap (by omega) | assumption | rfl) rfl ?_) | (refine al_sub rfl rfl rfl (by first | exact i64_wrap (by omega) | assumption | rfl) rfl ?_) | (refine al_mul rfl rfl rfl (by first | exact i64_wrap (by omega) | assumption | rfl) rfl ?_) | (refine al_not rfl rfl rfl ?_) | (refine al_convI rfl rfl (by first | exact i64_wrap (by omega) | assumption | rfl) rfl ?_) | (refine al_pick_t rfl rfl rfl rfl rfl ?_) | (refine al_pick_f rfl rfl rfl rfl rfl ?_) | (refine al_min rfl rfl rfl rfl ?_) | (refine al_max rfl rfl rfl rfl ?_) | (refine al_pass rfl (by rintro d ⟨⟩; rfl) ?_) | (refine al_call1 rfl rfl rfl (by first | (exact C) | (exact D)) rfl ?_) | (refine al_call2 rfl rfl rfl rfl (by first | (exact C) | (exact D)) rfl ?_) | (refine al_call0 rfl rfl (by first | (exact C) | (exact D)) rfl ?_) | (refine al_call3 rfl rfl rfl rfl rfl (by first | (exact C) | (exact D)) rfl ?_) | (refine al_call4 rfl rfl rfl rfl rfl rfl (by first | (exact C) | (exact D)) rfl ?_) | (refine al_mkfn rfl (fun W => rfl) rfl ?_) | (refine awp_cond_1 rfl (by first | assumption | exact decide_eq_true (by omega) | (simp only [Bool.not_eq_true', decide_eq_false_iff_not, decide_eq_true_eq, Bool.not_eq_false']; omega)) ?_) | (refine awp_cond_0 rfl (by first | assumption | exact decide_eq_false (by omega) | (simp only [Bool.not_eq_true', decide_eq_false_iff_not, decide_eq_true_eq, Bool.not_eq_false']; omega)) ?_) | (refine al_guard_b (c := true) rfl rfl (by first | assumption | exact decide_eq_true (by omega) | (simp only [Bool.not_eq_true', decide_eq_false_iff_not, decide_eq_true_eq, Bool.not_eq_false']; omega)) ?_) | (refine al_guard_b (c := false) rfl rfl (by first | assumption | exact decide_eq_false (by omega) | (simp only [Bool.not_eq_true', decide_eq_false_iff_not, decide_eq_true_eq, Bool.not_eq_false']; omega)) ?_) | (refine al_bin rfl rfl rfl rfl rfl (by intro W; go_simp; try rfl) (by intro W; go_simp; try rfl) rfl rfl ?_) | (refine al_un rfl rfl (by intro W; go_simp; try rfl) rfl rfl ?_) | (refine al_conv rfl rfl (by intro W; go_simp; try rfl) rfl rfl ?_)))
  (first | (refine apost_ret rfl (resl_agg rfl rfl rfl resl_nil) ?_) | (refine apost_ret rfl (resl_one rfl rfl rfl resl_nil) ?_))
  exact AV.Le.refl _
set_option maxRecDepth 100000 in
set_option maxHeartbeats 4000000 in
theorem p_r2Snap {n d : Int} {k : Nat} (f : fits n = true) (g : fits d = true) (hd : 0 < d) (hk : k ≤ 100) : PCall Try.prog 25 [rfv n d, vI k] (nv ((n + n + d * 2 ^ k) / (d * 2 ^ (k + 1)))) := by
  have n1 := NB.of_fits f
  have n2 := NB.of_fits g
  have C1 : PCall Try.prog 52 [nv n, nv n] (nv (n + n)) := p_rAdd (n1.up (by omega)) (n1.up (by omega))
  have C2 : PCall Try.prog 49 [vI k] (nv (2 ^ k)) := p_rPower (by omega)
  have C3 : PCall Try.prog 53 [nv d, nv (2 ^ k)] (nv (d * 2 ^ k)) := p_rMul (n2.up (by omega)) ((NB.pow2 k).up (by omega))
  have n3 := (n1.add n1).up (show 11 ≤ 120 by omega)
  have n4 := (n2.mul (NB.pow2 k)).up (show 10 + (k + 1) ≤ 120 by omega)
  have C4 : PCall Try.prog 52 [nv (n + n), nv (d * 2 ^ k)] (nv (n + n + d * 2 ^ k)) := p_rAdd (n3.up (by omega)) (n4.up (by omega))
  have C5 : PCall Try.prog 49 [vI ((k : Int) + 1)] (nv (2 ^ (k + 1))) := by have := p_rPower (k := k + 1) (by omega); rwa [show ((k + 1 : Nat) : Int) = (k : Int) + 1 by omega] at this
  have C6 : PCall Try.prog 53 [nv d, nv (2 ^ (k + 1))] (nv (d * 2 ^ (k + 1))) := p_rMul (n2.up (by omega)) ((NB.pow2 (k + 1)).up (by omega))
  have n5 := (n2.mul (NB.pow2 (k + 1))).up (show 10 + (k + 1 + 1) ≤ 120 by omega)
  have C7 : PCall Try.prog 54 [nv (n + n + d * 2 ^ k), nv (d * 2 ^ (k + 1))] (.tup [ni ((n + n + d * 2 ^ k) / (d * 2 ^ (k + 1))), ni ((n + n + d * 2 ^ k) % (d * 2 ^ (k + 1)))]) :=
    p_rDiv (Int.mul_pos hd (Int.pow_pos (by decide))) ((n3.add n4).up (by omega)) (n5.up (by omega))
  have hk' : (k : Int) ≤ 100 := by omega
  have hk0 : (0 : Int) ≤ k := by omega
  clear n1 n2 n3 n4 n5 f g hd hk
  refine pcall_body (f := 25) Try.func25 rfl rfl rfl rfl ?_
  (repeat (first | (refine awp_seq ?_) | (refine awp_region ?_) | (refine awp_region_draw (by kernel_rfl) (by kernel_rfl) rfl ?_) | (refine awp_cond_t rfl ?_) | (refine awp_cond_f rfl ?_) | (refine awp_block ?_) | (refine awp_exit ?_) | (refine awp_ret ?_) | (refine awp_skip ?_) | (refine awp_label ?_) | (refine athen_normal ?_) | (refine athen_exit ?_) | (refine athen_ret ?_) | (refine ablock_normal ?_) | (refine ablock_ret ?_) | (refine ablock_same ?_) | (refine ablock_ne rfl ?_) | (refine al_nilS (by kernel_rfl) ?_) | (refine al_nil ?_) | (refine al_fld rfl rfl rfl ?_) | (refine al_idx rfl rfl rfl (by decide) (by decide) rfl ?_) | (refine al_load1 rfl rfl rfl rfl rfl ?_) | (refine al_loadN rfl rfl rfl rfl rfl ?_) | (refine al_store rfl rfl rfl rfl rfl rfl ?_) | (refine al_alloc rfl rfl rfl rfl ?_) | (refine al_box rfl rfl rfl rfl ?_) | (refine al_move rfl rfl rfl ?_) | (refine al_assign rfl rfl rfl ?_) | (refine al_extract rfl rfl rfl rfl ?_) | (refine al_build rfl rfl rfl rfl rfl ?_) | (refine al_lss rfl rfl rfl rfl ?_) | (refine al_leq rfl rfl rfl rfl ?_) | (refine al_gtr rfl rfl rfl rfl ?_) | (refine al_geq rfl rfl rfl rfl ?_) | (refine al_eql rfl rfl rfl rfl ?_) | (refine al_neq rfl rfl rfl rfl ?_) | (refine al_add rfl rfl rfl (by first | exact i64_wrap (by omega) | assumption | rfl) rfl ?_) | (refine al_sub rfl rfl rfl (by first | exact i64_wrap (by omega) | assumption | rfl) rfl ?_) | (refine al_mul rfl rfl rfl (by first | exact i64_wrap (by omega) | assumption | rfl) rfl ?_) | (refine al_not rfl rfl rfl ?_) | (refine al_convI rfl rfl (by first | exact i64_wrap (by omega) | assumption | rfl) rfl ?_) | (refine al_pick_t rfl rfl rfl rfl rfl ?_) | (refine al_pick_f rfl rfl rfl rfl rfl ?_) | (refine al_min rfl rfl rfl rfl ?_) | (refine al_max rfl rfl rfl rfl ?_) | (refine al_pass rfl (by rintro d ⟨⟩; rfl) ?_) | (refine al_call1 rfl rfl rfl (by first | (exact C1) | (exact C2) | (exact C3) | (exact C4) | (exact C5) | (exact C6) | (exact C7)) rfl ?_) | (refine al_call2 rfl rfl rfl rfl (by first | (exact C1) | (exact C2) | (exact C3) | (exact C4) | (exact C5) | (exact C6) | (exact C7)) rfl ?_) | (refine al_call0 rfl rfl (by first | (exact C1) | (exact C2) | (exact C3) | (exact C4) | (exact C5) | (exact C6) | (exact C7)) rfl ?_) | (refine al_call3 rfl rfl rfl rfl rfl (by first | (exact C1) | (exact C2) | (exact C3) | (exact C4) | (exact C5) | (exact C6) | (exact C7)) rfl ?_) | (refine al_call4 rfl rfl rfl rfl rfl rfl (by first | (exact C1) | (exact C2) | (exact C3) | (exact C4) | (exact C5) | (exact C6) | (exact C7)) rfl ?_) | (refine al_mkfn rfl (fun W => rfl) rfl ?_) | (refine awp_cond_1 rfl (by first | assumption | exact decide_eq_true (by omega) | (simp only [Bool.not_eq_true', decide_eq_false_iff_not, decide_eq_true_eq, Bool.not_eq_false']; omega)) ?_) | (refine awp_cond_0 rfl (by first | assumption | exact decide_eq_false (by omega) | (simp only [Bool.not_eq_true', decide_eq_false_iff_not, decide_eq_true_eq, Bool.not_eq_false']; omega)) ?_) | (refine al_guard_b (c := true) rfl rfl (by first | assumption | exact decide_eq_true (by omega) | (simp only [Bool.not_eq_true', decide_eq_false_iff_not, decide_eq_true_eq, Bool.not_eq_false']; omega)) ?_) | (refine al_guard_b (c := false) rfl rfl (by first | assumption | exact decide_eq_false (by omega) | (simp only [Bool.not_eq_true', decide_eq_false_iff_not, decide_eq_true_eq, Bool.not_eq_false']; omega)) ?_) | (refine al_bin rfl rfl rfl rfl rfl (by intro W; go_simp; try rfl) (by intro W; go_simp; try rfl) rfl rfl ?_) | (refine al_un rfl rfl (by intro W; go_simp; try rfl) rfl rfl ?_) | (refine al_conv rfl rfl (by intro W; go_simp; try rfl) rfl rfl ?_)))
  (first | (refine apost_ret rfl (resl_agg rfl rfl rfl resl_nil) ?_) | (refine apost_ret rfl (resl_one rfl rfl rfl resl_nil) ?_))
  exact AV.Le.refl _
theorem nea_eq {n d : Int} (hd : 0 < d) : nea n d = (n + n + d) / (d * 2) := by
  have h1 := Int.mul_ediv_add_emod n d
  have h2 := Int.emod_nonneg n (show d ≠ 0 by omega)
  have h3 := Int.emod_lt_of_pos n hd
  unfold nea
  generalize n / d = q at *
  generalize n % d = r at *
  have e : n + n + d = (r + r + d) + q * (d * 2) := by rw [← h1, Int.mul_comm q (d * 2), Int.mul_assoc, Int.mul_left_comm d 2 q]; omega
  rw [e, Int.add_mul_ediv_right _ _ (by omega)]
  split
  · rw [Int.ediv_eq_zero_of_lt (by omega) (by omega)]; omega
  · have : (r + r + d) / (d * 2) = 1 := by
      rw [show r + r + d = (r + r - d) + 1 * (d * 2) by omega, Int.add_mul_ediv_right _ _ (by omega), Int.ediv_eq_zero_of_lt (by omega) (by omega)]
      omega
    rw [this]; omega
theorem snap_eq {n d : Int} (k : Nat) (hd : 0 < d) : (n + n + d * 2 ^ k) / (d * 2 ^ (k + 1)) = sna n d k := by
  unfold sna
  rcases k with _ | k
  · rw [if_pos rfl, nea_eq hd]
    simp
  · rw [if_neg (by omega), nea_eq (Int.pow_pos (by decide))]
    have hp : (0 : Int) < 2 ^ k := Int.pow_pos (by decide)
    rw [Int.pow_succ 2 (k + 1), Int.pow_succ 2 k]
    generalize (2 : Int) ^ k = Q at *
    have e1 : (n + n + d * (Q * 2)) / (d * (Q * 2 * 2)) = (n + d * Q) / (d * (Q * 2)) := by
      rw [show n + n + d * (Q * 2) = 2 * (n + d * Q) by rw [Int.mul_comm Q 2, Int.mul_left_comm]; omega, show d * (Q * 2 * 2) = 2 * (d * (Q * 2)) by rw [Int.mul_comm (Q * 2) 2, Int.mul_left_comm], Int.mul_ediv_mul_of_pos _ _ (by decide)]
    have e2 : (n / d + n / d + Q * 2) / (Q * 2 * 2) = (n / d + Q) / (Q * 2) := by
      rw [show n / d + n / d + Q * 2 = 2 * (n / d + Q) by omega, Int.mul_comm (Q * 2) 2, Int.mul_ediv_mul_of_pos _ _ (by decide)]
    rw [e1, e2, ← Int.ediv_ediv_of_nonneg (by omega), Int.mul_comm d Q, Int.add_mul_ediv_right _ _ (by omega)]
set_option maxRecDepth 100000 in
set_option maxHeartbeats 4000000 in
theorem p_alive2 : PCall Try.prog 20 [] (vB true) := by
  have M1 : PCall Try.prog 13 [wv (-7), wv (-2)] (.tup [fi 7 2, .one (.c (.bool true))]) := p_Make_neg (by decide) (by decide) (by decide) (s := true) (by decide) (by decide) (by decide)
  have M2 : PCall Try.prog 13 [wv 1, wv 0] (.tup [fi 0 0, .one (.c (.bool false))]) := p_Make_zero (by decide)
  have S1 : PCall Try.prog 23 [fv 7 2, vI 1] (.tup [iw 2, .one (.c (.bool true))]) := p_fSnap (k := 1) (by decide) (by decide) (by decide) (by decide)
  have R1 : PCall Try.prog 19 [fv 7 2] (vB true) := p_Right (by decide)
  have R2 : PCall Try.prog 19 [.w (.agg [.c (.int .i64 0), .c (.int .u64 0), .c (.int .i64 0), .c (.int .u64 0)])] (vB false) := p_Right (n := 0) (d := 0) (by decide)
  have F1 : PCall Try.prog 50 [fv 7 2] (wv 3) := p_Floor (by decide) (by decide) (by decide)
  have O1 : PCall Try.prog 21 [vI 4] (fv 4 1) := p_fOf (by decide) (by decide)
  have K1 : PCall Try.prog 28 [fv 7 2, fv 4 1] (vI (-1)) := p_fCmp (by decide) (by decide) (by decide) (by decide) (by decide) (by decide)
  refine pcall_body (f := 20) Try.func20 rfl rfl rfl rfl ?_
  (repeat (first | (refine awp_seq ?_) | (refine awp_region ?_) | (refine awp_region_draw (by kernel_rfl) (by kernel_rfl) rfl ?_) | (refine awp_cond_t rfl ?_) | (refine awp_cond_f rfl ?_) | (refine awp_block ?_) | (refine awp_exit ?_) | (refine awp_ret ?_) | (refine awp_skip ?_) | (refine awp_label ?_) | (refine athen_normal ?_) | (refine athen_exit ?_) | (refine athen_ret ?_) | (refine ablock_normal ?_) | (refine ablock_ret ?_) | (refine ablock_same ?_) | (refine ablock_ne rfl ?_) | (refine al_nilS (by kernel_rfl) ?_) | (refine al_nil ?_) | (refine al_fld rfl rfl rfl ?_) | (refine al_idx rfl rfl rfl (by decide) (by decide) rfl ?_) | (refine al_load1 rfl rfl rfl rfl rfl ?_) | (refine al_loadN rfl rfl rfl rfl rfl ?_) | (refine al_store rfl rfl rfl rfl rfl rfl ?_) | (refine al_alloc rfl rfl rfl rfl ?_) | (refine al_box rfl rfl rfl rfl ?_) | (refine al_move rfl rfl rfl ?_) | (refine al_assign rfl rfl rfl ?_) | (refine al_extract rfl rfl rfl rfl ?_) | (refine al_build rfl rfl rfl rfl rfl ?_) | (refine al_lss rfl rfl rfl rfl ?_) | (refine al_leq rfl rfl rfl rfl ?_) | (refine al_gtr rfl rfl rfl rfl ?_) | (refine al_geq rfl rfl rfl rfl ?_) | (refine al_eql rfl rfl rfl rfl ?_) | (refine al_neq rfl rfl rfl rfl ?_) | (refine al_add rfl rfl rfl (by first | exact i64_wrap (by omega) | assumption | rfl) rfl ?_) | (refine al_sub rfl rfl rfl (by first | exact i64_wrap (by omega) | assumption | rfl) rfl ?_) | (refine al_mul rfl rfl rfl (by first | exact i64_wrap (by omega) | assumption | rfl) rfl ?_) | (refine al_not rfl rfl rfl ?_) | (refine al_convI rfl rfl (by first | exact i64_wrap (by omega) | assumption | rfl) rfl ?_) | (refine al_pick_t rfl rfl rfl rfl rfl ?_) | (refine al_pick_f rfl rfl rfl rfl rfl ?_) | (refine al_min rfl rfl rfl rfl ?_) | (refine al_max rfl rfl rfl rfl ?_) | (refine al_pass rfl (by rintro d ⟨⟩; rfl) ?_) | (refine al_call1 rfl rfl rfl (by first | (exact p_wOf (by decide) (by decide)) | (exact M1) | (exact M2) | (exact S1) | (exact R1) | (exact R2) | (exact F1) | (exact O1) | (exact K1)) rfl ?_) | (refine al_call2 rfl rfl rfl rfl (by first | (exact p_wOf (by decide) (by decide)) | (exact M1) | (exact M2) | (exact S1) | (exact R1) | (exact R2) | (exact F1) | (exact O1) | (exact K1)) rfl ?_) | (refine al_call0 rfl rfl (by first | (exact p_wOf (by decide) (by decide)) | (exact M1) | (exact M2) | (exact S1) | (exact R1) | (exact R2) | (exact F1) | (exact O1) | (exact K1)) rfl ?_) | (refine al_call3 rfl rfl rfl rfl rfl (by first | (exact p_wOf (by decide) (by decide)) | (exact M1) | (exact M2) | (exact S1) | (exact R1) | (exact R2) | (exact F1) | (exact O1) | (exact K1)) rfl ?_) | (refine al_call4 rfl rfl rfl rfl rfl rfl (by first | (exact p_wOf (by decide) (by decide)) | (exact M1) | (exact M2) | (exact S1) | (exact R1) | (exact R2) | (exact F1) | (exact O1) | (exact K1)) rfl ?_) | (refine al_mkfn rfl (fun W => rfl) rfl ?_) | (refine awp_cond_1 rfl (by first | assumption | exact decide_eq_true (by omega) | (simp only [Bool.not_eq_true', decide_eq_false_iff_not, decide_eq_true_eq, Bool.not_eq_false']; omega)) ?_) | (refine awp_cond_0 rfl (by first | assumption | exact decide_eq_false (by omega) | (simp only [Bool.not_eq_true', decide_eq_false_iff_not, decide_eq_true_eq, Bool.not_eq_false']; omega)) ?_) | (refine al_guard_b (c := true) rfl rfl (by first | assumption | exact decide_eq_true (by omega) | (simp only [Bool.not_eq_true', decide_eq_false_iff_not, decide_eq_true_eq, Bool.not_eq_false']; omega)) ?_) | (refine al_guard_b (c := false) rfl rfl (by first | assumption | exact decide_eq_false (by omega) | (simp only [Bool.not_eq_true', decide_eq_false_iff_not, decide_eq_true_eq, Bool.not_eq_false']; omega)) ?_) | (refine al_bin rfl rfl rfl rfl rfl (by intro W; go_simp; try rfl) (by intro W; go_simp; try rfl) rfl rfl ?_) | (refine al_un rfl rfl (by intro W; go_simp; try rfl) rfl rfl ?_) | (refine al_conv rfl rfl (by intro W; go_simp; try rfl) rfl rfl ?_)))
  (first | (refine apost_ret rfl (resl_tmp rfl resl_nil) ?_))
  exact AV.Le.refl _
end Go.Proofs.Ytinjgiigmlikpaa
