/-
  cobweblaw02.FracSnaps and cobweblaw02.FracMakes return true, for all their arguments. My own text.
-/
import Derived.Test.YtinjgiigmlikpaaAbsO
import Derived.Test.YtinjgiigmlikpaaAbsRow
namespace Go.Proofs.Ytinjgiigmlikpaa
open Go.RowKit
set_option linter.unusedVariables false
set_option linter.unusedSimpArgs false
theorem icmp_up' {d : Int} (h : 0 < d) : icmp d 0 = 1 := icmp_gt h
theorem icmp_dn' {d : Int} (h : ¬ 0 < d) : icmp d 0 ≤ 0 := by unfold icmp; repeat' split; all_goals omega
theorem fits_div {n d : Int} (hn : fits n = true) (hd : 0 < d) : fits (n / d) = true := by
  unfold fits at *
  rw [decide_eq_true_eq] at *
  by_cases h : 0 ≤ n
  · have h1 := Int.ediv_nonneg h (show 0 ≤ d by omega)
    have h2 := Int.ediv_le_self d h
    omega
  · have h1 : n ≤ n / d := Int.le_ediv_of_mul_le hd (by have := Int.mul_le_mul_of_nonpos_left (show n ≤ 0 by omega) (show 1 ≤ d by omega); omega)
    have h2 := Int.ediv_neg_of_neg_of_pos (show n < 0 by omega) hd
    omega
theorem fits_nea {n d : Int} (hn : fits n = true) (hd : 0 < d) (hdf : fits d = true) : fits (nea n d) = true := by
  unfold nea
  split
  · exact fits_div hn hd
  · exact (near_fits hn hd hdf).2 (by omega)
theorem fits_sna {n d : Int} {k : Nat} (hn : fits n = true) (hd : 0 < d) (hdf : fits d = true) (hk : k ≤ 100) : fits (sna n d k) = true := by
  unfold sna
  split
  · exact fits_nea hn hd hdf
  · exact fits_nea (fits_div hn hd) (Int.pow_pos (by decide)) (pow100 hk)
set_option maxRecDepth 100000 in
set_option maxHeartbeats 4000000 in
theorem fsnaps_yes {n d : Int} {k : Nat} (f : fits n = true) (g : fits d = true) (hd : 0 < d) (hk : k ≤ 100) : PCall Try.prog 4 [fv n d, vI k] (vB true) := by
  have S1 := p_fSnap f g hd hk
  have S2 : PCall Try.prog 24 [wv d] (vI 1) := by have := p_wSign g; rwa [icmp_up' hd] at this
  have A1 := p_alive2
  have fz : fits (sna n d k) = true := fits_sna f hd g hk
  have N1 := p_num fz
  have O1 := p_Old f g
  have R1 : PCall Try.prog 25 [rfv n d, vI k] (nv (sna n d k)) := by have := p_r2Snap f g hd hk; rwa [snap_eq k hd] at this
  have C1 : PCall Try.prog 15 [nv (sna n d k), nv (sna n d k)] (vI 0) := by have := p_rCmp ((NB.of_fits fz).up (show 10 ≤ 1000 by omega)) ((NB.of_fits fz).up (show 10 ≤ 1000 by omega)); rwa [icmp_self] at this
  have k0 : (0 : Int) ≤ k := by omega
  have k1 : (k : Int) ≤ 100 := by omega
  clear f g hd hk fz
  refine pcall_body (f := 4) Try.func4 rfl rfl rfl rfl ?_
  (repeat (first | (refine awp_seq ?_) | (refine awp_region ?_) | (refine awp_region_draw (by kernel_rfl) (by kernel_rfl) rfl ?_) | (refine awp_cond_t rfl ?_) | (refine awp_cond_f rfl ?_) | (refine awp_block ?_) | (refine awp_exit ?_) | (refine awp_ret ?_) | (refine awp_skip ?_) | (refine awp_label ?_) | (refine athen_normal ?_) | (refine athen_exit ?_) | (refine athen_ret ?_) | (refine ablock_normal ?_) | (refine ablock_ret ?_) | (refine ablock_same ?_) | (refine ablock_ne rfl ?_) | (refine al_nilS (by kernel_rfl) ?_) | (refine al_nil ?_) | (refine al_fld rfl rfl rfl ?_) | (refine al_idx rfl rfl rfl (by decide) (by decide) rfl ?_) | (refine al_load1 rfl rfl rfl rfl rfl ?_) | (refine al_loadN rfl rfl rfl rfl rfl ?_) | (refine al_store rfl rfl rfl rfl rfl rfl ?_) | (refine al_alloc rfl rfl rfl rfl ?_) | (refine al_box rfl rfl rfl rfl ?_) | (refine al_move rfl rfl rfl ?_) | (refine al_assign rfl rfl rfl ?_) | (refine al_extract rfl rfl rfl rfl ?_) | (refine al_build rfl rfl rfl rfl rfl ?_) | (refine al_lss rfl rfl rfl rfl ?_) | (refine al_leq rfl rfl rfl rfl ?_) | (refine al_gtr rfl rfl rfl rfl ?_) | (refine al_geq rfl rfl rfl rfl ?_) | (refine al_eql rfl rfl rfl rfl ?_) | (refine al_neq rfl rfl rfl rfl ?_) | (refine al_add rfl rfl rfl (by first | exact i64_wrap (by omega) | assumption | rfl) rfl ?_) | (refine al_sub rfl rfl rfl (by first | exact i64_wrap (by omega) | assumption | rfl) rfl ?_) | (refine al_mul rfl rfl rfl (by first | exact i64_wrap (by omega) | assumption | rfl) rfl ?_) | (refine al_not rfl rfl rfl ?_) | (refine al_convI rfl rfl (by first | exact i64_wrap (by omega) | assumption | rfl) rfl ?_) | (refine al_pick_t rfl rfl rfl rfl rfl ?_) | (refine al_pick_f rfl rfl rfl rfl rfl ?_) | (refine al_min rfl rfl rfl rfl ?_) | (refine al_max rfl rfl rfl rfl ?_) | (refine al_pass rfl (by rintro d ⟨⟩; rfl) ?_) | (refine al_call1 rfl rfl rfl (by first | (exact S1) | (exact S2) | (exact A1) | (exact N1) | (exact O1) | (exact R1) | (exact C1)) rfl ?_) | (refine al_call2 rfl rfl rfl rfl (by first | (exact S1) | (exact S2) | (exact A1) | (exact N1) | (exact O1) | (exact R1) | (exact C1)) rfl ?_) | (refine al_call0 rfl rfl (by first | (exact S1) | (exact S2) | (exact A1) | (exact N1) | (exact O1) | (exact R1) | (exact C1)) rfl ?_) | (refine al_call3 rfl rfl rfl rfl rfl (by first | (exact S1) | (exact S2) | (exact A1) | (exact N1) | (exact O1) | (exact R1) | (exact C1)) rfl ?_) | (refine al_call4 rfl rfl rfl rfl rfl rfl (by first | (exact S1) | (exact S2) | (exact A1) | (exact N1) | (exact O1) | (exact R1) | (exact C1)) rfl ?_) | (refine al_mkfn rfl (fun W => rfl) rfl ?_) | (refine awp_cond_1 rfl (by first | assumption | exact decide_eq_true (by omega) | (simp only [Bool.not_eq_true', decide_eq_false_iff_not, decide_eq_true_eq, Bool.not_eq_false']; omega)) ?_) | (refine awp_cond_0 rfl (by first | assumption | exact decide_eq_false (by omega) | (simp only [Bool.not_eq_true', decide_eq_false_iff_not, decide_eq_true_eq, Bool.not_eq_false']; omega)) ?_) | (refine al_guard_b (c := true) rfl rfl (by first | assumption | exact decide_eq_true (by omega) | (simp only [Bool.not_eq_true', decide_eq_false_iff_not, decide_eq_true_eq, Bool.not_eq_false']; omega)) ?_) | (refine al_guard_b (c := false) rfl rfl (by first | assumption | exact decide_eq_false (by omega) | (simp only [Bool.not_eq_true', decide_eq_false_iff_not, decide_eq_true_eq, Bool.not_eq_false']; omega)) ?_) | (refine al_bin rfl rfl rfl rfl rfl (by intro W; go_simp; try rfl) (by intro W; go_simp; try rfl) rfl rfl ?_) | (refine al_un rfl rfl (by intro W; go_simp; try rfl) rfl rfl ?_) | (refine al_conv rfl rfl (by intro W; go_simp; try rfl) rfl rfl ?_)))
  (first | (refine apost_ret rfl (resl_tmp rfl resl_nil) ?_))
  exact AV.Le.refl _
set_option maxRecDepth 100000 in
set_option maxHeartbeats 4000000 in
theorem fsnaps_no {n d k : Int} (f : fits n = true) (g : fits d = true) (hno : ¬ (0 < d) ∨ (0 < d ∧ k < 0) ∨ (0 < d ∧ 0 ≤ k ∧ 100 < k)) : PCall Try.prog 4 [fv n d, vI k] (vB true) := by
  have S1 := p_fSnap_no (k := k) f g (by omega)
  have S2 := p_wSign g
  have A1 := p_alive2
  have i1 : ¬ 0 < d → icmp d 0 ≤ 0 := icmp_dn'
  have i2 : 0 < d → icmp d 0 = 1 := icmp_up'
  generalize icmp d 0 = c at *
  rcases hno with h | ⟨h, h'⟩ | ⟨h, h', h''⟩
  all_goals
    first | (have q := i1 h; clear i1 i2 h) | (have q := i2 h; clear i1 i2 h)
    clear f g
    refine pcall_body (f := 4) Try.func4 rfl rfl rfl rfl ?_
    (repeat (first | (refine awp_seq ?_) | (refine awp_region ?_) | (refine awp_region_draw (by kernel_rfl) (by kernel_rfl) rfl ?_) | (refine awp_cond_t rfl ?_) | (refine awp_cond_f rfl ?_) | (refine awp_block ?_) | (refine awp_exit ?_) | (refine awp_ret ?_) | (refine awp_skip ?_) | (refine awp_label ?_) | (refine athen_normal ?_) | (refine athen_exit ?_) | (refine athen_ret ?_) | (refine ablock_normal ?_) | (refine ablock_ret ?_) | (refine ablock_same ?_) | (refine ablock_ne rfl ?_) | (refine al_nilS (by kernel_rfl) ?_) | (refine al_nil ?_) | (refine al_fld rfl rfl rfl ?_) | (refine al_idx rfl rfl rfl (by decide) (by decide) rfl ?_) | (refine al_load1 rfl rfl rfl rfl rfl ?_) | (refine al_loadN rfl rfl rfl rfl rfl ?_) | (refine al_store rfl rfl rfl rfl rfl rfl ?_) | (refine al_alloc rfl rfl rfl rfl ?_) | (refine al_box rfl rfl rfl rfl ?_) | (refine al_move rfl rfl rfl ?_) | (refine al_assign rfl rfl rfl ?_) | (refine al_extract rfl rfl rfl rfl ?_) | (refine al_build rfl rfl rfl rfl rfl ?_) | (refine al_lss rfl rfl rfl rfl ?_) | (refine al_leq rfl rfl rfl rfl ?_) | (refine al_gtr rfl rfl rfl rfl ?_) | (refine al_geq rfl rfl rfl rfl ?_) | (refine al_eql rfl rfl rfl rfl ?_) | (refine al_neq rfl rfl rfl rfl ?_) | (refine al_add rfl rfl rfl (by first | exact i64_wrap (by omega) | assumption | rfl) rfl ?_) | (refine al_sub rfl rfl rfl (by first | exact i64_wrap (by omega) | assumption | rfl) rfl ?_) | (refine al_mul rfl rfl rfl (by first | exact i64_wrap (by omega) | assumption | rfl) rfl ?_) | (refine al_not rfl rfl rfl ?_) | (refine al_convI rfl rfl (by first | exact i64_wrap (by omega) | assumption | rfl) rfl ?_) | (refine al_pick_t rfl rfl rfl rfl rfl ?_) | (refine al_pick_f rfl rfl rfl rfl rfl ?_) | (refine al_min rfl rfl rfl rfl ?_) | (refine al_max rfl rfl rfl rfl ?_) | (refine al_pass rfl (by rintro d ⟨⟩; rfl) ?_) | (refine al_call1 rfl rfl rfl (by first | (exact S1) | (exact S2) | (exact A1)) rfl ?_) | (refine al_call2 rfl rfl rfl rfl (by first | (exact S1) | (exact S2) | (exact A1)) rfl ?_) | (refine al_call0 rfl rfl (by first | (exact S1) | (exact S2) | (exact A1)) rfl ?_) | (refine al_call3 rfl rfl rfl rfl rfl (by first | (exact S1) | (exact S2) | (exact A1)) rfl ?_) | (refine al_call4 rfl rfl rfl rfl rfl rfl (by first | (exact S1) | (exact S2) | (exact A1)) rfl ?_) | (refine al_mkfn rfl (fun W => rfl) rfl ?_) | (refine awp_cond_1 rfl (by first | assumption | exact decide_eq_true (by omega) | (simp only [Bool.not_eq_true', decide_eq_false_iff_not, decide_eq_true_eq, Bool.not_eq_false']; omega)) ?_) | (refine awp_cond_0 rfl (by first | assumption | exact decide_eq_false (by omega) | (simp only [Bool.not_eq_true', decide_eq_false_iff_not, decide_eq_true_eq, Bool.not_eq_false']; omega)) ?_) | (refine al_guard_b (c := true) rfl rfl (by first | assumption | exact decide_eq_true (by omega) | (simp only [Bool.not_eq_true', decide_eq_false_iff_not, decide_eq_true_eq, Bool.not_eq_false']; omega)) ?_) | (refine al_guard_b (c := false) rfl rfl (by first | assumption | exact decide_eq_false (by omega) | (simp only [Bool.not_eq_true', decide_eq_false_iff_not, decide_eq_true_eq, Bool.not_eq_false']; omega)) ?_) | (refine al_bin rfl rfl rfl rfl rfl (by intro W; go_simp; try rfl) (by intro W; go_simp; try rfl) rfl rfl ?_) | (refine al_un rfl rfl (by intro W; go_simp; try rfl) rfl rfl ?_) | (refine al_conv rfl rfl (by intro W; go_simp; try rfl) rfl rfl ?_)))
    (first | (refine apost_ret rfl (resl_tmp rfl resl_nil) ?_))
    exact AV.Le.refl _
theorem fsnaps {n d k : Int} (f : fits n = true) (g : fits d = true) : PCall Try.prog 4 [fv n d, vI k] (vB true) := by
  by_cases h : 0 < d ∧ 0 ≤ k ∧ k ≤ 100
  · obtain ⟨j, rfl⟩ := Int.eq_ofNat_of_zero_le h.2.1
    exact fsnaps_yes f g h.1 (by omega)
  · exact fsnaps_no f g (by omega)
theorem fits_of {a b : Int} (ha : -9223372036854775808 ≤ a ∧ a ≤ 9223372036854775807) (hb : 0 ≤ b ∧ b ≤ 18446744073709551615) : ∃ n, fits n = true ∧ a = hiW n ∧ b = loW n := by
  have h : IsW a b (a * 18446744073709551616 + b) := by unfold IsW; omega
  exact ⟨_, h.fits, isW_is h⟩
theorem fsnaps_walk (a b c e k : Int) (W : World) (ha : -9223372036854775808 ≤ a ∧ a ≤ 9223372036854775807) (hb : 0 ≤ b ∧ b ≤ 18446744073709551615) (hc : -9223372036854775808 ≤ c ∧ c ≤ 9223372036854775807) (he : 0 ≤ e ∧ e ≤ 18446744073709551615) (hk : -9223372036854775808 ≤ k ∧ k ≤ 9223372036854775807) :
    Calls Try.prog 4 #[.agg #[.int .i64 a, .int .u64 b, .int .i64 c, .int .u64 e], .int .i64 k] W fun e W' => e = .returned (.bool true) ∧ Below W.heap.size W W' := by
  obtain ⟨n, f1, rfl, rfl⟩ := fits_of ha hb
  obtain ⟨d, f2, rfl, rfl⟩ := fits_of hc he
  exact pcall_true (fsnaps (k := k) f1 f2) [_, _] rfl rfl W
end Go.Proofs.Ytinjgiigmlikpaa
