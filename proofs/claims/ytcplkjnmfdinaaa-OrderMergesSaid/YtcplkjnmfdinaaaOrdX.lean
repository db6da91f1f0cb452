/-
  OrderAgain, by what Sort, Is and Merge tell. My own text.
-/
import Derived.Test.YtcplkjnmfdinaaaOrdV
namespace Go.Proofs.Ytcplkjnmfdinaaa
open Go.RowKit
set_option linter.unusedVariables false
set_option linter.unusedSimpArgs false
theorem pcall_le {P : Program} {f : FuncId} {args args' : List AV} {r : AV} (h : PCall P f args r) (ca : args'.all AV.closedB = true) (hl : args'.length = args.length) (hle : ∀ (i : Nat) x y, args'[i]? = some x → args[i]? = some y → x.Le y) : PCall P f args' r :=
  ⟨fun x hx => AV.closed_of (List.all_eq_true.1 ca x hx), h.cr, fun U W vs hvs => h.call U W vs ⟨by rw [← hl]; exact hvs.1, fun i y v hy hv => by
    have hi : i < args'.length := by rw [hl]; exact (List.getElem?_eq_some_iff.1 hy).1
    exact hle i _ y (List.getElem?_eq_getElem hi) hy U id W v (hvs.2 i _ v (List.getElem?_eq_getElem hi) hv)⟩⟩
abbrev vNil : AV := vC (.slice none 0 0)
theorem nil_le (z : Nat) : vNil.Le (vS z 0 []) := fun U ρ W v h => by
  obtain ⟨rfl, _⟩ := h
  exact ⟨⟨none, 0, rfl, Nat.le_refl _, by simp, fun h => absurd h (Nat.lt_irrefl _)⟩, fun b ⟨c, a, q, hn, _⟩ => absurd hn (Nat.lt_irrefl _)⟩
theorem IsSort.behind {l s t : List (Int × Int)} {x : Int × Int} (h : IsSort l s) (h2 : IsSort (s ++ [x]) t) : IsSort (l ++ [x]) t :=
  ⟨h2.1, fun c => by rw [h2.2, List.filter_append, List.filter_append, h.2]⟩
set_option maxRecDepth 100000 in
set_option maxHeartbeats 8000000 in
theorem law_Again {l : List (Int × Int)} {k n : Int} (hal : PCall Try.prog 9 [] (vB true)) (cs : CSort 200) (ci : CIs 200) (cm : CMerge 200) : PCall Try.prog 8 [vIt l, vP k n] (vB true) := by
  by_cases hl : l.length ≤ 150
  · have q1 : ¬ 150 < (l.length : Int) := by omega
    obtain ⟨s, hs⟩ := isSort_ex l
    have hsl : s.length = l.length := hs.length
    have hp : [(k, n)].Pairwise (fun x y => x.1 ≤ y.1) := by simp
    have hm := mrg_sort s [(k, n)] hs.1 hp
    have hml : (mrg s [(k, n)]).length = l.length + 1 := by rw [hm.length, List.length_append, hsl]; rfl
    have hlx : (l ++ [(k, n)]).length = l.length + 1 := List.length_append
    have C1 := cs l s (by omega) hs
    have C2 := cm s [(k, n)] (by omega) (by simp) hs.1 hp
    have C3 := cs s s (by omega) hs.self
    have C4 := p_same7 (l := s) (m := s) (by omega)
    have C5 := cs (l ++ [(k, n)]) _ (by omega) (hs.behind hm)
    have C6 := p_same7 (l := mrg s [(k, n)]) (m := mrg s [(k, n)]) (by omega)
    have C7 := ci (mrg s [(k, n)]) (by omega)
    rw [sortedB_of hm.1] at C7
    rw [decide_eq_true rfl] at C4 C6
    have D1 := cm s [] (by omega) (by simp) hs.1 .nil
    have D2 := cm [] s (by simp) (by omega) .nil hs.1
    rw [mrg_nil] at D1
    rw [show mrg [] s = s by simp [mrg]] at D2
    have C8 : PCall Try.prog 15 [vIt s, vNil, vAhead] (vIt s) := pcall_le D1 rfl rfl (by
      intro i x y hx hy
      match i with
      | 0 => cases hx; cases hy; exact .refl _
      | 1 => cases hx; cases hy; exact nil_le 2
      | 2 => cases hx; cases hy; exact .refl _
      | i + 3 => simp at hx)
    have C9 : PCall Try.prog 15 [vNil, vIt s, vAhead] (vIt s) := pcall_le D2 rfl rfl (by
      intro i x y hx hy
      match i with
      | 0 => cases hx; cases hy; exact nil_le 2
      | 1 => cases hx; cases hy; exact .refl _
      | 2 => cases hx; cases hy; exact .refl _
      | i + 3 => simp at hx)
    generalize mrg s [(k, n)] = mo at *
    have e1 : ((l.length : Int)).toNat - 0 = l.length := by simp
    have e2 : ((itC l).drop (0 * 2)).take (l.length * 2) = itC l := by rw [Nat.zero_mul, List.drop_zero, List.take_of_length_le (by rw [itC_len]; exact Nat.le_refl _)]
    have e3 : l.length + 1 = (l ++ [(k, n)]).length := hlx.symm
    have e4 : itC l ++ [.c (.int .i64 k), .c (.int .i64 n)] = itC (l ++ [(k, n)]) := by rw [itC_append]; rfl
    have e5 : (l.length + 1) * 16 ≤ 140737488355328 := by omega
    have e6 : l.length + 1 ≤ maxLen := le_maxLen (by omega)
    have e7 : 0 ≤ (l.length : Int) := by omega
    have e8 : (l.length : Int) ≤ (l.length : Int) := Int.le_refl _
    clear D1 D2 hm hml hlx cs ci cm hs hp hsl
    refine pcall_body (f := 8) Try.func8 rfl rfl rfl rfl ?_
    (repeat (first | ((with_reducible apply al_q); exact rfl) | ((with_reducible apply al_loadP1); (iterate 5 exact rfl)) | ((with_reducible apply al_loadPN); (iterate 5 exact rfl)) | ((with_reducible apply al_len); (iterate 3 exact rfl)) | ((with_reducible apply al_new0F); exact rfl; exact rfl) | ((with_reducible apply al_sl_hmF); (iterate 4 exact rfl); (first | assumption | omega); (first | assumption | omega); (first | assumption | rfl); (first | assumption | rfl); exact rfl) | ((with_reducible apply al_sl_lhmF); (iterate 5 exact rfl); (first | assumption | omega); (first | assumption | omega); (first | assumption | omega); (first | assumption | rfl); (first | assumption | rfl); exact rfl) | ((with_reducible apply al_appF); (iterate 3 exact rfl); (first | exact le_maxLen (by omega) | assumption); (first | assumption | omega); (first | assumption | rfl); (first | assumption | rfl); exact rfl) | ((with_reducible apply al_appN); (iterate 3 exact rfl); (first | exact le_maxLen (by omega) | assumption); (first | assumption | omega); exact rfl) | ((with_reducible apply al_sl_l); (iterate 3 exact rfl); (first | assumption | omega); (first | assumption | omega); (first | assumption | rfl); (first | assumption | rfl); exact rfl) | ((with_reducible apply al_sl_h); (iterate 3 exact rfl); (first | assumption | omega); (first | assumption | omega); (first | assumption | rfl); (first | assumption | rfl); exact rfl) | ((with_reducible apply al_sl_lh); (iterate 4 exact rfl); (first | assumption | omega); (first | assumption | omega); (first | assumption | omega); (first | assumption | rfl); (first | assumption | rfl); exact rfl) | ((with_reducible apply al_sl_hm); (iterate 4 exact rfl); (first | assumption | omega); (first | assumption | omega); (first | assumption | omega); (first | assumption | rfl); (first | assumption | rfl); exact rfl) | ((with_reducible apply al_sl_lhm); (iterate 5 exact rfl); (first | assumption | omega); (first | assumption | omega); (first | assumption | omega); (first | assumption | omega); (first | assumption | rfl); (first | assumption | rfl); exact rfl) | ((with_reducible apply al_bslice); (iterate 10 exact rfl)) | (refine al_call0 rfl rfl (by (first | exact hal | exact C1 | exact C2 | exact C3 | exact C4 | exact C5 | exact C6 | exact C7 | exact C8 | exact C9)) rfl ?_) | (refine al_call2 rfl rfl rfl rfl (by (first | exact hal | exact C1 | exact C2 | exact C3 | exact C4 | exact C5 | exact C6 | exact C7 | exact C8 | exact C9)) rfl ?_) | (refine al_call3 rfl rfl rfl rfl rfl (by (first | exact hal | exact C1 | exact C2 | exact C3 | exact C4 | exact C5 | exact C6 | exact C7 | exact C8 | exact C9)) rfl ?_) | ((with_reducible apply al_guard_b (c := true)); exact rfl; exact rfl; (first | assumption | exact decide_eq_true (by omega) | (simp only [Bool.not_eq_true', decide_eq_false_iff_not, decide_eq_true_eq, Bool.not_eq_false']; omega))) | ((with_reducible apply al_guard_b (c := false)); exact rfl; exact rfl; (first | assumption | exact decide_eq_false (by omega) | (simp only [Bool.not_eq_true', decide_eq_false_iff_not, decide_eq_true_eq, Bool.not_eq_false']; omega))) | ((with_reducible apply al_bin); (iterate 5 exact rfl); (intro W; go_simp; try rfl); (intro W; go_simp; try rfl); exact rfl; exact rfl) | ((with_reducible apply al_nilS); kernel_rfl) | ((with_reducible apply awp_region_draw); kernel_rfl; kernel_rfl; exact rfl) | ((with_reducible apply awp_seq)) | ((with_reducible apply athen_normal)) | ((with_reducible apply awp_region)) | ((with_reducible apply al_nil)) | ((with_reducible apply awp_ret)) | ((with_reducible apply awp_skip)) | ((with_reducible apply athen_ret)) | ((with_reducible apply awp_cond_t); exact rfl) | ((with_reducible apply awp_cond_f); exact rfl) | ((with_reducible apply awp_cond_1); exact rfl; (first | assumption | exact decide_eq_true (by omega) | (simp only [Bool.not_eq_true', decide_eq_false_iff_not, decide_eq_true_eq, Bool.not_eq_false']; omega))) | ((with_reducible apply awp_cond_0); exact rfl; (first | assumption | exact decide_eq_false (by omega) | (simp only [Bool.not_eq_true', decide_eq_false_iff_not, decide_eq_true_eq, Bool.not_eq_false']; omega)))))
    (first | (refine apost_ret rfl (resl_tmp rfl resl_nil) ?_))
    exact AV.Le.refl _
  · have q1 : 150 < (l.length : Int) := by omega
    refine pcall_body (f := 8) Try.func8 rfl rfl rfl rfl ?_
    (repeat (first | ((with_reducible apply al_q); exact rfl) | ((with_reducible apply al_loadP1); (iterate 5 exact rfl)) | ((with_reducible apply al_loadPN); (iterate 5 exact rfl)) | ((with_reducible apply al_len); (iterate 3 exact rfl)) | ((with_reducible apply al_new0F); exact rfl; exact rfl) | ((with_reducible apply al_sl_hmF); (iterate 4 exact rfl); (first | assumption | omega); (first | assumption | omega); (first | assumption | rfl); (first | assumption | rfl); exact rfl) | ((with_reducible apply al_sl_lhmF); (iterate 5 exact rfl); (first | assumption | omega); (first | assumption | omega); (first | assumption | omega); (first | assumption | rfl); (first | assumption | rfl); exact rfl) | ((with_reducible apply al_appF); (iterate 3 exact rfl); (first | exact le_maxLen (by omega) | assumption); (first | assumption | omega); (first | assumption | rfl); (first | assumption | rfl); exact rfl) | ((with_reducible apply al_appN); (iterate 3 exact rfl); (first | exact le_maxLen (by omega) | assumption); (first | assumption | omega); exact rfl) | ((with_reducible apply al_sl_l); (iterate 3 exact rfl); (first | assumption | omega); (first | assumption | omega); (first | assumption | rfl); (first | assumption | rfl); exact rfl) | ((with_reducible apply al_sl_h); (iterate 3 exact rfl); (first | assumption | omega); (first | assumption | omega); (first | assumption | rfl); (first | assumption | rfl); exact rfl) | ((with_reducible apply al_sl_lh); (iterate 4 exact rfl); (first | assumption | omega); (first | assumption | omega); (first | assumption | omega); (first | assumption | rfl); (first | assumption | rfl); exact rfl) | ((with_reducible apply al_sl_hm); (iterate 4 exact rfl); (first | assumption | omega); (first | assumption | omega); (first | assumption | omega); (first | assumption | rfl); (first | assumption | rfl); exact rfl) | ((with_reducible apply al_sl_lhm); (iterate 5 exact rfl); (first | assumption | omega); (first | assumption | omega); (first | assumption | omega); (first | assumption | omega); (first | assumption | rfl); (first | assumption | rfl); exact rfl) | ((with_reducible apply al_bslice); (iterate 10 exact rfl)) | (refine al_call0 rfl rfl (by (first | exact hal)) rfl ?_) | (refine al_call2 rfl rfl rfl rfl (by (first | exact hal)) rfl ?_) | (refine al_call3 rfl rfl rfl rfl rfl (by (first | exact hal)) rfl ?_) | ((with_reducible apply al_guard_b (c := true)); exact rfl; exact rfl; (first | assumption | exact decide_eq_true (by omega) | (simp only [Bool.not_eq_true', decide_eq_false_iff_not, decide_eq_true_eq, Bool.not_eq_false']; omega))) | ((with_reducible apply al_guard_b (c := false)); exact rfl; exact rfl; (first | assumption | exact decide_eq_false (by omega) | (simp only [Bool.not_eq_true', decide_eq_false_iff_not, decide_eq_true_eq, Bool.not_eq_false']; omega))) | ((with_reducible apply al_bin); (iterate 5 exact rfl); (intro W; go_simp; try rfl); (intro W; go_simp; try rfl); exact rfl; exact rfl) | ((with_reducible apply al_nilS); kernel_rfl) | ((with_reducible apply awp_region_draw); kernel_rfl; kernel_rfl; exact rfl) | ((with_reducible apply awp_seq)) | ((with_reducible apply athen_normal)) | ((with_reducible apply awp_region)) | ((with_reducible apply al_nil)) | ((with_reducible apply awp_ret)) | ((with_reducible apply awp_skip)) | ((with_reducible apply athen_ret)) | ((with_reducible apply awp_cond_t); exact rfl) | ((with_reducible apply awp_cond_f); exact rfl) | ((with_reducible apply awp_cond_1); exact rfl; (first | assumption | exact decide_eq_true (by omega) | (simp only [Bool.not_eq_true', decide_eq_false_iff_not, decide_eq_true_eq, Bool.not_eq_false']; omega))) | ((with_reducible apply awp_cond_0); exact rfl; (first | assumption | exact decide_eq_false (by omega) | (simp only [Bool.not_eq_true', decide_eq_false_iff_not, decide_eq_true_eq, Bool.not_eq_false']; omega)))))
    (first | (refine apost_ret rfl (resl_tmp rfl resl_nil) ?_))
    exact AV.Le.refl _
end Go.Proofs.Ytcplkjnmfdinaaa
