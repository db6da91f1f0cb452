/-
  My own texts, without what this claim does not need. My own text.
-/
import Derived.Deep.SlicePairs
import Derived.ChangeSame
import Derived.Carry
import Derived.Test.YtlfkllmnekdghaaRows
import Derived.Test.YtlfkllmnekdghaaInpMvSK4
namespace Go.Proofs.Ytlfkllmnekdghaa
open Go.RowKit
set_option linter.unusedVariables false
set_option linter.unusedSimpArgs false
set_option maxRecDepth 100000 in
set_option maxHeartbeats 16000000 in
theorem law_MovedS {L : List (List Pt)} {x y b1 b2 : Int} (hLb : L.length * 24 ≤ 140737488351232) (hr : ∀ r ∈ L, r.length ≤ 8796093022208) : PCall Try.prog 9 [.w (.one (ringsA L)), .w (.agg [.c (.int .i64 x), .c (.int .i64 y)]), vP b1 b2] (vB true) := by
  have L1 := p_alive11
  have M1 := le1 (p_ManyW hLb hr) rfl rfl job1_le
  have cs : ∃ c, wI ((L.length + sumL L : Nat) : Int) = c ∧ (c > 200 ∨ (¬ c > 200 ∧ b1 > 134217728) ∨ (¬ c > 200 ∧ ¬ b1 > 134217728 ∧ b1 < -134217728) ∨ (¬ c > 200 ∧ ¬ b1 > 134217728 ∧ ¬ b1 < -134217728 ∧ b2 > 134217728) ∨ (¬ c > 200 ∧ ¬ b1 > 134217728 ∧ ¬ b1 < -134217728 ∧ ¬ b2 > 134217728 ∧ b2 < -134217728) ∨ (¬ c > 200 ∧ ¬ b1 > 134217728 ∧ ¬ b1 < -134217728 ∧ ¬ b2 > 134217728 ∧ ¬ b2 < -134217728)) := ⟨_, rfl, by omega⟩
  obtain ⟨c, hc, cs⟩ := cs
  rw [hc] at M1
  rcases cs with h1 | ⟨h1, h2⟩ | ⟨h1, h2, h3⟩ | ⟨h1, h2, h3, h4⟩ | ⟨h1, h2, h3, h4, h5⟩ | ⟨h1, h2, h3, h4, h5⟩
  iterate 5
    · refine pcall_body (f := 9) Try.func9 rfl rfl rfl rfl ?_
      (repeat (first | ((with_reducible apply al_q); exact rfl) | (refine al_call0 rfl rfl (by (first | exact L1 | exact M1)) rfl ?_) | (refine al_call1 rfl rfl rfl (by (first | exact L1 | exact M1)) rfl ?_) | ((with_reducible apply al_guard_b (c := true)); exact rfl; exact rfl; (first | assumption | exact decide_eq_true (by omega) | (simp only [Bool.not_eq_true', decide_eq_false_iff_not, decide_eq_true_eq, Bool.not_eq_false']; (first | done | omega)))) | ((with_reducible apply al_guard_b (c := false)); exact rfl; exact rfl; (first | assumption | exact decide_eq_false (by omega) | (simp only [Bool.not_eq_true', decide_eq_false_iff_not, decide_eq_true_eq, Bool.not_eq_false']; (first | done | omega)))) | ((with_reducible apply awp_seq)) | ((with_reducible apply athen_normal)) | ((with_reducible apply awp_region)) | ((with_reducible apply al_nil)) | ((with_reducible apply awp_ret)) | ((with_reducible apply athen_ret)) | ((with_reducible apply awp_cond_t); exact rfl) | ((with_reducible apply awp_cond_1); exact rfl; (first | assumption | exact decide_eq_true (by omega) | (simp only [Bool.not_eq_true', decide_eq_false_iff_not, decide_eq_true_eq, Bool.not_eq_false']; (first | done | omega))))))
      (first | (refine apost_ret rfl (resl_tmp rfl resl_nil) ?_))
      exact AV.Le.refl _
  · have R1 := p_right11 (L := L) (x := x) (y := y) (by omega) (fun r h => by have := hr r h; omega)
    cases hg : rgB11 L x y with
    | false =>
      rw [hg] at R1
      clear hg hr
      refine pcall_body (f := 9) Try.func9 rfl rfl rfl rfl ?_
      (repeat (first | ((with_reducible apply al_q); exact rfl) | (refine al_call0 rfl rfl (by (first | exact L1 | exact M1 | exact R1)) rfl ?_) | (refine al_call1 rfl rfl rfl (by (first | exact L1 | exact M1 | exact R1)) rfl ?_) | (refine al_call3 rfl rfl rfl rfl rfl (by (first | exact L1 | exact M1 | exact R1)) rfl ?_) | ((with_reducible apply al_guard_b (c := false)); exact rfl; exact rfl; (first | assumption | exact decide_eq_false (by omega) | (simp only [Bool.not_eq_true', decide_eq_false_iff_not, decide_eq_true_eq, Bool.not_eq_false']; (first | done | omega)))) | ((with_reducible apply awp_seq)) | ((with_reducible apply athen_normal)) | ((with_reducible apply awp_region)) | ((with_reducible apply al_nil)) | ((with_reducible apply awp_ret)) | ((with_reducible apply awp_skip)) | ((with_reducible apply athen_ret)) | ((with_reducible apply awp_cond_t); exact rfl) | ((with_reducible apply awp_cond_0); exact rfl; (first | assumption | exact decide_eq_false (by omega) | (simp only [Bool.not_eq_true', decide_eq_false_iff_not, decide_eq_true_eq, Bool.not_eq_false']; (first | done | omega))))))
      (first | (refine apost_ret rfl (resl_tmp rfl resl_nil) ?_))
      exact AV.Le.refl _
    | true =>
      rw [hg] at R1
      have hpt : ∀ r ∈ L, ∀ p ∈ r, rB p.1 p.2 = true := fun r hr' p hp => by
        unfold rgB11 at hg
        rw [Bool.and_eq_true, List.all_eq_true] at hg
        have := List.all_eq_true.1 (hg.1 r hr') p hp
        unfold ptB at this
        rw [Bool.and_eq_true] at this
        exact this.1
      refine pcall_body (f := 9) Try.func9 rfl rfl rfl rfl ?_
      refine awp_rows ?_
      (repeat (first | ((with_reducible apply rwp_seq)) | ((with_reducible apply rthen_normal)) | ((with_reducible apply rwp_region)) | ((with_reducible apply hs_nil)) | ((with_reducible apply rwp_skip)) | ((with_reducible apply rwp_block)) | ((with_reducible apply rwp_cond_0); exact rfl; (first | assumption | exact decide_eq_false (by omega) | (simp only [Bool.not_eq_true', decide_eq_false_iff_not, decide_eq_true_eq, Bool.not_eq_false']; (first | done | omega)) | exact rfl)) | ((with_reducible apply hs_c); exact rfl; (repeat (first | ((with_reducible apply al_q); exact rfl) | ((with_reducible apply al_len); (iterate 3 exact rfl)) | (refine al_call1 rfl rfl rfl (by (first | exact L1 | exact M1 | exact R1)) rfl ?_) | (refine al_call3 rfl rfl rfl rfl rfl (by (first | exact L1 | exact M1 | exact R1)) rfl ?_) | ((with_reducible apply al_guard_b (c := false)); exact rfl; exact rfl; (first | assumption | exact decide_eq_false (by omega) | (simp only [Bool.not_eq_true', decide_eq_false_iff_not, decide_eq_true_eq, Bool.not_eq_false']; (first | done | omega)))))); (with_reducible apply al_nil))))
      refine rwp_nil 0 45 1 rfl ?_
      refine rwp_loopL 129 (MoI L x y (b1, b2)) L.length _ _ _ ⟨0, 0, _, Nat.zero_le _, rfl, rfl, rfl, rfl, rfl⟩ (RLe.refl _) rfl ⟨rfl, rfl, rfl, rfl, rfl, rfl, rfl, trivial⟩ ⟨rfl, rfl, trivial⟩ rfl ?_
      rintro n R ts ms ⟨i, ii, v, hi, rfl, hii, rfl, rfl, rfl⟩ hok
      clear hok
      by_cases hq : i < L.length
      · have q2 : ii < (L.length : Int) := by omega
        have q3 : 0 ≤ ii := by omega
        obtain ⟨r, hri⟩ : ∃ r, L[i]? = some r := ⟨_, List.getElem?_eq_getElem hq⟩
        have E1 := ringsC_at hii hri
        have hrl := hr r (List.mem_of_getElem? hri)
        have hrp := hpt r (List.mem_of_getElem? hri)
        (repeat (first | ((with_reducible apply rwp_seq)) | ((with_reducible apply rthen_normal)) | ((with_reducible apply rwp_region)) | ((with_reducible apply hs_nil)) | ((with_reducible apply rwp_skip)) | ((with_reducible apply rwp_block)) | ((with_reducible apply rwp_cond_1); exact rfl; (first | assumption | exact decide_eq_true (by omega) | (simp only [Bool.not_eq_true', decide_eq_false_iff_not, decide_eq_true_eq, Bool.not_eq_false']; (first | done | omega)) | exact rfl)) | ((with_reducible apply hs_c); exact rfl; (repeat (first | ((with_reducible apply al_q); exact rfl) | ((with_reducible apply al_loadP1); (iterate 5 exact rfl)) | ((with_reducible apply al_idxS); (iterate 3 exact rfl); (first | decide | omega); (first | decide | omega); (first | assumption | rfl); exact rfl) | ((with_reducible apply al_len); (iterate 3 exact rfl)))); (with_reducible apply al_nil))))
        refine rwp_nil 1 37 2 rfl ?_
        skip
        refine rwp_loopL 129 (MnI L x y (b1, b2) r v i ii) r.length _ _ _ ⟨0, 0, _, Nat.zero_le _, rfl, rfl, rfl, rfl, rfl⟩ (RLe.refl _) rfl ⟨rfl, rfl, rfl, rfl, rfl, rfl, rfl, rfl, rfl, rfl, rfl, trivial⟩ ⟨rfl, rfl, trivial⟩ rfl ?_
        rintro n R ts ms ⟨j, jj, v', hj, rfl, hjj, rfl, rfl, rfl⟩ hok
        clear hok
        by_cases hp : j < r.length
        · have p2 : jj < (r.length : Int) := by omega
          have p3 : 0 ≤ jj := by omega
          obtain ⟨px, py, g1⟩ : ∃ px py, r[j]? = some (px, py) := ⟨_, _, List.getElem?_eq_getElem hp⟩
          have F1 := ringC_at hjj g1
          have hpb := rB_iff.1 (hrp _ (List.mem_of_getElem? g1))
          have hmv : (r.map (mvP (b1, b2)))[j]? = some (px + b1, py + b2) := by rw [List.getElem?_map, g1]; rfl
          have ht := take_one hmv
          simp only at hpb
          (repeat (first | ((with_reducible apply rwp_seq)) | ((with_reducible apply rthen_normal)) | ((with_reducible apply rwp_region)) | ((with_reducible apply hs_nil)) | ((with_reducible apply rwp_skip)) | ((with_reducible apply rwp_block)) | ((with_reducible apply rwp_cond_1); exact rfl; (first | assumption | exact decide_eq_true (by omega) | (simp only [Bool.not_eq_true', decide_eq_false_iff_not, decide_eq_true_eq, Bool.not_eq_false']; (first | done | omega)) | exact rfl)) | ((with_reducible apply hs_c); exact rfl; (repeat (first | ((with_reducible apply al_q); exact rfl) | ((with_reducible apply al_loadPN); (iterate 5 exact rfl)) | ((with_reducible apply al_idxS); (iterate 3 exact rfl); (first | decide | omega); (first | decide | omega); (first | assumption | rfl); exact rfl) | ((with_reducible apply al_add); (iterate 3 exact rfl); (first | exact i64_wrap (by omega) | assumption | rfl); exact rfl) | ((with_reducible apply al_bslice); (iterate 10 exact rfl)))); (with_reducible apply al_nil))))
          refine hs_app0 1 rfl rfl rfl rfl ?q1 ?q2 rfl rfl (fun v2 hv2 => ?_)
          case q1 => exact Nat.le_trans (m := 140737488351232) (by show j + 1 ≤ 140737488351232; omega) (by decide)
          case q2 => show (j + 1) * 16 ≤ 140737488355328; omega
          (repeat (first | ((with_reducible apply rthen_normal)) | ((with_reducible apply rwp_region)) | ((with_reducible apply hs_nil)) | ((with_reducible apply rblock_normal)) | ((with_reducible apply hs_c); exact rfl; (repeat (first | ((with_reducible apply al_q); exact rfl) | ((with_reducible apply al_add); (iterate 3 exact rfl); (first | exact i64_wrap (by omega) | assumption | rfl); exact rfl))); (with_reducible apply al_nil))))
          exact ⟨r.length - (j + 1), upd (row1 0 ⟨45, 1, v, i, (L.take i).map (mvA (b1, b2))⟩) 1 ⟨37, 2, v2, j + 1, ringC ((r.map (mvP (b1, b2))).take (j + 1))⟩, _, _, by omega, ⟨j + 1, jj + 1, v2, hp, rfl, by omega, rfl, rfl, rfl⟩, by rw [ht, ringC_one]; exact rle_twice, rfl, ⟨rfl, rfl, rfl, rfl, rfl, rfl, rfl, rfl, rfl, rfl, rfl, trivial⟩, ⟨rfl, rfl, trivial⟩, rfl⟩
        · have e : j = r.length := by omega
          subst e
          have p2 : ¬ jj < (r.length : Int) := by omega
          have hfull : (r.map (mvP (b1, b2))).take r.length = r.map (mvP (b1, b2)) := List.take_of_length_le (by simp)
          rw [hfull]
          refine rwp_cool 1 10 _ rfl rfl ?_
          have ht := take_one hri
          (repeat (first | ((with_reducible apply rwp_seq)) | ((with_reducible apply rthen_normal)) | ((with_reducible apply rwp_region)) | ((with_reducible apply hs_nil)) | ((with_reducible apply rblock_same)) | ((with_reducible apply rwp_exit)) | ((with_reducible apply rthen_exit)) | ((with_reducible apply rwp_cond_0); exact rfl; (first | assumption | exact decide_eq_false (by omega) | (simp only [Bool.not_eq_true', decide_eq_false_iff_not, decide_eq_true_eq, Bool.not_eq_false']; (first | done | omega)) | exact rfl)) | ((with_reducible apply hs_c); exact rfl; (repeat (first | ((with_reducible apply al_q); exact rfl) | ((with_reducible apply al_bslice); (iterate 10 exact rfl)))); (with_reducible apply al_nil))))
          refine hs_app0 0 rfl rfl rfl rfl ?q3 ?q4 rfl rfl (fun v2 hv2 => ?_)
          case q3 => exact Nat.le_trans (m := 140737488351232) (by show i + 1 ≤ 140737488351232; omega) (by decide)
          case q4 => show (i + 1) * 24 ≤ 140737488355328; omega
          (repeat (first | ((with_reducible apply rthen_normal)) | ((with_reducible apply rwp_region)) | ((with_reducible apply hs_nil)) | ((with_reducible apply rblock_normal)) | ((with_reducible apply hs_c); exact rfl; (repeat (first | ((with_reducible apply al_q); exact rfl) | ((with_reducible apply al_add); (iterate 3 exact rfl); (first | exact i64_wrap (by omega) | assumption | rfl); exact rfl))); (with_reducible apply al_nil))))
          exact ⟨L.length - (i + 1), row1 0 ⟨45, 1, v2, i + 1, (L.take (i + 1)).map (mvA (b1, b2))⟩, _, _, by omega, ⟨i + 1, ii + 1, v2, hq, rfl, by omega, rfl, rfl, rfl⟩, fun k q hk => by obtain ⟨rfl, rfl⟩ := row1_iff hk; rw [ht, List.map_append]; rfl, rfl, ⟨rfl, rfl, rfl, rfl, rfl, rfl, rfl, trivial⟩, ⟨rfl, rfl, trivial⟩, rfl⟩
      · have e : i = L.length := by omega
        subst e
        rw [List.take_length]
        have q2 : ¬ ii < (L.length : Int) := by omega
        have hxy := (rgB_ends hg).1
        rw [rB_iff] at hxy
        have hml : (L.map fun r => r.map (mvP (b1, b2))).length = L.length := by simp
        have hmr : ∀ r ∈ (L.map fun r => r.map (mvP (b1, b2))), r.length ≤ 8796093022208 := fun r h => by
          obtain ⟨s, hs, rfl⟩ := List.mem_map.1 h
          rw [List.length_map]; exact hr s hs
        have R2 := p_right11 (L := L.map fun r => r.map (mvP (b1, b2))) (x := x + 2 * b1) (y := y + 2 * b2) (by omega) (fun r h => by have := hmr r h; omega)
        have W1 := p_WindW (L := L) (x := x) (y := y) (by omega) (fun r h => by have := hr r h; omega)
        have W2 := p_WindW (L := L.map fun r => r.map (mvP (b1, b2))) (x := x + 2 * b1) (y := y + 2 * b2) (by omega) (fun r h => by have := hmr r h; omega)
        cases hg2 : rgB11 (L.map fun r => r.map (mvP (b1, b2))) (x + 2 * b1) (y + 2 * b2) with
        | false =>
          rw [hg2] at R2
          rw [mvL_eq] at R2
          refine rwp_cool 0 7 _ rfl rfl ?_
          clear W1 W2 hg hg2 hr hpt hmr hml
          (repeat (first | ((with_reducible apply hs_nilS); kernel_rfl) | ((with_reducible apply rwp_draw (id := 17) [0,1,2,3,4,5,6,7,8,9,10,11,12,13]); kernel_rfl; kernel_rfl; exact rfl) | ((with_reducible apply rwp_seq)) | ((with_reducible apply rthen_normal)) | ((with_reducible apply rwp_region)) | ((with_reducible apply hs_nil)) | ((with_reducible apply rwp_ret)) | ((with_reducible apply rthen_ret)) | ((with_reducible apply rblock_same)) | ((with_reducible apply rwp_exit)) | ((with_reducible apply rthen_exit)) | ((with_reducible apply rwp_cond_1); exact rfl; (first | assumption | exact decide_eq_true (by omega) | (simp only [Bool.not_eq_true', decide_eq_false_iff_not, decide_eq_true_eq, Bool.not_eq_false']; (first | done | omega)) | exact rfl)) | ((with_reducible apply rwp_cond_0); exact rfl; (first | assumption | exact decide_eq_false (by omega) | (simp only [Bool.not_eq_true', decide_eq_false_iff_not, decide_eq_true_eq, Bool.not_eq_false']; (first | done | omega)) | exact rfl)) | ((with_reducible apply hs_c); exact rfl; (repeat (first | ((with_reducible apply al_q); exact rfl) | ((with_reducible apply al_add); (iterate 3 exact rfl); (first | exact i64_wrap (by omega) | assumption | rfl); exact rfl) | ((with_reducible apply al_mul); (iterate 3 exact rfl); (first | exact i64_wrap (by omega) | assumption | rfl); exact rfl) | (refine al_call0 rfl rfl (by (first | exact L1 | exact R2)) rfl ?_) | (refine al_call3 rfl rfl rfl rfl rfl (by (first | exact L1 | exact R2)) rfl ?_))); (with_reducible apply al_nil))))
          (first | (refine apost_ret rfl (resl_tmp rfl resl_nil) ?_))
          exact AV.Le.refl _
        | true =>
          have hw := wndL_moved (d := (b1, b2)) hg hg2
          simp only at hw
          rw [hw] at W2
          rw [hg2] at R2
          rw [mvL_eq] at R2 W2
          generalize wndL x y (edgsM L) = w at *
          obtain ⟨n, o⟩ := w
          refine rwp_cool 0 7 _ rfl rfl ?_
          clear hg hg2 hr hpt hmr hml hw
          cases o
          all_goals
            (repeat (first | ((with_reducible apply hs_nilS); kernel_rfl) | ((with_reducible apply rwp_draw (id := 17) [0,1,2,3,4,5,6,7,8,9,10,11,12,13]); kernel_rfl; kernel_rfl; exact rfl) | ((with_reducible apply rwp_seq)) | ((with_reducible apply rthen_normal)) | ((with_reducible apply rwp_region)) | ((with_reducible apply hs_nil)) | ((with_reducible apply rwp_ret)) | ((with_reducible apply rwp_skip)) | ((with_reducible apply rblock_same)) | ((with_reducible apply rwp_exit)) | ((with_reducible apply rthen_exit)) | ((with_reducible apply rwp_cond_0); exact rfl; (first | assumption | exact decide_eq_false (by omega) | (simp only [Bool.not_eq_true', decide_eq_false_iff_not, decide_eq_true_eq, Bool.not_eq_false']; (first | done | omega)) | exact rfl)) | ((with_reducible apply hs_c); exact rfl; (repeat (first | ((with_reducible apply al_q); exact rfl) | ((with_reducible apply al_add); (iterate 3 exact rfl); (first | exact i64_wrap (by omega) | assumption | rfl); exact rfl) | ((with_reducible apply al_mul); (iterate 3 exact rfl); (first | exact i64_wrap (by omega) | assumption | rfl); exact rfl) | (refine al_call0 rfl rfl (by (first | exact L1 | exact R2 | exact W1 | exact W2)) rfl ?_) | (refine al_call3 rfl rfl rfl rfl rfl (by (first | exact L1 | exact R2 | exact W1 | exact W2)) rfl ?_) | ((with_reducible apply al_guard_b (c := true)); exact rfl; exact rfl; (first | assumption | exact decide_eq_true (by omega) | (simp only [Bool.not_eq_true', decide_eq_false_iff_not, decide_eq_true_eq, Bool.not_eq_false']; (first | done | omega)))) | ((with_reducible apply al_bin); (iterate 5 exact rfl); (intro W; go_simp; try rfl); (intro W; go_simp; try rfl); exact rfl; exact rfl))); (with_reducible apply al_nil))))
            (first | (refine apost_ret rfl (resl_tmp rfl resl_nil) ?_))
            first | exact AV.Le.refl _ | exact AV.Le.of_eq (by rw [decide_eq_true rfl]; rfl)
theorem movedS_walk (L : List (List Pt)) (x y b1 b2 : Int) (h : L.length * 24 ≤ 140737488351232 ∧ ∀ r ∈ L, r.length * 16 ≤ 140737488351232) (_ : -9223372036854775808 ≤ x ∧ x ≤ 9223372036854775807) (_ : -9223372036854775808 ≤ y ∧ y ≤ 9223372036854775807) (_ : -9223372036854775808 ≤ b1 ∧ b1 ≤ 9223372036854775807) (_ : -9223372036854775808 ≤ b2 ∧ b2 ≤ 9223372036854775807) : PCall Try.prog 9 [.w (.one (ringsA L)), .w (.agg [.c (.int .i64 x), .c (.int .i64 y)]), vP b1 b2] (vB true) := law_MovedS h.1 fun r hr => by have := h.2 r hr; omega
end Go.Proofs.Ytlfkllmnekdghaa

namespace Go.Proofs.Ytlfkllmnekdghaa
open Go.ChangeShapes Go.WideShapes Go.ChangeAt Go.RowKit Go.Joins
set_option linter.unusedVariables false
set_option linter.unusedSimpArgs false
theorem laidOut : laidOutB Try.prog = true := by kernel_rfl
theorem cell_lt {W : World} {b : Addr} {v : Value} (h : W.cell? b = some v) : b.block < W.heap.size := by
  unfold World.cell? at h
  split at h
  · rename_i hh; exact (Array.getElem?_eq_some_iff.1 hh).1
  · cases h
theorem ringC_cons (p : Pt) (l : List Pt) : ringC (p :: l) = .c (.int .i64 p.1) :: .c (.int .i64 p.2) :: ringC l := rfl
theorem bulk_one {H : Type} (d : DataW H) : 1 ≤ Rows.uptoBulk d := by
  cases d with
  | lit l => cases l <;> simp [Rows.uptoBulk]
  | nil => simp [Rows.uptoBulk]
  | ptr d => simp [Rows.uptoBulk]
  | slice elems spare => simp [Rows.uptoBulk]
  | agg parts => simp [Rows.uptoBulk]
  | iface t d => simp [Rows.uptoBulk]
  | map entries => simp [Rows.uptoBulk]
  | held h => simp [Rows.uptoBulk]
theorem bulk_len {H : Type} (l : List (DataW H)) : l.length ≤ Rows.uptoBulkAll l := by
  induction l with
  | nil => simp [Rows.uptoBulkAll]
  | cons x r ih => have := bulk_one x; simp only [Rows.uptoBulkAll, List.length_cons]; omega
theorem bulk_slice {H : Type} (elems spare : List (DataW H)) : Rows.uptoBulkAll elems + 1 ≤ Rows.uptoBulk (.slice elems spare) := by
  simp only [Rows.uptoBulk]
  omega
theorem weightsAll_mem {H : Type} {P : Program} {e : TypeId} {d : DataW H} {w : Nat} : ∀ {l : List (DataW H)}, d ∈ l → w ∈ DataW.weights P e d → w ∈ DataW.weightsAll P e l
  | x :: l, h, hw => by
    rw [DataW.weightsAll]
    rcases List.mem_cons.1 h with rfl | h
    · exact List.mem_append_left _ hw
    · exact List.mem_append_right _ (weightsAll_mem h hw)
/-- a row of things of two numbers as an argument: what it reads as. -/
theorem open_ring {H : Type} {enc : TypeId × Value → H} {P : Program} {W : World} {t e : TypeId} {f0 f1 : Field} (ht : P.underlying t = some (.slice e)) (he : P.underlying e = some (.struct #[f0, f1])) (ce : P.cellsOf e = 2) (o0 : f0.offset = 0) (o1 : f1.offset = 1) (c0 : P.cellsOf f0.type = 1) (c1 : P.cellsOf f1.type = 1) (k0 : P.underlying f0.type = some (.int .i64)) (k1 : P.underlying f1.type = some (.int .i64))
    {v : Value} {d : DataW H} {p : List MemPlace} (hv : ∃ a len cap, v = .slice a len cap) (h0 : DataW.Trod enc P W 0 (fun _ => true) true t v d p) :
    ∃ l : List (Int × Int), (∀ n, (∀ w ∈ DataW.weights P t d, w ≤ n) → l.length * P.bytesOf e ≤ n) ∧ l.length + 1 ≤ Rows.uptoBulk d ∧ RpV (fun _ => True) id W ((.w (.one (ringA l)))) v := by
  obtain ⟨a0, len0, cap0, rfl⟩ := hv
  obtain ⟨fuel, hf⟩ := h0
  rcases Go.Deep.open_slice_pairs ht he ce o0 o1 c0 c1 hf with ⟨hcs, hx⟩ | ⟨a, len, cap, m, n, V0, V1, D0, D1, P0, P1, hcs, hb, hl, hm, hmm, hx, hi⟩
  · simp [Value.cells] at hcs
    obtain ⟨rfl, rfl, rfl⟩ := hcs
    obtain ⟨rfl, rfl⟩ := Prod.mk.inj hx
    exact ⟨[], (fun n _ => by simp), (by simp [Rows.uptoBulk]), ⟨none, 0, rfl, Nat.le_refl _, rfl, fun h => absurd h (Nat.lt_irrefl _)⟩, fun _ _ => trivial⟩
  · simp [Value.cells] at hcs
    obtain ⟨rfl, rfl, rfl⟩ := hcs
    simp only [if_true] at hmm
    subst hmm
    simp only [Prod.mk.injEq] at hx
    obtain ⟨hdd, rfl⟩ := hx
    have each : ∀ i, i < m → ∃ q : Int × Int, V0 i = .int .i64 q.1 ∧ V1 i = .int .i64 q.2 := fun i h => by
      obtain ⟨_, _, g0, g1⟩ := hi i h
      obtain ⟨x, hx, _, wx⟩ := DataW.trod_int k0 g0
      obtain ⟨y, hy, _, wy⟩ := DataW.trod_int k1 g1
      simp at hx hy
      exact ⟨(x, y), hx, hy⟩
    obtain ⟨q, hq⟩ := Go.Deep.choose_lt each
    have hcells : ∀ (l : List (Int × Int)) (k : Nat), (∀ i (p : Int × Int), l[i]? = some p → W.cell? (a.add ((k + i) * 2)) = some (.int .i64 p.1) ∧ W.cell? (a.add ((k + i) * 2 + 1)) = some (.int .i64 p.2)) →
        ∃ vs : List Value, RpL (fun _ => True) id W (ringC l) vs ∧ ∀ (j : Nat) v, vs[j]? = some v → W.cell? (a.add (k * 2 + j)) = some v := by
      intro l
      induction l with
      | nil => intro k _; exact ⟨[], ⟨rfl, fun i x v h => by simp [ringC] at h⟩, fun j v h => by simp at h⟩
      | cons p l ih =>
        intro k h
        obtain ⟨vs, g1, g2⟩ := ih (k + 1) (fun i p' hp' => by
          have := h (i + 1) p' (by simpa using hp')
          rw [show k + (i + 1) = k + 1 + i by omega] at this
          exact this)
        obtain ⟨h1, h2⟩ := h 0 p rfl
        refine ⟨.int .i64 p.1 :: .int .i64 p.2 :: vs, ⟨by simp [ringC_cons, g1.1], fun i x v hx hv => ?_⟩, fun j v hv => ?_⟩
        · match i with
          | 0 => simp [ringC_cons] at hx hv; subst hx; subst hv; exact ⟨rfl, rfl⟩
          | 1 => simp [ringC_cons] at hx hv; subst hx; subst hv; exact ⟨rfl, rfl⟩
          | i + 2 => exact g1.2 i x v (by simpa [ringC_cons] using hx) (by simpa using hv)
        · match j with
          | 0 => simp at hv; subst hv; simpa using h1
          | 1 => simp at hv; subst hv; simpa using h2
          | j + 2 =>
            have := g2 j v (by simpa using hv)
            rw [show (k + 1) * 2 + j = k * 2 + (j + 2) by omega] at this
            exact this
    obtain ⟨vs, g1, g2⟩ := hcells ((List.range len0).map q) 0 (fun i p hp => by
      rw [List.getElem?_map] at hp
      cases hr : (List.range len0)[i]? with
      | none => rw [hr] at hp; cases hp
      | some j =>
        rw [hr] at hp
        cases hp
        obtain ⟨h3, h4⟩ := List.getElem?_eq_some_iff.1 hr
        simp at h3 h4
        subst h4
        obtain ⟨e0, e1, _⟩ := hi i (by omega)
        obtain ⟨f0, f1⟩ := hq i (by omega)
        rw [f0] at e0
        rw [f1] at e1
        simpa using ⟨e0, e1⟩)
    have hlen : ∀ l : List (Int × Int), (ringC l).length = l.length * 2 := fun l => by
      induction l with
      | nil => rfl
      | cons p l ih => simp [ringC_cons, ih]; omega
    have hclo : ∀ l : List (Int × Int), ∀ y ∈ ringC l, y.closedB = true := fun l => by
      induction l with
      | nil => intro y hy; cases hy
      | cons p l ih =>
        intro y hy
        simp only [ringC_cons, List.mem_cons] at hy
        rcases hy with rfl | rfl | hy
        · rfl
        · rfl
        · exact ih y hy
    refine ⟨(List.range len0).map q, fun n hw => ?_, ?_, ?_⟩
    · rw [hdd] at hw
      unfold DataW.weights at hw
      rw [ht] at hw
      simp only at hw
      have := hw _ (List.mem_cons_self ..)
      refine Nat.le_trans (Nat.mul_le_mul_right _ ?_) this
      simp
    · rw [hdd]
      have h1 := bulk_slice (H := H) (List.map (fun i => DataW.agg [D0 i, D1 i]) (List.range len0)) (List.map (fun j => DataW.agg [D0 (len0 + j), D1 (len0 + j)]) (List.range (m - len0)))
      have h2 := bulk_len (H := H) (List.map (fun i => DataW.agg [D0 i, D1 i]) (List.range len0))
      simp only [List.length_map, List.length_range] at h2 ⊢
      omega
    refine ⟨⟨some a, m, by simp, by simpa using hl, hlen _, fun hn => ⟨a, vs, rfl, ?_, g1, fun j v hv => by have := g2 j v hv; rwa [Nat.zero_mul, Nat.zero_add] at this, hclo _⟩⟩, fun _ _ => trivial⟩
    have hn' : 0 < len0 := by simpa using hn
    have := cell_lt (hi 0 (by omega)).1
    rwa [block_add] at this
/-- a call that returns true, at values that are told. -/
theorem pcall_true' {P : Program} {f : FuncId} {args : List AV} (h : PCall P f args (vB true)) (vals : List Value) (W : World) (hl : args.length = vals.length) (hr : ∀ (i : Nat) (x : AV) (v : Value), args[i]? = some x → vals[i]? = some v → RpV (fun _ => True) id W x v) :
    Calls P f vals.toArray W fun e W' => e = .returned (.bool true) ∧ Below W.heap.size W W' :=
  (h.call (fun _ => True) W vals ⟨hl, hr⟩).mono fun e W' ⟨v, he, ⟨hv, _⟩, hb⟩ => by subst hv; exact ⟨he, hb⟩
theorem bulk_sum {H : Type} (D : Nat → DataW H) (q : Nat → List Pt) : ∀ (l : List Nat), (∀ i ∈ l, (q i).length + 1 ≤ Rows.uptoBulk (D i)) → l.length + sumL (l.map q) ≤ Rows.uptoBulkAll (l.map D)
  | [], _ => by simp [sumL, Rows.uptoBulkAll]
  | i :: l, h => by
    have h1 := h i (List.mem_cons_self ..)
    have h2 := bulk_sum D q l fun j hj => h j (List.mem_cons_of_mem _ hj)
    have e : sumL ((i :: l).map q) = (q i).length + sumL (l.map q) := by simp [sumL]
    rw [e, List.map_cons, Rows.uptoBulkAll, List.length_cons]
    omega
/-- rows of rings as an argument. -/
theorem open_rings {H : Type} {enc : TypeId × Value → H} {P : Program} {W : World} {tt t e : TypeId} {f0 f1 : Field} (hu : P.underlying tt = some (.slice t)) (cu : P.cellsOf t = 1) (ht : P.underlying t = some (.slice e)) (he : P.underlying e = some (.struct #[f0, f1])) (ce : P.cellsOf e = 2) (o0 : f0.offset = 0) (o1 : f1.offset = 1) (c0 : P.cellsOf f0.type = 1) (c1 : P.cellsOf f1.type = 1) (k0 : P.underlying f0.type = some (.int .i64)) (k1 : P.underlying f1.type = some (.int .i64))
    {v : Value} {d : DataW H} {p : List MemPlace} (hv : ∃ a len cap, v = .slice a len cap) (h0 : DataW.Trod enc P W 0 (fun _ => true) true tt v d p) :
    ∃ L : List (List Pt), (∀ n, (∀ w ∈ DataW.weights P tt d, w ≤ n) → L.length * P.bytesOf t ≤ n ∧ ∀ r ∈ L, r.length * P.bytesOf e ≤ n) ∧ L.length + sumL L + 1 ≤ Rows.uptoBulk d ∧ RpV (fun _ => True) id W (.w (.one (ringsA L))) v := by
  obtain ⟨a0, len0, cap0, rfl⟩ := hv
  obtain ⟨fuel, hf⟩ := h0
  rcases Go.Deep.open_slice1 hu cu hf with ⟨hcs, hx⟩ | ⟨a, len, cap, m, n, V0, D0, P0, hcs, hb, hl, hm, hmm, hx, hi⟩
  · simp [Value.cells] at hcs
    obtain ⟨rfl, rfl, rfl⟩ := hcs
    obtain ⟨rfl, rfl⟩ := Prod.mk.inj hx
    exact ⟨[], (fun n _ => ⟨by simp, fun r hr => by cases hr⟩), (by simp [Rows.uptoBulk, sumL]), ⟨none, 0, rfl, Nat.le_refl _, rfl, fun h => absurd h (Nat.lt_irrefl _)⟩, fun _ _ => trivial⟩
  · simp [Value.cells] at hcs
    obtain ⟨rfl, rfl, rfl⟩ := hcs
    simp only [if_true] at hmm
    subst hmm
    have each : ∀ i, i < m → ∃ q : List Pt, (∀ n, (∀ w ∈ DataW.weights P t (D0 i), w ≤ n) → q.length * P.bytesOf e ≤ n) ∧ q.length + 1 ≤ Rows.uptoBulk (D0 i) ∧ RpV (fun _ => True) id W (.w (.one (ringA q))) (V0 i) := fun i h => by
      obtain ⟨_, g0⟩ := hi i h
      generalize V0 i = x at g0
      have s0 : ∃ a len cap, x = .slice a len cap := by
        rcases Go.Deep.open_slice_pairs ht he ce o0 o1 c0 c1 g0 with ⟨hc, _⟩ | ⟨a, len, cap, _, _, _, _, _, _, _, _, hc, _⟩
        · exact ⟨none, 0, 0, List.head_eq_of_cons_eq hc⟩
        · exact ⟨some a, len, cap, List.head_eq_of_cons_eq hc⟩
      exact open_ring ht he ce o0 o1 c0 c1 k0 k1 s0 ⟨n, by obtain ⟨a, len, cap, rfl⟩ := s0; exact g0⟩
    obtain ⟨q, hq⟩ := Go.Deep.choose_lt each
    have hdd := congrArg Prod.fst hx
    simp only at hdd
    have hat : ∀ (j : Nat) u, ((List.range len0).map V0)[j]? = some u → W.cell? (a.add j) = some u ∧ j < len0 := fun j u hu => by
      rw [List.getElem?_map] at hu
      cases hr : (List.range len0)[j]? with
      | none => rw [hr] at hu; cases hu
      | some i =>
        rw [hr] at hu
        cases hu
        obtain ⟨h3, h4⟩ := List.getElem?_eq_some_iff.1 hr
        simp at h3 h4
        subst h4
        exact ⟨(hi j (by omega)).1, h3⟩
    refine ⟨(List.range len0).map q, fun k hw => ?_, ?_, ?_⟩
    · rw [hdd] at hw
      unfold DataW.weights at hw
      rw [hu] at hw
      simp only at hw
      refine ⟨?_, fun r hr => ?_⟩
      · have := hw _ (List.mem_cons_self ..)
        refine Nat.le_trans (Nat.mul_le_mul_right _ ?_) this
        simp
      · obtain ⟨i, hi', rfl⟩ := List.mem_map.1 hr
        have hil : i < len0 := by simpa using hi'
        exact (hq i (by omega)).1 k fun w hw' => hw w (List.mem_cons_of_mem _ (List.mem_append_left _ (weightsAll_mem (List.mem_map.2 ⟨i, hi', rfl⟩) hw')))
    · rw [hdd]
      have h1 := bulk_slice (H := H) ((List.range len0).map D0) ((List.range (m - len0)).map fun j => D0 (len0 + j))
      have h2 := bulk_sum D0 q (List.range len0) fun i hi' => (hq i (Nat.lt_of_lt_of_le (List.mem_range.1 hi') hl)).2.1
      simp only [List.length_map, List.length_range] at h2 ⊢
      omega
    refine ⟨⟨some a, m, by simp, by simpa using hl, by simp, fun hn => ⟨a, (List.range len0).map V0, rfl, ?_, ⟨by simp, fun i x u hx hu => ?_⟩, fun j u hu => (hat j u hu).1, fun y hy => ?_⟩⟩, fun _ _ => trivial⟩
    · have hn' : 0 < len0 := by simpa using hn
      have := cell_lt (hi 0 (by omega)).1
      rwa [block_add] at this
    · rw [List.getElem?_map] at hu
      rw [List.map_map, List.getElem?_map] at hx
      cases hr : (List.range len0)[i]? with
      | none => rw [hr] at hx; cases hx
      | some j =>
        rw [hr] at hx hu
        cases hx; cases hu
        have hjl : j < len0 := by have := List.mem_of_getElem? hr; simpa using this
        exact (hq j (by omega)).2.2
    · rw [List.map_map] at hy
      obtain ⟨j, _, rfl⟩ := List.mem_map.1 hy
      rfl
end Go.Proofs.Ytlfkllmnekdghaa

