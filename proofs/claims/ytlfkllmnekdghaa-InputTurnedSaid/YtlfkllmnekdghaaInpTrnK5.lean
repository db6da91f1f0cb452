/-
  My own texts, without what this claim does not need. My own text.
-/
import Derived.Deep.SlicePairs
import Derived.ChangeSame
import Derived.Carry
import Derived.Test.YtlfkllmnekdghaaRows
import Derived.Test.YtlfkllmnekdghaaInpTrnK4
namespace Go.Proofs.Ytlfkllmnekdghaa
open Go.RowKit
set_option linter.unusedVariables false
set_option linter.unusedSimpArgs false
set_option maxRecDepth 100000 in
set_option maxHeartbeats 16000000 in
theorem law_TurnedC {a b : List Pt} {x y at_ : Int} (ha : a.length ≤ 4611686018427387904) (hb : b.length ≤ 4611686018427387904) (ht : 0 ≤ at_) (ht2 : at_ < (a.length : Int)) : PCall Try.prog 7 [.w (.one (ringA a)), .w (.one (ringA b)), .w (.agg [.c (.int .i64 x), .c (.int .i64 y), .c (.int .i64 at_)])] (vB true) := by
  have L1 := p_alive11
  have cs : (a.length : Int) > 100 ∨ (¬ (a.length : Int) > 100 ∧ (b.length : Int) > 100) ∨ (¬ (a.length : Int) > 100 ∧ ¬ (b.length : Int) > 100) := by omega
  rcases cs with h1 | ⟨h1, h2⟩ | ⟨h1, h2⟩
  · refine pcall_body (f := 7) Try.func7 rfl rfl rfl rfl ?_
    (repeat (first | ((with_reducible apply al_q); exact rfl) | ((with_reducible apply al_len); (iterate 3 exact rfl)) | (refine al_call0 rfl rfl (by (first | exact L1)) rfl ?_) | ((with_reducible apply al_guard_b (c := true)); exact rfl; exact rfl; (first | assumption | exact decide_eq_true (by omega) | (simp only [Bool.not_eq_true', decide_eq_false_iff_not, decide_eq_true_eq, Bool.not_eq_false']; (first | done | omega)))) | ((with_reducible apply awp_seq)) | ((with_reducible apply athen_normal)) | ((with_reducible apply awp_region)) | ((with_reducible apply al_nil)) | ((with_reducible apply awp_ret)) | ((with_reducible apply athen_ret)) | ((with_reducible apply awp_cond_t); exact rfl)))
    (first | (refine apost_ret rfl (resl_tmp rfl resl_nil) ?_))
    exact AV.Le.refl _
  · refine pcall_body (f := 7) Try.func7 rfl rfl rfl rfl ?_
    (repeat (first | ((with_reducible apply al_q); exact rfl) | ((with_reducible apply al_len); (iterate 3 exact rfl)) | (refine al_call0 rfl rfl (by (first | exact L1)) rfl ?_) | ((with_reducible apply al_guard_b (c := false)); exact rfl; exact rfl; (first | assumption | exact decide_eq_false (by omega) | (simp only [Bool.not_eq_true', decide_eq_false_iff_not, decide_eq_true_eq, Bool.not_eq_false']; (first | done | omega)))) | ((with_reducible apply awp_seq)) | ((with_reducible apply athen_normal)) | ((with_reducible apply awp_region)) | ((with_reducible apply al_nil)) | ((with_reducible apply awp_ret)) | ((with_reducible apply athen_ret)) | ((with_reducible apply awp_cond_1); exact rfl; (first | assumption | exact decide_eq_true (by omega) | (simp only [Bool.not_eq_true', decide_eq_false_iff_not, decide_eq_true_eq, Bool.not_eq_false']; (first | done | omega))))))
    (first | (refine apost_ret rfl (resl_tmp rfl resl_nil) ?_))
    exact AV.Le.refl _
  · refine pcall_body (f := 7) Try.func7 rfl rfl rfl rfl ?_
    refine awp_rows ?_
    (repeat (first | ((with_reducible apply hs_nilS); kernel_rfl) | ((with_reducible apply rwp_draw (id := 3) [0,1,2,3,4,5,6,7,8]); kernel_rfl; kernel_rfl; exact rfl) | ((with_reducible apply rwp_seq)) | ((with_reducible apply rthen_normal)) | ((with_reducible apply rwp_region)) | ((with_reducible apply hs_nil)) | ((with_reducible apply rwp_skip)) | ((with_reducible apply rwp_block)) | ((with_reducible apply rwp_cond_0); exact rfl; (first | assumption | exact decide_eq_false (by omega) | (simp only [Bool.not_eq_true', decide_eq_false_iff_not, decide_eq_true_eq, Bool.not_eq_false']; (first | done | omega)) | exact rfl)) | ((with_reducible apply hs_c); exact rfl; (repeat (first | ((with_reducible apply al_q); exact rfl) | ((with_reducible apply al_len); (iterate 3 exact rfl)) | ((with_reducible apply al_guard_b (c := false)); exact rfl; exact rfl; (first | assumption | exact decide_eq_false (by omega) | (simp only [Bool.not_eq_true', decide_eq_false_iff_not, decide_eq_true_eq, Bool.not_eq_false']; (first | done | omega)))))); (with_reducible apply al_nil))))
    refine rwp_nil 0 37 2 rfl ?_
    refine rwp_loopL 168 (TbI a b x y at_) a.length _ _ _ ⟨0, 0, _, Nat.zero_le _, rfl, rfl, rfl, rfl, rfl⟩ (RLe.refl _) rfl ⟨rfl, rfl, rfl, rfl, rfl, rfl, rfl, rfl, rfl, trivial⟩ trivial rfl ?_
    rintro n R ts ms ⟨i, ii, v, hi, rfl, hii, rfl, rfl, rfl⟩ hok
    clear hok
    by_cases hq : i < a.length
    · have q2 : ii < (a.length : Int) := by omega
      have q3 : 0 ≤ ii := by omega
      obtain ⟨px, py, g1⟩ : ∃ px py, a[a.length - 1 - i]? = some (px, py) := ⟨_, _, List.getElem?_eq_getElem (by omega)⟩
      have F1 := ringC_at (ii := (a.length : Int) - 1 - ii) (by omega) g1
      have hrv : a.reverse[i]? = some (px, py) := by rw [List.getElem?_reverse (by omega)]; exact g1
      have ht := take_one hrv
      have htl : (a.reverse.take i).length = i := by rw [List.length_take, List.length_reverse]; omega
      (repeat (first | ((with_reducible apply rwp_seq)) | ((with_reducible apply rthen_normal)) | ((with_reducible apply rwp_region)) | ((with_reducible apply hs_nil)) | ((with_reducible apply rwp_skip)) | ((with_reducible apply rwp_block)) | ((with_reducible apply rwp_cond_1); exact rfl; (first | assumption | exact decide_eq_true (by omega) | (simp only [Bool.not_eq_true', decide_eq_false_iff_not, decide_eq_true_eq, Bool.not_eq_false']; (first | done | omega)) | exact rfl)) | ((with_reducible apply hs_c); exact rfl; (repeat (first | ((with_reducible apply al_q); exact rfl) | ((with_reducible apply al_loadPN); (iterate 5 exact rfl)) | ((with_reducible apply al_idxS); (iterate 3 exact rfl); (first | decide | omega); (first | decide | omega); (first | assumption | rfl); exact rfl) | ((with_reducible apply al_sub); (iterate 3 exact rfl); (first | exact i64_wrap (by omega) | assumption | rfl); exact rfl) | ((with_reducible apply al_len); (iterate 3 exact rfl)) | ((with_reducible apply al_bslice); (iterate 10 exact rfl)))); (with_reducible apply al_nil))))
      refine hs_app0 0 rfl rfl rfl rfl ?q1 ?q2 rfl rfl (fun v' hv' => ?_)
      case q1 => exact le_maxLen (by show i + 1 ≤ 1000000; omega)
      case q2 => show (i + 1) * 16 ≤ 140737488355328; omega
      (repeat (first | ((with_reducible apply rthen_normal)) | ((with_reducible apply rwp_region)) | ((with_reducible apply hs_nil)) | ((with_reducible apply rblock_normal)) | ((with_reducible apply hs_c); exact rfl; (repeat (first | ((with_reducible apply al_q); exact rfl) | ((with_reducible apply al_add); (iterate 3 exact rfl); (first | exact i64_wrap (by omega) | assumption | rfl); exact rfl))); (with_reducible apply al_nil))))
      exact ⟨a.length - (i + 1), row1 0 ⟨37, 2, v', i + 1, ringC (a.reverse.take (i + 1))⟩, _, [], by omega, ⟨i + 1, ii + 1, v', hq, rfl, by omega, rfl, rfl, rfl⟩, fun k q hk => by obtain ⟨rfl, rfl⟩ := row1_iff hk; rw [ht, ringC_one]; rfl, rfl, ⟨rfl, rfl, rfl, rfl, rfl, rfl, rfl, rfl, rfl, trivial⟩, trivial, rfl⟩
    · have e : i = a.length := by omega
      subst e
      have hfull : a.reverse.take a.length = a.reverse := List.take_of_length_le (by simp)
      rw [hfull]
      have q2 : ¬ ii < (a.length : Int) := by omega
      have W1 := p_Wind11L (L := [a]) (x := x) (y := y) (by simp) (fun r h => by simp at h; subst h; omega) (by rw [edgsM_1, edgM_len]; omega)
      have W2 := p_Wind11L (L := [a.reverse]) (x := x) (y := y) (by simp) (fun r h => by simp at h; subst h; simp; omega) (by rw [edgsM_1, edgM_len]; simp; omega)
      have W4 := p_Wind11L (L := [b]) (x := x) (y := y) (by simp) (fun r h => by simp at h; subst h; omega) (by rw [edgsM_1, edgM_len]; omega)
      have W5 := p_Wind11L (L := [a, b]) (x := x) (y := y) (by simp) (fun r h => by simp at h; rcases h with rfl | rfl <;> omega) (by rw [edgsM_2, List.length_append, edgM_len, edgM_len]; omega)
      have G1 := p_right11 (L := [a, b]) (x := x) (y := y) (by simp) (fun r h => by simp at h; rcases h with rfl | rfl <;> omega)
      rw [wndL_back] at W2
      have hrev : ringsA [a.reverse] = .p (SlP 1 1 [.p (SlP 2 a.length (ringC a.reverse))]) := by unfold ringsA ringA; rw [List.map_cons, List.map_nil, List.length_reverse]; rfl
      rw [hrev] at W2
      have hbo := wndL_both a b x y
      have bd1 := wndL_bd (edgsM [a]) x y
      have bd2 := wndL_bd (edgsM [b]) x y
      rw [edgsM_1, edgM_len, ← edgsM_1] at bd1 bd2
      have W3 := fun k => p_Wind11L (L := [a.drop k ++ a.take k]) (x := x) (y := y) (by simp) (fun r h => by simp at h; subst h; simp; omega) (by rw [edgsM_1, edgM_len]; simp; omega)
      simp only [wndL_begun] at W3
      generalize rgB11 [a, b] x y = rg at *
      generalize wndL x y (edgsM [a]) = wa at *
      generalize wndL x y (edgsM [b]) = wb at *
      generalize wndL x y (edgsM [a, b]) = wc at *
      obtain ⟨n, on⟩ := wa
      obtain ⟨p, o⟩ := wb
      obtain ⟨q, bo⟩ := wc
      have hs1 : (!decide ((-n) = (-n))) = false := by simp
      have hs2 : (!decide (n = n)) = false := by simp
      have hs3 : (!(true == true)) = false := rfl
      have hs4 : (!(false == false)) = false := rfl
      refine rwp_cool 0 10 _ rfl rfl ?_
      have ht' : at_ ≥ 0 := by omega
      obtain ⟨k, hk⟩ : ∃ k : Nat, at_ = k := ⟨at_.toNat, by omega⟩
      have k1 : at_ ≤ (a.length : Int) := by omega
      have hm1 : a.length - at_.toNat = a.length - k := by omega
      have he1 : ((ringC a).drop (at_.toNat * 2)).take ((a.length - k) * 2) = ringC (a.drop k) := by
        rw [show at_.toNat = k by omega, ringC_drop, List.take_of_length_le]
        rw [ringC_len, List.length_drop]; omega
      have hm2 : at_.toNat - 0 = k := by omega
      have he2 : ((ringC a).drop (0 * 2)).take (k * 2) = ringC (a.take k) := by rw [Nat.zero_mul, List.drop_zero, ringC_take]
      have W3 := W3 k
      have hbg : ringsA [a.drop k ++ a.take k] = .p (SlP 1 1 [.p (SlP 2 (0 + (a.length - k) + k) ([] ++ ringC (a.drop k) ++ ringC (a.take k)))]) := by
        have e1 : (a.drop k ++ a.take k).length = 0 + (a.length - k) + k := by rw [List.length_append, List.length_drop, List.length_take]; omega
        have e2 : ringC (a.drop k ++ a.take k) = [] ++ ringC (a.drop k) ++ ringC (a.take k) := by simp [ringC]
        unfold ringsA ringA
        rw [List.map_cons, List.map_nil, e1, e2]; rfl
      rw [hbg] at W3
      clear hfull hrev hbg
      refine rwp_nil 1 37 2 rfl ?_
      (repeat (first | ((with_reducible apply rwp_draw (id := 11) [0,1,2,3,5,6,7,4,8,9]); kernel_rfl; kernel_rfl; exact rfl) | ((with_reducible apply rwp_seq)) | ((with_reducible apply rthen_normal)) | ((with_reducible apply rwp_region)) | ((with_reducible apply hs_nil)) | ((with_reducible apply rblock_same)) | ((with_reducible apply rwp_exit)) | ((with_reducible apply rthen_exit)) | ((with_reducible apply rwp_cond_1); exact rfl; (first | assumption | exact decide_eq_true (by omega) | (simp only [Bool.not_eq_true', decide_eq_false_iff_not, decide_eq_true_eq, Bool.not_eq_false']; (first | done | omega)) | exact rfl)) | ((with_reducible apply rwp_cond_0); exact rfl; (first | assumption | exact decide_eq_false (by omega) | (simp only [Bool.not_eq_true', decide_eq_false_iff_not, decide_eq_true_eq, Bool.not_eq_false']; (first | done | omega)) | exact rfl)) | ((with_reducible apply hs_c); exact rfl; (repeat (first | ((with_reducible apply al_q); exact rfl) | ((with_reducible apply al_len); (iterate 3 exact rfl)) | ((with_reducible apply al_sl_l); (iterate 3 exact rfl); (first | assumption | omega); (first | assumption | omega); (first | assumption | rfl); (first | assumption | rfl); exact rfl) | ((with_reducible apply al_sl_h); (iterate 3 exact rfl); (first | assumption | omega); (first | assumption | omega); (first | assumption | rfl); (first | assumption | rfl); exact rfl) | ((with_reducible apply al_guard_b (c := true)); exact rfl; exact rfl; (first | assumption | exact decide_eq_true (by omega) | (simp only [Bool.not_eq_true', decide_eq_false_iff_not, decide_eq_true_eq, Bool.not_eq_false']; (first | done | omega)))))); (with_reducible apply al_nil))))
      refine hs_app0 1 rfl rfl rfl rfl ?q1 ?q2 (ringC_cl _) rfl (fun v1 hv1 => ?_)
      case q1 => exact le_maxLen (by show 0 + (a.length - k) ≤ 1000000; omega)
      case q2 => show (0 + (a.length - k)) * 16 ≤ 140737488355328; omega
      skip
      refine hs_app0 1 rfl rfl rfl rfl ?q3 ?q4 (ringC_cl _) rfl (fun v2 hv2 => ?_)
      case q3 => exact le_maxLen (by show 0 + (a.length - k) + k ≤ 1000000; omega)
      case q4 => show (0 + (a.length - k) + k) * 16 ≤ 140737488355328; omega
      (repeat (first | ((with_reducible apply hs_nilS); kernel_rfl) | ((with_reducible apply rthen_normal)) | ((with_reducible apply hs_c); exact rfl; (repeat (first | ((with_reducible apply al_q); exact rfl))); (with_reducible apply al_nil))))
      refine rwp_cool 1 11 _ rfl rfl ?_
      clear he1 he2 hm1 hm2
      rcases hbo with ⟨rfl, hc⟩ | ⟨rfl, hc, hd⟩
      · cases hc
        cases on <;> cases o
        all_goals
          (repeat (first | ((with_reducible apply rwp_seq)) | ((with_reducible apply rthen_normal)) | ((with_reducible apply rwp_region)) | ((with_reducible apply hs_nil)) | ((with_reducible apply rwp_ret)) | ((with_reducible apply rwp_skip)) | ((with_reducible apply rthen_ret)) | ((with_reducible apply rwp_cond_1); exact rfl; (first | assumption | exact decide_eq_true (by omega) | (simp only [Bool.not_eq_true', decide_eq_false_iff_not, decide_eq_true_eq, Bool.not_eq_false']; (first | done | omega)) | exact rfl)) | ((with_reducible apply rwp_cond_0); exact rfl; (first | assumption | exact decide_eq_false (by omega) | (simp only [Bool.not_eq_true', decide_eq_false_iff_not, decide_eq_true_eq, Bool.not_eq_false']; (first | done | omega)) | exact rfl)) | ((with_reducible apply hs_c); exact rfl; (repeat (first | ((with_reducible apply al_q); exact rfl) | ((with_reducible apply al_neg); exact rfl; exact rfl; (first | exact i64_wrap (by omega) | assumption | rfl); exact rfl) | ((with_reducible apply al_bslice); (iterate 10 exact rfl)) | ((with_reducible apply al_neT); (iterate 4 exact rfl); kernel_rfl) | (refine al_call0 rfl rfl (by (first | exact L1 | exact W1 | exact W2 | exact W3 | exact W4 | exact W5 | exact G1)) rfl ?_) | (refine al_call3 rfl rfl rfl rfl rfl (by (first | exact L1 | exact W1 | exact W2 | exact W3 | exact W4 | exact W5 | exact G1)) rfl ?_) | ((with_reducible apply al_guard_b (c := false)); exact rfl; exact rfl; (first | assumption | exact decide_eq_false (by omega) | (simp only [Bool.not_eq_true', decide_eq_false_iff_not, decide_eq_true_eq, Bool.not_eq_false']; (first | done | omega)))))); (with_reducible apply al_nil))))
          (first | (refine apost_ret rfl (resl_tmp rfl resl_nil) ?_))
          exact AV.Le.refl _
      · simp only at hc hd
        cases on <;> cases o <;> subst hc
        · rcases hd with hd | rfl
          · cases hd
          · clear hs3
            (repeat (first | ((with_reducible apply rwp_seq)) | ((with_reducible apply rthen_normal)) | ((with_reducible apply rwp_region)) | ((with_reducible apply hs_nil)) | ((with_reducible apply rwp_ret)) | ((with_reducible apply rwp_skip)) | ((with_reducible apply rwp_cond_0); exact rfl; (first | assumption | exact decide_eq_false (by omega) | (simp only [Bool.not_eq_true', decide_eq_false_iff_not, decide_eq_true_eq, Bool.not_eq_false']; (first | done | omega)) | exact rfl)) | ((with_reducible apply hs_c); exact rfl; (repeat (first | ((with_reducible apply al_q); exact rfl) | ((with_reducible apply al_add); (iterate 3 exact rfl); (first | exact i64_wrap (by omega) | assumption | rfl); exact rfl) | ((with_reducible apply al_neg); exact rfl; exact rfl; (first | exact i64_wrap (by omega) | assumption | rfl); exact rfl) | ((with_reducible apply al_bslice); (iterate 10 exact rfl)) | ((with_reducible apply al_eqT); (iterate 4 exact rfl); kernel_rfl) | ((with_reducible apply al_neT); (iterate 4 exact rfl); kernel_rfl) | (refine al_call0 rfl rfl (by (first | exact L1 | exact W1 | exact W2 | exact W3 | exact W4 | exact W5 | exact G1)) rfl ?_) | (refine al_call3 rfl rfl rfl rfl rfl (by (first | exact L1 | exact W1 | exact W2 | exact W3 | exact W4 | exact W5 | exact G1)) rfl ?_) | ((with_reducible apply al_guard_b (c := false)); exact rfl; exact rfl; (first | assumption | exact decide_eq_false (by omega) | (simp only [Bool.not_eq_true', decide_eq_false_iff_not, decide_eq_true_eq, Bool.not_eq_false']; (first | done | omega)))))); (with_reducible apply al_nil))))
            (first | (refine apost_ret rfl (resl_tmp rfl resl_nil) ?_))
            first | exact AV.Le.refl _ | exact AV.Le.of_eq (by rw [decide_eq_true rfl]; rfl)
        all_goals
          clear hd
          (repeat (first | ((with_reducible apply rwp_seq)) | ((with_reducible apply rthen_normal)) | ((with_reducible apply rwp_region)) | ((with_reducible apply hs_nil)) | ((with_reducible apply rwp_ret)) | ((with_reducible apply rwp_skip)) | ((with_reducible apply rwp_cond_0); exact rfl; (first | assumption | exact decide_eq_false (by omega) | (simp only [Bool.not_eq_true', decide_eq_false_iff_not, decide_eq_true_eq, Bool.not_eq_false']; (first | done | omega)) | exact rfl)) | ((with_reducible apply hs_c); exact rfl; (repeat (first | ((with_reducible apply al_q); exact rfl) | ((with_reducible apply al_neg); exact rfl; exact rfl; (first | exact i64_wrap (by omega) | assumption | rfl); exact rfl) | ((with_reducible apply al_bslice); (iterate 10 exact rfl)) | ((with_reducible apply al_eqT); (iterate 4 exact rfl); kernel_rfl) | ((with_reducible apply al_neT); (iterate 4 exact rfl); kernel_rfl) | (refine al_call0 rfl rfl (by (first | exact L1 | exact W1 | exact W2 | exact W3 | exact W4 | exact W5 | exact G1)) rfl ?_) | (refine al_call3 rfl rfl rfl rfl rfl (by (first | exact L1 | exact W1 | exact W2 | exact W3 | exact W4 | exact W5 | exact G1)) rfl ?_) | ((with_reducible apply al_guard_b (c := false)); exact rfl; exact rfl; (first | assumption | exact decide_eq_false (by omega) | (simp only [Bool.not_eq_true', decide_eq_false_iff_not, decide_eq_true_eq, Bool.not_eq_false']; (first | done | omega)))))); (with_reducible apply al_nil))))
          (first | (refine apost_ret rfl (resl_tmp rfl resl_nil) ?_))
          exact AV.Le.refl _
end Go.Proofs.Ytlfkllmnekdghaa

namespace Go.Proofs.Ytlfkllmnekdghaa
open Go.RowKit
theorem law_Turned {a b : List Pt} {x y at_ : Int} (ha : a.length ≤ 4611686018427387904) (hb : b.length ≤ 4611686018427387904) : PCall Try.prog 7 [.w (.one (ringA a)), .w (.one (ringA b)), .w (.agg [.c (.int .i64 x), .c (.int .i64 y), .c (.int .i64 at_)])] (vB true) := by
  by_cases h1 : at_ < 0
  · exact law_TurnedA ha hb h1
  · by_cases h2 : at_ < (a.length : Int)
    · exact law_TurnedC ha hb (by omega) h2
    · exact law_TurnedB ha hb (by omega) h2
end Go.Proofs.Ytlfkllmnekdghaa

namespace Go.Proofs.Ytlfkllmnekdghaa
open Go.RowKit
set_option linter.unusedVariables false
set_option linter.unusedSimpArgs false
def mvE (d : Pt) (e : Pt × Pt) : Pt × Pt := (mvP d e.1, mvP d e.2)
def mvA (d : Pt) (r : List Pt) : AC := .p (SlP 2 r.length (ringC (r.map (mvP d))))
def MoI (L : List (List Pt)) (x y : Int) (d : Pt) (n : Nat) (R : Rws) (ts : List (Nat × AV)) (ms : List (Nat × List AC)) : Prop :=
  ∃ (i : Nat) (ii : Int) (v : Value), i ≤ L.length ∧ n = L.length - i ∧ ii = i ∧ R = row1 0 ⟨45, 1, v, i, (L.take i).map (mvA d)⟩ ∧ ms = [(4, [.c (.int .i64 x), .c (.int .i64 y)]), (5, [.c (.int .i64 d.1), .c (.int .i64 d.2)])] ∧
    ts = [(0, .w (.one (ringsA L))), (4, .w (.one (.own 4 0))), (5, .w (.one (.own 5 0))), (7, vC v), (52, .w (.one (ringsA L))), (53, vI L.length), (54, vI ii)]
def MnI (L : List (List Pt)) (x y : Int) (d : Pt) (r : List Pt) (v : Value) (k : Nat) (oo : Int) (n : Nat) (R : Rws) (ts : List (Nat × AV)) (ms : List (Nat × List AC)) : Prop :=
  ∃ (i : Nat) (ii : Int) (v' : Value), i ≤ r.length ∧ n = r.length - i ∧ ii = i ∧ R = upd (row1 0 ⟨45, 1, v, k, (L.take k).map (mvA d)⟩) 1 ⟨37, 2, v', i, ringC ((r.map (mvP d)).take i)⟩ ∧ ms = [(4, [.c (.int .i64 x), .c (.int .i64 y)]), (5, [.c (.int .i64 d.1), .c (.int .i64 d.2)])] ∧
    ts = [(0, .w (.one (ringsA L))), (4, .w (.one (.own 4 0))), (5, .w (.one (.own 5 0))), (7, vC v), (10, vC v'), (52, .w (.one (ringsA L))), (53, vI L.length), (54, vI oo), (58, .w (.one (ringA r))), (59, vI r.length), (60, vI ii)]
end Go.Proofs.Ytlfkllmnekdghaa

namespace Go.Proofs.Ytlfkllmnekdghaa
open Go.RowKit
set_option linter.unusedVariables false
theorem turned_walk (a b : List Pt) (x y t : Int) (ha : a.length * 16 ≤ 140737488351232) (hb : b.length * 16 ≤ 140737488351232) (_ : -9223372036854775808 ≤ x ∧ x ≤ 9223372036854775807) (_ : -9223372036854775808 ≤ y ∧ y ≤ 9223372036854775807) (_ : -9223372036854775808 ≤ t ∧ t ≤ 9223372036854775807) : PCall Try.prog 7 [.w (.one (ringA a)), .w (.one (ringA b)), .w (.agg [.c (.int .i64 x), .c (.int .i64 y), .c (.int .i64 t)])] (vB true) :=
  law_Turned (by omega) (by omega)
end Go.Proofs.Ytlfkllmnekdghaa

namespace Go.Proofs.Ytlfkllmnekdghaa
open Go.ChangeShapes Go.WideShapes Go.ChangeAt Go.RowKit Go.Joins
set_option linter.unusedVariables false
set_option linter.unusedSimpArgs false
theorem laidOut : laidOutB Try.prog = true := by kernel_rfl
theorem cell_lt {W : World} {b : Addr} {v : Value} (h : W.cell? b = some v) : b.block < W.heap.size := by
  unfold World.cell? at h
  split at h
  · rename_i hh; exact (Array.getElem?_eq_some_iff.1 hh).1
  · cases h
theorem ringC_cons (p : Pt) (l : List Pt) : ringC (p :: l) = .c (.int .i64 p.1) :: .c (.int .i64 p.2) :: ringC l := rfl
theorem bulk_one {H : Type} (d : DataW H) : 1 ≤ Rows.uptoBulk d := by
  cases d with
  | lit l => cases l <;> simp [Rows.uptoBulk]
  | nil => simp [Rows.uptoBulk]
  | ptr d => simp [Rows.uptoBulk]
  | slice elems spare => simp [Rows.uptoBulk]
  | agg parts => simp [Rows.uptoBulk]
  | iface t d => simp [Rows.uptoBulk]
  | map entries => simp [Rows.uptoBulk]
  | held h => simp [Rows.uptoBulk]
theorem bulk_len {H : Type} (l : List (DataW H)) : l.length ≤ Rows.uptoBulkAll l := by
  induction l with
  | nil => simp [Rows.uptoBulkAll]
  | cons x r ih => have := bulk_one x; simp only [Rows.uptoBulkAll, List.length_cons]; omega
theorem bulk_slice {H : Type} (elems spare : List (DataW H)) : Rows.uptoBulkAll elems + 1 ≤ Rows.uptoBulk (.slice elems spare) := by
  simp only [Rows.uptoBulk]
  omega
/-- a row of things of two numbers as an argument: what it reads as. -/
theorem open_ring {H : Type} {enc : TypeId × Value → H} {P : Program} {W : World} {t e : TypeId} {f0 f1 : Field} (ht : P.underlying t = some (.slice e)) (he : P.underlying e = some (.struct #[f0, f1])) (ce : P.cellsOf e = 2) (o0 : f0.offset = 0) (o1 : f1.offset = 1) (c0 : P.cellsOf f0.type = 1) (c1 : P.cellsOf f1.type = 1) (k0 : P.underlying f0.type = some (.int .i64)) (k1 : P.underlying f1.type = some (.int .i64))
    {v : Value} {d : DataW H} {p : List MemPlace} (hv : ∃ a len cap, v = .slice a len cap) (h0 : DataW.Trod enc P W 0 (fun _ => true) true t v d p) :
    ∃ l : List (Int × Int), (∀ n, (∀ w ∈ DataW.weights P t d, w ≤ n) → l.length * P.bytesOf e ≤ n) ∧ l.length + 1 ≤ Rows.uptoBulk d ∧ RpV (fun _ => True) id W ((.w (.one (ringA l)))) v := by
  obtain ⟨a0, len0, cap0, rfl⟩ := hv
  obtain ⟨fuel, hf⟩ := h0
  rcases Go.Deep.open_slice_pairs ht he ce o0 o1 c0 c1 hf with ⟨hcs, hx⟩ | ⟨a, len, cap, m, n, V0, V1, D0, D1, P0, P1, hcs, hb, hl, hm, hmm, hx, hi⟩
  · simp [Value.cells] at hcs
    obtain ⟨rfl, rfl, rfl⟩ := hcs
    obtain ⟨rfl, rfl⟩ := Prod.mk.inj hx
    exact ⟨[], (fun n _ => by simp), (by simp [Rows.uptoBulk]), ⟨none, 0, rfl, Nat.le_refl _, rfl, fun h => absurd h (Nat.lt_irrefl _)⟩, fun _ _ => trivial⟩
  · simp [Value.cells] at hcs
    obtain ⟨rfl, rfl, rfl⟩ := hcs
    simp only [if_true] at hmm
    subst hmm
    simp only [Prod.mk.injEq] at hx
    obtain ⟨hdd, rfl⟩ := hx
    have each : ∀ i, i < m → ∃ q : Int × Int, V0 i = .int .i64 q.1 ∧ V1 i = .int .i64 q.2 := fun i h => by
      obtain ⟨_, _, g0, g1⟩ := hi i h
      obtain ⟨x, hx, _, wx⟩ := DataW.trod_int k0 g0
      obtain ⟨y, hy, _, wy⟩ := DataW.trod_int k1 g1
      simp at hx hy
      exact ⟨(x, y), hx, hy⟩
    obtain ⟨q, hq⟩ := Go.Deep.choose_lt each
    have hcells : ∀ (l : List (Int × Int)) (k : Nat), (∀ i (p : Int × Int), l[i]? = some p → W.cell? (a.add ((k + i) * 2)) = some (.int .i64 p.1) ∧ W.cell? (a.add ((k + i) * 2 + 1)) = some (.int .i64 p.2)) →
        ∃ vs : List Value, RpL (fun _ => True) id W (ringC l) vs ∧ ∀ (j : Nat) v, vs[j]? = some v → W.cell? (a.add (k * 2 + j)) = some v := by
      intro l
      induction l with
      | nil => intro k _; exact ⟨[], ⟨rfl, fun i x v h => by simp [ringC] at h⟩, fun j v h => by simp at h⟩
      | cons p l ih =>
        intro k h
        obtain ⟨vs, g1, g2⟩ := ih (k + 1) (fun i p' hp' => by
          have := h (i + 1) p' (by simpa using hp')
          rw [show k + (i + 1) = k + 1 + i by omega] at this
          exact this)
        obtain ⟨h1, h2⟩ := h 0 p rfl
        refine ⟨.int .i64 p.1 :: .int .i64 p.2 :: vs, ⟨by simp [ringC_cons, g1.1], fun i x v hx hv => ?_⟩, fun j v hv => ?_⟩
        · match i with
          | 0 => simp [ringC_cons] at hx hv; subst hx; subst hv; exact ⟨rfl, rfl⟩
          | 1 => simp [ringC_cons] at hx hv; subst hx; subst hv; exact ⟨rfl, rfl⟩
          | i + 2 => exact g1.2 i x v (by simpa [ringC_cons] using hx) (by simpa using hv)
        · match j with
          | 0 => simp at hv; subst hv; simpa using h1
          | 1 => simp at hv; subst hv; simpa using h2
          | j + 2 =>
            have := g2 j v (by simpa using hv)
            rw [show (k + 1) * 2 + j = k * 2 + (j + 2) by omega] at this
            exact this
    obtain ⟨vs, g1, g2⟩ := hcells ((List.range len0).map q) 0 (fun i p hp => by
      rw [List.getElem?_map] at hp
      cases hr : (List.range len0)[i]? with
      | none => rw [hr] at hp; cases hp
      | some j =>
        rw [hr] at hp
        cases hp
        obtain ⟨h3, h4⟩ := List.getElem?_eq_some_iff.1 hr
        simp at h3 h4
        subst h4
        obtain ⟨e0, e1, _⟩ := hi i (by omega)
        obtain ⟨f0, f1⟩ := hq i (by omega)
        rw [f0] at e0
        rw [f1] at e1
        simpa using ⟨e0, e1⟩)
    have hlen : ∀ l : List (Int × Int), (ringC l).length = l.length * 2 := fun l => by
      induction l with
      | nil => rfl
      | cons p l ih => simp [ringC_cons, ih]; omega
    have hclo : ∀ l : List (Int × Int), ∀ y ∈ ringC l, y.closedB = true := fun l => by
      induction l with
      | nil => intro y hy; cases hy
      | cons p l ih =>
        intro y hy
        simp only [ringC_cons, List.mem_cons] at hy
        rcases hy with rfl | rfl | hy
        · rfl
        · rfl
        · exact ih y hy
    refine ⟨(List.range len0).map q, fun n hw => ?_, ?_, ?_⟩
    · rw [hdd] at hw
      unfold DataW.weights at hw
      rw [ht] at hw
      simp only at hw
      have := hw _ (List.mem_cons_self ..)
      refine Nat.le_trans (Nat.mul_le_mul_right _ ?_) this
      simp
    · rw [hdd]
      have h1 := bulk_slice (H := H) (List.map (fun i => DataW.agg [D0 i, D1 i]) (List.range len0)) (List.map (fun j => DataW.agg [D0 (len0 + j), D1 (len0 + j)]) (List.range (m - len0)))
      have h2 := bulk_len (H := H) (List.map (fun i => DataW.agg [D0 i, D1 i]) (List.range len0))
      simp only [List.length_map, List.length_range] at h2 ⊢
      omega
    refine ⟨⟨some a, m, by simp, by simpa using hl, hlen _, fun hn => ⟨a, vs, rfl, ?_, g1, fun j v hv => by have := g2 j v hv; rwa [Nat.zero_mul, Nat.zero_add] at this, hclo _⟩⟩, fun _ _ => trivial⟩
    have hn' : 0 < len0 := by simpa using hn
    have := cell_lt (hi 0 (by omega)).1
    rwa [block_add] at this
/-- a call that returns true, at values that are told. -/
theorem pcall_true' {P : Program} {f : FuncId} {args : List AV} (h : PCall P f args (vB true)) (vals : List Value) (W : World) (hl : args.length = vals.length) (hr : ∀ (i : Nat) (x : AV) (v : Value), args[i]? = some x → vals[i]? = some v → RpV (fun _ => True) id W x v) :
    Calls P f vals.toArray W fun e W' => e = .returned (.bool true) ∧ Below W.heap.size W W' :=
  (h.call (fun _ => True) W vals ⟨hl, hr⟩).mono fun e W' ⟨v, he, ⟨hv, _⟩, hb⟩ => by subst hv; exact ⟨he, hb⟩
end Go.Proofs.Ytlfkllmnekdghaa

