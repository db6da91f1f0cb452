/-
  My own texts, without what this claim does not need. My own text.
-/
import Derived.Deep.SlicePairs
import Derived.ChangeSame
import Derived.Carry
import Derived.Test.YtlfkllmnekdghaaRows
import Derived.Test.YtlfkllmnekdghaaInpWndK4
namespace Go.Proofs.Ytlfkllmnekdghaa
open Go.RowKit
set_option linter.unusedVariables false
set_option linter.unusedSimpArgs false
def MyI (L : List (List Pt)) (b : Nat) (n : Nat) (ts : List (Nat × AV)) (ms : List (Nat × List AC)) : Prop :=
  ∃ (i : Nat) (ii c : Int), i ≤ L.length ∧ n = L.length - i ∧ ii = i ∧ c = ((b + sumL (L.take i) : Nat) : Int) ∧ ms = [] ∧ ts = [(3, vI c), (24, .w (.one (ringsA L))), (25, vI L.length), (26, vI ii)]
set_option maxRecDepth 100000 in
set_option maxHeartbeats 8000000 in
theorem p_Many {A B : List (List Pt)} {op fill rung cap : Int} (hb : A.length + B.length + sumL A + sumL B ≤ 1048576) :
    PCall Try.prog 13 [.w (.agg (jobC A B op fill rung cap))] (vI ((A.length + B.length + (sumL A + sumL B) : Nat) : Int)) := by
  have z1 : (A.length : Int).toNat - 0 = A.length := by omega
  have z2 : ((A.map ringA).drop (0 * 1)).take (A.length * 1) = A.map ringA := by rw [Nat.zero_mul, List.drop_zero, Nat.mul_one, List.take_of_length_le (by simp)]
  have z3 : A.length + B.length = (A ++ B).length := by simp
  have z4 : A.map ringA ++ B.map ringA = (A ++ B).map ringA := by simp
  have z5 : (A.length + B.length) * 24 ≤ 140737488355328 := by omega
  have z7 : sumL (A ++ B) = sumL A + sumL B := by simp [sumL]
  have z8 : (A.length : Int) + B.length = (((A ++ B).length + sumL ((A ++ B).take 0) : Nat) : Int) := by simp [sumL]
  have z9 : A.length + B.length ≤ 900000 ∨ 900000 < A.length + B.length := by omega
  have zm : A.length + B.length ≤ maxLen := Nat.le_trans (m := 1048576) (by omega) (by decide)
  refine pcall_body (f := 13) Try.func13 rfl rfl rfl rfl ?_
  (repeat (first | ((with_reducible apply al_q); exact rfl) | ((with_reducible apply al_add); (iterate 3 exact rfl); (first | exact i64_wrap (by omega) | assumption | rfl); exact rfl) | ((with_reducible apply al_len); (iterate 3 exact rfl)) | ((with_reducible apply al_sl_hmF); (iterate 4 exact rfl); (first | assumption | omega); (first | assumption | omega); (first | assumption | rfl); (first | assumption | rfl); exact rfl) | ((with_reducible apply al_appF); (iterate 3 exact rfl); (first | exact le_maxLen (by omega) | assumption); (first | assumption | omega); (first | assumption | rfl); (first | assumption | rfl); exact rfl) | ((with_reducible apply al_nilS); kernel_rfl) | ((with_reducible apply awp_region_draw); kernel_rfl; kernel_rfl; exact rfl) | ((with_reducible apply awp_seq)) | ((with_reducible apply athen_normal)) | ((with_reducible apply awp_region)) | ((with_reducible apply al_nil)) | ((with_reducible apply awp_block))))
  refine awp_loopL 36 (MyI (A ++ B) (A ++ B).length) (A ++ B).length _ [] ⟨0, 0, _, Nat.zero_le _, rfl, rfl, z8, rfl, rfl⟩ rfl ⟨rfl, rfl, rfl, rfl, trivial⟩ trivial rfl ?_
  rintro n ts ms ⟨i, ii, c, hi, rfl, hii, hc, rfl, rfl⟩ hok
  clear hok z1 z2 z4 z5 z8 z9 zm
  generalize hM : A ++ B = M at *
  by_cases hq : i < M.length
  · have q2 : ii < (M.length : Int) := by omega
    have q3 : 0 ≤ ii := by omega
    obtain ⟨r, hri⟩ : ∃ r, M[i]? = some r := ⟨_, List.getElem?_eq_getElem hq⟩
    have E1 := ringsC_at hii hri
    have hs := sumL_take hri
    have hl := sumL_le (L := M) (k := i + 1)
    (repeat (first | ((with_reducible apply al_q); exact rfl) | ((with_reducible apply al_loadP1); (iterate 5 exact rfl)) | ((with_reducible apply al_idxS); (iterate 3 exact rfl); (first | decide | omega); (first | decide | omega); (first | assumption | rfl); exact rfl) | ((with_reducible apply al_add); (iterate 3 exact rfl); (first | exact i64_wrap (by omega) | assumption | rfl); exact rfl) | ((with_reducible apply al_len); (iterate 3 exact rfl)) | ((with_reducible apply awp_seq)) | ((with_reducible apply athen_normal)) | ((with_reducible apply awp_region)) | ((with_reducible apply al_nil)) | ((with_reducible apply awp_skip)) | ((with_reducible apply awp_block)) | ((with_reducible apply ablock_normal)) | ((with_reducible apply awp_cond_1); exact rfl; (first | assumption | exact decide_eq_true (by omega) | (simp only [Bool.not_eq_true', decide_eq_false_iff_not, decide_eq_true_eq, Bool.not_eq_false']; (first | done | omega))))))
    exact ⟨M.length - (i + 1), _, [], by omega, ⟨i + 1, ii + 1, c + r.length, hq, rfl, by omega, by omega, rfl, rfl⟩, rfl, ⟨rfl, rfl, rfl, rfl, trivial⟩, trivial, rfl⟩
  · have e : i = M.length := by omega
    subst e
    rw [List.take_length] at hc
    have hc' : ((A.length + B.length + (sumL A + sumL B) : Nat) : Int) = c := by omega
    rw [hc']
    (repeat (first | ((with_reducible apply al_q); exact rfl) | ((with_reducible apply awp_seq)) | ((with_reducible apply athen_normal)) | ((with_reducible apply awp_region)) | ((with_reducible apply al_nil)) | ((with_reducible apply awp_ret)) | ((with_reducible apply ablock_same)) | ((with_reducible apply awp_exit)) | ((with_reducible apply athen_exit)) | ((with_reducible apply awp_cond_0); exact rfl; (first | assumption | exact decide_eq_false (by omega) | (simp only [Bool.not_eq_true', decide_eq_false_iff_not, decide_eq_true_eq, Bool.not_eq_false']; (first | done | omega))))))
    (first | (refine apost_ret rfl (resl_tmp rfl resl_nil) ?_))
    exact AV.Le.refl _
def rgB11 (L : List (List Pt)) (x y : Int) : Bool := (L.all fun r => r.all ptB) && rB x y
def RiO (L : List (List Pt)) (x y : Int) (n : Nat) (ts : List (Nat × AV)) (ms : List (Nat × List AC)) : Prop :=
  ∃ (i : Nat) (ii : Int), i ≤ L.length ∧ n = L.length - i ∧ ii = i ∧ (L.all fun r => r.all ptB) = ((L.drop i).all fun r => r.all ptB) ∧ ms = [] ∧ ts = [(1, vI x), (2, vI y), (11, .w (.one (ringsA L))), (12, vI L.length), (13, vI ii)]
def RiN (L : List (List Pt)) (r : List Pt) (x y oo : Int) (n : Nat) (ts : List (Nat × AV)) (ms : List (Nat × List AC)) : Prop :=
  ∃ (i : Nat) (ii : Int), i ≤ r.length ∧ n = r.length - i ∧ ii = i ∧ r.all ptB = (r.drop i).all ptB ∧ ms = [] ∧ ts = [(1, vI x), (2, vI y), (11, .w (.one (ringsA L))), (12, vI L.length), (13, vI oo), (17, .w (.one (ringA r))), (18, vI r.length), (19, vI ii)]
set_option maxRecDepth 100000 in
set_option maxHeartbeats 8000000 in
theorem p_right11 {L : List (List Pt)} {x y : Int} (hL : L.length ≤ 4611686018427387904) (hr : ∀ r ∈ L, r.length ≤ 4611686018427387904) : PCall Try.prog 20 [.w (.one (ringsA L)), vI x, vI y] (vB (rgB11 L x y)) := by
  have X1 := p_r4Right (x := x) (y := y) rfl
  refine pcall_body (f := 20) Try.func20 rfl rfl rfl rfl ?_
  (repeat (first | ((with_reducible apply al_q); exact rfl) | ((with_reducible apply al_len); (iterate 3 exact rfl)) | ((with_reducible apply awp_seq)) | ((with_reducible apply athen_normal)) | ((with_reducible apply awp_region)) | ((with_reducible apply al_nil)) | ((with_reducible apply awp_block))))
  refine awp_loopL 43 (RiO L x y) L.length _ [] ⟨0, 0, Nat.zero_le _, rfl, rfl, rfl, rfl, rfl⟩ rfl ⟨rfl, rfl, rfl, rfl, rfl, trivial⟩ trivial rfl ?_
  rintro n ts ms ⟨i, ii, hi, rfl, hii, hal, rfl, rfl⟩ hok
  clear hok
  by_cases hq : i < L.length
  · have q2 : ii < (L.length : Int) := by omega
    have q3 : 0 ≤ ii := by omega
    obtain ⟨r, hri⟩ : ∃ r, L[i]? = some r := ⟨_, List.getElem?_eq_getElem hq⟩
    have E1 := ringsC_at hii hri
    have hrl := hr r (List.mem_of_getElem? hri)
    have hd : L.drop i = r :: L.drop (i + 1) := by rw [List.drop_eq_getElem_cons hq, (List.getElem?_eq_some_iff.1 hri).2]
    rw [hd, List.all_cons] at hal
    (repeat (first | ((with_reducible apply al_q); exact rfl) | ((with_reducible apply al_loadP1); (iterate 5 exact rfl)) | ((with_reducible apply al_idxS); (iterate 3 exact rfl); (first | decide | omega); (first | decide | omega); (first | assumption | rfl); exact rfl) | ((with_reducible apply al_len); (iterate 3 exact rfl)) | ((with_reducible apply awp_seq)) | ((with_reducible apply athen_normal)) | ((with_reducible apply awp_region)) | ((with_reducible apply al_nil)) | ((with_reducible apply awp_skip)) | ((with_reducible apply awp_block)) | ((with_reducible apply awp_cond_1); exact rfl; (first | assumption | exact decide_eq_true (by omega) | (simp only [Bool.not_eq_true', decide_eq_false_iff_not, decide_eq_true_eq, Bool.not_eq_false']; (first | done | omega))))))
    refine awp_loopL 43 (RiN L r x y ii) r.length _ [] ⟨0, 0, Nat.zero_le _, rfl, rfl, rfl, rfl, rfl⟩ rfl ⟨rfl, rfl, rfl, rfl, rfl, rfl, rfl, rfl, trivial⟩ trivial rfl ?_
    rintro n ts ms ⟨j, jj, hj, rfl, hjj, hal2, rfl, rfl⟩ hok
    clear hok
    by_cases hp : j < r.length
    · have p2 : jj < (r.length : Int) := by omega
      have p3 : 0 ≤ jj := by omega
      obtain ⟨a, b, g1⟩ : ∃ a b, r[j]? = some (a, b) := ⟨_, _, List.getElem?_eq_getElem hp⟩
      have F1 := ringC_at hjj g1
      have hd2 : r.drop j = (a, b) :: r.drop (j + 1) := by rw [List.drop_eq_getElem_cons hp, (List.getElem?_eq_some_iff.1 g1).2]
      rw [hd2, List.all_cons, show ptB (a, b) = (rB a b && rB (2 * a) (2 * b)) from rfl] at hal2
      cases h1 : rB a b with
      | false =>
        have R1 := p_r4Right h1
        have e : rgB11 L x y = false := by unfold rgB11; rw [hal, hal2, h1]; rfl
        rw [e]
        clear hal hal2 h1 hd hd2 e X1
        (repeat (first | ((with_reducible apply al_q); exact rfl) | ((with_reducible apply al_loadPN); (iterate 5 exact rfl)) | ((with_reducible apply al_idxS); (iterate 3 exact rfl); (first | decide | omega); (first | decide | omega); (first | assumption | rfl); exact rfl) | (refine al_call1 rfl rfl rfl (by (first | exact R1)) rfl ?_) | ((with_reducible apply awp_seq)) | ((with_reducible apply athen_normal)) | ((with_reducible apply awp_region)) | ((with_reducible apply al_nil)) | ((with_reducible apply awp_ret)) | ((with_reducible apply awp_skip)) | ((with_reducible apply athen_ret)) | ((with_reducible apply awp_block)) | ((with_reducible apply ablock_ret)) | ((with_reducible apply awp_cond_t); exact rfl) | ((with_reducible apply awp_cond_1); exact rfl; (first | assumption | exact decide_eq_true (by omega) | (simp only [Bool.not_eq_true', decide_eq_false_iff_not, decide_eq_true_eq, Bool.not_eq_false']; (first | done | omega))))))
        (first | (refine apost_ret rfl (resl_tmp rfl resl_nil) ?_))
        exact AV.Le.refl _
      | true =>
        have R1 := p_r4Right h1
        have hb := rB_iff.1 h1
        cases h2 : rB (2 * a) (2 * b) with
        | false =>
          have R2 := p_r4Right h2
          have e : rgB11 L x y = false := by unfold rgB11; rw [hal, hal2, h1, h2]; rfl
          rw [e]
          clear hal hal2 h1 h2 hd hd2 e X1
          (repeat (first | ((with_reducible apply al_q); exact rfl) | ((with_reducible apply al_loadPN); (iterate 5 exact rfl)) | ((with_reducible apply al_idxS); (iterate 3 exact rfl); (first | decide | omega); (first | decide | omega); (first | assumption | rfl); exact rfl) | ((with_reducible apply al_mul); (iterate 3 exact rfl); (first | exact i64_wrap (by omega) | assumption | rfl); exact rfl) | (refine al_call1 rfl rfl rfl (by (first | exact R1 | exact R2)) rfl ?_) | ((with_reducible apply awp_seq)) | ((with_reducible apply athen_normal)) | ((with_reducible apply awp_region)) | ((with_reducible apply al_nil)) | ((with_reducible apply awp_ret)) | ((with_reducible apply awp_skip)) | ((with_reducible apply athen_ret)) | ((with_reducible apply awp_block)) | ((with_reducible apply ablock_ret)) | ((with_reducible apply awp_cond_t); exact rfl) | ((with_reducible apply awp_cond_1); exact rfl; (first | assumption | exact decide_eq_true (by omega) | (simp only [Bool.not_eq_true', decide_eq_false_iff_not, decide_eq_true_eq, Bool.not_eq_false']; (first | done | omega))))))
          (first | (refine apost_ret rfl (resl_tmp rfl resl_nil) ?_))
          exact AV.Le.refl _
        | true =>
          have R2 := p_r4Right h2
          rw [h1, h2, Bool.true_and, Bool.true_and] at hal2
          clear h1 h2 hd hd2 X1
          (repeat (first | ((with_reducible apply al_q); exact rfl) | ((with_reducible apply al_loadPN); (iterate 5 exact rfl)) | ((with_reducible apply al_idxS); (iterate 3 exact rfl); (first | decide | omega); (first | decide | omega); (first | assumption | rfl); exact rfl) | ((with_reducible apply al_add); (iterate 3 exact rfl); (first | exact i64_wrap (by omega) | assumption | rfl); exact rfl) | ((with_reducible apply al_mul); (iterate 3 exact rfl); (first | exact i64_wrap (by omega) | assumption | rfl); exact rfl) | (refine al_call1 rfl rfl rfl (by (first | exact R1 | exact R2)) rfl ?_) | ((with_reducible apply awp_seq)) | ((with_reducible apply athen_normal)) | ((with_reducible apply awp_region)) | ((with_reducible apply al_nil)) | ((with_reducible apply awp_skip)) | ((with_reducible apply awp_block)) | ((with_reducible apply ablock_normal)) | ((with_reducible apply awp_cond_f); exact rfl) | ((with_reducible apply awp_cond_1); exact rfl; (first | assumption | exact decide_eq_true (by omega) | (simp only [Bool.not_eq_true', decide_eq_false_iff_not, decide_eq_true_eq, Bool.not_eq_false']; (first | done | omega))))))
          exact ⟨r.length - (j + 1), _, [], by omega, ⟨j + 1, jj + 1, hp, rfl, by omega, hal2, rfl, rfl⟩, rfl, ⟨rfl, rfl, rfl, rfl, rfl, rfl, rfl, rfl, trivial⟩, trivial, rfl⟩
    · have e : j = r.length := by omega
      subst e
      rw [List.drop_length, List.all_nil] at hal2
      rw [hal2, Bool.true_and] at hal
      (repeat (first | ((with_reducible apply al_q); exact rfl) | ((with_reducible apply al_add); (iterate 3 exact rfl); (first | exact i64_wrap (by omega) | assumption | rfl); exact rfl) | ((with_reducible apply awp_seq)) | ((with_reducible apply athen_normal)) | ((with_reducible apply awp_region)) | ((with_reducible apply al_nil)) | ((with_reducible apply ablock_normal)) | ((with_reducible apply ablock_same)) | ((with_reducible apply awp_exit)) | ((with_reducible apply athen_exit)) | ((with_reducible apply awp_cond_0); exact rfl; (first | assumption | exact decide_eq_false (by omega) | (simp only [Bool.not_eq_true', decide_eq_false_iff_not, decide_eq_true_eq, Bool.not_eq_false']; (first | done | omega))))))
      exact ⟨L.length - (i + 1), _, [], by omega, ⟨i + 1, ii + 1, hq, rfl, by omega, hal, rfl, rfl⟩, rfl, ⟨rfl, rfl, rfl, rfl, rfl, trivial⟩, trivial, rfl⟩
  · have e : i = L.length := by omega
    subst e
    rw [List.drop_length, List.all_nil] at hal
    have e : rgB11 L x y = rB x y := by unfold rgB11; rw [hal, Bool.true_and]
    rw [e]
    generalize rB x y = b at X1
    (repeat (first | ((with_reducible apply al_q); exact rfl) | (refine al_call1 rfl rfl rfl (by (first | exact X1)) rfl ?_) | ((with_reducible apply awp_seq)) | ((with_reducible apply athen_normal)) | ((with_reducible apply awp_region)) | ((with_reducible apply al_nil)) | ((with_reducible apply awp_ret)) | ((with_reducible apply ablock_same)) | ((with_reducible apply awp_exit)) | ((with_reducible apply athen_exit)) | ((with_reducible apply awp_cond_0); exact rfl; (first | assumption | exact decide_eq_false (by omega) | (simp only [Bool.not_eq_true', decide_eq_false_iff_not, decide_eq_true_eq, Bool.not_eq_false']; (first | done | omega))))))
    (first | (refine apost_ret rfl (resl_tmp rfl resl_nil) ?_))
    exact AV.Le.refl _
end Go.Proofs.Ytlfkllmnekdghaa

namespace Go.Proofs.Ytlfkllmnekdghaa
open Go.RowKit
set_option linter.unusedVariables false
set_option linter.unusedSimpArgs false
theorem edgsM_len (L : List (List Pt)) : (edgsM L).length = sumL L := by
  induction L with
  | nil => rfl
  | cons r L ih =>
    have e : edgsM (r :: L) = edgM r ++ edgsM L := by simp [edgsM]
    rw [e, List.length_append, edgM_len, ih]; simp [sumL]
theorem mem_sumL {L : List (List Pt)} {r : List Pt} (h : r ∈ L) : r.length ≤ sumL L := by
  obtain ⟨i, hi⟩ := List.getElem?_of_mem h
  exact sumL_mem hi
def EsI (M : List (Int × (Pt × Pt))) (n : Nat) (ts : List (Nat × AV)) (ms : List (Nat × List AC)) : Prop :=
  ∃ (i : Nat) (ii : Int), i ≤ M.length ∧ n = M.length - i ∧ ii = i ∧ ms = [] ∧ ts = [(4, vS 5 M.length (edsC M)), (35, vS 5 M.length (edsC M)), (36, vI M.length), (37, vI ii)]
theorem wndL_no {L : List (List Pt)} {x y : Int} (h : rgB11 L x y = false) : wndL x y (edgsM L) = (0, false) := by
  unfold wndL
  rw [edgsM_rt, if_neg]
  unfold rgB11 at h
  rw [Bool.and_comm, h]; simp
theorem wndL_yes {L : List (List Pt)} {x y : Int} (h : rgB11 L x y = true) : wndL x y (edgsM L) = wndV x y (edgsM L) := by
  unfold wndL
  rw [edgsM_rt, if_pos]
  unfold rgB11 at h
  rw [Bool.and_comm, h]
theorem rgB_ends {L : List (List Pt)} {x y : Int} (h : rgB11 L x y = true) : rB x y = true ∧ ∀ e ∈ edgsM L, rB (2 * e.1.1) (2 * e.1.2) = true ∧ rB (2 * e.2.1) (2 * e.2.2) = true := by
  unfold rgB11 at h
  rw [Bool.and_eq_true] at h
  refine ⟨h.2, fun e he => ?_⟩
  obtain ⟨m1, m2⟩ := rt_ends (by rw [edgsM_rt]; exact h.1) he
  unfold ptB at m1 m2
  rw [Bool.and_eq_true] at m1 m2
  exact ⟨m1.2, m2.2⟩
theorem p_ManyL {L : List (List Pt)} (hb : L.length + sumL L ≤ 1048576) : PCall Try.prog 13 [.w (.agg [ringsA L, .c (.slice none 0 0), .c (.int .i64 0), .c (.int .i64 0), .c (.int .i64 0), .c (.int .i64 0)])] (vI ((L.length + sumL L : Nat) : Int)) := by
  have h := le1 (p_Many (A := L) (B := []) (op := 0) (fill := 0) (rung := 0) (cap := 0) (by show L.length + 0 + sumL L + 0 ≤ 1048576; omega)) rfl rfl job1_le
  rw [show L.length + ([] : List (List Pt)).length + (sumL L + sumL []) = L.length + sumL L from rfl] at h
  exact h
set_option maxRecDepth 100000 in
set_option maxHeartbeats 8000000 in
theorem law_Winds {L : List (List Pt)} {x y : Int} (hb : L.length + sumL L ≤ 1048576) : PCall Try.prog 6 [.w (.one (ringsA L)), vI x, vI y] (vB true) := by
  have L1 := p_alive11
  have M1 := p_ManyL hb
  have cs : ((L.length + sumL L : Nat) : Int) > 300 ∨ ¬ ((L.length + sumL L : Nat) : Int) > 300 := by omega
  rcases cs with h1 | h1
  · refine pcall_body (f := 6) Try.func6 rfl rfl rfl rfl ?_
    (repeat (first | ((with_reducible apply al_q); exact rfl) | (refine al_call0 rfl rfl (by (first | exact L1 | exact M1)) rfl ?_) | (refine al_call1 rfl rfl rfl (by (first | exact L1 | exact M1)) rfl ?_) | ((with_reducible apply awp_seq)) | ((with_reducible apply athen_normal)) | ((with_reducible apply awp_region)) | ((with_reducible apply al_nil)) | ((with_reducible apply awp_ret)) | ((with_reducible apply athen_ret)) | ((with_reducible apply awp_cond_1); exact rfl; (first | assumption | exact decide_eq_true (by omega) | (simp only [Bool.not_eq_true', decide_eq_false_iff_not, decide_eq_true_eq, Bool.not_eq_false']; (first | done | omega))))))
    (first | (refine apost_ret rfl (resl_tmp rfl resl_nil) ?_))
    exact AV.Le.refl _
  · have hr : ∀ r ∈ L, r.length ≤ 900000 := fun r h => by have := mem_sumL h; omega
    have hel := edgsM_len L
    have R1 := p_right11 (L := L) (x := x) (y := y) (by omega) (fun r h => by have := hr r h; omega)
    have W1 := p_Wind11L (L := L) (x := x) (y := y) (by omega) (fun r h => by have := hr r h; omega) (by omega)
    cases hg : rgB11 L x y with
    | false =>
      rw [wndL_no hg] at W1
      rw [hg] at R1
      clear hg hr hel
      refine pcall_body (f := 6) Try.func6 rfl rfl rfl rfl ?_
      (repeat (first | ((with_reducible apply al_q); exact rfl) | (refine al_call0 rfl rfl (by (first | exact L1 | exact M1 | exact R1 | exact W1)) rfl ?_) | (refine al_call1 rfl rfl rfl (by (first | exact L1 | exact M1 | exact R1 | exact W1)) rfl ?_) | (refine al_call3 rfl rfl rfl rfl rfl (by (first | exact L1 | exact M1 | exact R1 | exact W1)) rfl ?_) | ((with_reducible apply awp_seq)) | ((with_reducible apply athen_normal)) | ((with_reducible apply awp_region)) | ((with_reducible apply al_nil)) | ((with_reducible apply awp_ret)) | ((with_reducible apply awp_skip)) | ((with_reducible apply athen_ret)) | ((with_reducible apply awp_cond_t); exact rfl) | ((with_reducible apply awp_cond_0); exact rfl; (first | assumption | exact decide_eq_false (by omega) | (simp only [Bool.not_eq_true', decide_eq_false_iff_not, decide_eq_true_eq, Bool.not_eq_false']; (first | done | omega))))))
      (first | (refine apost_ret rfl (resl_tmp rfl resl_nil) ?_))
      exact AV.Le.refl _
    | true =>
      obtain ⟨g1, g2⟩ := rgB_ends hg
      have W2 := p_Wind11 (L := L) (x := x) (y := y) (by omega) hr (by simp [ofE, hel]; omega) g1 g2
      rw [wndL_yes hg] at W1
      rw [hg] at R1
      generalize (wndV x y (edgsM L)).1 = n at *
      generalize (wndV x y (edgsM L)).2 = o at *
      clear hg hr hel g1 g2
      cases o
      all_goals
        refine pcall_body (f := 6) Try.func6 rfl rfl rfl rfl ?_
        (repeat (first | ((with_reducible apply al_q); exact rfl) | (refine al_call0 rfl rfl (by (first | exact L1 | exact M1 | exact R1 | exact W1 | exact W2)) rfl ?_) | (refine al_call1 rfl rfl rfl (by (first | exact L1 | exact M1 | exact R1 | exact W1 | exact W2)) rfl ?_) | (refine al_call3 rfl rfl rfl rfl rfl (by (first | exact L1 | exact M1 | exact R1 | exact W1 | exact W2)) rfl ?_) | ((with_reducible apply al_guard_b (c := true)); exact rfl; exact rfl; (first | assumption | exact decide_eq_true (by omega) | (simp only [Bool.not_eq_true', decide_eq_false_iff_not, decide_eq_true_eq, Bool.not_eq_false']; (first | done | omega)))) | ((with_reducible apply al_bin); (iterate 5 exact rfl); (intro W; go_simp; try rfl); (intro W; go_simp; try rfl); exact rfl; exact rfl) | ((with_reducible apply awp_seq)) | ((with_reducible apply athen_normal)) | ((with_reducible apply awp_region)) | ((with_reducible apply al_nil)) | ((with_reducible apply awp_ret)) | ((with_reducible apply awp_skip)) | ((with_reducible apply awp_cond_f); exact rfl) | ((with_reducible apply awp_cond_0); exact rfl; (first | assumption | exact decide_eq_false (by omega) | (simp only [Bool.not_eq_true', decide_eq_false_iff_not, decide_eq_true_eq, Bool.not_eq_false']; (first | done | omega))))))
        (first | (refine apost_ret rfl (resl_tmp rfl resl_nil) ?_))
        exact AV.Le.refl _
end Go.Proofs.Ytlfkllmnekdghaa

namespace Go.Proofs.Ytlfkllmnekdghaa
open Go.RowKit
set_option linter.unusedVariables false
set_option linter.unusedSimpArgs false
def TbI (a b : List Pt) (x y at_ : Int) (n : Nat) (R : Rws) (ts : List (Nat × AV)) (ms : List (Nat × List AC)) : Prop :=
  ∃ (i : Nat) (ii : Int) (v : Value), i ≤ a.length ∧ n = a.length - i ∧ ii = i ∧ R = row1 0 ⟨37, 2, v, i, ringC (a.reverse.take i)⟩ ∧ ms = [] ∧ ts = [(0, .w (.one (ringA a))), (1, .w (.one (ringA b))), (7, vI x), (8, vI y), (9, vI at_), (10, vC v), (11, vC (.slice none 0 0)), (39, vI a.length), (40, vI ii)]
end Go.Proofs.Ytlfkllmnekdghaa

namespace Go.Proofs.Ytlfkllmnekdghaa
open Go.RowKit
set_option linter.unusedVariables false
set_option linter.unusedSimpArgs false
def mvE (d : Pt) (e : Pt × Pt) : Pt × Pt := (mvP d e.1, mvP d e.2)
def mvA (d : Pt) (r : List Pt) : AC := .p (SlP 2 r.length (ringC (r.map (mvP d))))
def MoI (L : List (List Pt)) (x y : Int) (d : Pt) (n : Nat) (R : Rws) (ts : List (Nat × AV)) (ms : List (Nat × List AC)) : Prop :=
  ∃ (i : Nat) (ii : Int) (v : Value), i ≤ L.length ∧ n = L.length - i ∧ ii = i ∧ R = row1 0 ⟨45, 1, v, i, (L.take i).map (mvA d)⟩ ∧ ms = [(4, [.c (.int .i64 x), .c (.int .i64 y)]), (5, [.c (.int .i64 d.1), .c (.int .i64 d.2)])] ∧
    ts = [(0, .w (.one (ringsA L))), (4, .w (.one (.own 4 0))), (5, .w (.one (.own 5 0))), (7, vC v), (52, .w (.one (ringsA L))), (53, vI L.length), (54, vI ii)]
def MnI (L : List (List Pt)) (x y : Int) (d : Pt) (r : List Pt) (v : Value) (k : Nat) (oo : Int) (n : Nat) (R : Rws) (ts : List (Nat × AV)) (ms : List (Nat × List AC)) : Prop :=
  ∃ (i : Nat) (ii : Int) (v' : Value), i ≤ r.length ∧ n = r.length - i ∧ ii = i ∧ R = upd (row1 0 ⟨45, 1, v, k, (L.take k).map (mvA d)⟩) 1 ⟨37, 2, v', i, ringC ((r.map (mvP d)).take i)⟩ ∧ ms = [(4, [.c (.int .i64 x), .c (.int .i64 y)]), (5, [.c (.int .i64 d.1), .c (.int .i64 d.2)])] ∧
    ts = [(0, .w (.one (ringsA L))), (4, .w (.one (.own 4 0))), (5, .w (.one (.own 5 0))), (7, vC v), (10, vC v'), (52, .w (.one (ringsA L))), (53, vI L.length), (54, vI oo), (58, .w (.one (ringA r))), (59, vI r.length), (60, vI ii)]
end Go.Proofs.Ytlfkllmnekdghaa

namespace Go.Proofs.Ytlfkllmnekdghaa
open Go.RowKit
set_option linter.unusedVariables false
theorem winds_walk (L : List (List Pt)) (x y : Int) (h : L.length + sumL L ≤ 1048576) (_ : -9223372036854775808 ≤ x ∧ x ≤ 9223372036854775807) (_ : -9223372036854775808 ≤ y ∧ y ≤ 9223372036854775807) : PCall Try.prog 6 [.w (.one (ringsA L)), vI x, vI y] (vB true) := law_Winds h
end Go.Proofs.Ytlfkllmnekdghaa

namespace Go.Proofs.Ytlfkllmnekdghaa
open Go.ChangeShapes Go.WideShapes Go.ChangeAt Go.RowKit Go.Joins
set_option linter.unusedVariables false
set_option linter.unusedSimpArgs false
theorem laidOut : laidOutB Try.prog = true := by kernel_rfl
theorem cell_lt {W : World} {b : Addr} {v : Value} (h : W.cell? b = some v) : b.block < W.heap.size := by
  unfold World.cell? at h
  split at h
  · rename_i hh; exact (Array.getElem?_eq_some_iff.1 hh).1
  · cases h
theorem ringC_cons (p : Pt) (l : List Pt) : ringC (p :: l) = .c (.int .i64 p.1) :: .c (.int .i64 p.2) :: ringC l := rfl
theorem bulk_one {H : Type} (d : DataW H) : 1 ≤ Rows.uptoBulk d := by
  cases d with
  | lit l => cases l <;> simp [Rows.uptoBulk]
  | nil => simp [Rows.uptoBulk]
  | ptr d => simp [Rows.uptoBulk]
  | slice elems spare => simp [Rows.uptoBulk]
  | agg parts => simp [Rows.uptoBulk]
  | iface t d => simp [Rows.uptoBulk]
  | map entries => simp [Rows.uptoBulk]
  | held h => simp [Rows.uptoBulk]
theorem bulk_len {H : Type} (l : List (DataW H)) : l.length ≤ Rows.uptoBulkAll l := by
  induction l with
  | nil => simp [Rows.uptoBulkAll]
  | cons x r ih => have := bulk_one x; simp only [Rows.uptoBulkAll, List.length_cons]; omega
theorem bulk_slice {H : Type} (elems spare : List (DataW H)) : Rows.uptoBulkAll elems + 1 ≤ Rows.uptoBulk (.slice elems spare) := by
  simp only [Rows.uptoBulk]
  omega
theorem weightsAll_mem {H : Type} {P : Program} {e : TypeId} {d : DataW H} {w : Nat} : ∀ {l : List (DataW H)}, d ∈ l → w ∈ DataW.weights P e d → w ∈ DataW.weightsAll P e l
  | x :: l, h, hw => by
    rw [DataW.weightsAll]
    rcases List.mem_cons.1 h with rfl | h
    · exact List.mem_append_left _ hw
    · exact List.mem_append_right _ (weightsAll_mem h hw)
/-- a row of things of two numbers as an argument: what it reads as. -/
theorem open_ring {H : Type} {enc : TypeId × Value → H} {P : Program} {W : World} {t e : TypeId} {f0 f1 : Field} (ht : P.underlying t = some (.slice e)) (he : P.underlying e = some (.struct #[f0, f1])) (ce : P.cellsOf e = 2) (o0 : f0.offset = 0) (o1 : f1.offset = 1) (c0 : P.cellsOf f0.type = 1) (c1 : P.cellsOf f1.type = 1) (k0 : P.underlying f0.type = some (.int .i64)) (k1 : P.underlying f1.type = some (.int .i64))
    {v : Value} {d : DataW H} {p : List MemPlace} (hv : ∃ a len cap, v = .slice a len cap) (h0 : DataW.Trod enc P W 0 (fun _ => true) true t v d p) :
    ∃ l : List (Int × Int), (∀ n, (∀ w ∈ DataW.weights P t d, w ≤ n) → l.length * P.bytesOf e ≤ n) ∧ l.length + 1 ≤ Rows.uptoBulk d ∧ RpV (fun _ => True) id W ((.w (.one (ringA l)))) v := by
  obtain ⟨a0, len0, cap0, rfl⟩ := hv
  obtain ⟨fuel, hf⟩ := h0
  rcases Go.Deep.open_slice_pairs ht he ce o0 o1 c0 c1 hf with ⟨hcs, hx⟩ | ⟨a, len, cap, m, n, V0, V1, D0, D1, P0, P1, hcs, hb, hl, hm, hmm, hx, hi⟩
  · simp [Value.cells] at hcs
    obtain ⟨rfl, rfl, rfl⟩ := hcs
    obtain ⟨rfl, rfl⟩ := Prod.mk.inj hx
    exact ⟨[], (fun n _ => by simp), (by simp [Rows.uptoBulk]), ⟨none, 0, rfl, Nat.le_refl _, rfl, fun h => absurd h (Nat.lt_irrefl _)⟩, fun _ _ => trivial⟩
  · simp [Value.cells] at hcs
    obtain ⟨rfl, rfl, rfl⟩ := hcs
    simp only [if_true] at hmm
    subst hmm
    simp only [Prod.mk.injEq] at hx
    obtain ⟨hdd, rfl⟩ := hx
    have each : ∀ i, i < m → ∃ q : Int × Int, V0 i = .int .i64 q.1 ∧ V1 i = .int .i64 q.2 := fun i h => by
      obtain ⟨_, _, g0, g1⟩ := hi i h
      obtain ⟨x, hx, _, wx⟩ := DataW.trod_int k0 g0
      obtain ⟨y, hy, _, wy⟩ := DataW.trod_int k1 g1
      simp at hx hy
      exact ⟨(x, y), hx, hy⟩
    obtain ⟨q, hq⟩ := Go.Deep.choose_lt each
    have hcells : ∀ (l : List (Int × Int)) (k : Nat), (∀ i (p : Int × Int), l[i]? = some p → W.cell? (a.add ((k + i) * 2)) = some (.int .i64 p.1) ∧ W.cell? (a.add ((k + i) * 2 + 1)) = some (.int .i64 p.2)) →
        ∃ vs : List Value, RpL (fun _ => True) id W (ringC l) vs ∧ ∀ (j : Nat) v, vs[j]? = some v → W.cell? (a.add (k * 2 + j)) = some v := by
      intro l
      induction l with
      | nil => intro k _; exact ⟨[], ⟨rfl, fun i x v h => by simp [ringC] at h⟩, fun j v h => by simp at h⟩
      | cons p l ih =>
        intro k h
        obtain ⟨vs, g1, g2⟩ := ih (k + 1) (fun i p' hp' => by
          have := h (i + 1) p' (by simpa using hp')
          rw [show k + (i + 1) = k + 1 + i by omega] at this
          exact this)
        obtain ⟨h1, h2⟩ := h 0 p rfl
        refine ⟨.int .i64 p.1 :: .int .i64 p.2 :: vs, ⟨by simp [ringC_cons, g1.1], fun i x v hx hv => ?_⟩, fun j v hv => ?_⟩
        · match i with
          | 0 => simp [ringC_cons] at hx hv; subst hx; subst hv; exact ⟨rfl, rfl⟩
          | 1 => simp [ringC_cons] at hx hv; subst hx; subst hv; exact ⟨rfl, rfl⟩
          | i + 2 => exact g1.2 i x v (by simpa [ringC_cons] using hx) (by simpa using hv)
        · match j with
          | 0 => simp at hv; subst hv; simpa using h1
          | 1 => simp at hv; subst hv; simpa using h2
          | j + 2 =>
            have := g2 j v (by simpa using hv)
            rw [show (k + 1) * 2 + j = k * 2 + (j + 2) by omega] at this
            exact this
    obtain ⟨vs, g1, g2⟩ := hcells ((List.range len0).map q) 0 (fun i p hp => by
      rw [List.getElem?_map] at hp
      cases hr : (List.range len0)[i]? with
      | none => rw [hr] at hp; cases hp
      | some j =>
        rw [hr] at hp
        cases hp
        obtain ⟨h3, h4⟩ := List.getElem?_eq_some_iff.1 hr
        simp at h3 h4
        subst h4
        obtain ⟨e0, e1, _⟩ := hi i (by omega)
        obtain ⟨f0, f1⟩ := hq i (by omega)
        rw [f0] at e0
        rw [f1] at e1
        simpa using ⟨e0, e1⟩)
    have hlen : ∀ l : List (Int × Int), (ringC l).length = l.length * 2 := fun l => by
      induction l with
      | nil => rfl
      | cons p l ih => simp [ringC_cons, ih]; omega
    have hclo : ∀ l : List (Int × Int), ∀ y ∈ ringC l, y.closedB = true := fun l => by
      induction l with
      | nil => intro y hy; cases hy
      | cons p l ih =>
        intro y hy
        simp only [ringC_cons, List.mem_cons] at hy
        rcases hy with rfl | rfl | hy
        · rfl
        · rfl
        · exact ih y hy
    refine ⟨(List.range len0).map q, fun n hw => ?_, ?_, ?_⟩
    · rw [hdd] at hw
      unfold DataW.weights at hw
      rw [ht] at hw
      simp only at hw
      have := hw _ (List.mem_cons_self ..)
      refine Nat.le_trans (Nat.mul_le_mul_right _ ?_) this
      simp
    · rw [hdd]
      have h1 := bulk_slice (H := H) (List.map (fun i => DataW.agg [D0 i, D1 i]) (List.range len0)) (List.map (fun j => DataW.agg [D0 (len0 + j), D1 (len0 + j)]) (List.range (m - len0)))
      have h2 := bulk_len (H := H) (List.map (fun i => DataW.agg [D0 i, D1 i]) (List.range len0))
      simp only [List.length_map, List.length_range] at h2 ⊢
      omega
    refine ⟨⟨some a, m, by simp, by simpa using hl, hlen _, fun hn => ⟨a, vs, rfl, ?_, g1, fun j v hv => by have := g2 j v hv; rwa [Nat.zero_mul, Nat.zero_add] at this, hclo _⟩⟩, fun _ _ => trivial⟩
    have hn' : 0 < len0 := by simpa using hn
    have := cell_lt (hi 0 (by omega)).1
    rwa [block_add] at this
/-- a call that returns true, at values that are told. -/
theorem pcall_true' {P : Program} {f : FuncId} {args : List AV} (h : PCall P f args (vB true)) (vals : List Value) (W : World) (hl : args.length = vals.length) (hr : ∀ (i : Nat) (x : AV) (v : Value), args[i]? = some x → vals[i]? = some v → RpV (fun _ => True) id W x v) :
    Calls P f vals.toArray W fun e W' => e = .returned (.bool true) ∧ Below W.heap.size W W' :=
  (h.call (fun _ => True) W vals ⟨hl, hr⟩).mono fun e W' ⟨v, he, ⟨hv, _⟩, hb⟩ => by subst hv; exact ⟨he, hb⟩
theorem bulk_sum {H : Type} (D : Nat → DataW H) (q : Nat → List Pt) : ∀ (l : List Nat), (∀ i ∈ l, (q i).length + 1 ≤ Rows.uptoBulk (D i)) → l.length + sumL (l.map q) ≤ Rows.uptoBulkAll (l.map D)
  | [], _ => by simp [sumL, Rows.uptoBulkAll]
  | i :: l, h => by
    have h1 := h i (List.mem_cons_self ..)
    have h2 := bulk_sum D q l fun j hj => h j (List.mem_cons_of_mem _ hj)
    have e : sumL ((i :: l).map q) = (q i).length + sumL (l.map q) := by simp [sumL]
    rw [e, List.map_cons, Rows.uptoBulkAll, List.length_cons]
    omega
/-- rows of rings as an argument. -/
theorem open_rings {H : Type} {enc : TypeId × Value → H} {P : Program} {W : World} {tt t e : TypeId} {f0 f1 : Field} (hu : P.underlying tt = some (.slice t)) (cu : P.cellsOf t = 1) (ht : P.underlying t = some (.slice e)) (he : P.underlying e = some (.struct #[f0, f1])) (ce : P.cellsOf e = 2) (o0 : f0.offset = 0) (o1 : f1.offset = 1) (c0 : P.cellsOf f0.type = 1) (c1 : P.cellsOf f1.type = 1) (k0 : P.underlying f0.type = some (.int .i64)) (k1 : P.underlying f1.type = some (.int .i64))
    {v : Value} {d : DataW H} {p : List MemPlace} (hv : ∃ a len cap, v = .slice a len cap) (h0 : DataW.Trod enc P W 0 (fun _ => true) true tt v d p) :
    ∃ L : List (List Pt), (∀ n, (∀ w ∈ DataW.weights P tt d, w ≤ n) → L.length * P.bytesOf t ≤ n ∧ ∀ r ∈ L, r.length * P.bytesOf e ≤ n) ∧ L.length + sumL L + 1 ≤ Rows.uptoBulk d ∧ RpV (fun _ => True) id W (.w (.one (ringsA L))) v := by
  obtain ⟨a0, len0, cap0, rfl⟩ := hv
  obtain ⟨fuel, hf⟩ := h0
  rcases Go.Deep.open_slice1 hu cu hf with ⟨hcs, hx⟩ | ⟨a, len, cap, m, n, V0, D0, P0, hcs, hb, hl, hm, hmm, hx, hi⟩
  · simp [Value.cells] at hcs
    obtain ⟨rfl, rfl, rfl⟩ := hcs
    obtain ⟨rfl, rfl⟩ := Prod.mk.inj hx
    exact ⟨[], (fun n _ => ⟨by simp, fun r hr => by cases hr⟩), (by simp [Rows.uptoBulk, sumL]), ⟨none, 0, rfl, Nat.le_refl _, rfl, fun h => absurd h (Nat.lt_irrefl _)⟩, fun _ _ => trivial⟩
  · simp [Value.cells] at hcs
    obtain ⟨rfl, rfl, rfl⟩ := hcs
    simp only [if_true] at hmm
    subst hmm
    have each : ∀ i, i < m → ∃ q : List Pt, (∀ n, (∀ w ∈ DataW.weights P t (D0 i), w ≤ n) → q.length * P.bytesOf e ≤ n) ∧ q.length + 1 ≤ Rows.uptoBulk (D0 i) ∧ RpV (fun _ => True) id W (.w (.one (ringA q))) (V0 i) := fun i h => by
      obtain ⟨_, g0⟩ := hi i h
      generalize V0 i = x at g0
      have s0 : ∃ a len cap, x = .slice a len cap := by
        rcases Go.Deep.open_slice_pairs ht he ce o0 o1 c0 c1 g0 with ⟨hc, _⟩ | ⟨a, len, cap, _, _, _, _, _, _, _, _, hc, _⟩
        · exact ⟨none, 0, 0, List.head_eq_of_cons_eq hc⟩
        · exact ⟨some a, len, cap, List.head_eq_of_cons_eq hc⟩
      exact open_ring ht he ce o0 o1 c0 c1 k0 k1 s0 ⟨n, by obtain ⟨a, len, cap, rfl⟩ := s0; exact g0⟩
    obtain ⟨q, hq⟩ := Go.Deep.choose_lt each
    have hdd := congrArg Prod.fst hx
    simp only at hdd
    have hat : ∀ (j : Nat) u, ((List.range len0).map V0)[j]? = some u → W.cell? (a.add j) = some u ∧ j < len0 := fun j u hu => by
      rw [List.getElem?_map] at hu
      cases hr : (List.range len0)[j]? with
      | none => rw [hr] at hu; cases hu
      | some i =>
        rw [hr] at hu
        cases hu
        obtain ⟨h3, h4⟩ := List.getElem?_eq_some_iff.1 hr
        simp at h3 h4
        subst h4
        exact ⟨(hi j (by omega)).1, h3⟩
    refine ⟨(List.range len0).map q, fun k hw => ?_, ?_, ?_⟩
    · rw [hdd] at hw
      unfold DataW.weights at hw
      rw [hu] at hw
      simp only at hw
      refine ⟨?_, fun r hr => ?_⟩
      · have := hw _ (List.mem_cons_self ..)
        refine Nat.le_trans (Nat.mul_le_mul_right _ ?_) this
        simp
      · obtain ⟨i, hi', rfl⟩ := List.mem_map.1 hr
        have hil : i < len0 := by simpa using hi'
        exact (hq i (by omega)).1 k fun w hw' => hw w (List.mem_cons_of_mem _ (List.mem_append_left _ (weightsAll_mem (List.mem_map.2 ⟨i, hi', rfl⟩) hw')))
    · rw [hdd]
      have h1 := bulk_slice (H := H) ((List.range len0).map D0) ((List.range (m - len0)).map fun j => D0 (len0 + j))
      have h2 := bulk_sum D0 q (List.range len0) fun i hi' => (hq i (Nat.lt_of_lt_of_le (List.mem_range.1 hi') hl)).2.1
      simp only [List.length_map, List.length_range] at h2 ⊢
      omega
    refine ⟨⟨some a, m, by simp, by simpa using hl, by simp, fun hn => ⟨a, (List.range len0).map V0, rfl, ?_, ⟨by simp, fun i x u hx hu => ?_⟩, fun j u hu => (hat j u hu).1, fun y hy => ?_⟩⟩, fun _ _ => trivial⟩
    · have hn' : 0 < len0 := by simpa using hn
      have := cell_lt (hi 0 (by omega)).1
      rwa [block_add] at this
    · rw [List.getElem?_map] at hu
      rw [List.map_map, List.getElem?_map] at hx
      cases hr : (List.range len0)[i]? with
      | none => rw [hr] at hx; cases hx
      | some j =>
        rw [hr] at hx hu
        cases hx; cases hu
        have hjl : j < len0 := by have := List.mem_of_getElem? hr; simpa using this
        exact (hq j (by omega)).2.2
    · rw [List.map_map] at hy
      obtain ⟨j, _, rfl⟩ := List.mem_map.1 hy
      rfl
end Go.Proofs.Ytlfkllmnekdghaa

