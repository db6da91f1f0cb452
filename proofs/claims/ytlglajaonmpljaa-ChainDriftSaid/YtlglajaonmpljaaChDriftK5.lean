/-
  My own texts, without what this claim does not need. My own text.
-/
import Derived.Deep.SlicePairs
import Derived.ChangeSame
import Derived.Carry
import Derived.Test.YtlglajaonmpljaaChDriftK4
namespace Go.Proofs.Ytlglajaonmpljaa
open Go.RowKit
set_option linter.unusedVariables false
set_option linter.unusedSimpArgs false
def CSplitN10 : Prop := ∀ (V : List Px) (D : List Int) (j : Nat) (l : List Px), V.length ≤ 1000 → D.length ≤ 1000 → l.length ≤ 100 → D.length ≤ j → j ≤ 1000 → PCall Try.prog 15 [vCh V D, vI j, vIt l] (.tup [.agg (mCh [] []), .one (.c (.bool false))])
def CSame10 : Prop := ∀ (V W : List Px) (D E : List Int), V.length ≤ 1000 → D.length ≤ 1000 → W.length ≤ 1000 → E.length ≤ 1000 → PCall Try.prog 18 [vCh V D, vCh W E] (vB (decide (V = W) && decide (D = E)))
def CClone10 : Prop := ∀ (V : List Px) (D : List Int), V.length ≤ 1000 → D.length ≤ 1000 → PCall Try.prog 19 [vCh V D] (vCh V D)
theorem ch0_le : AV.Le (.w (.agg [.c (.slice none 0 0), .c (.slice none 0 0)])) (vCh [] []) := agg_le rfl fun j x y hx hy => by
  match j with
  | 0 => cases hx; cases hy; exact .inr ⟨rfl, 2, rfl⟩
  | 1 => cases hx; cases hy; exact .inr ⟨rfl, 1, rfl⟩
  | j + 2 => simp at hx
set_option maxRecDepth 100000 in
set_option maxHeartbeats 16000000 in
theorem p_alive10 (cn : CNew10) (cs : CSplit10) (csn : CSplitN10) (cr : CRight10) (cd : CDepth10) (ce : CSame10) (cl : CClone10) (cc : CClose10) : PCall Try.prog 6 [] (vB true) := by
  have hin : ∀ v ∈ ([(0, 0), (2, 0), (4, 0)] : List Px), InI v := by unfold InI; decide
  have N1 := cn 0 0 4 0
  rw [show newV (0, 0) (4, 0) = [(0, 0), (4, 0)] by decide, show newD (0, 0) (4, 0) = [1] by decide] at N1
  have N2 := cn 1 0 1 0
  rw [show newV (1, 0) (1, 0) = [(1, 0)] by decide, show newD (1, 0) (1, 0) = [] by decide] at N2
  have S1 := cs [(0, 0), (4, 0)] [1] 0 [(2, 0)] (by decide) (by decide) (by decide) (by decide) (by decide)
  rw [show (if List.isEmpty [((2 : Int), (0 : Int))] then [] else spV [(0, 0), (4, 0)] 0 [(2, 0)]) = [(0, 0), (2, 0), (4, 0)] by decide, show (if List.isEmpty [((2 : Int), (0 : Int))] then [] else spD [1] 0 [((2 : Int), (0 : Int))].length) = [2, 2] by decide, show (!List.isEmpty [((2 : Int), (0 : Int))]) = true by decide] at S1
  have S2 := csn [(0, 0), (4, 0)] [1] 1 [(2, 0)] (by decide) (by decide) (by decide) (by decide) (by decide)
  have hrt : rtV 0 [(0, 0), (2, 0), (4, 0)] [2, 2] := by
    refine ⟨by simp, rfl, ?_, ⟨by decide, by decide, trivial⟩, by decide, .inl ⟨by decide, by decide, trivial⟩, .inl ⟨by decide, by decide, trivial⟩⟩
    decide
  have T1 := cr [(0, 0), (2, 0), (4, 0)] [2, 2] 0 (by decide) (by decide) (by decide) hin (by decide)
  rw [rtB_of hrt] at T1
  have T2' := cr [] [] 0 (by decide) (by decide) (by decide) (fun v hv => by cases hv) (fun v hv => by cases hv)
  rw [rtB_no (r := 0) (V := []) (D := []) (fun h => h.1 rfl)] at T2'
  have T2 : PCall Try.prog 16 [.w (.agg [.c (.slice none 0 0), .c (.slice none 0 0)]), vI (0 : Nat)] (vB false) := pcall_le T2' rfl rfl (by
    intro i x y hx hy
    match i with
    | 0 => cases hx; cases hy; exact ch0_le
    | 1 => cases hx; cases hy; exact .refl _
    | i + 2 => simp at hx)
  have D1 := cd [(0, 0), (2, 0), (4, 0)] [2, 2] (by decide) (by decide)
  rw [show dptD [2, 2] = 2 by decide] at D1
  have L1 := cl [(0, 0), (2, 0), (4, 0)] [2, 2] (by decide) (by decide)
  have E1 := ce [(0, 0), (2, 0), (4, 0)] [(0, 0), (2, 0), (4, 0)] [2, 2] [2, 2] (by decide) (by decide) (by decide) (by decide)
  rw [show (decide (([(0, 0), (2, 0), (4, 0)] : List Px) = [(0, 0), (2, 0), (4, 0)]) && decide (([2, 2] : List Int) = [2, 2])) = true by decide] at E1
  have X1 := cc [(0, 0), (2, 0), (4, 0)] [2, 2] 0 0 4 0 0 0 (by decide) hin (by unfold InI; decide)
  rw [show cloB 0 0 4 0 0 0 [(0, 0), (2, 0), (4, 0)] = true by decide] at X1
  have X2 := cc [(0, 0), (2, 0), (4, 0)] [2, 2] 0 0 4 1 0 1 (by decide) hin (by unfold InI; decide)
  rw [show cloB 0 0 4 1 0 1 [(0, 0), (2, 0), (4, 0)] = false by decide] at X2
  clear cn cs csn cr cd ce cl cc hin hrt T2'
  refine pcall_body (f := 6) Try.func6 rfl rfl rfl rfl ?_
  (repeat (first | ((with_reducible apply al_q); exact rfl) | ((with_reducible apply al_loadP1); (iterate 5 exact rfl)) | ((with_reducible apply al_loadPN); (iterate 5 exact rfl)) | ((with_reducible apply al_idxS); (iterate 3 exact rfl); (first | decide | omega); (first | decide | omega); (first | assumption | rfl); exact rfl) | ((with_reducible apply al_eqP); (iterate 4 exact rfl)) | ((with_reducible apply al_len); (iterate 3 exact rfl)) | ((with_reducible apply al_bslice); (iterate 10 exact rfl)) | (refine al_call1 rfl rfl rfl (by (first | exact N1 | exact N2 | exact S1 | exact S2 | exact T1 | exact T2 | exact D1 | exact L1 | exact E1 | exact X1 | exact X2)) rfl ?_) | (refine al_call2 rfl rfl rfl rfl (by (first | exact N1 | exact N2 | exact S1 | exact S2 | exact T1 | exact T2 | exact D1 | exact L1 | exact E1 | exact X1 | exact X2)) rfl ?_) | (refine al_call3 rfl rfl rfl rfl rfl (by (first | exact N1 | exact N2 | exact S1 | exact S2 | exact T1 | exact T2 | exact D1 | exact L1 | exact E1 | exact X1 | exact X2)) rfl ?_) | (refine al_call5 rfl rfl rfl rfl rfl rfl rfl (by (first | exact N1 | exact N2 | exact S1 | exact S2 | exact T1 | exact T2 | exact D1 | exact L1 | exact E1 | exact X1 | exact X2)) rfl ?_) | ((with_reducible apply al_nilS); kernel_rfl) | ((with_reducible apply awp_region_draw); kernel_rfl; kernel_rfl; exact rfl) | ((with_reducible apply awp_seq)) | ((with_reducible apply athen_normal)) | ((with_reducible apply awp_region)) | ((with_reducible apply al_nil)) | ((with_reducible apply awp_ret))))
  (first | (refine apost_ret rfl (resl_tmp rfl resl_nil) ?_))
  exact AV.Le.refl _
end Go.Proofs.Ytlglajaonmpljaa

namespace Go.Proofs.Ytlglajaonmpljaa
open Go.RowKit
set_option linter.unusedVariables false
set_option linter.unusedSimpArgs false
/-- is there a pair of neighbours of which c holds? -/
def anyN (c : Px → Px → Bool) : List Px → Bool
  | [] => false
  | [_] => false
  | p :: q :: V => c p q || anyN c (q :: V)
theorem anyN_chn {c : Px → Px → Bool} {R : Px → Px → Prop} (h : ∀ p q, c p q = false ↔ R p q) : ∀ V, chn R V ↔ anyN c V = false
  | [] => by simp [chn, anyN]
  | [_] => by simp [chn, anyN]
  | p :: q :: V => by
    have ih := anyN_chn h (q :: V)
    simp only [chn, anyN, Bool.or_eq_false_iff, h p q, ih]
theorem anyN_snoc {c : Px → Px → Bool} : ∀ (V : List Px) (p q : Px), anyN c (V ++ [p, q]) = (anyN c (V ++ [p]) || c p q)
  | [], p, q => by simp [anyN]
  | [a], p, q => by simp [anyN]
  | a :: b :: V, p, q => by
    have ih := anyN_snoc (c := c) (b :: V) p q
    simp only [List.cons_append, anyN] at ih ⊢
    rw [ih, Bool.or_assoc]
/-- one vertex more. -/
theorem anyN_step {c : Px → Px → Bool} {V : List Px} {k : Nat} {p q : Px} (h1 : V[k]? = some p) (h2 : V[k + 1]? = some q) : anyN c (V.take (k + 2)) = (anyN c (V.take (k + 1)) || c p q) := by
  have e1 : V.take (k + 1) = V.take k ++ [p] := by
    rw [List.take_succ_eq_append_getElem (List.getElem?_eq_some_iff.1 h1).1, (List.getElem?_eq_some_iff.1 h1).2]
  have e2 : V.take (k + 2) = V.take k ++ [p, q] := by
    rw [List.take_succ_eq_append_getElem (List.getElem?_eq_some_iff.1 h2).1, (List.getElem?_eq_some_iff.1 h2).2, e1]; simp
  rw [e1, e2, anyN_snoc]
theorem anyN_first {c : Px → Px → Bool} (V : List Px) : anyN c (V.take 1) = false := by
  cases V <;> rfl
/-- right, by what a walk along the vertices gathers. -/
theorem rtV_any {r : Nat} {V : List Px} {D : List Int} : rtV r V D ↔ V ≠ [] ∧ V.length = D.length + 1 ∧ (∀ v ∈ V, inB r v.1 v.2 = true) ∧ anyN (fun p q => eqP p.1 p.2 q.1 q.2) V = false ∧ (∀ d ∈ D, 1 ≤ d ∧ d ≤ 1048576) ∧
    (anyN (fun p q => decide (q.1 < p.1)) V = false ∨ anyN (fun p q => decide (q.1 > p.1)) V = false) ∧ (anyN (fun p q => decide (q.2 < p.2)) V = false ∨ anyN (fun p q => decide (q.2 > p.2)) V = false) := by
  unfold rtV
  rw [anyN_chn (c := fun p q => eqP p.1 p.2 q.1 q.2) (R := (· ≠ ·)) (fun p q => ?_), anyN_chn (c := fun p q => decide (q.1 < p.1)) (R := fun p q => p.1 ≤ q.1) (fun p q => ?_), anyN_chn (c := fun p q => decide (q.1 > p.1)) (R := fun p q => q.1 ≤ p.1) (fun p q => ?_), anyN_chn (c := fun p q => decide (q.2 < p.2)) (R := fun p q => p.2 ≤ q.2) (fun p q => ?_), anyN_chn (c := fun p q => decide (q.2 > p.2)) (R := fun p q => q.2 ≤ p.2) (fun p q => ?_)]
  · rw [decide_eq_false_iff_not]; omega
  · rw [decide_eq_false_iff_not]; omega
  · rw [decide_eq_false_iff_not]; omega
  · rw [decide_eq_false_iff_not]; omega
  · obtain ⟨x, y⟩ := p
    obtain ⟨z, w⟩ := q
    constructor
    · intro h e
      have := eqP_iff.2 (⟨congrArg Prod.fst e, congrArg Prod.snd e⟩ : x = z ∧ y = w)
      rw [h] at this; cases this
    · intro h
      cases he : eqP x y z w with
      | false => rfl
      | true => obtain ⟨rfl, rfl⟩ := eqP_iff.1 he; exact absurd rfl h
theorem anyN_pre {c : Px → Px → Bool} : ∀ (V W : List Px), anyN c V = true → anyN c (V ++ W) = true
  | [], W, h => by simp [anyN] at h
  | [a], W, h => by simp [anyN] at h
  | a :: b :: V, W, h => by
    have ih := anyN_pre (c := c) (b :: V) W
    simp only [List.cons_append, anyN, Bool.or_eq_true] at ih h ⊢
    rcases h with h | h
    · exact .inl h
    · exact .inr (ih h)
theorem anyN_take {c : Px → Px → Bool} {V : List Px} {k : Nat} (h : anyN c (V.take k) = true) : anyN c V = true := by
  have := anyN_pre (V.take k) (V.drop k) h
  rwa [List.take_append_drop] at this
def AiI (r : Nat) (V : List Px) (n : Nat) (ts : List (Nat × AV)) (ms : List (Nat × List AC)) : Prop :=
  ∃ (i : Nat) (ii : Int), i ≤ V.length ∧ n = V.length - i ∧ ii = i ∧ (V.take i).all (fun v => inB r v.1 v.2) = true ∧ ms = [] ∧ ts = [(1, vI r), (15, vIt V), (16, vI V.length), (17, vI ii)]
set_option maxRecDepth 100000 in
set_option maxHeartbeats 8000000 in
theorem p_areIn_yes {V : List Px} {r : Nat} (hr : r ≤ 28) (hV : 0 < V.length) (hb : V.length ≤ 100000) : PCall Try.prog 20 [vIt V, vI r] (vB (V.all fun v => inB r v.1 v.2)) := by
  have hR : IsR (r : Int) r := ⟨hr, .inr (.inr rfl)⟩
  have R1 := p_gRight (k := (r : Int))
  rw [show (decide (0 ≤ (r : Int)) && decide ((r : Int) ≤ 28)) = true by rw [decide_eq_true (by omega), decide_eq_true (by omega)]; rfl] at R1
  have q0 : ¬ (V.length : Int) = 0 := by omega
  refine pcall_body (f := 20) Try.func20 rfl rfl rfl rfl ?_
  (repeat (first | ((with_reducible apply al_q); exact rfl) | ((with_reducible apply al_len); (iterate 3 exact rfl)) | (refine al_call1 rfl rfl rfl (by (first | exact R1)) rfl ?_) | ((with_reducible apply al_guard_b (c := false)); exact rfl; exact rfl; (first | assumption | exact decide_eq_false (by omega) | (simp only [Bool.not_eq_true', decide_eq_false_iff_not, decide_eq_true_eq, Bool.not_eq_false']; (first | done | omega)))) | ((with_reducible apply awp_seq)) | ((with_reducible apply athen_normal)) | ((with_reducible apply awp_region)) | ((with_reducible apply al_nil)) | ((with_reducible apply awp_skip)) | ((with_reducible apply awp_block)) | ((with_reducible apply awp_cond_f); exact rfl)))
  refine awp_loopL 26 (AiI r V) V.length _ [] ⟨0, 0, Nat.zero_le _, rfl, rfl, rfl, rfl, rfl⟩ rfl ⟨rfl, rfl, rfl, rfl, trivial⟩ trivial rfl ?_
  rintro n ts ms ⟨i, ii, hi, rfl, hii, hal, rfl, rfl⟩ hok
  clear hok q0 R1
  by_cases hq : i < V.length
  · have q2 : ii < (V.length : Int) := by omega
    have q3 : 0 ≤ ii := by omega
    obtain ⟨x, y, g1⟩ : ∃ x y, V[i]? = some (x, y) := ⟨_, _, List.getElem?_eq_getElem hq⟩
    have E1 := itC_xy hii g1
    have ht : V.take (i + 1) = V.take i ++ [(x, y)] := by
      rw [List.take_succ_eq_append_getElem hq, (List.getElem?_eq_some_iff.1 g1).2]
    cases hb2 : inB r x y with
    | false =>
      have I1 := p_In hR hb2
      have e : (V.all fun v => inB r v.1 v.2) = false := by
        refine List.all_eq_false.2 ⟨(x, y), List.mem_of_getElem? g1, ?_⟩
        simp only [hb2]; decide
      rw [e]
      clear hR
      (repeat (first | ((with_reducible apply al_q); exact rfl) | ((with_reducible apply al_loadPN); (iterate 5 exact rfl)) | ((with_reducible apply al_idxS); (iterate 3 exact rfl); (first | decide | omega); (first | decide | omega); (first | assumption | rfl); exact rfl) | (refine al_call2 rfl rfl rfl rfl (by (first | exact I1)) rfl ?_) | ((with_reducible apply awp_seq)) | ((with_reducible apply athen_normal)) | ((with_reducible apply awp_region)) | ((with_reducible apply al_nil)) | ((with_reducible apply awp_ret)) | ((with_reducible apply awp_skip)) | ((with_reducible apply athen_ret)) | ((with_reducible apply awp_block)) | ((with_reducible apply ablock_ret)) | ((with_reducible apply awp_cond_t); exact rfl) | ((with_reducible apply awp_cond_1); exact rfl; (first | assumption | exact decide_eq_true (by omega) | (simp only [Bool.not_eq_true', decide_eq_false_iff_not, decide_eq_true_eq, Bool.not_eq_false']; (first | done | omega))))))
      (first | (refine apost_ret rfl (resl_tmp rfl resl_nil) ?_))
      exact AV.Le.refl _
    | true =>
      have I1 := p_In hR hb2
      have e : (V.take (i + 1)).all (fun v => inB r v.1 v.2) = true := by
        rw [ht, List.all_append, hal]; simp [hb2]
      clear hR
      (repeat (first | ((with_reducible apply al_q); exact rfl) | ((with_reducible apply al_loadPN); (iterate 5 exact rfl)) | ((with_reducible apply al_idxS); (iterate 3 exact rfl); (first | decide | omega); (first | decide | omega); (first | assumption | rfl); exact rfl) | ((with_reducible apply al_add); (iterate 3 exact rfl); (first | exact i64_wrap (by omega) | assumption | rfl); exact rfl) | (refine al_call2 rfl rfl rfl rfl (by (first | exact I1)) rfl ?_) | ((with_reducible apply awp_seq)) | ((with_reducible apply athen_normal)) | ((with_reducible apply awp_region)) | ((with_reducible apply al_nil)) | ((with_reducible apply awp_skip)) | ((with_reducible apply awp_block)) | ((with_reducible apply ablock_normal)) | ((with_reducible apply awp_cond_f); exact rfl) | ((with_reducible apply awp_cond_1); exact rfl; (first | assumption | exact decide_eq_true (by omega) | (simp only [Bool.not_eq_true', decide_eq_false_iff_not, decide_eq_true_eq, Bool.not_eq_false']; (first | done | omega))))))
      exact ⟨V.length - (i + 1), _, [], by omega, ⟨i + 1, ii + 1, by omega, rfl, by omega, e, rfl, rfl⟩, rfl, ⟨rfl, rfl, rfl, rfl, trivial⟩, trivial, rfl⟩
  · have q2 : ¬ ii < (V.length : Int) := by omega
    rw [List.take_of_length_le (by omega)] at hal
    rw [hal]
    (repeat (first | ((with_reducible apply al_q); exact rfl) | ((with_reducible apply awp_seq)) | ((with_reducible apply athen_normal)) | ((with_reducible apply awp_region)) | ((with_reducible apply al_nil)) | ((with_reducible apply awp_ret)) | ((with_reducible apply ablock_same)) | ((with_reducible apply awp_exit)) | ((with_reducible apply athen_exit)) | ((with_reducible apply awp_cond_0); exact rfl; (first | assumption | exact decide_eq_false (by omega) | (simp only [Bool.not_eq_true', decide_eq_false_iff_not, decide_eq_true_eq, Bool.not_eq_false']; (first | done | omega))))))
    (first | (refine apost_ret rfl (resl_tmp rfl resl_nil) ?_))
    exact AV.Le.refl _
set_option maxRecDepth 100000 in
set_option maxHeartbeats 8000000 in
theorem p_areIn_no {V : List Px} {k : Int} (cs : (V.length : Int) = 0 ∨ (¬ (V.length : Int) = 0 ∧ ¬ (0 ≤ k ∧ k ≤ 28))) : PCall Try.prog 20 [vIt V, vI k] (vB false) := by
  rcases cs with q0 | ⟨q0, q1⟩
  · refine pcall_body (f := 20) Try.func20 rfl rfl rfl rfl ?_
    (repeat (first | ((with_reducible apply al_q); exact rfl) | ((with_reducible apply al_len); (iterate 3 exact rfl)) | ((with_reducible apply al_guard_b (c := true)); exact rfl; exact rfl; (first | assumption | exact decide_eq_true (by omega) | (simp only [Bool.not_eq_true', decide_eq_false_iff_not, decide_eq_true_eq, Bool.not_eq_false']; (first | done | omega)))) | ((with_reducible apply awp_seq)) | ((with_reducible apply athen_normal)) | ((with_reducible apply awp_region)) | ((with_reducible apply al_nil)) | ((with_reducible apply awp_ret)) | ((with_reducible apply athen_ret)) | ((with_reducible apply awp_cond_t); exact rfl)))
    (first | (refine apost_ret rfl (resl_tmp rfl resl_nil) ?_))
    exact AV.Le.refl _
  · have R1 := p_gRight (k := k)
    rw [show (decide (0 ≤ k) && decide (k ≤ 28)) = false by
      rcases Int.lt_or_le k 0 with h | h
      · rw [decide_eq_false (by omega)]; rfl
      · rw [decide_eq_false (p := k ≤ 28) (by omega)]; simp] at R1
    refine pcall_body (f := 20) Try.func20 rfl rfl rfl rfl ?_
    (repeat (first | ((with_reducible apply al_q); exact rfl) | ((with_reducible apply al_len); (iterate 3 exact rfl)) | (refine al_call1 rfl rfl rfl (by (first | exact R1)) rfl ?_) | ((with_reducible apply al_guard_b (c := false)); exact rfl; exact rfl; (first | assumption | exact decide_eq_false (by omega) | (simp only [Bool.not_eq_true', decide_eq_false_iff_not, decide_eq_true_eq, Bool.not_eq_false']; (first | done | omega)))) | ((with_reducible apply awp_seq)) | ((with_reducible apply athen_normal)) | ((with_reducible apply awp_region)) | ((with_reducible apply al_nil)) | ((with_reducible apply awp_ret)) | ((with_reducible apply athen_ret)) | ((with_reducible apply awp_cond_t); exact rfl)))
    (first | (refine apost_ret rfl (resl_tmp rfl resl_nil) ?_))
    exact AV.Le.refl _
def AdI (D : List Int) (n : Nat) (ts : List (Nat × AV)) (ms : List (Nat × List AC)) : Prop :=
  ∃ (i : Nat) (ii : Int), i ≤ D.length ∧ n = D.length - i ∧ ii = i ∧ (D.take i).all (fun d => decide (1 ≤ d ∧ d ≤ 1048576)) = true ∧ ms = [] ∧ ts = [(5, vIn D), (6, vI D.length), (7, vI ii)]
set_option maxRecDepth 100000 in
set_option maxHeartbeats 8000000 in
theorem p_areDepths {D : List Int} (hb : D.length ≤ 100000) : PCall Try.prog 40 [vIn D] (vB (D.all fun d => decide (1 ≤ d ∧ d ≤ 1048576))) := by
  refine pcall_body (f := 40) Try.func40 rfl rfl rfl rfl ?_
  (repeat (first | ((with_reducible apply al_q); exact rfl) | ((with_reducible apply al_len); (iterate 3 exact rfl)) | ((with_reducible apply awp_seq)) | ((with_reducible apply athen_normal)) | ((with_reducible apply awp_region)) | ((with_reducible apply al_nil)) | ((with_reducible apply awp_block))))
  refine awp_loopL 18 (AdI D) D.length _ [] ⟨0, 0, Nat.zero_le _, rfl, rfl, rfl, rfl, rfl⟩ rfl ⟨rfl, rfl, rfl, trivial⟩ trivial rfl ?_
  rintro n ts ms ⟨i, ii, hi, rfl, hii, hal, rfl, rfl⟩ hok
  clear hok
  by_cases hq : i < D.length
  · have q2 : ii < (D.length : Int) := by omega
    have q3 : 0 ≤ ii := by omega
    obtain ⟨d, g1⟩ : ∃ d, D[i]? = some d := ⟨_, List.getElem?_eq_getElem hq⟩
    have E1 := inC_at hii g1
    have ht : D.take (i + 1) = D.take i ++ [d] := by
      rw [List.take_succ_eq_append_getElem hq, (List.getElem?_eq_some_iff.1 g1).2]
    have no : ¬ (1 ≤ d ∧ d ≤ 1048576) → (D.all fun d => decide (1 ≤ d ∧ d ≤ 1048576)) = false := fun h =>
      List.all_eq_false.2 ⟨d, List.mem_of_getElem? g1, by rw [decide_eq_false h]; decide⟩
    by_cases c1 : d < 1
    · rw [no (by omega)]
      (repeat (first | ((with_reducible apply al_q); exact rfl) | ((with_reducible apply al_loadP1); (iterate 5 exact rfl)) | ((with_reducible apply al_idxS); (iterate 3 exact rfl); (first | decide | omega); (first | decide | omega); (first | assumption | rfl); exact rfl) | ((with_reducible apply al_guard_b (c := true)); exact rfl; exact rfl; (first | assumption | exact decide_eq_true (by omega) | (simp only [Bool.not_eq_true', decide_eq_false_iff_not, decide_eq_true_eq, Bool.not_eq_false']; (first | done | omega)))) | ((with_reducible apply awp_seq)) | ((with_reducible apply athen_normal)) | ((with_reducible apply awp_region)) | ((with_reducible apply al_nil)) | ((with_reducible apply awp_ret)) | ((with_reducible apply awp_skip)) | ((with_reducible apply athen_ret)) | ((with_reducible apply awp_block)) | ((with_reducible apply ablock_ret)) | ((with_reducible apply awp_cond_t); exact rfl) | ((with_reducible apply awp_cond_1); exact rfl; (first | assumption | exact decide_eq_true (by omega) | (simp only [Bool.not_eq_true', decide_eq_false_iff_not, decide_eq_true_eq, Bool.not_eq_false']; (first | done | omega))))))
      (first | (refine apost_ret rfl (resl_tmp rfl resl_nil) ?_))
      exact AV.Le.refl _
    · by_cases c2 : d > 1048576
      · rw [no (by omega)]
        (repeat (first | ((with_reducible apply al_q); exact rfl) | ((with_reducible apply al_loadP1); (iterate 5 exact rfl)) | ((with_reducible apply al_idxS); (iterate 3 exact rfl); (first | decide | omega); (first | decide | omega); (first | assumption | rfl); exact rfl) | ((with_reducible apply al_guard_b (c := false)); exact rfl; exact rfl; (first | assumption | exact decide_eq_false (by omega) | (simp only [Bool.not_eq_true', decide_eq_false_iff_not, decide_eq_true_eq, Bool.not_eq_false']; (first | done | omega)))) | ((with_reducible apply awp_seq)) | ((with_reducible apply athen_normal)) | ((with_reducible apply awp_region)) | ((with_reducible apply al_nil)) | ((with_reducible apply awp_ret)) | ((with_reducible apply awp_skip)) | ((with_reducible apply athen_ret)) | ((with_reducible apply awp_block)) | ((with_reducible apply ablock_ret)) | ((with_reducible apply awp_cond_1); exact rfl; (first | assumption | exact decide_eq_true (by omega) | (simp only [Bool.not_eq_true', decide_eq_false_iff_not, decide_eq_true_eq, Bool.not_eq_false']; (first | done | omega))))))
        (first | (refine apost_ret rfl (resl_tmp rfl resl_nil) ?_))
        exact AV.Le.refl _
      · have e : (D.take (i + 1)).all (fun d => decide (1 ≤ d ∧ d ≤ 1048576)) = true := by
          rw [ht, List.all_append, hal]; simp; omega
        (repeat (first | ((with_reducible apply al_q); exact rfl) | ((with_reducible apply al_loadP1); (iterate 5 exact rfl)) | ((with_reducible apply al_idxS); (iterate 3 exact rfl); (first | decide | omega); (first | decide | omega); (first | assumption | rfl); exact rfl) | ((with_reducible apply al_add); (iterate 3 exact rfl); (first | exact i64_wrap (by omega) | assumption | rfl); exact rfl) | ((with_reducible apply al_guard_b (c := false)); exact rfl; exact rfl; (first | assumption | exact decide_eq_false (by omega) | (simp only [Bool.not_eq_true', decide_eq_false_iff_not, decide_eq_true_eq, Bool.not_eq_false']; (first | done | omega)))) | ((with_reducible apply awp_seq)) | ((with_reducible apply athen_normal)) | ((with_reducible apply awp_region)) | ((with_reducible apply al_nil)) | ((with_reducible apply awp_skip)) | ((with_reducible apply awp_block)) | ((with_reducible apply ablock_normal)) | ((with_reducible apply awp_cond_1); exact rfl; (first | assumption | exact decide_eq_true (by omega) | (simp only [Bool.not_eq_true', decide_eq_false_iff_not, decide_eq_true_eq, Bool.not_eq_false']; (first | done | omega)))) | ((with_reducible apply awp_cond_0); exact rfl; (first | assumption | exact decide_eq_false (by omega) | (simp only [Bool.not_eq_true', decide_eq_false_iff_not, decide_eq_true_eq, Bool.not_eq_false']; (first | done | omega))))))
        exact ⟨D.length - (i + 1), _, [], by omega, ⟨i + 1, ii + 1, by omega, rfl, by omega, e, rfl, rfl⟩, rfl, ⟨rfl, rfl, rfl, trivial⟩, trivial, rfl⟩
  · have q2 : ¬ ii < (D.length : Int) := by omega
    rw [List.take_of_length_le (by omega)] at hal
    rw [hal]
    (repeat (first | ((with_reducible apply al_q); exact rfl) | ((with_reducible apply awp_seq)) | ((with_reducible apply athen_normal)) | ((with_reducible apply awp_region)) | ((with_reducible apply al_nil)) | ((with_reducible apply awp_ret)) | ((with_reducible apply ablock_same)) | ((with_reducible apply awp_exit)) | ((with_reducible apply athen_exit)) | ((with_reducible apply awp_cond_0); exact rfl; (first | assumption | exact decide_eq_false (by omega) | (simp only [Bool.not_eq_true', decide_eq_false_iff_not, decide_eq_true_eq, Bool.not_eq_false']; (first | done | omega))))))
    (first | (refine apost_ret rfl (resl_tmp rfl resl_nil) ?_))
    exact AV.Le.refl _
def neP (p q : Px) : Bool := eqP p.1 p.2 q.1 q.2
def rgP (p q : Px) : Bool := decide (q.1 > p.1)
def lfP (p q : Px) : Bool := decide (q.1 < p.1)
def upP (p q : Px) : Bool := decide (q.2 > p.2)
def dnP (p q : Px) : Bool := decide (q.2 < p.2)
def goB (V : List Px) : Bool := !anyN neP V && (!(anyN rgP V && anyN lfP V) && !(anyN upP V && anyN dnP V))
def GoI (V : List Px) (n : Nat) (ts : List (Nat × AV)) (ms : List (Nat × List AC)) : Prop :=
  ∃ (i : Nat) (ii : Int) (b1 b2 b3 b4 : Bool), n = V.length + 1 - i ∧ ii = i ∧ 1 ≤ i ∧ i ≤ V.length + 1 ∧ anyN neP (V.take i) = false ∧ anyN rgP (V.take i) = b1 ∧ anyN lfP (V.take i) = b2 ∧ anyN upP (V.take i) = b3 ∧ anyN dnP (V.take i) = b4 ∧ ms = [] ∧ ts = [(0, vIt V), (3, vB b1), (4, vB b2), (5, vB b3), (6, vB b4), (7, vI ii)]
set_option maxRecDepth 100000 in
set_option maxHeartbeats 16000000 in
theorem p_goOn {V : List Px} (hb : V.length ≤ 100000) : PCall Try.prog 39 [vIt V] (vB (goB V)) := by
  refine pcall_body (f := 39) Try.func39 rfl rfl rfl rfl ?_
  (repeat (first | ((with_reducible apply al_q); exact rfl) | ((with_reducible apply awp_seq)) | ((with_reducible apply athen_normal)) | ((with_reducible apply awp_region)) | ((with_reducible apply al_nil)) | ((with_reducible apply awp_block))))
  refine awp_loopL 72 (GoI V) (V.length + 1 - 1) _ [] ⟨1, 1, false, false, false, false, rfl, rfl, Nat.le_refl _, by omega, anyN_first V, anyN_first V, anyN_first V, anyN_first V, anyN_first V, rfl, rfl⟩ rfl ⟨rfl, rfl, rfl, rfl, rfl, rfl, trivial⟩ trivial rfl ?_
  rintro n ts ms ⟨i, ii, b1, b2, b3, b4, rfl, hii, hi1, hi, h0, h1, h2, h3, h4, rfl, rfl⟩ hok
  clear hok
  by_cases hq : i < V.length
  · have q2 : ii < (V.length : Int) := by omega
    have q3 : 0 ≤ ii := by omega
    have q4 : 0 ≤ ii - 1 := by omega
    have q5 : ii - 1 < (V.length : Int) := by omega
    have w1 : IntKind.i64.wrap (ii - 1) = ii - 1 := i64_wrap (by omega)
    obtain ⟨k, rfl⟩ : ∃ k, i = k + 1 := ⟨i - 1, by omega⟩
    obtain ⟨x, y, g1⟩ : ∃ x y, V[k]? = some (x, y) := ⟨_, _, List.getElem?_eq_getElem (by omega)⟩
    obtain ⟨z, w, g2⟩ : ∃ z w, V[k + 1]? = some (z, w) := ⟨_, _, List.getElem?_eq_getElem hq⟩
    have E1 := itC_xy (j := ii - 1) (i := k) (by omega) g1
    have E2 := itC_xy hii g2
    have s0 := anyN_step (c := neP) g1 g2
    have s1 := anyN_step (c := rgP) g1 g2
    have s2 := anyN_step (c := lfP) g1 g2
    have s3 := anyN_step (c := upP) g1 g2
    have s4 := anyN_step (c := dnP) g1 g2
    rw [h0] at s0
    rw [h1] at s1
    rw [h2] at s2
    rw [h3] at s3
    rw [h4] at s4
    cases he : eqP x y z w with
    | true =>
      have e : goB V = false := by
        unfold goB
        rw [anyN_take (c := neP) (V := V) (k := k + 2) (by rw [s0]; exact he)]; rfl
      rw [e]
      clear s0 s1 s2 s3 s4 h0 h1 h2 h3 h4
      (repeat (first | ((with_reducible apply al_q); exact rfl) | ((with_reducible apply al_loadPN); (iterate 5 exact rfl)) | ((with_reducible apply al_idxS); (iterate 3 exact rfl); (first | decide | omega); (first | decide | omega); (first | assumption | rfl); exact rfl) | ((with_reducible apply al_eqP); (iterate 4 exact rfl)) | ((with_reducible apply al_sub); (iterate 3 exact rfl); (first | exact i64_wrap (by omega) | assumption | rfl); exact rfl) | ((with_reducible apply al_len); (iterate 3 exact rfl)) | ((with_reducible apply al_nilS); kernel_rfl) | ((with_reducible apply awp_region_draw); kernel_rfl; kernel_rfl; exact rfl) | ((with_reducible apply awp_seq)) | ((with_reducible apply athen_normal)) | ((with_reducible apply awp_region)) | ((with_reducible apply al_nil)) | ((with_reducible apply awp_ret)) | ((with_reducible apply awp_skip)) | ((with_reducible apply athen_ret)) | ((with_reducible apply awp_block)) | ((with_reducible apply ablock_ret)) | ((with_reducible apply awp_cond_1); exact rfl; (first | assumption | exact decide_eq_true (by omega) | (simp only [Bool.not_eq_true', decide_eq_false_iff_not, decide_eq_true_eq, Bool.not_eq_false']; (first | done | omega))))))
      (first | (refine apost_ret rfl (resl_tmp rfl resl_nil) ?_))
      exact AV.Le.refl _
    | false =>
      have e0 : anyN neP (V.take (k + 2)) = false := by rw [s0]; exact he
      clear s0 h0 h1 h2 h3 h4
      cases b1 <;> cases b2 <;> cases b3 <;> cases b4
      all_goals
        (repeat (first | ((with_reducible apply al_q); exact rfl) | ((with_reducible apply al_loadPN); (iterate 5 exact rfl)) | ((with_reducible apply al_idxS); (iterate 3 exact rfl); (first | decide | omega); (first | decide | omega); (first | assumption | rfl); exact rfl) | ((with_reducible apply al_eqP); (iterate 4 exact rfl)) | ((with_reducible apply al_add); (iterate 3 exact rfl); (first | exact i64_wrap (by omega) | assumption | rfl); exact rfl) | ((with_reducible apply al_sub); (iterate 3 exact rfl); (first | exact i64_wrap (by omega) | assumption | rfl); exact rfl) | ((with_reducible apply al_len); (iterate 3 exact rfl)) | ((with_reducible apply al_nilS); kernel_rfl) | ((with_reducible apply awp_region_draw); kernel_rfl; kernel_rfl; exact rfl) | ((with_reducible apply awp_seq)) | ((with_reducible apply athen_normal)) | ((with_reducible apply awp_region)) | ((with_reducible apply al_nil)) | ((with_reducible apply awp_skip)) | ((with_reducible apply awp_block)) | ((with_reducible apply ablock_normal)) | ((with_reducible apply awp_cond_1); exact rfl; (first | assumption | exact decide_eq_true (by omega) | (simp only [Bool.not_eq_true', decide_eq_false_iff_not, decide_eq_true_eq, Bool.not_eq_false']; (first | done | omega)))) | ((with_reducible apply awp_cond_0); exact rfl; (first | assumption | exact decide_eq_false (by omega) | (simp only [Bool.not_eq_true', decide_eq_false_iff_not, decide_eq_true_eq, Bool.not_eq_false']; (first | done | omega))))))
        exact ⟨V.length + 1 - (k + 2), _, [], by omega, ⟨k + 2, ii + 1, _, _, _, _, rfl, by omega, by omega, by omega, e0, s1, s2, s3, s4, rfl, rfl⟩, rfl, ⟨rfl, rfl, rfl, rfl, rfl, rfl, trivial⟩, trivial, rfl⟩
  · have q2 : ¬ ii < (V.length : Int) := by omega
    rw [List.take_of_length_le (by omega)] at h0 h1 h2 h3 h4
    have e : goB V = (!(b1 && b2) && !(b3 && b4)) := by unfold goB; rw [h0, h1, h2, h3, h4]; rfl
    rw [e]
    clear h0 h1 h2 h3 h4 e
    cases b1 <;> cases b2 <;> cases b3 <;> cases b4
    all_goals
      (repeat (first | ((with_reducible apply al_q); exact rfl) | ((with_reducible apply al_len); (iterate 3 exact rfl)) | ((with_reducible apply awp_seq)) | ((with_reducible apply athen_normal)) | ((with_reducible apply awp_region)) | ((with_reducible apply al_nil)) | ((with_reducible apply awp_ret)) | ((with_reducible apply ablock_same)) | ((with_reducible apply awp_exit)) | ((with_reducible apply athen_exit)) | ((with_reducible apply awp_cond_0); exact rfl; (first | assumption | exact decide_eq_false (by omega) | (simp only [Bool.not_eq_true', decide_eq_false_iff_not, decide_eq_true_eq, Bool.not_eq_false']; (first | done | omega))))))
      (first | (refine apost_ret rfl (resl_tmp rfl resl_nil) ?_))
      exact AV.Le.refl _
theorem rtB_all {r : Nat} {V : List Px} {D : List Int} : rtB r V D = (decide (0 < V.length) && ((V.all fun v => inB r v.1 v.2) && (goB V && (decide ((D.length : Int) = (V.length : Int) - 1) && D.all fun d => decide (1 ≤ d ∧ d ≤ 1048576))))) := by
  have key : rtV r V D ↔ (decide (0 < V.length) && ((V.all fun v => inB r v.1 v.2) && (goB V && (decide ((D.length : Int) = (V.length : Int) - 1) && D.all fun d => decide (1 ≤ d ∧ d ≤ 1048576))))) = true := by
    rw [rtV_any]
    unfold goB
    simp only [Bool.and_eq_true, decide_eq_true_eq, List.all_eq_true, Bool.not_eq_true', Bool.and_eq_false_iff]
    constructor
    · rintro ⟨g1, g2, g3, g4, g5, g6, g7⟩
      exact ⟨by cases V <;> simp_all, g3, ⟨g4, g6.symm, g7.symm⟩, by omega, g5⟩
    · rintro ⟨g1, g3, ⟨g4, g6, g7⟩, g2, g5⟩
      exact ⟨fun h => by simp [h] at g1, by omega, g3, g4, g5, g6.symm, g7.symm⟩
  by_cases h : rtV r V D
  · rw [rtB_of h]; exact (key.1 h).symm
  · rw [rtB_no h]
    cases hb : (decide (0 < V.length) && ((V.all fun v => inB r v.1 v.2) && (goB V && (decide ((D.length : Int) = (V.length : Int) - 1) && D.all fun d => decide (1 ≤ d ∧ d ≤ 1048576))))) with
    | false => rfl
    | true => exact absurd (key.2 hb) h
set_option maxRecDepth 100000 in
set_option maxHeartbeats 8000000 in
theorem right_core {V : List Px} {D : List Int} {k : Int} {b1 b2 b4 : Bool} (hb : V.length ≤ 1000) (C1 : PCall Try.prog 20 [vIt V, vI k] (vB b1)) (C2 : PCall Try.prog 39 [vIt V] (vB b2)) (C4 : PCall Try.prog 40 [vIn D] (vB b4)) : PCall Try.prog 16 [vCh V D, vI k] (vB (b1 && (b2 && (decide ((D.length : Int) = (V.length : Int) - 1) && b4)))) := by
  by_cases q : (D.length : Int) = (V.length : Int) - 1
  · rw [decide_eq_true q]
    cases b1 <;> cases b2 <;> cases b4
    all_goals
      refine pcall_body (f := 16) Try.func16 rfl rfl rfl rfl ?_
      (repeat (first | ((with_reducible apply al_q); exact rfl) | ((with_reducible apply al_sub); (iterate 3 exact rfl); (first | exact i64_wrap (by omega) | assumption | rfl); exact rfl) | ((with_reducible apply al_len); (iterate 3 exact rfl)) | (refine al_call1 rfl rfl rfl (by (first | exact C1 | exact C2 | exact C4)) rfl ?_) | (refine al_call2 rfl rfl rfl rfl (by (first | exact C1 | exact C2 | exact C4)) rfl ?_) | ((with_reducible apply al_guard_b (c := true)); exact rfl; exact rfl; (first | assumption | exact decide_eq_true (by omega) | (simp only [Bool.not_eq_true', decide_eq_false_iff_not, decide_eq_true_eq, Bool.not_eq_false']; (first | done | omega)))) | ((with_reducible apply awp_seq)) | ((with_reducible apply athen_normal)) | ((with_reducible apply awp_region)) | ((with_reducible apply al_nil)) | ((with_reducible apply awp_ret))))
      (first | (refine apost_ret rfl (resl_tmp rfl resl_nil) ?_))
      exact AV.Le.refl _
  · rw [decide_eq_false q]
    cases b1 <;> cases b2
    all_goals
      simp only [Bool.false_and, Bool.and_false, Bool.true_and]
      clear C4
      refine pcall_body (f := 16) Try.func16 rfl rfl rfl rfl ?_
      (repeat (first | ((with_reducible apply al_q); exact rfl) | ((with_reducible apply al_sub); (iterate 3 exact rfl); (first | exact i64_wrap (by omega) | assumption | rfl); exact rfl) | ((with_reducible apply al_len); (iterate 3 exact rfl)) | (refine al_call1 rfl rfl rfl (by (first | exact C1 | exact C2)) rfl ?_) | (refine al_call2 rfl rfl rfl rfl (by (first | exact C1 | exact C2)) rfl ?_) | ((with_reducible apply al_guard_b (c := false)); exact rfl; exact rfl; (first | assumption | exact decide_eq_false (by omega) | (simp only [Bool.not_eq_true', decide_eq_false_iff_not, decide_eq_true_eq, Bool.not_eq_false']; (first | done | omega)))) | ((with_reducible apply awp_seq)) | ((with_reducible apply athen_normal)) | ((with_reducible apply awp_region)) | ((with_reducible apply al_nil)) | ((with_reducible apply awp_ret))))
      (first | (refine apost_ret rfl (resl_tmp rfl resl_nil) ?_))
      exact AV.Le.refl _
theorem k_Right10 : CRight10 := by
  intro V D r hr hb hd hin hdd
  rw [rtB_all]
  have C2 := p_goOn (V := V) (by omega)
  have C4 := p_areDepths (D := D) (by omega)
  by_cases h : 0 < V.length
  · rw [decide_eq_true h, Bool.true_and]
    exact right_core hb (p_areIn_yes hr h (by omega)) C2 C4
  · rw [decide_eq_false h, Bool.false_and]
    have := right_core hb (p_areIn_no (k := (r : Int)) (.inl (by omega))) C2 C4
    rwa [Bool.false_and] at this
end Go.Proofs.Ytlglajaonmpljaa

namespace Go.Proofs.Ytlglajaonmpljaa
set_option linter.unusedVariables false
set_option linter.unusedSimpArgs false
/-- is the first one of two shares ahead? -/
def ahS (x y : Int × Int) : Bool := decide (x.1 * y.2 < y.1 * x.2)
def latS (x y : Int × Int) : Int × Int := bif ahS x y then y else x
def shrF (p q m far : Int) : Int × Int := if 2 * (q - p) > 0 then (2 * (m - p) - far, 2 * (q - p)) else if 2 * (q - p) < 0 then (-(2 * (m - p) + far), -(2 * (q - p))) else if 2 * (m - p) - far > 0 ∨ 2 * (m - p) + far < 0 then (1, 1) else (0, 1)
def shrT (p q m far : Int) : Int × Int := if 2 * (q - p) > 0 then (2 * (m - p) + far, 2 * (q - p)) else if 2 * (q - p) < 0 then (-(2 * (m - p) - far), -(2 * (q - p))) else if 2 * (m - p) - far > 0 ∨ 2 * (m - p) + far < 0 then (0, 1) else (1, 1)
abbrev fS (x : Int × Int) : Rat := frq x.1 x.2
theorem ahS_no {x y : Int × Int} (hx : 0 < x.2) (hy : 0 < y.2) : ahS x y = false ↔ fS y ≤ fS x := by
  unfold ahS fS; rw [frq_le hy hx, decide_eq_false_iff_not, Int.not_lt]
theorem latS_pos {x y : Int × Int} (hx : 0 < x.2) (hy : 0 < y.2) : 0 < (latS x y).2 := by
  unfold latS; cases ahS x y <;> assumption
theorem latS_le {x y : Int × Int} (hx : 0 < x.2) (hy : 0 < y.2) {t : Rat} : fS (latS x y) ≤ t ↔ fS x ≤ t ∧ fS y ≤ t := by
  unfold latS
  cases h : ahS x y with
  | false => exact ⟨fun g => ⟨g, Rat.le_trans ((ahS_no hx hy).1 h) g⟩, fun g => g.1⟩
  | true =>
    have h1 : fS x ≤ fS y := by
      rcases Rat.le_total (a := fS x) (b := fS y) with g | g
      · exact g
      · rw [(ahS_no hx hy).2 g] at h; cases h
    exact ⟨fun g => ⟨Rat.le_trans h1 g, g⟩, fun g => g.2⟩
theorem shrF_pos (p q m far : Int) : 0 < (shrF p q m far).2 := by
  unfold shrF
  split
  · assumption
  · split
    · show 0 < -(2 * (q - p)); omega
    · split <;> decide
theorem shrT_pos (p q m far : Int) : 0 < (shrT p q m far).2 := by
  unfold shrT
  split
  · assumption
  · split
    · show 0 < -(2 * (q - p)); omega
    · split <;> decide
theorem frq_leR {n d : Int} {t : Rat} (hd : 0 < d) : frq n d ≤ t ↔ rc n ≤ t * rc d := by
  have d0 := rc_pos hd
  have e1 : frq n d * rc d = rc n := rc_div hd
  rw [← e1]
  generalize frq n d = x
  constructor
  · intro h
    have := Rat.mul_nonneg (show 0 ≤ t - x by grind) (Rat.le_of_lt d0)
    grind
  · intro h
    refine Rat.not_lt.1 fun hlt => ?_
    have := Rat.mul_pos (show 0 < x - t by grind) d0
    grind
theorem frq_geR {n d : Int} {t : Rat} (hd : 0 < d) : t ≤ frq n d ↔ t * rc d ≤ rc n := by
  have d0 := rc_pos hd
  have e1 : frq n d * rc d = rc n := rc_div hd
  rw [← e1]
  generalize frq n d = x
  constructor
  · intro h
    have := Rat.mul_nonneg (show 0 ≤ x - t by grind) (Rat.le_of_lt d0)
    grind
  · intro h
    refine Rat.not_lt.1 fun hlt => ?_
    have := Rat.mul_pos (show 0 < t - x by grind) d0
    grind
theorem shr_in {p q m far : Int} {t : Rat} (h0 : 0 ≤ t) (h1 : t ≤ 1) : (fS (shrF p q m far) ≤ t ∧ t ≤ fS (shrT p q m far)) ↔ nrC (rc p) (rc q) (2 * rc m) (rc far) t := by
  unfold shrF shrT fS nrC
  by_cases c1 : 2 * (q - p) > 0
  · rw [if_pos c1, if_pos c1]
    simp only
    rw [frq_leR c1, frq_geR c1]
    simp only [rc, Rat.intCast_sub, Rat.intCast_mul, Rat.intCast_neg, Rat.intCast_add]
    constructor
    · rintro ⟨g1, g2⟩; constructor <;> grind
    · rintro ⟨g1, g2⟩; constructor <;> grind
  · rw [if_neg c1, if_neg c1]
    by_cases c2 : 2 * (q - p) < 0
    · have c3 : 0 < -(2 * (q - p)) := by omega
      rw [if_pos c2, if_pos c2]
      simp only
      rw [frq_leR c3, frq_geR c3]
      simp only [rc, Rat.intCast_sub, Rat.intCast_mul, Rat.intCast_neg, Rat.intCast_add]
      constructor
      · rintro ⟨g1, g2⟩; constructor <;> grind
      · rintro ⟨g1, g2⟩; constructor <;> grind
    · rw [if_neg c2, if_neg c2]
      have e : q = p := by omega
      subst e
      have e1 : ∀ g : Rat, 2 * rc q + t * (2 * (rc q - rc q)) - 2 * rc m = rc (2 * (q - m)) := fun g => by
        simp only [rc, Rat.intCast_sub, Rat.intCast_mul]; grind
      rw [e1 0, show -rc far = rc (-far) by simp [rc, Rat.intCast_neg], rc_le, rc_le]
      by_cases c3 : 2 * (m - q) - far > 0 ∨ 2 * (m - q) + far < 0
      · rw [if_pos c3, if_pos c3]
        simp only [frq_0, frq_1]
        constructor
        · rintro ⟨g1, g2⟩; exact absurd (Rat.le_trans g1 g2) (by decide)
        · rintro ⟨g1, g2⟩; omega
      · rw [if_neg c3, if_neg c3]
        simp only [frq_0, frq_1]
        exact ⟨fun _ => ⟨by omega, by omega⟩, fun _ => ⟨h0, h1⟩⟩
/-- the place up to which one has come, behind a vertex. -/
def nxS (a1 a2 b1 b2 S far : Int) (c : Int × Int) (v : Px) : Int × Int := latS (latS c (shrF a1 b1 (S * v.1) far)) (shrF a2 b2 (S * v.2) far)
def grd (a1 a2 b1 b2 S far : Int) : Int × Int → List Px → Bool
  | c, [] => !ahS (1, 1) c
  | c, v :: V => !ahS (shrT a1 b1 (S * v.1) far) (nxS a1 a2 b1 b2 S far c v) && (!ahS (shrT a2 b2 (S * v.2) far) (nxS a1 a2 b1 b2 S far c v) && grd a1 a2 b1 b2 S far (nxS a1 a2 b1 b2 S far c v) V)
theorem nxS_pos {a1 a2 b1 b2 S far : Int} {c : Int × Int} (v : Px) (hc : 0 < c.2) : 0 < (nxS a1 a2 b1 b2 S far c v).2 := latS_pos (latS_pos hc (shrF_pos _ _ _ _)) (shrF_pos _ _ _ _)
theorem nxS_le {a1 a2 b1 b2 S far : Int} {c : Int × Int} {v : Px} {t : Rat} (hc : 0 < c.2) : fS (nxS a1 a2 b1 b2 S far c v) ≤ t ↔ fS c ≤ t ∧ fS (shrF a1 b1 (S * v.1) far) ≤ t ∧ fS (shrF a2 b2 (S * v.2) far) ≤ t := by
  unfold nxS
  rw [latS_le (latS_pos hc (shrF_pos _ _ _ _)) (shrF_pos _ _ _ _), latS_le hc (shrF_pos _ _ _ _), and_assoc]
theorem nrP_shr {a1 a2 b1 b2 S far : Int} {t : Rat} {v : Px} (h0 : 0 ≤ t) (h1 : t ≤ 1) : nrP a1 a2 b1 b2 S (rc far) t v ↔ (fS (shrF a1 b1 (S * v.1) far) ≤ t ∧ t ≤ fS (shrT a1 b1 (S * v.1) far)) ∧ (fS (shrF a2 b2 (S * v.2) far) ≤ t ∧ t ≤ fS (shrT a2 b2 (S * v.2) far)) := by
  rw [shr_in h0 h1, shr_in h0 h1]
  unfold nrP
  have e1 : rc (S * v.1) = rc S * rc v.1 := by simp [rc, Rat.intCast_mul]
  have e2 : rc (S * v.2) = rc S * rc v.2 := by simp [rc, Rat.intCast_mul]
  rw [e1, e2]
/-- to wait as long as may be is as good as any way. -/
theorem grd_iff {a1 a2 b1 b2 S far : Int} : ∀ (V : List Px) (c : Int × Int), 0 < c.2 → 0 ≤ fS c → (grd a1 a2 b1 b2 S far c V = true ↔ fS c ≤ 1 ∧ clF (nrP a1 a2 b1 b2 S (rc far)) (fS c) V)
  | [], c, hc, h0 => by
    unfold grd clF
    rw [Bool.not_eq_true', ahS_no (by decide) hc, show fS (1, 1) = 1 from frq_1]
    exact ⟨fun h => ⟨h, trivial⟩, fun h => h.1⟩
  | v :: V, c, hc, h0 => by
    have hn := nxS_pos (a1 := a1) (a2 := a2) (b1 := b1) (b2 := b2) (S := S) (far := far) v hc
    have hle := fun t => nxS_le (a1 := a1) (a2 := a2) (b1 := b1) (b2 := b2) (S := S) (far := far) (v := v) (t := t) hc
    have hself := (hle (fS (nxS a1 a2 b1 b2 S far c v))).1 Rat.le_refl
    have hn0 : 0 ≤ fS (nxS a1 a2 b1 b2 S far c v) := Rat.le_trans h0 hself.1
    have ih := grd_iff (a1 := a1) (a2 := a2) (b1 := b1) (b2 := b2) (S := S) (far := far) V (nxS a1 a2 b1 b2 S far c v) hn hn0
    unfold grd clF
    rw [Bool.and_eq_true, Bool.and_eq_true, Bool.not_eq_true', Bool.not_eq_true', ahS_no (shrT_pos _ _ _ _) hn, ahS_no (shrT_pos _ _ _ _) hn, ih]
    constructor
    · rintro ⟨g1, g2, g3, g4⟩
      refine ⟨Rat.le_trans hself.1 g3, fS (nxS a1 a2 b1 b2 S far c v), hself.1, g3, ?_, g4⟩
      exact (nrP_shr hn0 g3).2 ⟨⟨hself.2.1, g1⟩, hself.2.2, g2⟩
    · rintro ⟨g0, t, g1, g2, g3, g4⟩
      obtain ⟨⟨p1, p2⟩, p3, p4⟩ := (nrP_shr (Rat.le_trans h0 g1) g2).1 g3
      have hx := (hle t).2 ⟨g1, p1, p3⟩
      exact ⟨Rat.le_trans hx p2, Rat.le_trans hx p4, Rat.le_trans hx g2, clF_less hx g4⟩
/-- what Near tells of one point. -/
theorem neB_pt {a1 a2 c1 c2 far : Int} : neB a1 a2 a1 a2 c1 c2 far = true ↔ rB5 a1 a2 = true ∧ rB5 c1 c2 = true ∧ 0 ≤ far ∧ far ≤ 268435456 ∧ (2 * c1 - far ≤ 2 * a1 ∧ 2 * a1 ≤ 2 * c1 + far) ∧ 2 * c2 - far ≤ 2 * a2 ∧ 2 * a2 ≤ 2 * c2 + far := by
  have hol : ∀ u n d : Int, 0 < d → (Hol u u true n d ↔ 0 ≤ u) := fun u n d hd => by
    unfold Hol
    have e : u * (d - n) + u * n = u * d := by grind
    rw [e]
    constructor
    · intro h
      have : 0 ≤ u * d := by
        rcases h with h | ⟨_, h⟩
        · omega
        · omega
      exact Int.nonneg_of_mul_nonneg_left this hd
    · intro h
      have := Int.mul_nonneg h (show 0 ≤ d by omega)
      rcases Int.lt_or_eq_of_le this with g | g
      · exact .inl g
      · exact .inr ⟨rfl, g.symm⟩
  unfold neB
  simp only [Bool.and_eq_true, Bool.not_eq_true', decide_eq_false_iff_not]
  rw [meB_iff, meR_iff]
  unfold MetB
  constructor
  · rintro ⟨⟨⟨g1, g2⟩, g3⟩, ⟨g4, _⟩, n, d, hd, hn, h1, h2, h3, h4⟩
    have k1 := (hol _ n d hd).1 h1
    have k2 := (hol _ n d hd).1 h2
    have k3 := (hol _ n d hd).1 h3
    have k4 := (hol _ n d hd).1 h4
    exact ⟨g4, g1, by omega, by omega, ⟨by omega, by omega⟩, by omega, by omega⟩
  · rintro ⟨g1, g2, g3, g4, ⟨k1, k2⟩, k3, k4⟩
    have b := rB5_iff.1 g2
    refine ⟨⟨⟨g2, by omega⟩, by omega⟩, ⟨g1, g1, co6_iff.2 ⟨by omega, by omega⟩, co6_iff.2 ⟨by omega, by omega⟩, rfl⟩, 0, 1, by decide, by decide, ?_, ?_, ?_, ?_⟩
    · exact (hol _ 0 1 (by decide)).2 (by omega)
    · exact (hol _ 0 1 (by decide)).2 (by omega)
    · exact (hol _ 0 1 (by decide)).2 (by omega)
    · exact (hol _ 0 1 (by decide)).2 (by omega)
theorem nr_0 {a1 a2 b1 b2 S far : Int} {v : Px} : nrP a1 a2 b1 b2 S (rc far) 0 v ↔ (2 * (S * v.1) - far ≤ 2 * a1 ∧ 2 * a1 ≤ 2 * (S * v.1) + far) ∧ 2 * (S * v.2) - far ≤ 2 * a2 ∧ 2 * a2 ≤ 2 * (S * v.2) + far := by
  unfold nrP nrC
  have e : ∀ a b x : Int, (-rc far ≤ 2 * rc a + 0 * (2 * (rc b - rc a)) - 2 * (rc S * rc x) ↔ 2 * (S * x) - far ≤ 2 * a) ∧ (2 * rc a + 0 * (2 * (rc b - rc a)) - 2 * (rc S * rc x) ≤ rc far ↔ 2 * a ≤ 2 * (S * x) + far) := fun a b x => by
    have e1 : 2 * rc a + 0 * (2 * (rc b - rc a)) - 2 * (rc S * rc x) = rc (2 * a - 2 * (S * x)) := by simp only [rc, Rat.intCast_sub, Rat.intCast_mul]; grind
    rw [e1, show -rc far = rc (-far) by simp [rc, Rat.intCast_neg], rc_le, rc_le]
    exact ⟨by omega, by omega⟩
  rw [(e a1 b1 v.1).1, (e a1 b1 v.1).2, (e a2 b2 v.2).1, (e a2 b2 v.2).2]
theorem nr_1 {a1 a2 b1 b2 S far : Int} {v : Px} : nrP a1 a2 b1 b2 S (rc far) 1 v ↔ (2 * (S * v.1) - far ≤ 2 * b1 ∧ 2 * b1 ≤ 2 * (S * v.1) + far) ∧ 2 * (S * v.2) - far ≤ 2 * b2 ∧ 2 * b2 ≤ 2 * (S * v.2) + far := by
  unfold nrP nrC
  have e : ∀ a b x : Int, (-rc far ≤ 2 * rc a + 1 * (2 * (rc b - rc a)) - 2 * (rc S * rc x) ↔ 2 * (S * x) - far ≤ 2 * b) ∧ (2 * rc a + 1 * (2 * (rc b - rc a)) - 2 * (rc S * rc x) ≤ rc far ↔ 2 * b ≤ 2 * (S * x) + far) := fun a b x => by
    have e1 : 2 * rc a + 1 * (2 * (rc b - rc a)) - 2 * (rc S * rc x) = rc (2 * b - 2 * (S * x)) := by simp only [rc, Rat.intCast_sub, Rat.intCast_mul]; grind
    rw [e1, show -rc far = rc (-far) by simp [rc, Rat.intCast_neg], rc_le, rc_le]
    exact ⟨by omega, by omega⟩
  rw [(e a1 b1 v.1).1, (e a1 b1 v.1).2, (e a2 b2 v.2).1, (e a2 b2 v.2).2]
theorem in_right {r : Nat} {x y : Int} (h : inB r x y = true) : rB5 (2 ^ r * x) (2 ^ r * y) = true := rB5_iff.2 (in_big h)
/-- Close's answer, by what the landed code asks. -/
theorem cloB_grd {a1 a2 b1 b2 far : Int} {r : Nat} {V : List Px} {v w : Px} (hr : r ≤ 28) (hv : V.head? = some v) (hw : V.getLast? = some w) (hin : ∀ v ∈ V, inB r v.1 v.2 = true) :
    cloB a1 a2 b1 b2 r far V = (neB a1 a2 a1 a2 (2 ^ r * v.1) (2 ^ r * v.2) far && (neB b1 b2 b1 b2 (2 ^ r * w.1) (2 ^ r * w.2) far && grd a1 a2 b1 b2 (2 ^ r) far (0, 1) V)) := by
  rw [Bool.eq_iff_iff, Bool.and_eq_true, Bool.and_eq_true, neB_pt, neB_pt, cloB_iff, grd_iff V (0, 1) (by decide) (by rw [show fS (0, 1) = 0 from frq_0]; decide), show fS (0, 1) = 0 from frq_0, Int.toNat_natCast]
  unfold preB cloP
  rw [hv, hw]
  have hne : ¬ V.length = 0 := fun h => by rw [List.eq_nil_of_length_eq_zero h] at hv; cases hv
  have iv := in_right (hin v (List.mem_of_mem_head? hv))
  have iw := in_right (hin w (List.mem_of_getLast? hw))
  have hk : (0 : Int) ≤ r ∧ (r : Int) ≤ 28 := by omega
  simp only [Bool.and_eq_true, decide_eq_true_eq, Bool.not_eq_true', decide_eq_false_iff_not, Option.some.injEq, exists_eq_left', nr_0, nr_1]
  constructor
  · rintro ⟨⟨⟨⟨⟨⟨_, g1⟩, g2⟩, g3⟩, g4⟩, _⟩, _, h1, h2, h3⟩
    exact ⟨⟨g1, iv, g3, g4, h1⟩, ⟨g2, iw, g3, g4, h2⟩, by decide, h3⟩
  · rintro ⟨⟨g1, _, g3, g4, h1⟩, ⟨g2, _, _, _, h2⟩, _, h3⟩
    exact ⟨⟨⟨⟨⟨⟨hk, g1⟩, g2⟩, g3⟩, g4⟩, hne⟩, hin, h1, h2, h3⟩
end Go.Proofs.Ytlglajaonmpljaa

namespace Go.Proofs.Ytlglajaonmpljaa
open Go.RowKit
set_option linter.unusedVariables false
set_option linter.unusedSimpArgs false
def okS (x : Int × Int) : Prop := (-1073741824 ≤ x.1 ∧ x.1 ≤ 1073741824) ∧ 0 < x.2 ∧ x.2 ≤ 1073741824
theorem okS_mul {a b : Int} (ha : -1073741824 ≤ a ∧ a ≤ 1073741824) (hb : 0 < b ∧ b ≤ 1073741824) : -1152921504606846976 ≤ a * b ∧ a * b ≤ 1152921504606846976 := by
  have h1 := Int.mul_le_mul_of_nonneg_right ha.2 (show 0 ≤ b by omega)
  have h2 := Int.mul_le_mul_of_nonneg_right ha.1 (show 0 ≤ b by omega)
  omega
set_option maxRecDepth 100000 in
set_option maxHeartbeats 8000000 in
theorem p_isAhead {x y : Int × Int} (hx : okS x) (hy : okS y) : PCall Try.prog 24 [vP x.1 x.2, vP y.1 y.2] (vB (ahS x y)) := by
  obtain ⟨a, b⟩ := x
  obtain ⟨c, d⟩ := y
  have h1 := okS_mul hx.1 hy.2
  have h2 := okS_mul hy.1 hx.2
  simp only at h1 h2
  have w1 : IntKind.i64.wrap (a * d) = a * d := i64_wrap (by omega)
  have w2 : IntKind.i64.wrap (c * b) = c * b := i64_wrap (by omega)
  clear h1 h2 hx hy
  refine pcall_body (f := 24) Try.func24 rfl rfl rfl rfl ?_
  (repeat (first | ((with_reducible apply al_q); exact rfl) | ((with_reducible apply al_mul); (iterate 3 exact rfl); (first | exact i64_wrap (by omega) | assumption | rfl); exact rfl) | ((with_reducible apply awp_seq)) | ((with_reducible apply athen_normal)) | ((with_reducible apply awp_region)) | ((with_reducible apply al_nil)) | ((with_reducible apply awp_ret))))
  (first | (refine apost_ret rfl (resl_tmp rfl resl_nil) ?_))
  exact AV.Le.refl _
abbrev shC (x : Int × Int) : List AC := [.c (.int .i64 x.1), .c (.int .i64 x.2)]
theorem latS_ok {x y : Int × Int} (hx : okS x) (hy : okS y) : okS (latS x y) := by unfold latS; cases ahS x y <;> assumption
def LtI (l : List Px) (x : Int × Int) (n : Nat) (ts : List (Nat × AV)) (ms : List (Nat × List AC)) : Prop :=
  ∃ (i : Nat) (ii : Int) (c : Int × Int), i ≤ l.length ∧ n = l.length - i ∧ ii = i ∧ okS c ∧ c = (l.take i).foldl latS x ∧ ms = [(2, shC c), (4, [.c (.int .i64 0), .c (.int .i64 0)])] ∧ ts = [(2, vOw 2), (4, vOw 4), (7, vIt l), (8, vI l.length), (9, vI ii)]
set_option maxRecDepth 100000 in
set_option maxHeartbeats 8000000 in
theorem p_latest {x : Int × Int} {l : List Px} (hx : okS x) (hl : ∀ y ∈ l, okS y) (hb : l.length ≤ 1000) : PCall Try.prog 23 [vP x.1 x.2, vIt l] (vP (l.foldl latS x).1 (l.foldl latS x).2) := by
  refine pcall_body (f := 23) Try.func23 rfl rfl rfl rfl ?_
  (repeat (first | ((with_reducible apply al_q); exact rfl) | ((with_reducible apply al_len); (iterate 3 exact rfl)) | ((with_reducible apply awp_seq)) | ((with_reducible apply athen_normal)) | ((with_reducible apply awp_region)) | ((with_reducible apply al_nil)) | ((with_reducible apply awp_block))))
  refine awp_loopL 19 (LtI l x) l.length _ [(2, shC x), (4, [.c (.int .i64 0), .c (.int .i64 0)])] ⟨0, 0, x, Nat.zero_le _, rfl, rfl, hx, rfl, rfl, rfl⟩ rfl ⟨rfl, rfl, rfl, rfl, rfl, trivial⟩ ⟨rfl, rfl, trivial⟩ rfl ?_
  rintro n ts ms ⟨i, ii, c, hi, rfl, hii, hc, hce, rfl, rfl⟩ hok
  clear hok
  by_cases hq : i < l.length
  · have q2 : ii < (l.length : Int) := by omega
    have q3 : 0 ≤ ii := by omega
    obtain ⟨y1, y2, g1⟩ : ∃ y1 y2, l[i]? = some (y1, y2) := ⟨_, _, List.getElem?_eq_getElem hq⟩
    have E1 := itC_xy hii g1
    have ho := hl _ (List.mem_of_getElem? g1)
    have C1 := p_isAhead hc ho
    have ht : (l.take (i + 1)).foldl latS x = latS c (y1, y2) := by
      rw [List.take_succ_eq_append_getElem hq, (List.getElem?_eq_some_iff.1 g1).2, List.foldl_append, ← hce]; rfl
    have hn := latS_ok hc ho
    unfold latS at hn ht
    clear hce
    obtain ⟨c1, c2⟩ := c
    cases ha : ahS (c1, c2) (y1, y2) with
    | false =>
      rw [ha] at C1 hn ht
      (repeat (first | ((with_reducible apply al_q); exact rfl) | ((with_reducible apply al_loadPN); (iterate 5 exact rfl)) | ((with_reducible apply al_idxS); (iterate 3 exact rfl); (first | decide | omega); (first | decide | omega); (first | assumption | rfl); exact rfl) | ((with_reducible apply al_add); (iterate 3 exact rfl); (first | exact i64_wrap (by omega) | assumption | rfl); exact rfl) | (refine al_call2 rfl rfl rfl rfl (by (first | exact C1)) rfl ?_) | ((with_reducible apply awp_seq)) | ((with_reducible apply athen_normal)) | ((with_reducible apply awp_region)) | ((with_reducible apply al_nil)) | ((with_reducible apply awp_skip)) | ((with_reducible apply awp_block)) | ((with_reducible apply ablock_normal)) | ((with_reducible apply awp_cond_f); exact rfl) | ((with_reducible apply awp_cond_1); exact rfl; (first | assumption | exact decide_eq_true (by omega) | (simp only [Bool.not_eq_true', decide_eq_false_iff_not, decide_eq_true_eq, Bool.not_eq_false']; (first | done | omega))))))
      exact ⟨l.length - (i + 1), _, [(2, shC (c1, c2)), (4, [.c (.int .i64 0), .c (.int .i64 0)])], by omega, ⟨i + 1, ii + 1, (c1, c2), by omega, rfl, by omega, hn, ht.symm, rfl, rfl⟩, rfl, ⟨rfl, rfl, rfl, rfl, rfl, trivial⟩, ⟨rfl, rfl, trivial⟩, rfl⟩
    | true =>
      rw [ha] at C1 hn ht
      (repeat (first | ((with_reducible apply al_q); exact rfl) | ((with_reducible apply al_loadPN); (iterate 5 exact rfl)) | ((with_reducible apply al_idxS); (iterate 3 exact rfl); (first | decide | omega); (first | decide | omega); (first | assumption | rfl); exact rfl) | ((with_reducible apply al_add); (iterate 3 exact rfl); (first | exact i64_wrap (by omega) | assumption | rfl); exact rfl) | (refine al_call2 rfl rfl rfl rfl (by (first | exact C1)) rfl ?_) | ((with_reducible apply awp_seq)) | ((with_reducible apply athen_normal)) | ((with_reducible apply awp_region)) | ((with_reducible apply al_nil)) | ((with_reducible apply awp_skip)) | ((with_reducible apply awp_block)) | ((with_reducible apply ablock_normal)) | ((with_reducible apply awp_cond_t); exact rfl) | ((with_reducible apply awp_cond_1); exact rfl; (first | assumption | exact decide_eq_true (by omega) | (simp only [Bool.not_eq_true', decide_eq_false_iff_not, decide_eq_true_eq, Bool.not_eq_false']; (first | done | omega))))))
      exact ⟨l.length - (i + 1), _, [(2, shC (y1, y2)), (4, [.c (.int .i64 0), .c (.int .i64 0)])], by omega, ⟨i + 1, ii + 1, (y1, y2), by omega, rfl, by omega, hn, ht.symm, rfl, rfl⟩, rfl, ⟨rfl, rfl, rfl, rfl, rfl, trivial⟩, ⟨rfl, rfl, trivial⟩, rfl⟩
  · have q2 : ¬ ii < (l.length : Int) := by omega
    rw [List.take_of_length_le (by omega)] at hce
    rw [← hce]
    (repeat (first | ((with_reducible apply al_q); exact rfl) | ((with_reducible apply awp_seq)) | ((with_reducible apply athen_normal)) | ((with_reducible apply awp_region)) | ((with_reducible apply al_nil)) | ((with_reducible apply awp_ret)) | ((with_reducible apply ablock_same)) | ((with_reducible apply awp_exit)) | ((with_reducible apply athen_exit)) | ((with_reducible apply awp_cond_0); exact rfl; (first | assumption | exact decide_eq_false (by omega) | (simp only [Bool.not_eq_true', decide_eq_false_iff_not, decide_eq_true_eq, Bool.not_eq_false']; (first | done | omega))))))
    (first | (refine apost_ret rfl (resl_agg rfl rfl rfl resl_nil) ?_) | (refine apost_ret rfl (resl_one rfl rfl rfl resl_nil) ?_))
    exact AV.Le.refl _
set_option maxRecDepth 100000 in
set_option maxHeartbeats 8000000 in
theorem p_stretch {p q m far : Int} (hp : -134217728 ≤ p ∧ p ≤ 134217728) (hq : -134217728 ≤ q ∧ q ≤ 134217728) (hm : -134217728 ≤ m ∧ m ≤ 134217728) (hf : 0 ≤ far ∧ far ≤ 268435456) : PCall Try.prog 22 [vI p, vI q, vI m, vI far] (.tup [.agg (shC (shrF p q m far)), .agg (shC (shrT p q m far))]) := by
  unfold shrF shrT
  by_cases c1 : 2 * (q - p) > 0
  · rw [if_pos c1, if_pos c1]
    refine pcall_body (f := 22) Try.func22 rfl rfl rfl rfl ?_
    (repeat (first | ((with_reducible apply al_q); exact rfl) | ((with_reducible apply al_add); (iterate 3 exact rfl); (first | exact i64_wrap (by omega) | assumption | rfl); exact rfl) | ((with_reducible apply al_sub); (iterate 3 exact rfl); (first | exact i64_wrap (by omega) | assumption | rfl); exact rfl) | ((with_reducible apply al_mul); (iterate 3 exact rfl); (first | exact i64_wrap (by omega) | assumption | rfl); exact rfl) | ((with_reducible apply awp_seq)) | ((with_reducible apply athen_normal)) | ((with_reducible apply awp_region)) | ((with_reducible apply al_nil)) | ((with_reducible apply awp_ret)) | ((with_reducible apply athen_ret)) | ((with_reducible apply awp_block)) | ((with_reducible apply ablock_ret)) | ((with_reducible apply awp_cond_1); exact rfl; (first | assumption | exact decide_eq_true (by omega) | (simp only [Bool.not_eq_true', decide_eq_false_iff_not, decide_eq_true_eq, Bool.not_eq_false']; (first | done | omega))))))
    (first | (refine apost_ret rfl (resl_agg rfl rfl rfl (resl_agg rfl rfl rfl resl_nil)) ?_) | (refine apost_ret rfl (resl_one rfl rfl rfl (resl_agg rfl rfl rfl resl_nil)) ?_) | (refine apost_ret rfl (resl_agg rfl rfl rfl (resl_one rfl rfl rfl resl_nil)) ?_) | (refine apost_ret rfl (resl_one rfl rfl rfl (resl_one rfl rfl rfl resl_nil)) ?_))
    exact AV.Le.refl _
  · rw [if_neg c1, if_neg c1]
    by_cases c2 : 2 * (q - p) < 0
    · rw [if_pos c2, if_pos c2]
      refine pcall_body (f := 22) Try.func22 rfl rfl rfl rfl ?_
      (repeat (first | ((with_reducible apply al_q); exact rfl) | ((with_reducible apply al_add); (iterate 3 exact rfl); (first | exact i64_wrap (by omega) | assumption | rfl); exact rfl) | ((with_reducible apply al_sub); (iterate 3 exact rfl); (first | exact i64_wrap (by omega) | assumption | rfl); exact rfl) | ((with_reducible apply al_mul); (iterate 3 exact rfl); (first | exact i64_wrap (by omega) | assumption | rfl); exact rfl) | ((with_reducible apply al_neg); exact rfl; exact rfl; (first | exact i64_wrap (by omega) | assumption | rfl); exact rfl) | ((with_reducible apply awp_seq)) | ((with_reducible apply athen_normal)) | ((with_reducible apply awp_region)) | ((with_reducible apply al_nil)) | ((with_reducible apply awp_ret)) | ((with_reducible apply athen_ret)) | ((with_reducible apply awp_block)) | ((with_reducible apply ablock_ret)) | ((with_reducible apply awp_cond_1); exact rfl; (first | assumption | exact decide_eq_true (by omega) | (simp only [Bool.not_eq_true', decide_eq_false_iff_not, decide_eq_true_eq, Bool.not_eq_false']; (first | done | omega)))) | ((with_reducible apply awp_cond_0); exact rfl; (first | assumption | exact decide_eq_false (by omega) | (simp only [Bool.not_eq_true', decide_eq_false_iff_not, decide_eq_true_eq, Bool.not_eq_false']; (first | done | omega))))))
      (first | (refine apost_ret rfl (resl_agg rfl rfl rfl (resl_agg rfl rfl rfl resl_nil)) ?_) | (refine apost_ret rfl (resl_one rfl rfl rfl (resl_agg rfl rfl rfl resl_nil)) ?_) | (refine apost_ret rfl (resl_agg rfl rfl rfl (resl_one rfl rfl rfl resl_nil)) ?_) | (refine apost_ret rfl (resl_one rfl rfl rfl (resl_one rfl rfl rfl resl_nil)) ?_))
      exact AV.Le.refl _
    · rw [if_neg c2, if_neg c2]
      by_cases c3 : 2 * (m - p) - far > 0
      · rw [if_pos (.inl c3), if_pos (.inl c3)]
        refine pcall_body (f := 22) Try.func22 rfl rfl rfl rfl ?_
        (repeat (first | ((with_reducible apply al_q); exact rfl) | ((with_reducible apply al_add); (iterate 3 exact rfl); (first | exact i64_wrap (by omega) | assumption | rfl); exact rfl) | ((with_reducible apply al_sub); (iterate 3 exact rfl); (first | exact i64_wrap (by omega) | assumption | rfl); exact rfl) | ((with_reducible apply al_mul); (iterate 3 exact rfl); (first | exact i64_wrap (by omega) | assumption | rfl); exact rfl) | ((with_reducible apply awp_seq)) | ((with_reducible apply athen_normal)) | ((with_reducible apply awp_region)) | ((with_reducible apply al_nil)) | ((with_reducible apply awp_ret)) | ((with_reducible apply awp_skip)) | ((with_reducible apply athen_ret)) | ((with_reducible apply awp_block)) | ((with_reducible apply ablock_ret)) | ((with_reducible apply awp_cond_1); exact rfl; (first | assumption | exact decide_eq_true (by omega) | (simp only [Bool.not_eq_true', decide_eq_false_iff_not, decide_eq_true_eq, Bool.not_eq_false']; (first | done | omega)))) | ((with_reducible apply awp_cond_0); exact rfl; (first | assumption | exact decide_eq_false (by omega) | (simp only [Bool.not_eq_true', decide_eq_false_iff_not, decide_eq_true_eq, Bool.not_eq_false']; (first | done | omega))))))
        (first | (refine apost_ret rfl (resl_agg rfl rfl rfl (resl_agg rfl rfl rfl resl_nil)) ?_) | (refine apost_ret rfl (resl_one rfl rfl rfl (resl_agg rfl rfl rfl resl_nil)) ?_) | (refine apost_ret rfl (resl_agg rfl rfl rfl (resl_one rfl rfl rfl resl_nil)) ?_) | (refine apost_ret rfl (resl_one rfl rfl rfl (resl_one rfl rfl rfl resl_nil)) ?_))
        exact AV.Le.refl _
      · by_cases c4 : 2 * (m - p) + far < 0
        · rw [if_pos (.inr c4), if_pos (.inr c4)]
          refine pcall_body (f := 22) Try.func22 rfl rfl rfl rfl ?_
          (repeat (first | ((with_reducible apply al_q); exact rfl) | ((with_reducible apply al_add); (iterate 3 exact rfl); (first | exact i64_wrap (by omega) | assumption | rfl); exact rfl) | ((with_reducible apply al_sub); (iterate 3 exact rfl); (first | exact i64_wrap (by omega) | assumption | rfl); exact rfl) | ((with_reducible apply al_mul); (iterate 3 exact rfl); (first | exact i64_wrap (by omega) | assumption | rfl); exact rfl) | ((with_reducible apply awp_seq)) | ((with_reducible apply athen_normal)) | ((with_reducible apply awp_region)) | ((with_reducible apply al_nil)) | ((with_reducible apply awp_ret)) | ((with_reducible apply athen_ret)) | ((with_reducible apply awp_block)) | ((with_reducible apply ablock_ret)) | ((with_reducible apply awp_cond_1); exact rfl; (first | assumption | exact decide_eq_true (by omega) | (simp only [Bool.not_eq_true', decide_eq_false_iff_not, decide_eq_true_eq, Bool.not_eq_false']; (first | done | omega)))) | ((with_reducible apply awp_cond_0); exact rfl; (first | assumption | exact decide_eq_false (by omega) | (simp only [Bool.not_eq_true', decide_eq_false_iff_not, decide_eq_true_eq, Bool.not_eq_false']; (first | done | omega))))))
          (first | (refine apost_ret rfl (resl_agg rfl rfl rfl (resl_agg rfl rfl rfl resl_nil)) ?_) | (refine apost_ret rfl (resl_one rfl rfl rfl (resl_agg rfl rfl rfl resl_nil)) ?_) | (refine apost_ret rfl (resl_agg rfl rfl rfl (resl_one rfl rfl rfl resl_nil)) ?_) | (refine apost_ret rfl (resl_one rfl rfl rfl (resl_one rfl rfl rfl resl_nil)) ?_))
          exact AV.Le.refl _
        · rw [if_neg (by omega), if_neg (by omega)]
          refine pcall_body (f := 22) Try.func22 rfl rfl rfl rfl ?_
          (repeat (first | ((with_reducible apply al_q); exact rfl) | ((with_reducible apply al_add); (iterate 3 exact rfl); (first | exact i64_wrap (by omega) | assumption | rfl); exact rfl) | ((with_reducible apply al_sub); (iterate 3 exact rfl); (first | exact i64_wrap (by omega) | assumption | rfl); exact rfl) | ((with_reducible apply al_mul); (iterate 3 exact rfl); (first | exact i64_wrap (by omega) | assumption | rfl); exact rfl) | ((with_reducible apply awp_seq)) | ((with_reducible apply athen_normal)) | ((with_reducible apply awp_region)) | ((with_reducible apply al_nil)) | ((with_reducible apply awp_ret)) | ((with_reducible apply awp_skip)) | ((with_reducible apply awp_block)) | ((with_reducible apply ablock_normal)) | ((with_reducible apply awp_cond_0); exact rfl; (first | assumption | exact decide_eq_false (by omega) | (simp only [Bool.not_eq_true', decide_eq_false_iff_not, decide_eq_true_eq, Bool.not_eq_false']; (first | done | omega))))))
          (first | (refine apost_ret rfl (resl_agg rfl rfl rfl (resl_agg rfl rfl rfl resl_nil)) ?_) | (refine apost_ret rfl (resl_one rfl rfl rfl (resl_agg rfl rfl rfl resl_nil)) ?_) | (refine apost_ret rfl (resl_agg rfl rfl rfl (resl_one rfl rfl rfl resl_nil)) ?_) | (refine apost_ret rfl (resl_one rfl rfl rfl (resl_one rfl rfl rfl resl_nil)) ?_))
          exact AV.Le.refl _
theorem shrF_ok {p q m far : Int} (hp : -134217728 ≤ p ∧ p ≤ 134217728) (hq : -134217728 ≤ q ∧ q ≤ 134217728) (hm : -134217728 ≤ m ∧ m ≤ 134217728) (hf : 0 ≤ far ∧ far ≤ 268435456) : okS (shrF p q m far) := by
  unfold okS shrF
  split
  · simp only; omega
  · split
    · simp only; omega
    · split <;> decide
theorem shrT_ok {p q m far : Int} (hp : -134217728 ≤ p ∧ p ≤ 134217728) (hq : -134217728 ≤ q ∧ q ≤ 134217728) (hm : -134217728 ≤ m ∧ m ≤ 134217728) (hf : 0 ≤ far ∧ far ≤ 268435456) : okS (shrT p q m far) := by
  unfold okS shrT
  split
  · simp only; omega
  · split
    · simp only; omega
    · split <;> decide
end Go.Proofs.Ytlglajaonmpljaa

namespace Go.Proofs.Ytlglajaonmpljaa
open Go.RowKit
set_option linter.unusedVariables false
set_option linter.unusedSimpArgs false
def ClI (a1 a2 b1 b2 far : Int) (r : Nat) (V : List Px) (D : List Int) (G : Bool) (n : Nat) (ts : List (Nat × AV)) (ms : List (Nat × List AC)) : Prop :=
  ∃ (i : Nat) (ii : Int) (c : Int × Int), i ≤ V.length ∧ n = V.length - i ∧ ii = i ∧ okS c ∧ grd a1 a2 b1 b2 (2 ^ r) far c (V.drop i) = G ∧ ms = [(5, mCh V D), (6, shC (a1, a2)), (7, shC (b1, b2)), (13, shC c)] ∧
    ts = [(3, vI r), (4, vI far), (5, vOw 5), (6, vOw 6), (7, vOw 7), (13, vOw 13), (58, vIt V), (59, vI V.length), (60, vI ii)]
set_option maxRecDepth 100000 in
set_option maxHeartbeats 16000000 in
theorem p_Close_in {V : List Px} {D : List Int} {a1 a2 b1 b2 far : Int} {r : Nat} (hr : r ≤ 28) (hV : 0 < V.length) (hb : V.length ≤ 1000) (hin : ∀ v ∈ V, inB r v.1 v.2 = true) : PCall Try.prog 8 [vCh V D, vP a1 a2, vP b1 b2, vI r, vI far] (vB (cloB a1 a2 b1 b2 r far V)) := by
  have hR : IsR (r : Int) r := ⟨hr, .inr (.inr rfl)⟩
  have A1 := p_areIn_yes hr hV (by omega)
  rw [show (V.all fun v => inB r v.1 v.2) = true from List.all_eq_true.2 hin] at A1
  obtain ⟨x0, y0, g0⟩ : ∃ x y, V[0]? = some (x, y) := ⟨_, _, List.getElem?_eq_getElem hV⟩
  obtain ⟨x1, y1, g1⟩ : ∃ x y, V[V.length - 1]? = some (x, y) := ⟨_, _, List.getElem?_eq_getElem (by omega)⟩
  have E0 := itC_xy (j := 0) (i := 0) rfl g0
  have E1 := itC_xy (j := (V.length : Int) - 1) (i := V.length - 1) (by omega) g1
  have K0 := p_Center hR (hin _ (List.mem_of_getElem? g0))
  have K1 := p_Center hR (hin _ (List.mem_of_getElem? g1))
  have hC := cloB_grd (a1 := a1) (a2 := a2) (b1 := b1) (b2 := b2) (far := far) (V := V) (v := (x0, y0)) (w := (x1, y1)) hr (by rw [List.head?_eq_getElem?]; exact g0) (by rw [List.getLast?_eq_getElem?]; exact g1) hin
  rw [hC]
  clear hC g0 g1
  simp only at K0 K1 ⊢
  generalize 2 ^ r * x0 = X0 at *
  generalize 2 ^ r * y0 = Y0 at *
  generalize 2 ^ r * x1 = X1 at *
  generalize 2 ^ r * y1 = Y1 at *
  have N0 := p_Near (a1 := a1) (a2 := a2) (b1 := a1) (b2 := a2) (p1 := X0) (p2 := Y0) (f := far)
  have N1 := p_Near (a1 := b1) (a2 := b2) (b1 := b1) (b2 := b2) (p1 := X1) (p2 := Y1) (f := far)
  have v0 : (0 : Int) < V.length := by omega
  have v1 : 0 ≤ (V.length : Int) - 1 := by omega
  have v2 : (V.length : Int) - 1 < V.length := by omega
  cases n0 : neB a1 a2 a1 a2 X0 Y0 far with
  | false =>
    rw [n0] at N0
    rw [Bool.false_and]
    clear hin hR N1
    refine pcall_body (f := 8) Try.func8 rfl rfl rfl rfl ?_
    (repeat (first | ((with_reducible apply al_q); exact rfl) | ((with_reducible apply al_loadPN); (iterate 5 exact rfl)) | ((with_reducible apply al_idxS); (iterate 3 exact rfl); (first | decide | omega); (first | decide | omega); (first | assumption | rfl); exact rfl) | ((with_reducible apply al_sub); (iterate 3 exact rfl); (first | exact i64_wrap (by omega) | assumption | rfl); exact rfl) | ((with_reducible apply al_len); (iterate 3 exact rfl)) | (refine al_call2 rfl rfl rfl rfl (by (first | exact A1 | exact K0 | exact K1 | exact N0)) rfl ?_) | (refine al_call4 rfl rfl rfl rfl rfl rfl (by (first | exact A1 | exact K0 | exact K1 | exact N0)) rfl ?_) | ((with_reducible apply al_nilS); kernel_rfl) | ((with_reducible apply awp_region_draw); kernel_rfl; kernel_rfl; exact rfl) | ((with_reducible apply awp_seq)) | ((with_reducible apply athen_normal)) | ((with_reducible apply awp_region)) | ((with_reducible apply al_nil)) | ((with_reducible apply awp_ret)) | ((with_reducible apply awp_skip)) | ((with_reducible apply athen_ret)) | ((with_reducible apply awp_cond_t); exact rfl) | ((with_reducible apply awp_cond_f); exact rfl)))
    (first | (refine apost_ret rfl (resl_tmp rfl resl_nil) ?_))
    exact AV.Le.refl _
  | true =>
    rw [n0] at N0
    rw [Bool.true_and]
    cases n1 : neB b1 b2 b1 b2 X1 Y1 far with
    | false =>
      rw [n1] at N1
      rw [Bool.false_and]
      clear hin hR
      refine pcall_body (f := 8) Try.func8 rfl rfl rfl rfl ?_
      (repeat (first | ((with_reducible apply al_q); exact rfl) | ((with_reducible apply al_loadPN); (iterate 5 exact rfl)) | ((with_reducible apply al_idxS); (iterate 3 exact rfl); (first | decide | omega); (first | decide | omega); (first | assumption | rfl); exact rfl) | ((with_reducible apply al_sub); (iterate 3 exact rfl); (first | exact i64_wrap (by omega) | assumption | rfl); exact rfl) | ((with_reducible apply al_len); (iterate 3 exact rfl)) | (refine al_call2 rfl rfl rfl rfl (by (first | exact A1 | exact K0 | exact K1 | exact N0 | exact N1)) rfl ?_) | (refine al_call4 rfl rfl rfl rfl rfl rfl (by (first | exact A1 | exact K0 | exact K1 | exact N0 | exact N1)) rfl ?_) | ((with_reducible apply al_nilS); kernel_rfl) | ((with_reducible apply awp_region_draw); kernel_rfl; kernel_rfl; exact rfl) | ((with_reducible apply awp_seq)) | ((with_reducible apply athen_normal)) | ((with_reducible apply awp_region)) | ((with_reducible apply al_nil)) | ((with_reducible apply awp_ret)) | ((with_reducible apply awp_skip)) | ((with_reducible apply athen_ret)) | ((with_reducible apply awp_cond_t); exact rfl) | ((with_reducible apply awp_cond_f); exact rfl)))
      (first | (refine apost_ret rfl (resl_tmp rfl resl_nil) ?_))
      exact AV.Le.refl _
    | true =>
      rw [n1] at N1
      rw [Bool.true_and]
      have ba := neB_pt.1 n0
      have bb := neB_pt.1 n1
      have ra := rB5_iff.1 ba.1
      have rb := rB5_iff.1 bb.1
      have hf : 0 ≤ far ∧ far ≤ 268435456 := ⟨ba.2.2.1, ba.2.2.2.1⟩
      clear ba bb n0 n1
      generalize hG : grd a1 a2 b1 b2 (2 ^ r) far (0, 1) V = G
      refine pcall_body (f := 8) Try.func8 rfl rfl rfl rfl ?_
      (repeat (first | ((with_reducible apply al_q); exact rfl) | ((with_reducible apply al_loadPN); (iterate 5 exact rfl)) | ((with_reducible apply al_idxS); (iterate 3 exact rfl); (first | decide | omega); (first | decide | omega); (first | assumption | rfl); exact rfl) | ((with_reducible apply al_sub); (iterate 3 exact rfl); (first | exact i64_wrap (by omega) | assumption | rfl); exact rfl) | ((with_reducible apply al_len); (iterate 3 exact rfl)) | (refine al_call2 rfl rfl rfl rfl (by (first | exact A1 | exact K0 | exact K1 | exact N0 | exact N1)) rfl ?_) | (refine al_call4 rfl rfl rfl rfl rfl rfl (by (first | exact A1 | exact K0 | exact K1 | exact N0 | exact N1)) rfl ?_) | ((with_reducible apply al_nilS); kernel_rfl) | ((with_reducible apply awp_region_draw); kernel_rfl; kernel_rfl; exact rfl) | ((with_reducible apply awp_seq)) | ((with_reducible apply athen_normal)) | ((with_reducible apply awp_region)) | ((with_reducible apply al_nil)) | ((with_reducible apply awp_skip)) | ((with_reducible apply awp_block)) | ((with_reducible apply awp_cond_f); exact rfl)))
      refine awp_loopL 107 (ClI a1 a2 b1 b2 far r V D G) V.length _ [(5, mCh V D), (6, shC (a1, a2)), (7, shC (b1, b2)), (13, shC (0, 1))] ⟨0, 0, (0, 1), Nat.zero_le _, rfl, rfl, ⟨by decide, by decide⟩, hG, rfl, rfl⟩ rfl ⟨rfl, rfl, rfl, rfl, rfl, rfl, rfl, rfl, rfl, trivial⟩ ⟨rfl, rfl, rfl, rfl, trivial⟩ rfl ?_
      clear hG A1 E0 E1 K0 K1 N0 N1 v0 v1 v2
      rintro n ts ms ⟨i, ii, c, hi, rfl, hii, hc, hG, rfl, rfl⟩ hok
      clear hok
      by_cases hq : i < V.length
      · have q2 : ii < (V.length : Int) := by omega
        have q3 : 0 ≤ ii := by omega
        obtain ⟨x, y, g1⟩ : ∃ x y, V[i]? = some (x, y) := ⟨_, _, List.getElem?_eq_getElem hq⟩
        have E1 := itC_xy hii g1
        have hxy := hin _ (List.mem_of_getElem? g1)
        have K1 := p_Center hR hxy
        obtain ⟨bx, bY⟩ := in_big hxy
        have hd : V.drop i = (x, y) :: V.drop (i + 1) := by
          rw [List.drop_eq_getElem_cons hq, (List.getElem?_eq_some_iff.1 g1).2]
        rw [hd] at hG
        unfold grd nxS at hG
        simp only at hG bx bY K1
        clear hd g1 hxy hin hR
        generalize hP : (2 : Int) ^ r = P2 at *
        generalize P2 * x = X at *
        generalize P2 * y = Y at *
        have S1 := p_stretch ra.1 rb.1 bx hf
        have S2 := p_stretch ra.2 rb.2 bY hf
        have f1 := shrF_ok ra.1 rb.1 bx hf
        have f2 := shrF_ok ra.2 rb.2 bY hf
        have t1 := shrT_ok ra.1 rb.1 bx hf
        have t2 := shrT_ok ra.2 rb.2 bY hf
        generalize shrF a1 b1 X far = fx at *
        generalize shrF a2 b2 Y far = fy at *
        generalize shrT a1 b1 X far = tx at *
        generalize shrT a2 b2 Y far = ty at *
        have L1 := p_latest (x := c) (l := [fx, fy]) hc (fun z hz => by
          rcases List.mem_cons.1 hz with rfl | hz
          · exact f1
          · rcases List.mem_cons.1 hz with rfl | hz
            · exact f2
            · cases hz) (by show 2 ≤ 1000; decide)
        have hn := latS_ok (latS_ok hc f1) f2
        rw [show [fx, fy].foldl latS c = latS (latS c fx) fy from rfl] at L1
        generalize latS (latS c fx) fy = c' at *
        have H1 := p_isAhead t1 hn
        have H2 := p_isAhead t2 hn
        obtain ⟨fx1, fx2⟩ := fx
        obtain ⟨fy1, fy2⟩ := fy
        obtain ⟨tx1, tx2⟩ := tx
        obtain ⟨ty1, ty2⟩ := ty
        obtain ⟨c1, c2⟩ := c
        obtain ⟨d1, d2⟩ := c'
        simp only at S1 S2 L1 H1 H2
        replace L1 : PCall Try.prog 23 [vP c1 c2, vS 2 2 [.c (.int .i64 fx1), .c (.int .i64 fx2), .c (.int .i64 fy1), .c (.int .i64 fy2)]] (vP d1 d2) := L1
        clear f1 f2 t1 t2 hc
        cases h1 : ahS (tx1, tx2) (d1, d2) with
        | true =>
          rw [h1] at hG H1
          rw [← hG]
          (repeat (first | ((with_reducible apply al_q); exact rfl) | ((with_reducible apply al_loadPN); (iterate 5 exact rfl)) | ((with_reducible apply al_idxS); (iterate 3 exact rfl); (first | decide | omega); (first | decide | omega); (first | assumption | rfl); exact rfl) | ((with_reducible apply al_bslice); (iterate 10 exact rfl)) | (refine al_call2 rfl rfl rfl rfl (by (first | exact K1 | exact S1 | exact S2 | exact L1 | exact H1)) rfl ?_) | (refine al_call4 rfl rfl rfl rfl rfl rfl (by (first | exact K1 | exact S1 | exact S2 | exact L1 | exact H1)) rfl ?_) | ((with_reducible apply awp_seq)) | ((with_reducible apply athen_normal)) | ((with_reducible apply awp_region)) | ((with_reducible apply al_nil)) | ((with_reducible apply awp_ret)) | ((with_reducible apply awp_skip)) | ((with_reducible apply athen_ret)) | ((with_reducible apply awp_block)) | ((with_reducible apply ablock_ret)) | ((with_reducible apply awp_cond_t); exact rfl) | ((with_reducible apply awp_cond_1); exact rfl; (first | assumption | exact decide_eq_true (by omega) | (simp only [Bool.not_eq_true', decide_eq_false_iff_not, decide_eq_true_eq, Bool.not_eq_false']; (first | done | omega))))))
          (first | (refine apost_ret rfl (resl_tmp rfl resl_nil) ?_))
          exact AV.Le.refl _
        | false =>
          rw [h1] at hG H1
          cases h2 : ahS (ty1, ty2) (d1, d2) with
          | true =>
            rw [h2] at hG H2
            rw [← hG]
            (repeat (first | ((with_reducible apply al_q); exact rfl) | ((with_reducible apply al_loadPN); (iterate 5 exact rfl)) | ((with_reducible apply al_idxS); (iterate 3 exact rfl); (first | decide | omega); (first | decide | omega); (first | assumption | rfl); exact rfl) | ((with_reducible apply al_bslice); (iterate 10 exact rfl)) | (refine al_call2 rfl rfl rfl rfl (by (first | exact K1 | exact S1 | exact S2 | exact L1 | exact H1 | exact H2)) rfl ?_) | (refine al_call4 rfl rfl rfl rfl rfl rfl (by (first | exact K1 | exact S1 | exact S2 | exact L1 | exact H1 | exact H2)) rfl ?_) | ((with_reducible apply awp_seq)) | ((with_reducible apply athen_normal)) | ((with_reducible apply awp_region)) | ((with_reducible apply al_nil)) | ((with_reducible apply awp_ret)) | ((with_reducible apply awp_skip)) | ((with_reducible apply athen_ret)) | ((with_reducible apply awp_block)) | ((with_reducible apply ablock_ret)) | ((with_reducible apply awp_cond_t); exact rfl) | ((with_reducible apply awp_cond_1); exact rfl; (first | assumption | exact decide_eq_true (by omega) | (simp only [Bool.not_eq_true', decide_eq_false_iff_not, decide_eq_true_eq, Bool.not_eq_false']; (first | done | omega))))))
            (first | (refine apost_ret rfl (resl_tmp rfl resl_nil) ?_))
            exact AV.Le.refl _
          | false =>
            rw [h2] at hG H2
            simp only [Bool.not_false, Bool.true_and] at hG
            (repeat (first | ((with_reducible apply al_q); exact rfl) | ((with_reducible apply al_loadPN); (iterate 5 exact rfl)) | ((with_reducible apply al_idxS); (iterate 3 exact rfl); (first | decide | omega); (first | decide | omega); (first | assumption | rfl); exact rfl) | ((with_reducible apply al_add); (iterate 3 exact rfl); (first | exact i64_wrap (by omega) | assumption | rfl); exact rfl) | ((with_reducible apply al_bslice); (iterate 10 exact rfl)) | (refine al_call2 rfl rfl rfl rfl (by (first | exact K1 | exact S1 | exact S2 | exact L1 | exact H1 | exact H2)) rfl ?_) | (refine al_call4 rfl rfl rfl rfl rfl rfl (by (first | exact K1 | exact S1 | exact S2 | exact L1 | exact H1 | exact H2)) rfl ?_) | ((with_reducible apply awp_seq)) | ((with_reducible apply athen_normal)) | ((with_reducible apply awp_region)) | ((with_reducible apply al_nil)) | ((with_reducible apply awp_skip)) | ((with_reducible apply awp_block)) | ((with_reducible apply ablock_normal)) | ((with_reducible apply awp_cond_f); exact rfl) | ((with_reducible apply awp_cond_1); exact rfl; (first | assumption | exact decide_eq_true (by omega) | (simp only [Bool.not_eq_true', decide_eq_false_iff_not, decide_eq_true_eq, Bool.not_eq_false']; (first | done | omega))))))
            exact ⟨V.length - (i + 1), _, [(5, mCh V D), (6, shC (a1, a2)), (7, shC (b1, b2)), (13, shC (d1, d2))], by omega, ⟨i + 1, ii + 1, (d1, d2), by omega, rfl, by omega, hn, by rw [hP]; exact hG, rfl, rfl⟩, rfl, ⟨rfl, rfl, rfl, rfl, rfl, rfl, rfl, rfl, rfl, trivial⟩, ⟨rfl, rfl, rfl, rfl, trivial⟩, rfl⟩
      · have q2 : ¬ ii < (V.length : Int) := by omega
        rw [List.drop_of_length_le (by omega)] at hG
        unfold grd at hG
        have H1 := p_isAhead (x := (1, 1)) (y := c) ⟨by decide, by decide⟩ hc
        rw [← hG]
        (repeat (first | ((with_reducible apply al_q); exact rfl) | (refine al_call2 rfl rfl rfl rfl (by (first | exact H1)) rfl ?_) | ((with_reducible apply awp_seq)) | ((with_reducible apply athen_normal)) | ((with_reducible apply awp_region)) | ((with_reducible apply al_nil)) | ((with_reducible apply awp_ret)) | ((with_reducible apply ablock_same)) | ((with_reducible apply awp_exit)) | ((with_reducible apply athen_exit)) | ((with_reducible apply awp_cond_0); exact rfl; (first | assumption | exact decide_eq_false (by omega) | (simp only [Bool.not_eq_true', decide_eq_false_iff_not, decide_eq_true_eq, Bool.not_eq_false']; (first | done | omega))))))
        (first | (refine apost_ret rfl (resl_tmp rfl resl_nil) ?_))
        exact AV.Le.refl _
set_option maxRecDepth 100000 in
set_option maxHeartbeats 8000000 in
theorem p_Close_no {V : List Px} {D : List Int} {a1 a2 b1 b2 k far : Int} (A1 : PCall Try.prog 20 [vIt V, vI k] (vB false)) : PCall Try.prog 8 [vCh V D, vP a1 a2, vP b1 b2, vI k, vI far] (vB false) := by
  refine pcall_body (f := 8) Try.func8 rfl rfl rfl rfl ?_
  (repeat (first | ((with_reducible apply al_q); exact rfl) | (refine al_call2 rfl rfl rfl rfl (by (first | exact A1)) rfl ?_) | ((with_reducible apply awp_seq)) | ((with_reducible apply athen_normal)) | ((with_reducible apply awp_region)) | ((with_reducible apply al_nil)) | ((with_reducible apply awp_ret)) | ((with_reducible apply athen_ret)) | ((with_reducible apply awp_cond_t); exact rfl)))
  (first | (refine apost_ret rfl (resl_tmp rfl resl_nil) ?_))
  exact AV.Le.refl _
theorem k_Close10 : CClose10 := by
  intro V D a1 a2 b1 b2 k far hb hin hk
  by_cases h0 : V.length = 0
  · have e : cloB a1 a2 b1 b2 k far V = false := by
      unfold cloB preB
      rw [decide_eq_true h0]; simp
    rw [e]
    exact p_Close_no (p_areIn_no (.inl (by omega)))
  · by_cases h1 : 0 ≤ k ∧ k ≤ 28
    · obtain ⟨r, rfl⟩ := Int.eq_ofNat_of_zero_le h1.1
      cases h2 : (V.all fun v => inB r v.1 v.2) with
      | false =>
        have e : cloB a1 a2 b1 b2 r far V = false := by
          unfold cloB ctnB
          rw [Int.toNat_natCast, h2]; simp
        rw [e]
        have := p_areIn_yes (V := V) (r := r) (by omega) (by omega) (by omega)
        rw [h2] at this
        exact p_Close_no this
      | true => exact p_Close_in (by omega) (by omega) hb (List.all_eq_true.1 h2)
    · have e : cloB a1 a2 b1 b2 k far V = false := by
        unfold cloB preB
        rw [decide_eq_false h1]; simp
      rw [e]
      exact p_Close_no (p_areIn_no (.inr ⟨by omega, h1⟩))
end Go.Proofs.Ytlglajaonmpljaa

namespace Go.Proofs.Ytlglajaonmpljaa
open Go.RowKit
set_option linter.unusedVariables false
set_option linter.unusedSimpArgs false
section
variable {P : Program} {B0 : Base} {s : AS} {ops : Array Oper} {dr : Option (List Nat)} {ty d : Nat} {pos : String} {after : Array Edge} {guard : Option (Nat × Bool)} {K : AS → Prop} {rest : List Oper}
/-- u[l:], of a row's slice u. -/
theorem al_slU {tt z n l lo hi : Nat} {v u : Value} {x y : Operand} [S : SliOf P tt z] (hw : want ops ⟨some d, .slice tt x (some y) none none, ty, pos, after, guard⟩ s = some true) (hx : s.look x = some (vC u)) (hy : s.look y = some (vI (l : Int))) (hu : RowSub v z lo hi u) (hm : hi - lo = n) (h1 : l ≤ n) (hd : Nat.blt d s.n = true) (h : aList P ops K rest (s.put (some d) (vC (rowSl u z l n)))) : aList P ops K (⟨some d, .slice tt x (some y) none none, ty, pos, after, guard⟩ :: rest) s := by
  subst hm
  obtain ⟨⟨A, c, rfl⟩, _⟩ := hu
  refine al_quiet (av := vC (rowSl (.slice A (hi - lo) c) z l (hi - lo))) hw ⟨fun _ _ h => (by cases h), fun q hq => ?_, fun U ρ W env he => ?_, fun j hj => absurd hj (noown _ j)⟩ hd h
  · simp [Op.operands] at hq
    rcases hq with rfl | rfl
    · exact ⟨_, hx⟩
    · exact ⟨_, hy⟩
  · have ex : env x = .slice A (hi - lo) c := (he x (by simp [Op.operands]) _ hx).1
    have ey : env y = .int .i64 (l : Int) := (he y (by simp [Op.operands]) _ hy).1
    obtain ⟨e', i', hu, hi', hs⟩ := sliOf_spec S.h
    have hu' : P.underlying tt = some (.slice (P.elem tt)) := by rw [elem_slice hu]; exact hu
    refine ⟨rowSl (.slice A (hi - lo) c) z l (hi - lo), ?_, rfl, rfl⟩
    simp only [execOp, ex, Option.map_some, Option.map_none, ey, Sem.run_bind, run_sliceAt_slice W tt _ _ _ _ hu', run_slice_l W tt A (hi - lo) c hu' .i64 l (by omega) (by omega), elem_slice hu, run_sizeOf' hi', Result.andThen_ok, hs, Sem.run_pure, Int.toNat_natCast, rowSl]
/-- u[:l]. -/
theorem al_slUh {tt z n l lo hi : Nat} {v u : Value} {x y : Operand} [S : SliOf P tt z] (hw : want ops ⟨some d, .slice tt x none (some y) none, ty, pos, after, guard⟩ s = some true) (hx : s.look x = some (vC u)) (hy : s.look y = some (vI (l : Int))) (hu : RowSub v z lo hi u) (hm : hi - lo = n) (h1 : l ≤ n) (hd : Nat.blt d s.n = true) (h : aList P ops K rest (s.put (some d) (vC (rowSl u z 0 l)))) : aList P ops K (⟨some d, .slice tt x none (some y) none, ty, pos, after, guard⟩ :: rest) s := by
  subst hm
  obtain ⟨⟨A, c, rfl⟩, hc⟩ := hu
  have hlc : l ≤ c := by
    rcases Nat.eq_zero_or_pos l with e | e
    · omega
    · have hh := hc (show lo < hi by omega)
      obtain ⟨g, n', c', g1, g2, g3⟩ := hh
      have e4 : c = c' - lo := by injection g3
      clear g1 g3 hc
      omega
  refine al_quiet (av := vC (rowSl (.slice A (hi - lo) c) z 0 l)) hw ⟨fun _ _ h => (by cases h), fun q hq => ?_, fun U ρ W env he => ?_, fun j hj => absurd hj (noown _ j)⟩ hd h
  · simp [Op.operands] at hq
    rcases hq with rfl | rfl
    · exact ⟨_, hx⟩
    · exact ⟨_, hy⟩
  · have ex : env x = .slice A (hi - lo) c := (he x (by simp [Op.operands]) _ hx).1
    have ey : env y = .int .i64 (l : Int) := (he y (by simp [Op.operands]) _ hy).1
    obtain ⟨e', i', hu, hi', hs⟩ := sliOf_spec S.h
    have hu' : P.underlying tt = some (.slice (P.elem tt)) := by rw [elem_slice hu]; exact hu
    refine ⟨rowSl (.slice A (hi - lo) c) z 0 l, ?_, rfl, rfl⟩
    simp only [execOp, ex, Option.map_some, Option.map_none, ey, Sem.run_bind, run_sliceAt_slice W tt _ _ _ _ hu', run_slice_h W tt A (hi - lo) c hu' .i64 l (by omega) (by omega), elem_slice hu, run_sizeOf' hi', Result.andThen_ok, hs, Sem.run_pure, Int.toNat_natCast, rowSl]
end
end Go.Proofs.Ytlglajaonmpljaa

namespace Go.Proofs.Ytlglajaonmpljaa
open Go.RowKit
set_option linter.unusedVariables false
set_option linter.unusedSimpArgs false
/-- what was filled in part is filled on. -/
theorem splice_fill {A C Zs : List AC} {n : Nat} (h : A.length = n) : splice (A ++ Zs) n C = (A ++ C) ++ Zs.drop C.length := by
  subst h
  unfold splice
  rw [List.take_left, List.drop_append, List.drop_of_length_le (by omega), List.nil_append, Nat.add_sub_cancel_left]
theorem itC_takeN {l : List Px} {n : Nat} (h : l.length = n) : (itC l).take (n * 2) = itC l := List.take_of_length_le (by rw [itC_len]; omega)
theorem inC_takeN {l : List Int} {n : Nat} (h : l.length = n) : (inC l).take (n * 1) = inC l := List.take_of_length_le (by simp [inC]; omega)
theorem inC_closed1 (l : List Int) : (inC l).all AC.closedB = true := List.all_eq_true.2 fun y hy => by
  obtain ⟨x, _, rfl⟩ := List.mem_map.1 hy
  rfl
theorem inC_len1 (l : List Int) : (inC l).length = l.length * 1 := by simp [inC]
/-- rows, as a row. -/
abbrev rsC (LL : List (List Px)) : List AC := LL.map fun l => AC.p (SlP 2 l.length (itC l))
abbrev vRs (LL : List (List Px)) : AV := vS 1 LL.length (rsC LL)
theorem rsC_at {LL : List (List Px)} {j : Int} {i : Nat} {l : List Px} (hj : j = i) (h : LL[i]? = some l) : ((rsC LL).drop (j.toNat * 1)).take 1 = [.p (SlP 2 l.length (itC l))] := by
  subst hj
  have hi := (List.getElem?_eq_some_iff.1 h).1
  rw [Int.toNat_natCast, Nat.mul_one, List.drop_eq_getElem_cons (by simpa [rsC] using hi)]
  have : LL[i] = l := (List.getElem?_eq_some_iff.1 h).2
  simp [rsC, this]
def preP (LL : List (List Px)) (i : Nat) : List Px := (LL.take i).flatten
theorem preP_one {LL : List (List Px)} {i : Nat} {l : List Px} (h : LL[i]? = some l) : preP LL (i + 1) = preP LL i ++ l := by
  unfold preP
  rw [List.take_succ_eq_append_getElem (List.getElem?_eq_some_iff.1 h).1, (List.getElem?_eq_some_iff.1 h).2]; simp
theorem preP_all {LL : List (List Px)} {i : Nat} (h : LL.length ≤ i) : preP LL i = LL.flatten := by unfold preP; rw [List.take_of_length_le h]
theorem preP_len (LL : List (List Px)) (i : Nat) : (preP LL i).length ≤ LL.flatten.length := by
  have : LL.flatten = preP LL i ++ (LL.drop i).flatten := by unfold preP; rw [← List.flatten_append, List.take_append_drop]
  rw [this, List.length_append]; omega
def JpA (LL : List (List Px)) (n : Nat) (R : Rws) (ts : List (Nat × AV)) (ms : List (Nat × List AC)) : Prop :=
  ∃ (i : Nat) (ii ni : Int), i ≤ LL.length ∧ n = LL.length - i ∧ ii = i ∧ ni = ((preP LL i).length : Nat) ∧ R = noRows ∧ ms = [] ∧ ts = [(0, vRs LL), (3, vI ni), (10, vRs LL), (11, vI LL.length), (12, vI ii)]
def JpB (LL : List (List Px)) (N : Nat) (v : Value) (Z0 : List AC) (n : Nat) (R : Rws) (ts : List (Nat × AV)) (ms : List (Nat × List AC)) : Prop :=
  ∃ (i : Nat) (ii : Int) (u : Value), i ≤ LL.length ∧ n = LL.length - i ∧ ii = i ∧ RowSub v 2 (preP LL i).length N u ∧ R = row1 0 ⟨38, 2, v, N, itC (preP LL i) ++ Z0.drop ((preP LL i).length * 2)⟩ ∧ ms = [] ∧ ts = [(6, vC v), (7, vC u), (24, vRs LL), (25, vI LL.length), (26, vI ii)]
set_option maxRecDepth 100000 in
set_option maxHeartbeats 8000000 in
theorem p_joinedP {LL : List (List Px)} (hL : LL.length ≤ 1000) (hN : LL.flatten.length ≤ 100000) : PCall Try.prog 43 [vRs LL] (vIt LL.flatten) := by
  refine pcall_body (f := 43) Try.func43 rfl rfl rfl rfl ?_
  refine awp_rows ?_
  (repeat (first | ((with_reducible apply rwp_seq)) | ((with_reducible apply rthen_normal)) | ((with_reducible apply rwp_region)) | ((with_reducible apply hs_nil)) | ((with_reducible apply rwp_block)) | ((with_reducible apply hs_c); exact rfl; (repeat (first | ((with_reducible apply al_q); exact rfl) | ((with_reducible apply al_len); (iterate 3 exact rfl)))); (with_reducible apply al_nil))))
  refine rwp_loopL 37 (JpA LL) LL.length noRows _ [] ⟨0, 0, 0, Nat.zero_le _, rfl, rfl, rfl, rfl, rfl, rfl⟩ (RLe.refl _) rfl ⟨rfl, rfl, rfl, rfl, rfl, trivial⟩ trivial rfl ?_
  rintro n R ts ms ⟨i, ii, ni, hi, rfl, hii, hni, rfl, rfl, rfl⟩ hok
  clear hok
  by_cases hq : i < LL.length
  · have q2 : ii < (LL.length : Int) := by omega
    have q3 : 0 ≤ ii := by omega
    obtain ⟨l, g1⟩ : ∃ l, LL[i]? = some l := ⟨_, List.getElem?_eq_getElem hq⟩
    have E1 := rsC_at hii g1
    have h1 := preP_one g1
    have h2 := preP_len LL (i + 1)
    have h3 : (preP LL (i + 1)).length = (preP LL i).length + l.length := by rw [h1, List.length_append]
    (repeat (first | ((with_reducible apply rwp_seq)) | ((with_reducible apply rthen_normal)) | ((with_reducible apply rwp_region)) | ((with_reducible apply hs_nil)) | ((with_reducible apply rwp_skip)) | ((with_reducible apply rwp_block)) | ((with_reducible apply rblock_normal)) | ((with_reducible apply rwp_cond_1); exact rfl; (first | assumption | exact decide_eq_true (by omega) | (simp only [Bool.not_eq_true', decide_eq_false_iff_not, decide_eq_true_eq, Bool.not_eq_false']; (first | done | omega)) | exact rfl)) | ((with_reducible apply hs_c); exact rfl; (repeat (first | ((with_reducible apply al_q); exact rfl) | ((with_reducible apply al_loadP1); (iterate 5 exact rfl)) | ((with_reducible apply al_idxS); (iterate 3 exact rfl); (first | decide | omega); (first | decide | omega); (first | assumption | rfl); exact rfl) | ((with_reducible apply al_add); (iterate 3 exact rfl); (first | exact i64_wrap (by omega) | assumption | rfl); exact rfl) | ((with_reducible apply al_len); (iterate 3 exact rfl)))); (with_reducible apply al_nil))))
    exact ⟨LL.length - (i + 1), noRows, _, [], by omega, ⟨i + 1, ii + 1, _, by omega, rfl, by omega, by omega, rfl, rfl, rfl⟩, RLe.refl _, rfl, ⟨rfl, rfl, rfl, rfl, rfl, trivial⟩, trivial, rfl⟩
  · have q2 : ¬ ii < (LL.length : Int) := by omega
    rw [preP_all (by omega)] at hni
    subst hni
    generalize hNN : LL.flatten.length = N at *
    (repeat (first | ((with_reducible apply rwp_seq)) | ((with_reducible apply rthen_normal)) | ((with_reducible apply rwp_region)) | ((with_reducible apply hs_nil)) | ((with_reducible apply rblock_same)) | ((with_reducible apply rwp_exit)) | ((with_reducible apply rthen_exit)) | ((with_reducible apply rwp_cond_0); exact rfl; (first | assumption | exact decide_eq_false (by omega) | (simp only [Bool.not_eq_true', decide_eq_false_iff_not, decide_eq_true_eq, Bool.not_eq_false']; (first | done | omega)) | exact rfl)) | ((with_reducible apply hs_c); exact rfl; (repeat (first | ((with_reducible apply al_q); exact rfl))); (with_reducible apply al_nil))))
    refine hs_make (l := N) (c' := N) 0 rfl rfl rfl rfl (Nat.le_refl _) rfl rfl ?h2 (le_maxLen (by omega)) rfl (fun v hv => ?_)
    case h2 => show 16 * N ≤ 281474976710656; omega
    generalize hZ : zeroN N 2 _ = Z0
    have hZl : Z0.length = N * 2 := by rw [← hZ]; simp [zeroN]
    clear hZ
    (repeat (first | ((with_reducible apply rwp_seq)) | ((with_reducible apply rthen_normal)) | ((with_reducible apply rwp_region)) | ((with_reducible apply hs_nil)) | ((with_reducible apply rwp_block)) | ((with_reducible apply hs_c); exact rfl; (repeat (first | ((with_reducible apply al_q); exact rfl) | ((with_reducible apply al_len); (iterate 3 exact rfl)))); (with_reducible apply al_nil))))
    refine rwp_shape 0 (r := ⟨38, 2, v, N, Z0⟩) rfl (fun Ad c hv1 hnc hcm hA hlen => ?_)
    have hv2 : v = .slice Ad N c := hv1
    have hu0 : RowSub v 2 0 N v := by rw [hv2]; exact RowSub.all 2 hnc hA
    clear hv1 hnc hcm hA hlen
    refine rwp_loopL 37 (JpB LL N v Z0) LL.length (row1 0 ⟨38, 2, v, N, Z0⟩) _ [] ⟨0, 0, v, Nat.zero_le _, rfl, rfl, hu0, rfl, rfl, rfl⟩ (row1_le _ _ _) rfl ⟨rfl, rfl, rfl, rfl, rfl, trivial⟩ trivial rfl ?_
    clear hq q2 hu0 hii hv2
    rintro n R ts ms ⟨i, ii, u, hi, rfl, hii, hu, rfl, rfl, rfl⟩ hok
    clear hok
    by_cases hq : i < LL.length
    · have q2 : ii < (LL.length : Int) := by omega
      have q3 : 0 ≤ ii := by omega
      obtain ⟨l, g1⟩ : ∃ l, LL[i]? = some l := ⟨_, List.getElem?_eq_getElem hq⟩
      have E1 := rsC_at hii g1
      have h1 := preP_one g1
      have h2 := preP_len LL (i + 1)
      have h3 : (preP LL (i + 1)).length = (preP LL i).length + l.length := by rw [h1, List.length_append]
      rw [hNN] at h2
      have c1 := itC_closed l
      have k1 : Nat.min l.length (N - (preP LL i).length) = l.length := Nat.min_eq_left (by omega)
      obtain ⟨m, hm⟩ : ∃ m, N - (preP LL i).length = m := ⟨_, rfl⟩
      have b1 : (preP LL i).length ≤ N := by omega
      have b2 : l.length ≤ m := by omega
      have s1 : splice (itC (preP LL i) ++ Z0.drop ((preP LL i).length * 2)) ((preP LL i).length * 2) ((itC l).take (l.length * 2)) = itC (preP LL (i + 1)) ++ Z0.drop ((preP LL (i + 1)).length * 2) := by
        rw [itC_takeN rfl, splice_fill (itC_len _), ← itC_append, ← h1, List.drop_drop, itC_len]
        congr 2
        omega
      have hu' := hu.sl hm b2 b1
      rw [← h3] at hu'
      (repeat (first | ((with_reducible apply rwp_seq)) | ((with_reducible apply rthen_normal)) | ((with_reducible apply rwp_region)) | ((with_reducible apply hs_nil)) | ((with_reducible apply rwp_skip)) | ((with_reducible apply rwp_block)) | ((with_reducible apply rblock_normal)) | ((with_reducible apply rwp_cond_1); exact rfl; (first | assumption | exact decide_eq_true (by omega) | (simp only [Bool.not_eq_true', decide_eq_false_iff_not, decide_eq_true_eq, Bool.not_eq_false']; (first | done | omega)) | exact rfl)) | ((with_reducible apply hs_c); exact rfl; (repeat (first | ((with_reducible apply al_q); exact rfl) | ((with_reducible apply al_loadP1); (iterate 5 exact rfl)) | ((with_reducible apply al_idxS); (iterate 3 exact rfl); (first | decide | omega); (first | decide | omega); (first | assumption | rfl); exact rfl) | ((with_reducible apply al_add); (iterate 3 exact rfl); (first | exact i64_wrap (by omega) | assumption | rfl); exact rfl) | ((with_reducible apply al_slU); (iterate 3 exact rfl); assumption; (first | assumption | exact rfl); (first | assumption | omega); exact rfl))); (with_reducible apply al_nil)) | ((with_reducible apply hs_copyU 0); (iterate 3 exact rfl); assumption; exact rfl; exact rfl; exact rfl; (first | assumption | omega); (first | exact Nat.le_refl _ | assumption); (first | assumption | exact rfl); exact rfl; assumption; assumption; exact rfl)))
      exact ⟨LL.length - (i + 1), _, _, [], by omega, ⟨i + 1, ii + 1, _, by omega, rfl, by omega, hu', rfl, rfl, rfl⟩, row1_le _ _ _, rfl, ⟨rfl, rfl, rfl, rfl, rfl, trivial⟩, trivial, rfl⟩
    · have q2 : ¬ ii < (LL.length : Int) := by omega
      have e0 : itC (preP LL i) ++ Z0.drop ((preP LL i).length * 2) = itC LL.flatten := by
        rw [preP_all (by omega), List.drop_of_length_le (by omega), List.append_nil]
      rw [e0]
      refine rwp_cool 0 6 ⟨38, 2, v, N, itC LL.flatten⟩ rfl rfl ?_
      rw [← hNN]
      (repeat (first | ((with_reducible apply rwp_seq)) | ((with_reducible apply rthen_normal)) | ((with_reducible apply rwp_region)) | ((with_reducible apply hs_nil)) | ((with_reducible apply rwp_ret)) | ((with_reducible apply rblock_same)) | ((with_reducible apply rwp_exit)) | ((with_reducible apply rthen_exit)) | ((with_reducible apply rwp_cond_0); exact rfl; (first | assumption | exact decide_eq_false (by omega) | (simp only [Bool.not_eq_true', decide_eq_false_iff_not, decide_eq_true_eq, Bool.not_eq_false']; (first | done | omega)) | exact rfl)) | ((with_reducible apply hs_c); exact rfl; (repeat (first | ((with_reducible apply al_q); exact rfl))); (with_reducible apply al_nil))))
      (first | (refine apost_ret rfl (resl_tmp rfl resl_nil) ?_))
      exact AV.Le.refl _
end Go.Proofs.Ytlglajaonmpljaa

namespace Go.Proofs.Ytlglajaonmpljaa
open Go.RowKit
set_option linter.unusedVariables false
set_option linter.unusedSimpArgs false
/-- rows, as a row. -/
abbrev rsI (LL : List (List Int)) : List AC := LL.map fun l => AC.p (SlP 1 l.length (inC l))
abbrev vRI (LL : List (List Int)) : AV := vS 1 LL.length (rsI LL)
theorem rsI_at {LL : List (List Int)} {j : Int} {i : Nat} {l : List Int} (hj : j = i) (h : LL[i]? = some l) : ((rsI LL).drop (j.toNat * 1)).take 1 = [.p (SlP 1 l.length (inC l))] := by
  subst hj
  have hi := (List.getElem?_eq_some_iff.1 h).1
  rw [Int.toNat_natCast, Nat.mul_one, List.drop_eq_getElem_cons (by simpa [rsI] using hi)]
  have : LL[i] = l := (List.getElem?_eq_some_iff.1 h).2
  simp [rsI, this]
def preI (LL : List (List Int)) (i : Nat) : List Int := (LL.take i).flatten
theorem preI_one {LL : List (List Int)} {i : Nat} {l : List Int} (h : LL[i]? = some l) : preI LL (i + 1) = preI LL i ++ l := by
  unfold preI
  rw [List.take_succ_eq_append_getElem (List.getElem?_eq_some_iff.1 h).1, (List.getElem?_eq_some_iff.1 h).2]; simp
theorem preI_all {LL : List (List Int)} {i : Nat} (h : LL.length ≤ i) : preI LL i = LL.flatten := by unfold preI; rw [List.take_of_length_le h]
theorem preI_len (LL : List (List Int)) (i : Nat) : (preI LL i).length ≤ LL.flatten.length := by
  have : LL.flatten = preI LL i ++ (LL.drop i).flatten := by unfold preI; rw [← List.flatten_append, List.take_append_drop]
  rw [this, List.length_append]; omega
def JiA (LL : List (List Int)) (n : Nat) (R : Rws) (ts : List (Nat × AV)) (ms : List (Nat × List AC)) : Prop :=
  ∃ (i : Nat) (ii ni : Int), i ≤ LL.length ∧ n = LL.length - i ∧ ii = i ∧ ni = ((preI LL i).length : Nat) ∧ R = noRows ∧ ms = [] ∧ ts = [(0, vRI LL), (3, vI ni), (10, vRI LL), (11, vI LL.length), (12, vI ii)]
def JiB (LL : List (List Int)) (N : Nat) (v : Value) (Z0 : List AC) (n : Nat) (R : Rws) (ts : List (Nat × AV)) (ms : List (Nat × List AC)) : Prop :=
  ∃ (i : Nat) (ii : Int) (u : Value), i ≤ LL.length ∧ n = LL.length - i ∧ ii = i ∧ RowSub v 1 (preI LL i).length N u ∧ R = row1 0 ⟨3, 1, v, N, inC (preI LL i) ++ Z0.drop ((preI LL i).length * 1)⟩ ∧ ms = [] ∧ ts = [(6, vC v), (7, vC u), (24, vRI LL), (25, vI LL.length), (26, vI ii)]
set_option maxRecDepth 100000 in
set_option maxHeartbeats 8000000 in
theorem p_joinedI {LL : List (List Int)} (hL : LL.length ≤ 1000) (hN : LL.flatten.length ≤ 100000) : PCall Try.prog 44 [vRI LL] (vIn LL.flatten) := by
  refine pcall_body (f := 44) Try.func44 rfl rfl rfl rfl ?_
  refine awp_rows ?_
  (repeat (first | ((with_reducible apply rwp_seq)) | ((with_reducible apply rthen_normal)) | ((with_reducible apply rwp_region)) | ((with_reducible apply hs_nil)) | ((with_reducible apply rwp_block)) | ((with_reducible apply hs_c); exact rfl; (repeat (first | ((with_reducible apply al_q); exact rfl) | ((with_reducible apply al_len); (iterate 3 exact rfl)))); (with_reducible apply al_nil))))
  refine rwp_loopL 37 (JiA LL) LL.length noRows _ [] ⟨0, 0, 0, Nat.zero_le _, rfl, rfl, rfl, rfl, rfl, rfl⟩ (RLe.refl _) rfl ⟨rfl, rfl, rfl, rfl, rfl, trivial⟩ trivial rfl ?_
  rintro n R ts ms ⟨i, ii, ni, hi, rfl, hii, hni, rfl, rfl, rfl⟩ hok
  clear hok
  by_cases hq : i < LL.length
  · have q2 : ii < (LL.length : Int) := by omega
    have q3 : 0 ≤ ii := by omega
    obtain ⟨l, g1⟩ : ∃ l, LL[i]? = some l := ⟨_, List.getElem?_eq_getElem hq⟩
    have E1 := rsI_at hii g1
    have h1 := preI_one g1
    have h2 := preI_len LL (i + 1)
    have h3 : (preI LL (i + 1)).length = (preI LL i).length + l.length := by rw [h1, List.length_append]
    (repeat (first | ((with_reducible apply rwp_seq)) | ((with_reducible apply rthen_normal)) | ((with_reducible apply rwp_region)) | ((with_reducible apply hs_nil)) | ((with_reducible apply rwp_skip)) | ((with_reducible apply rwp_block)) | ((with_reducible apply rblock_normal)) | ((with_reducible apply rwp_cond_1); exact rfl; (first | assumption | exact decide_eq_true (by omega) | (simp only [Bool.not_eq_true', decide_eq_false_iff_not, decide_eq_true_eq, Bool.not_eq_false']; (first | done | omega)) | exact rfl)) | ((with_reducible apply hs_c); exact rfl; (repeat (first | ((with_reducible apply al_q); exact rfl) | ((with_reducible apply al_loadP1); (iterate 5 exact rfl)) | ((with_reducible apply al_idxS); (iterate 3 exact rfl); (first | decide | omega); (first | decide | omega); (first | assumption | rfl); exact rfl) | ((with_reducible apply al_add); (iterate 3 exact rfl); (first | exact i64_wrap (by omega) | assumption | rfl); exact rfl) | ((with_reducible apply al_len); (iterate 3 exact rfl)))); (with_reducible apply al_nil))))
    exact ⟨LL.length - (i + 1), noRows, _, [], by omega, ⟨i + 1, ii + 1, _, by omega, rfl, by omega, by omega, rfl, rfl, rfl⟩, RLe.refl _, rfl, ⟨rfl, rfl, rfl, rfl, rfl, trivial⟩, trivial, rfl⟩
  · have q2 : ¬ ii < (LL.length : Int) := by omega
    rw [preI_all (by omega)] at hni
    subst hni
    generalize hNN : LL.flatten.length = N at *
    (repeat (first | ((with_reducible apply rwp_seq)) | ((with_reducible apply rthen_normal)) | ((with_reducible apply rwp_region)) | ((with_reducible apply hs_nil)) | ((with_reducible apply rblock_same)) | ((with_reducible apply rwp_exit)) | ((with_reducible apply rthen_exit)) | ((with_reducible apply rwp_cond_0); exact rfl; (first | assumption | exact decide_eq_false (by omega) | (simp only [Bool.not_eq_true', decide_eq_false_iff_not, decide_eq_true_eq, Bool.not_eq_false']; (first | done | omega)) | exact rfl)) | ((with_reducible apply hs_c); exact rfl; (repeat (first | ((with_reducible apply al_q); exact rfl))); (with_reducible apply al_nil))))
    refine hs_make (l := N) (c' := N) 0 rfl rfl rfl rfl (Nat.le_refl _) rfl rfl ?h2 (le_maxLen (by omega)) rfl (fun v hv => ?_)
    case h2 => show 8 * N ≤ 281474976710656; omega
    generalize hZ : zeroN N 1 _ = Z0
    have hZl : Z0.length = N * 1 := by rw [← hZ]; simp [zeroN]
    clear hZ
    (repeat (first | ((with_reducible apply rwp_seq)) | ((with_reducible apply rthen_normal)) | ((with_reducible apply rwp_region)) | ((with_reducible apply hs_nil)) | ((with_reducible apply rwp_block)) | ((with_reducible apply hs_c); exact rfl; (repeat (first | ((with_reducible apply al_q); exact rfl) | ((with_reducible apply al_len); (iterate 3 exact rfl)))); (with_reducible apply al_nil))))
    refine rwp_shape 0 (r := ⟨3, 1, v, N, Z0⟩) rfl (fun Ad c hv1 hnc hcm hA hlen => ?_)
    have hv2 : v = .slice Ad N c := hv1
    have hu0 : RowSub v 1 0 N v := by rw [hv2]; exact RowSub.all 1 hnc hA
    clear hv1 hnc hcm hA hlen
    refine rwp_loopL 37 (JiB LL N v Z0) LL.length (row1 0 ⟨3, 1, v, N, Z0⟩) _ [] ⟨0, 0, v, Nat.zero_le _, rfl, rfl, hu0, rfl, rfl, rfl⟩ (row1_le _ _ _) rfl ⟨rfl, rfl, rfl, rfl, rfl, trivial⟩ trivial rfl ?_
    clear hq q2 hu0 hii hv2
    rintro n R ts ms ⟨i, ii, u, hi, rfl, hii, hu, rfl, rfl, rfl⟩ hok
    clear hok
    by_cases hq : i < LL.length
    · have q2 : ii < (LL.length : Int) := by omega
      have q3 : 0 ≤ ii := by omega
      obtain ⟨l, g1⟩ : ∃ l, LL[i]? = some l := ⟨_, List.getElem?_eq_getElem hq⟩
      have E1 := rsI_at hii g1
      have h1 := preI_one g1
      have h2 := preI_len LL (i + 1)
      have h3 : (preI LL (i + 1)).length = (preI LL i).length + l.length := by rw [h1, List.length_append]
      rw [hNN] at h2
      have c1 := inC_closed1 l
      have k1 : Nat.min l.length (N - (preI LL i).length) = l.length := Nat.min_eq_left (by omega)
      obtain ⟨m, hm⟩ : ∃ m, N - (preI LL i).length = m := ⟨_, rfl⟩
      have b1 : (preI LL i).length ≤ N := by omega
      have b2 : l.length ≤ m := by omega
      have s1 : splice (inC (preI LL i) ++ Z0.drop ((preI LL i).length * 1)) ((preI LL i).length * 1) ((inC l).take (l.length * 1)) = inC (preI LL (i + 1)) ++ Z0.drop ((preI LL (i + 1)).length * 1) := by
        rw [inC_takeN rfl, splice_fill (inC_len1 _), ← inC_append, ← h1, List.drop_drop, inC_len1]
        congr 2
        omega
      have hu' := hu.sl hm b2 b1
      rw [← h3] at hu'
      (repeat (first | ((with_reducible apply rwp_seq)) | ((with_reducible apply rthen_normal)) | ((with_reducible apply rwp_region)) | ((with_reducible apply hs_nil)) | ((with_reducible apply rwp_skip)) | ((with_reducible apply rwp_block)) | ((with_reducible apply rblock_normal)) | ((with_reducible apply rwp_cond_1); exact rfl; (first | assumption | exact decide_eq_true (by omega) | (simp only [Bool.not_eq_true', decide_eq_false_iff_not, decide_eq_true_eq, Bool.not_eq_false']; (first | done | omega)) | exact rfl)) | ((with_reducible apply hs_c); exact rfl; (repeat (first | ((with_reducible apply al_q); exact rfl) | ((with_reducible apply al_loadP1); (iterate 5 exact rfl)) | ((with_reducible apply al_idxS); (iterate 3 exact rfl); (first | decide | omega); (first | decide | omega); (first | assumption | rfl); exact rfl) | ((with_reducible apply al_add); (iterate 3 exact rfl); (first | exact i64_wrap (by omega) | assumption | rfl); exact rfl) | ((with_reducible apply al_slU); (iterate 3 exact rfl); assumption; (first | assumption | exact rfl); (first | assumption | omega); exact rfl))); (with_reducible apply al_nil)) | ((with_reducible apply hs_copyU 0); (iterate 3 exact rfl); assumption; exact rfl; exact rfl; exact rfl; (first | assumption | omega); (first | exact Nat.le_refl _ | assumption); (first | assumption | exact rfl); exact rfl; assumption; assumption; exact rfl)))
      exact ⟨LL.length - (i + 1), _, _, [], by omega, ⟨i + 1, ii + 1, _, by omega, rfl, by omega, hu', rfl, rfl, rfl⟩, row1_le _ _ _, rfl, ⟨rfl, rfl, rfl, rfl, rfl, trivial⟩, trivial, rfl⟩
    · have q2 : ¬ ii < (LL.length : Int) := by omega
      have e0 : inC (preI LL i) ++ Z0.drop ((preI LL i).length * 1) = inC LL.flatten := by
        rw [preI_all (by omega), List.drop_of_length_le (by omega), List.append_nil]
      rw [e0]
      refine rwp_cool 0 6 ⟨3, 1, v, N, inC LL.flatten⟩ rfl rfl ?_
      rw [← hNN]
      (repeat (first | ((with_reducible apply rwp_seq)) | ((with_reducible apply rthen_normal)) | ((with_reducible apply rwp_region)) | ((with_reducible apply hs_nil)) | ((with_reducible apply rwp_ret)) | ((with_reducible apply rblock_same)) | ((with_reducible apply rwp_exit)) | ((with_reducible apply rthen_exit)) | ((with_reducible apply rwp_cond_0); exact rfl; (first | assumption | exact decide_eq_false (by omega) | (simp only [Bool.not_eq_true', decide_eq_false_iff_not, decide_eq_true_eq, Bool.not_eq_false']; (first | done | omega)) | exact rfl)) | ((with_reducible apply hs_c); exact rfl; (repeat (first | ((with_reducible apply al_q); exact rfl))); (with_reducible apply al_nil))))
      (first | (refine apost_ret rfl (resl_tmp rfl resl_nil) ?_))
      exact AV.Le.refl _
end Go.Proofs.Ytlglajaonmpljaa

namespace Go.Proofs.Ytlglajaonmpljaa
open Go.RowKit
set_option linter.unusedVariables false
set_option linter.unusedSimpArgs false
theorem p_Mul64 {x y : Nat} (hx : x < 9223372036854775808) (hy : y < 9223372036854775808) (h : x * y < 9223372036854775808) : PCall Try.prog 81 [vC (.int .u64 (x : Nat)), vC (.int .u64 (y : Nat))] (.tup [.one (.c (.int .u64 0)), .one (.c (.int .u64 ((x * y : Nat) : Int)))]) := by
  refine pcall_ev [.int .u64 (x : Nat), .int .u64 (y : Nat)] (.tuple #[.int .u64 0, .int .u64 ((x * y : Nat) : Int)]) rfl rfl rfl rfl rfl fun W => ?_
  refine (Try.bits_Mul64 x y (by omega) (by omega) W).mono ?_
  rintro e w' ⟨rfl, rfl⟩
  have e1 : x * y / 18446744073709551616 = 0 := Nat.div_eq_of_lt (by omega)
  have e2 : x * y % 18446744073709551616 = x * y := Nat.mod_eq_of_lt (by omega)
  rw [e1, e2]
  exact ⟨rfl, Below.refl _ _⟩
set_option maxRecDepth 100000 in
set_option maxHeartbeats 8000000 in
theorem p_Mul1 {y : Nat} (hy : y < 9223372036854775808) : PCall Try.prog 56 [vC (.int .u64 1), vC (.int .u64 (y : Nat))] (.tup [.one (.c (.int .u64 0)), .one (.c (.int .u64 (y : Nat)))]) := by
  have C1 := p_Mul64 (x := 1) (y := y) (by decide) hy (by omega)
  rw [Nat.one_mul] at C1
  replace C1 : PCall Try.prog 81 [vC (.int .u64 1), vC (.int .u64 (y : Nat))] (.tup [.one (.c (.int .u64 0)), .one (.c (.int .u64 (y : Nat)))]) := C1
  refine pcall_body (f := 56) Try.func56 rfl rfl rfl rfl ?_
  (repeat (first | ((with_reducible apply al_q); exact rfl) | (refine al_call2 rfl rfl rfl rfl (by (first | exact C1)) rfl ?_) | ((with_reducible apply awp_seq)) | ((with_reducible apply athen_normal)) | ((with_reducible apply awp_region)) | ((with_reducible apply al_nil)) | ((with_reducible apply awp_ret)) | ((with_reducible apply awp_skip)) | ((with_reducible apply awp_cond_f); exact rfl)))
  (first | (refine apost_ret rfl (resl_tmp rfl (resl_tmp rfl resl_nil)) ?_))
  exact AV.Le.refl _
def RpI (d : Int) (m : Nat) (v : Value) (Z0 : List AC) (n : Nat) (R : Rws) (ts : List (Nat × AV)) (ms : List (Nat × List AC)) : Prop :=
  ∃ (k : Nat) (ki : Int), 1 ≤ k ∧ k ≤ m ∧ n = m - k ∧ ki = k ∧ R = row1 0 ⟨3, 1, v, m, inC (List.replicate k d) ++ Z0.drop k⟩ ∧ ms = [] ∧ ts = [(7, vC v), (8, vI ki)]
set_option maxRecDepth 100000 in
set_option maxHeartbeats 8000000 in
theorem p_Repeat1 {d : Int} {m : Nat} (hm1 : 1 ≤ m) (hm : m ≤ 100000) : PCall Try.prog 36 [vIn [d], vI m] (vIn (List.replicate m d)) := by
  have M1 := p_Mul1 (y := m) (by omega)
  have w1 : IntKind.u64.wrap (m : Int) = m := by rw [IntKind.wrap_u64]; omega
  have w2 : IntKind.i64.wrap (m : Int) = m := i64_wrap (by omega)
  have q0 : ¬ (m : Int) < 0 := by omega
  have q1 : ¬ (m : Int) > 9223372036854775807 := by omega
  have k1 : Nat.min 1 m = 1 := Nat.min_eq_left hm1
  refine pcall_body (f := 36) Try.func36 rfl rfl rfl rfl ?_
  refine awp_rows ?_
  (repeat (first | ((with_reducible apply rwp_seq)) | ((with_reducible apply rthen_normal)) | ((with_reducible apply rwp_region)) | ((with_reducible apply hs_nil)) | ((with_reducible apply rwp_skip)) | ((with_reducible apply rwp_cond_0); exact rfl; (first | assumption | exact decide_eq_false (by omega) | (simp only [Bool.not_eq_true', decide_eq_false_iff_not, decide_eq_true_eq, Bool.not_eq_false']; (first | done | omega)) | exact rfl)) | ((with_reducible apply hs_c); exact rfl; (repeat (first | ((with_reducible apply al_q); exact rfl) | ((with_reducible apply al_convI); exact rfl; exact rfl; (first | exact i64_wrap (by omega) | assumption | rfl); exact rfl) | ((with_reducible apply al_len); (iterate 3 exact rfl)) | (refine al_call2 rfl rfl rfl rfl (by (first | exact M1)) rfl ?_))); (with_reducible apply al_nil))))
  refine hs_make (l := m) (c' := m) 0 rfl rfl rfl rfl (Nat.le_refl _) rfl rfl ?h2 (le_maxLen (by omega)) rfl (fun v hv => ?_)
  case h2 => show 8 * m ≤ 281474976710656; omega
  generalize hZ : zeroN m 1 _ = Z0
  have hZl : Z0.length = m := by rw [← hZ]; simp [zeroN]
  have hZc : Z0.all AC.closedB = true := by
    rw [← hZ]
    refine List.all_eq_true.2 fun y hy => ?_
    simp only [zeroN, List.mem_map] at hy
    obtain ⟨j, _, rfl⟩ := hy
    rfl
  clear hZ
  have s1 : splice Z0 (0 * 1) ((inC [d]).take (1 * 1)) = inC (List.replicate 1 d) ++ Z0.drop 1 := by
    unfold splice; simp [inC]
  (repeat (first | ((with_reducible apply rwp_seq)) | ((with_reducible apply rthen_normal)) | ((with_reducible apply rwp_region)) | ((with_reducible apply hs_nil)) | ((with_reducible apply rwp_block)) | ((with_reducible apply hs_c); exact rfl; (repeat (first | ((with_reducible apply al_q); exact rfl))); (with_reducible apply al_nil)) | ((with_reducible apply hs_copy 0); (iterate 6 exact rfl); (first | assumption | exact rfl); exact rfl; (first | assumption | exact rfl); (first | assumption | exact rfl); exact rfl)))
  refine rwp_shape 0 (r := ⟨3, 1, v, m, inC (List.replicate 1 d) ++ Z0.drop 1⟩) rfl (fun Ad c hv1 hnc hcm hA hlen => ?_)
  have hv2 : v = .slice Ad m c := hv1
  have hu : RowSub v 1 0 m v := by rw [hv2]; exact RowSub.all 1 hnc hA
  clear hv1 hnc hcm hA hlen hv2
  refine rwp_loopL 48 (RpI d m v Z0) (m - 1) (row1 0 ⟨3, 1, v, m, inC (List.replicate 1 d) ++ Z0.drop 1⟩) _ [] ⟨1, 1, Nat.le_refl _, hm1, rfl, rfl, rfl, rfl, rfl⟩ (row1_le _ _ _) rfl ⟨rfl, rfl, trivial⟩ trivial rfl ?_
  clear M1 w1 w2 q0 q1 k1 s1
  rintro n R ts ms ⟨k, ki, hk1, hk, rfl, rfl, rfl, rfl, rfl⟩ hok
  clear hok
  by_cases hq : k < m
  · have q2 : (k : Int) < (m : Int) := by omega
    obtain ⟨x, hx⟩ : ∃ x, Nat.min k (m - k) = x := ⟨_, rfl⟩
    have hx1 : 1 ≤ x := by rw [← hx]; exact Nat.le_min.2 ⟨hk1, by omega⟩
    have hxk : x ≤ k := by rw [← hx]; exact Nat.min_le_left _ _
    have hxm : x ≤ m - k := by rw [← hx]; exact Nat.min_le_right _ _
    have m0 : m - 0 = m := Nat.sub_zero m
    have u1 := hu.sl m0 hk (Nat.zero_le _)
    have u2 := hu.slh (k := k) (by omega)
    rw [Nat.zero_add] at u1 u2
    have e0 : 0 + k = k := Nat.zero_add k
    have cl : (inC (List.replicate k d) ++ Z0.drop k).all AC.closedB = true := by
      rw [List.all_append, inC_closed1, Bool.true_and]
      exact List.all_eq_true.2 fun y hy => List.all_eq_true.1 hZc y (List.mem_of_mem_drop hy)
    have s1 : splice (inC (List.replicate k d) ++ Z0.drop k) (k * 1) ((((inC (List.replicate k d) ++ Z0.drop k).drop (0 * 1)).take (k * 1)).take (x * 1)) = inC (List.replicate (k + x) d) ++ Z0.drop (k + x) := by
      have lk : (inC (List.replicate k d)).length = k * 1 := by simp [inC]
      rw [Nat.zero_mul, List.drop_zero, ← lk, List.take_left, splice_fill rfl]
      have e3 : (inC (List.replicate k d)).take (x * 1) = inC (List.replicate x d) := by
        simp only [inC, List.map_replicate, Nat.mul_one, List.take_replicate]
        rw [Nat.min_eq_left hxk]
      rw [e3, List.drop_drop, ← inC_append, List.replicate_append_replicate, show (inC (List.replicate x d)).length = x by simp [inC]]
    have w1 : IntKind.i64.wrap ((k : Int) + (x : Int)) = (k : Int) + (x : Int) := i64_wrap (by omega)
    (repeat (first | ((with_reducible apply hs_nilS); kernel_rfl) | ((with_reducible apply rwp_draw (id := 9) [0,1,2,3,4,5,6,7,8,9]); kernel_rfl; kernel_rfl; exact rfl) | ((with_reducible apply rwp_seq)) | ((with_reducible apply rthen_normal)) | ((with_reducible apply rwp_region)) | ((with_reducible apply hs_nil)) | ((with_reducible apply rwp_skip)) | ((with_reducible apply rwp_block)) | ((with_reducible apply rblock_normal)) | ((with_reducible apply rwp_cond_1); exact rfl; (first | assumption | exact decide_eq_true (by omega) | (simp only [Bool.not_eq_true', decide_eq_false_iff_not, decide_eq_true_eq, Bool.not_eq_false']; (first | done | omega)) | exact rfl)) | ((with_reducible apply hs_c); exact rfl; (repeat (first | ((with_reducible apply al_q); exact rfl) | ((with_reducible apply al_add); (iterate 3 exact rfl); (first | exact i64_wrap (by omega) | assumption | rfl); exact rfl) | ((with_reducible apply al_slU); (iterate 3 exact rfl); assumption; (first | assumption | exact rfl); (first | assumption | omega); exact rfl) | ((with_reducible apply al_slUh); (iterate 3 exact rfl); assumption; (first | assumption | exact rfl); (first | assumption | omega); exact rfl))); (with_reducible apply al_nil)) | ((with_reducible apply hs_len 0); (iterate 4 exact rfl); kernel_rfl; exact rfl) | ((with_reducible apply hs_copyW 0); (iterate 3 exact rfl); assumption; exact rfl; assumption; assumption; assumption; exact rfl; exact rfl; (first | assumption | omega); (first | exact Nat.le_refl _ | assumption); (first | assumption | exact rfl); exact rfl; assumption; assumption; exact rfl)))
    exact ⟨m - (k + x), _, _, [], by omega, ⟨k + x, (k : Int) + (x : Int), by omega, by omega, rfl, by omega, rfl, rfl, rfl⟩, row1_le _ _ _, rfl, ⟨rfl, rfl, trivial⟩, trivial, rfl⟩
  · have q2 : ¬ (k : Int) < (m : Int) := by omega
    have e0 : inC (List.replicate k d) ++ Z0.drop k = inC (List.replicate m d) := by
      rw [show k = m by omega, List.drop_of_length_le (by omega), List.append_nil]
    rw [e0]
    refine rwp_cool 0 7 ⟨3, 1, v, m, inC (List.replicate m d)⟩ rfl rfl ?_
    have el : vS 1 m (inC (List.replicate m d)) = vIn (List.replicate m d) := by
      show vS 1 m _ = vS 1 (List.replicate m d).length _
      rw [List.length_replicate]
    rw [← el]
    (repeat (first | ((with_reducible apply rwp_seq)) | ((with_reducible apply rthen_normal)) | ((with_reducible apply rwp_region)) | ((with_reducible apply hs_nil)) | ((with_reducible apply rwp_ret)) | ((with_reducible apply rblock_same)) | ((with_reducible apply rwp_exit)) | ((with_reducible apply rthen_exit)) | ((with_reducible apply rwp_cond_0); exact rfl; (first | assumption | exact decide_eq_false (by omega) | (simp only [Bool.not_eq_true', decide_eq_false_iff_not, decide_eq_true_eq, Bool.not_eq_false']; (first | done | omega)) | exact rfl)) | ((with_reducible apply hs_c); exact rfl; (repeat (first | ((with_reducible apply al_q); exact rfl) | ((with_reducible apply al_len); (iterate 3 exact rfl)))); (with_reducible apply al_nil))))
    (first | (refine apost_ret rfl (resl_tmp rfl resl_nil) ?_))
    exact AV.Le.refl _
end Go.Proofs.Ytlglajaonmpljaa

namespace Go.Proofs.Ytlglajaonmpljaa
open Go.RowKit
set_option linter.unusedVariables false
set_option linter.unusedSimpArgs false
set_option maxRecDepth 100000 in
set_option maxHeartbeats 8000000 in
theorem p_insteadP {V l : List Px} {f t : Int} (hf : 0 ≤ f ∧ f ≤ V.length) (ht : 0 ≤ t ∧ t ≤ V.length) (hV : V.length ≤ 10000) (hl : l.length ≤ 10000) : PCall Try.prog 37 [vIt V, vI f, vI t, vIt l] (vIt (V.take f.toNat ++ l ++ V.drop t.toNat)) := by
  have J := p_joinedP (LL := [V.take f.toNat, l, V.drop t.toNat]) (by show 3 ≤ 1000; decide) (by simp [List.length_append]; omega)
  have e0 : [V.take f.toNat, l, V.drop t.toNat].flatten = V.take f.toNat ++ l ++ V.drop t.toNat := by simp
  rw [e0] at J
  replace J : PCall Try.prog 43 [vS 1 3 [.p (SlP 2 (V.take f.toNat).length (itC (V.take f.toNat))), .p (SlP 2 l.length (itC l)), .p (SlP 2 (V.drop t.toNat).length (itC (V.drop t.toNat)))]] (vIt (V.take f.toNat ++ l ++ V.drop t.toNat)) := J
  have a1 : 0 ≤ f := hf.1
  have a2 : f ≤ f := Int.le_refl f
  have a3 : f ≤ V.length := hf.2
  have a4 : 0 ≤ t := ht.1
  have a5 : t ≤ V.length := ht.2
  have a6 : (V.length : Int) ≤ V.length := Int.le_refl _
  have m1 : f.toNat - 0 = (V.take f.toNat).length := by rw [List.length_take]; omega
  have e1 : ((itC V).drop (0 * 2)).take ((V.take f.toNat).length * 2) = itC (V.take f.toNat) := by
    have h : itC V = itC (V.take f.toNat) ++ itC (V.drop f.toNat) := by rw [← itC_append, List.take_append_drop]
    rw [h, Nat.zero_mul, List.drop_zero, ← itC_len, List.take_left]
  have m2 : (V.length : Int).toNat - t.toNat = (V.drop t.toNat).length := by rw [List.length_drop]; omega
  have e2 : ((itC V).drop (t.toNat * 2)).take ((V.drop t.toNat).length * 2) = itC (V.drop t.toNat) := by
    have h : itC V = itC (V.take t.toNat) ++ itC (V.drop t.toNat) := by rw [← itC_append, List.take_append_drop]
    rw [h, show t.toNat * 2 = (itC (V.take t.toNat)).length by rw [itC_len, List.length_take]; omega, List.drop_left, itC_takeN rfl]
  refine pcall_body (f := 37) Try.func37 rfl rfl rfl rfl ?_
  (repeat (first | ((with_reducible apply al_q); exact rfl) | ((with_reducible apply al_len); (iterate 3 exact rfl)) | ((with_reducible apply al_sl_hm); (iterate 4 exact rfl); (first | assumption | omega); (first | assumption | omega); (first | assumption | omega); (first | assumption | rfl); (first | assumption | rfl); exact rfl) | ((with_reducible apply al_sl_lhm); (iterate 5 exact rfl); (first | assumption | omega); (first | assumption | omega); (first | assumption | omega); (first | assumption | omega); (first | assumption | rfl); (first | assumption | rfl); exact rfl) | ((with_reducible apply al_bslice); (iterate 10 exact rfl)) | (refine al_call1 rfl rfl rfl (by (first | exact J)) rfl ?_) | ((with_reducible apply al_nilS); kernel_rfl) | ((with_reducible apply awp_region_draw); kernel_rfl; kernel_rfl; exact rfl) | ((with_reducible apply awp_seq)) | ((with_reducible apply athen_normal)) | ((with_reducible apply awp_region)) | ((with_reducible apply al_nil)) | ((with_reducible apply awp_ret))))
  (first | (refine apost_ret rfl (resl_tmp rfl resl_nil) ?_))
  exact AV.Le.refl _
set_option maxRecDepth 100000 in
set_option maxHeartbeats 8000000 in
theorem p_insteadI {V l : List Int} {f t : Int} (hf : 0 ≤ f ∧ f ≤ V.length) (ht : 0 ≤ t ∧ t ≤ V.length) (hV : V.length ≤ 10000) (hl : l.length ≤ 10000) : PCall Try.prog 38 [vIn V, vI f, vI t, vIn l] (vIn (V.take f.toNat ++ l ++ V.drop t.toNat)) := by
  have J := p_joinedI (LL := [V.take f.toNat, l, V.drop t.toNat]) (by show 3 ≤ 1000; decide) (by simp [List.length_append]; omega)
  have e0 : [V.take f.toNat, l, V.drop t.toNat].flatten = V.take f.toNat ++ l ++ V.drop t.toNat := by simp
  rw [e0] at J
  replace J : PCall Try.prog 44 [vS 1 3 [.p (SlP 1 (V.take f.toNat).length (inC (V.take f.toNat))), .p (SlP 1 l.length (inC l)), .p (SlP 1 (V.drop t.toNat).length (inC (V.drop t.toNat)))]] (vIn (V.take f.toNat ++ l ++ V.drop t.toNat)) := J
  have a1 : 0 ≤ f := hf.1
  have a2 : f ≤ f := Int.le_refl f
  have a3 : f ≤ V.length := hf.2
  have a4 : 0 ≤ t := ht.1
  have a5 : t ≤ V.length := ht.2
  have a6 : (V.length : Int) ≤ V.length := Int.le_refl _
  have m1 : f.toNat - 0 = (V.take f.toNat).length := by rw [List.length_take]; omega
  have e1 : ((inC V).drop (0 * 1)).take ((V.take f.toNat).length * 1) = inC (V.take f.toNat) := by
    have h : inC V = inC (V.take f.toNat) ++ inC (V.drop f.toNat) := by rw [← inC_append, List.take_append_drop]
    rw [h, Nat.zero_mul, List.drop_zero, ← inC_len1, List.take_left]
  have m2 : (V.length : Int).toNat - t.toNat = (V.drop t.toNat).length := by rw [List.length_drop]; omega
  have e2 : ((inC V).drop (t.toNat * 1)).take ((V.drop t.toNat).length * 1) = inC (V.drop t.toNat) := by
    have h : inC V = inC (V.take t.toNat) ++ inC (V.drop t.toNat) := by rw [← inC_append, List.take_append_drop]
    rw [h, show t.toNat * 1 = (inC (V.take t.toNat)).length by rw [inC_len1, List.length_take]; omega, List.drop_left, inC_takeN rfl]
  refine pcall_body (f := 38) Try.func38 rfl rfl rfl rfl ?_
  (repeat (first | ((with_reducible apply al_q); exact rfl) | ((with_reducible apply al_len); (iterate 3 exact rfl)) | ((with_reducible apply al_sl_hm); (iterate 4 exact rfl); (first | assumption | omega); (first | assumption | omega); (first | assumption | omega); (first | assumption | rfl); (first | assumption | rfl); exact rfl) | ((with_reducible apply al_sl_lhm); (iterate 5 exact rfl); (first | assumption | omega); (first | assumption | omega); (first | assumption | omega); (first | assumption | omega); (first | assumption | rfl); (first | assumption | rfl); exact rfl) | ((with_reducible apply al_bslice); (iterate 10 exact rfl)) | (refine al_call1 rfl rfl rfl (by (first | exact J)) rfl ?_) | ((with_reducible apply al_nilS); kernel_rfl) | ((with_reducible apply awp_region_draw); kernel_rfl; kernel_rfl; exact rfl) | ((with_reducible apply awp_seq)) | ((with_reducible apply athen_normal)) | ((with_reducible apply awp_region)) | ((with_reducible apply al_nil)) | ((with_reducible apply awp_ret))))
  (first | (refine apost_ret rfl (resl_tmp rfl resl_nil) ?_))
  exact AV.Le.refl _
set_option maxRecDepth 100000 in
set_option maxHeartbeats 8000000 in
theorem k_Clone10 : CClone10 := by
  intro V D hb hd
  have J1 := p_joinedP (LL := [V]) (by show 1 ≤ 1000; decide) (by simp; omega)
  have J2 := p_joinedI (LL := [D]) (by show 1 ≤ 1000; decide) (by simp; omega)
  rw [show [V].flatten = V by simp] at J1
  rw [show [D].flatten = D by simp] at J2
  replace J1 : PCall Try.prog 43 [vS 1 1 [.p (SlP 2 V.length (itC V))]] (vIt V) := J1
  replace J2 : PCall Try.prog 44 [vS 1 1 [.p (SlP 1 D.length (inC D))]] (vIn D) := J2
  refine pcall_body (f := 19) Try.func19 rfl rfl rfl rfl ?_
  (repeat (first | ((with_reducible apply al_q); exact rfl) | ((with_reducible apply al_bslice); (iterate 10 exact rfl)) | (refine al_call1 rfl rfl rfl (by (first | exact J1 | exact J2)) rfl ?_) | ((with_reducible apply al_nilS); kernel_rfl) | ((with_reducible apply awp_region_draw); kernel_rfl; kernel_rfl; exact rfl) | ((with_reducible apply awp_seq)) | ((with_reducible apply athen_normal)) | ((with_reducible apply awp_region)) | ((with_reducible apply al_nil)) | ((with_reducible apply awp_ret))))
  (first | (refine apost_ret rfl (resl_agg rfl rfl rfl resl_nil) ?_) | (refine apost_ret rfl (resl_one rfl rfl rfl resl_nil) ?_))
  exact AV.Le.refl _
theorem tup_le {xs ys : List AW} (hl : xs.length = ys.length) (h : ∀ (i : Nat) x y, xs[i]? = some x → ys[i]? = some y → AV.Le (.w x) (.w y)) : AV.Le (.tup xs) (.tup ys) := fun U ρ W v hv => by
  obtain ⟨vs, e, hn, hh⟩ := hv
  exact ⟨vs, e, by rw [← hl]; exact hn, fun i y u hy hu => by
    have hi : i < xs.length := by rw [hl]; exact (List.getElem?_eq_some_iff.1 hy).1
    exact h i _ y (List.getElem?_eq_getElem hi) hy U ρ W u (hh i _ u (List.getElem?_eq_getElem hi) hu)⟩
theorem fls_le : AV.Le (.tup [.agg [.c (.slice none 0 0), .c (.slice none 0 0)], .one (.c (.bool false))]) (.tup [.agg (mCh [] []), .one (.c (.bool false))]) := tup_le rfl fun i x y hx hy => by
  match i with
  | 0 => cases hx; cases hy; exact ch0_le
  | 1 => cases hx; cases hy; exact AV.Le.refl _
  | i + 2 => simp at hx
set_option maxRecDepth 100000 in
set_option maxHeartbeats 8000000 in
theorem split_none {V l : List Px} {D : List Int} {j : Nat} (hb : V.length ≤ 1000) (hd : D.length ≤ 1000) (hj : j ≤ 1000)
    (cs : (j : Int) ≥ D.length ∨ (¬ (j : Int) ≥ D.length ∧ (j : Int) ≥ (V.length : Int) - 1) ∨ (¬ (j : Int) ≥ D.length ∧ ¬ (j : Int) ≥ (V.length : Int) - 1 ∧ (l.length : Int) = 0)) : PCall Try.prog 15 [vCh V D, vI j, vIt l] (.tup [.agg (mCh [] []), .one (.c (.bool false))]) := by
  have q0 : ¬ (j : Int) < 0 := by omega
  generalize (j : Int) = jj at *
  rcases cs with q1 | ⟨q1, q2⟩ | ⟨q1, q2, q3⟩
  all_goals
    refine pcall_body (f := 15) Try.func15 rfl rfl rfl rfl ?_
    (repeat (first | ((with_reducible apply al_q); exact rfl) | ((with_reducible apply al_sub); (iterate 3 exact rfl); (first | exact i64_wrap (by omega) | assumption | rfl); exact rfl) | ((with_reducible apply al_len); (iterate 3 exact rfl)) | ((with_reducible apply al_guard_b (c := true)); exact rfl; exact rfl; (first | assumption | exact decide_eq_true (by omega) | (simp only [Bool.not_eq_true', decide_eq_false_iff_not, decide_eq_true_eq, Bool.not_eq_false']; (first | done | omega)))) | ((with_reducible apply al_guard_b (c := false)); exact rfl; exact rfl; (first | assumption | exact decide_eq_false (by omega) | (simp only [Bool.not_eq_true', decide_eq_false_iff_not, decide_eq_true_eq, Bool.not_eq_false']; (first | done | omega)))) | ((with_reducible apply awp_seq)) | ((with_reducible apply athen_normal)) | ((with_reducible apply awp_region)) | ((with_reducible apply al_nil)) | ((with_reducible apply awp_ret)) | ((with_reducible apply athen_ret)) | ((with_reducible apply awp_cond_t); exact rfl) | ((with_reducible apply awp_cond_1); exact rfl; (first | assumption | exact decide_eq_true (by omega) | (simp only [Bool.not_eq_true', decide_eq_false_iff_not, decide_eq_true_eq, Bool.not_eq_false']; (first | done | omega))))))
    (first | (refine apost_ret rfl (resl_agg rfl rfl rfl (resl_tmp rfl resl_nil)) ?_) | (refine apost_ret rfl (resl_one rfl rfl rfl (resl_tmp rfl resl_nil)) ?_))
    exact fls_le
set_option maxRecDepth 100000 in
set_option maxHeartbeats 8000000 in
theorem split_yes {V l : List Px} {D : List Int} {j : Nat} {jj dj : Int} (hjj : jj = j) (hdj : D[j]? = some dj) (hd0 : 1 ≤ dj ∧ dj ≤ 1048576) (hl : 0 < l.length) (hD : V.length = D.length + 1) (hb : V.length ≤ 1000) (hbl : l.length ≤ 100) : PCall Try.prog 15 [vCh V D, vI jj, vIt l] (.tup [.agg (mCh (spV V j l) (spD D j l.length)), .one (.c (.bool true))]) := by
  have hjD : j < D.length := (List.getElem?_eq_some_iff.1 hdj).1
  have q0 : ¬ jj < 0 := by omega
  have q1 : ¬ jj ≥ D.length := by omega
  have q2 : ¬ jj ≥ (V.length : Int) - 1 := by omega
  have q3 : ¬ (l.length : Int) = 0 := by omega
  have q4 : jj < (D.length : Int) := by omega
  have E1 := inC_at hjj hdj
  have P1 := p_Repeat1 (d := dj + 1) (m := l.length + 1) (by omega) (by omega)
  have P2 := p_insteadP (V := V) (l := l) (f := jj + 1) (t := jj + 1) (by omega) (by omega) (by omega) (by omega)
  have P3 := p_insteadI (V := D) (l := List.replicate (l.length + 1) (dj + 1)) (f := jj) (t := jj + 1) (by omega) (by omega) (by omega) (by rw [List.length_replicate]; omega)
  have e1 : (jj + 1).toNat = j + 1 := by omega
  have e2 : jj.toNat = j := by omega
  have e3 : D.getD j 0 = dj := by simp [List.getD, hdj]
  have e4 : D.take j ++ List.replicate (l.length + 1) (dj + 1) ++ D.drop (j + 1) = spD D j l.length := by unfold spD; rw [e3]
  have e5 : V.take (j + 1) ++ l ++ V.drop (j + 1) = spV V j l := rfl
  rw [e1, e5] at P2
  rw [e1, e2, e4] at P3
  have e6 : (((l.length + 1 : Nat) : Int)) = (l.length : Int) + 1 := by omega
  rw [e6] at P1
  clear e1 e2 e3 e4 e5 e6
  generalize spV V j l = V' at *
  generalize spD D j l.length = D' at *
  generalize List.replicate (l.length + 1) (dj + 1) = T at *
  refine pcall_body (f := 15) Try.func15 rfl rfl rfl rfl ?_
  (repeat (first | ((with_reducible apply al_q); exact rfl) | ((with_reducible apply al_loadP1); (iterate 5 exact rfl)) | ((with_reducible apply al_idxS); (iterate 3 exact rfl); (first | decide | omega); (first | decide | omega); (first | assumption | rfl); exact rfl) | ((with_reducible apply al_add); (iterate 3 exact rfl); (first | exact i64_wrap (by omega) | assumption | rfl); exact rfl) | ((with_reducible apply al_sub); (iterate 3 exact rfl); (first | exact i64_wrap (by omega) | assumption | rfl); exact rfl) | ((with_reducible apply al_len); (iterate 3 exact rfl)) | ((with_reducible apply al_bslice); (iterate 10 exact rfl)) | (refine al_call2 rfl rfl rfl rfl (by (first | exact P1 | exact P2 | exact P3)) rfl ?_) | (refine al_call4 rfl rfl rfl rfl rfl rfl (by (first | exact P1 | exact P2 | exact P3)) rfl ?_) | ((with_reducible apply al_guard_b (c := false)); exact rfl; exact rfl; (first | assumption | exact decide_eq_false (by omega) | (simp only [Bool.not_eq_true', decide_eq_false_iff_not, decide_eq_true_eq, Bool.not_eq_false']; (first | done | omega)))) | ((with_reducible apply al_nilS); kernel_rfl) | ((with_reducible apply awp_region_draw); kernel_rfl; kernel_rfl; exact rfl) | ((with_reducible apply awp_seq)) | ((with_reducible apply athen_normal)) | ((with_reducible apply awp_region)) | ((with_reducible apply al_nil)) | ((with_reducible apply awp_ret)) | ((with_reducible apply awp_skip)) | ((with_reducible apply awp_cond_0); exact rfl; (first | assumption | exact decide_eq_false (by omega) | (simp only [Bool.not_eq_true', decide_eq_false_iff_not, decide_eq_true_eq, Bool.not_eq_false']; (first | done | omega))))))
  (first | (refine apost_ret rfl (resl_agg rfl rfl rfl (resl_tmp rfl resl_nil)) ?_) | (refine apost_ret rfl (resl_one rfl rfl rfl (resl_tmp rfl resl_nil)) ?_))
  exact AV.Le.refl _
theorem k_Split10 : CSplit10 := by
  intro V D j l hV hb hbl hj hdd
  cases hl : l with
  | nil => exact split_none (V := V) (D := D) (l := []) (j := j) (by omega) (by omega) (by omega) (.inr (.inr ⟨by omega, by omega, rfl⟩))
  | cons p m =>
    rw [← hl]
    have e : l.isEmpty = false := by rw [hl]; rfl
    rw [e]
    have hl0 : 0 < l.length := by rw [hl]; exact Nat.zero_lt_succ _
    obtain ⟨dj, hdj⟩ : ∃ dj, D[j]? = some dj := ⟨_, List.getElem?_eq_getElem hj⟩
    exact split_yes (V := V) (l := l) (D := D) (j := j) rfl hdj (hdd dj (List.mem_of_getElem? hdj)) hl0 hV hb hbl
theorem k_SplitN10 : CSplitN10 := fun V D j l hb hd hbl hj hjb => split_none hb hd hjb (.inl (by omega))
end Go.Proofs.Ytlglajaonmpljaa

namespace Go.Proofs.Ytlglajaonmpljaa
open Go.RowKit
set_option linter.unusedVariables false
set_option linter.unusedSimpArgs false
theorem ch1_le (V : List Px) : AV.Le (.w (.agg [.p (SlP 2 V.length (itC V)), .c (.slice none 0 0)])) (vCh V []) := agg_le rfl fun j x y hx hy => by
  match j with
  | 0 => cases hx; cases hy; exact .inl rfl
  | 1 => cases hx; cases hy; exact .inr ⟨rfl, 1, rfl⟩
  | j + 2 => simp at hx
set_option maxRecDepth 100000 in
set_option maxHeartbeats 8000000 in
theorem k_New10 : CNew10 := by
  intro x y z w
  cases hq : eqP x y z w with
  | true =>
    obtain ⟨rfl, rfl⟩ := eqP_iff.1 hq
    rw [show newV (x, y) (x, y) = [(x, y)] from if_pos rfl, show newD (x, y) (x, y) = [] from if_pos rfl]
    refine pcall_body (f := 11) Try.func11 rfl rfl rfl rfl ?_
    (repeat (first | ((with_reducible apply al_q); exact rfl) | ((with_reducible apply al_eqP); (iterate 4 exact rfl)) | ((with_reducible apply al_bslice); (iterate 10 exact rfl)) | ((with_reducible apply awp_seq)) | ((with_reducible apply athen_normal)) | ((with_reducible apply awp_region)) | ((with_reducible apply al_nil)) | ((with_reducible apply awp_ret)) | ((with_reducible apply athen_ret)) | ((with_reducible apply awp_cond_1); exact rfl; (first | assumption | exact decide_eq_true (by omega) | (simp only [Bool.not_eq_true', decide_eq_false_iff_not, decide_eq_true_eq, Bool.not_eq_false']; (first | done | omega))))))
    (first | (refine apost_ret rfl (resl_agg rfl rfl rfl resl_nil) ?_) | (refine apost_ret rfl (resl_one rfl rfl rfl resl_nil) ?_))
    exact ch1_le [(x, y)]
  | false =>
    have hn : ¬ ((x, y) : Px) = (z, w) := fun e => by
      have := eqP_iff.2 (⟨congrArg Prod.fst e, congrArg Prod.snd e⟩ : x = z ∧ y = w)
      rw [hq] at this; cases this
    rw [show newV (x, y) (z, w) = [(x, y), (z, w)] from if_neg hn, show newD (x, y) (z, w) = [1] from if_neg hn]
    refine pcall_body (f := 11) Try.func11 rfl rfl rfl rfl ?_
    (repeat (first | ((with_reducible apply al_q); exact rfl) | ((with_reducible apply al_eqP); (iterate 4 exact rfl)) | ((with_reducible apply al_bslice); (iterate 10 exact rfl)) | ((with_reducible apply awp_seq)) | ((with_reducible apply athen_normal)) | ((with_reducible apply awp_region)) | ((with_reducible apply al_nil)) | ((with_reducible apply awp_ret)) | ((with_reducible apply awp_skip)) | ((with_reducible apply awp_cond_0); exact rfl; (first | assumption | exact decide_eq_false (by omega) | (simp only [Bool.not_eq_true', decide_eq_false_iff_not, decide_eq_true_eq, Bool.not_eq_false']; (first | done | omega))))))
    (first | (refine apost_ret rfl (resl_agg rfl rfl rfl resl_nil) ?_) | (refine apost_ret rfl (resl_one rfl rfl rfl resl_nil) ?_))
    exact AV.Le.refl _
def DpI (V : List Px) (D : List Int) (n : Nat) (ts : List (Nat × AV)) (ms : List (Nat × List AC)) : Prop :=
  ∃ (k : Nat) (ki d : Int), k ≤ D.length ∧ n = D.length - k ∧ ki = k ∧ d = dptD (D.take k) ∧ ms = [(1, mCh V D)] ∧ ts = [(1, vOw 1), (3, vI d), (7, vS 1 D.length (inC D)), (8, vI D.length), (9, vI ki)]
theorem dptD_one {D : List Int} {k : Nat} {d : Int} (h : D[k]? = some d) : dptD (D.take (k + 1)) = max (dptD (D.take k)) d := by
  have hk := (List.getElem?_eq_some_iff.1 h).1
  have e : D.take (k + 1) = D.take k ++ [d] := by
    rw [List.take_succ_eq_append_getElem hk, (List.getElem?_eq_some_iff.1 h).2]
  unfold dptD
  rw [e, List.foldl_append]; rfl
set_option maxRecDepth 100000 in
set_option maxHeartbeats 8000000 in
theorem k_Depth10 : CDepth10 := by
  intro V D hb hd
  refine pcall_body (f := 17) Try.func17 rfl rfl rfl rfl ?_
  (repeat (first | ((with_reducible apply al_q); exact rfl) | ((with_reducible apply al_len); (iterate 3 exact rfl)) | ((with_reducible apply awp_seq)) | ((with_reducible apply athen_normal)) | ((with_reducible apply awp_region)) | ((with_reducible apply al_nil)) | ((with_reducible apply awp_block))))
  refine awp_loopL 18 (DpI V D) D.length _ [(1, mCh V D)] ⟨0, 0, 0, Nat.zero_le _, rfl, rfl, rfl, rfl, rfl⟩ rfl ⟨rfl, rfl, rfl, rfl, rfl, trivial⟩ ⟨rfl, trivial⟩ rfl ?_
  rintro n ts ms ⟨k, ki, d, hk, rfl, hki, hde, rfl, rfl⟩ hok
  clear hok
  by_cases hq : k < D.length
  · have q2 : ki < (D.length : Int) := by omega
    have q3 : 0 ≤ ki := by omega
    obtain ⟨e, g1⟩ : ∃ e, D[k]? = some e := ⟨_, List.getElem?_eq_getElem hq⟩
    have E1 := inC_at hki g1
    have ht := dptD_one g1
    rw [← hde, show max d e = if e > d then e else d by split <;> omega] at ht
    (repeat (first | ((with_reducible apply al_q); exact rfl) | ((with_reducible apply al_loadP1); (iterate 5 exact rfl)) | ((with_reducible apply al_idxS); (iterate 3 exact rfl); (first | decide | omega); (first | decide | omega); (first | assumption | rfl); exact rfl) | ((with_reducible apply al_add); (iterate 3 exact rfl); (first | exact i64_wrap (by omega) | assumption | rfl); exact rfl) | ((with_reducible apply al_max); (iterate 4 exact rfl)) | ((with_reducible apply awp_seq)) | ((with_reducible apply athen_normal)) | ((with_reducible apply awp_region)) | ((with_reducible apply al_nil)) | ((with_reducible apply awp_skip)) | ((with_reducible apply awp_block)) | ((with_reducible apply ablock_normal)) | ((with_reducible apply awp_cond_1); exact rfl; (first | assumption | exact decide_eq_true (by omega) | (simp only [Bool.not_eq_true', decide_eq_false_iff_not, decide_eq_true_eq, Bool.not_eq_false']; (first | done | omega))))))
    exact ⟨D.length - (k + 1), _, [(1, mCh V D)], by omega, ⟨k + 1, ki + 1, _, by omega, rfl, by omega, ht.symm, rfl, rfl⟩, rfl, ⟨rfl, rfl, rfl, rfl, rfl, trivial⟩, ⟨rfl, trivial⟩, rfl⟩
  · have q2 : ¬ ki < (D.length : Int) := by omega
    have e0 : D.take k = D := List.take_of_length_le (by omega)
    rw [e0] at hde
    rw [← hde]
    (repeat (first | ((with_reducible apply al_q); exact rfl) | ((with_reducible apply awp_seq)) | ((with_reducible apply athen_normal)) | ((with_reducible apply awp_region)) | ((with_reducible apply al_nil)) | ((with_reducible apply awp_ret)) | ((with_reducible apply ablock_same)) | ((with_reducible apply awp_exit)) | ((with_reducible apply athen_exit)) | ((with_reducible apply awp_cond_0); exact rfl; (first | assumption | exact decide_eq_false (by omega) | (simp only [Bool.not_eq_true', decide_eq_false_iff_not, decide_eq_true_eq, Bool.not_eq_false']; (first | done | omega))))))
    (first | (refine apost_ret rfl (resl_tmp rfl resl_nil) ?_))
    exact AV.Le.refl _
theorem take_eq_step {α : Type} {D E : List α} {k : Nat} {d e : α} (h : D.take k = E.take k) (g1 : D[k]? = some d) (g2 : E[k]? = some e) : (d = e → D.take (k + 1) = E.take (k + 1)) ∧ (d ≠ e → D ≠ E) := by
  refine ⟨fun hd => ?_, fun hd hD => hd ?_⟩
  · rw [List.take_succ_eq_append_getElem (List.getElem?_eq_some_iff.1 g1).1, List.take_succ_eq_append_getElem (List.getElem?_eq_some_iff.1 g2).1, (List.getElem?_eq_some_iff.1 g1).2, (List.getElem?_eq_some_iff.1 g2).2, h, hd]
  · rw [hD, g2] at g1; exact (Option.some.inj g1).symm
def EqI (D E : List Int) (n : Nat) (ts : List (Nat × AV)) (ms : List (Nat × List AC)) : Prop :=
  ∃ (k : Nat) (ki : Int), k ≤ D.length ∧ n = D.length - k ∧ ki = k ∧ D.take k = E.take k ∧ ms = [] ∧ ts = [(0, vIn D), (1, vIn E), (12, vI D.length), (13, vI ki)]
set_option maxRecDepth 100000 in
set_option maxHeartbeats 8000000 in
theorem p_EqualI {D E : List Int} (hd : D.length ≤ 1000000) : PCall Try.prog 42 [vIn D, vIn E] (vB (decide (D = E))) := by
  by_cases hl : (D.length : Int) = E.length
  · have hln : D.length = E.length := by omega
    refine pcall_body (f := 42) Try.func42 rfl rfl rfl rfl ?_
    (repeat (first | ((with_reducible apply al_q); exact rfl) | ((with_reducible apply al_len); (iterate 3 exact rfl)) | ((with_reducible apply awp_seq)) | ((with_reducible apply athen_normal)) | ((with_reducible apply awp_region)) | ((with_reducible apply al_nil)) | ((with_reducible apply awp_skip)) | ((with_reducible apply awp_block)) | ((with_reducible apply awp_cond_0); exact rfl; (first | assumption | exact decide_eq_false (by omega) | (simp only [Bool.not_eq_true', decide_eq_false_iff_not, decide_eq_true_eq, Bool.not_eq_false']; (first | done | omega))))))
    refine awp_loopL 26 (EqI D E) D.length _ [] ⟨0, 0, Nat.zero_le _, rfl, rfl, rfl, rfl, rfl⟩ rfl ⟨rfl, rfl, rfl, rfl, trivial⟩ trivial rfl ?_
    rintro n ts ms ⟨k, ki, hk, rfl, hki, hde, rfl, rfl⟩ hok
    clear hok
    by_cases hq : k < D.length
    · have q2 : ki < (D.length : Int) := by omega
      have q3 : 0 ≤ ki := by omega
      have q4 : ki < (E.length : Int) := by omega
      obtain ⟨d, g1⟩ : ∃ d, D[k]? = some d := ⟨_, List.getElem?_eq_getElem hq⟩
      obtain ⟨e, g2⟩ : ∃ e, E[k]? = some e := ⟨_, List.getElem?_eq_getElem (by omega)⟩
      have E1 := inC_at hki g1
      have E2 := inC_at hki g2
      have st := take_eq_step hde g1 g2
      by_cases he : d = e
      · have ht := st.1 he
        (repeat (first | ((with_reducible apply al_q); exact rfl) | ((with_reducible apply al_loadP1); (iterate 5 exact rfl)) | ((with_reducible apply al_idxS); (iterate 3 exact rfl); (first | decide | omega); (first | decide | omega); (first | assumption | rfl); exact rfl) | ((with_reducible apply al_add); (iterate 3 exact rfl); (first | exact i64_wrap (by omega) | assumption | rfl); exact rfl) | ((with_reducible apply al_nilS); kernel_rfl) | ((with_reducible apply awp_region_draw); kernel_rfl; kernel_rfl; exact rfl) | ((with_reducible apply awp_seq)) | ((with_reducible apply athen_normal)) | ((with_reducible apply awp_region)) | ((with_reducible apply al_nil)) | ((with_reducible apply awp_skip)) | ((with_reducible apply awp_block)) | ((with_reducible apply ablock_normal)) | ((with_reducible apply awp_cond_1); exact rfl; (first | assumption | exact decide_eq_true (by omega) | (simp only [Bool.not_eq_true', decide_eq_false_iff_not, decide_eq_true_eq, Bool.not_eq_false']; (first | done | omega)))) | ((with_reducible apply awp_cond_0); exact rfl; (first | assumption | exact decide_eq_false (by omega) | (simp only [Bool.not_eq_true', decide_eq_false_iff_not, decide_eq_true_eq, Bool.not_eq_false']; (first | done | omega))))))
        exact ⟨D.length - (k + 1), _, [], by omega, ⟨k + 1, ki + 1, by omega, rfl, by omega, ht, rfl, rfl⟩, rfl, ⟨rfl, rfl, rfl, rfl, trivial⟩, trivial, rfl⟩
      · rw [decide_eq_false (st.2 he)]
        (repeat (first | ((with_reducible apply al_q); exact rfl) | ((with_reducible apply al_loadP1); (iterate 5 exact rfl)) | ((with_reducible apply al_idxS); (iterate 3 exact rfl); (first | decide | omega); (first | decide | omega); (first | assumption | rfl); exact rfl) | ((with_reducible apply al_nilS); kernel_rfl) | ((with_reducible apply awp_region_draw); kernel_rfl; kernel_rfl; exact rfl) | ((with_reducible apply awp_seq)) | ((with_reducible apply athen_normal)) | ((with_reducible apply awp_region)) | ((with_reducible apply al_nil)) | ((with_reducible apply awp_ret)) | ((with_reducible apply awp_skip)) | ((with_reducible apply athen_ret)) | ((with_reducible apply awp_block)) | ((with_reducible apply ablock_ret)) | ((with_reducible apply awp_cond_1); exact rfl; (first | assumption | exact decide_eq_true (by omega) | (simp only [Bool.not_eq_true', decide_eq_false_iff_not, decide_eq_true_eq, Bool.not_eq_false']; (first | done | omega))))))
        (first | (refine apost_ret rfl (resl_tmp rfl resl_nil) ?_))
        exact AV.Le.refl _
    · have q2 : ¬ ki < (D.length : Int) := by omega
      rw [List.take_of_length_le (by omega), List.take_of_length_le (by omega)] at hde
      rw [decide_eq_true hde]
      (repeat (first | ((with_reducible apply al_q); exact rfl) | ((with_reducible apply awp_seq)) | ((with_reducible apply athen_normal)) | ((with_reducible apply awp_region)) | ((with_reducible apply al_nil)) | ((with_reducible apply awp_ret)) | ((with_reducible apply ablock_same)) | ((with_reducible apply awp_exit)) | ((with_reducible apply athen_exit)) | ((with_reducible apply awp_cond_0); exact rfl; (first | assumption | exact decide_eq_false (by omega) | (simp only [Bool.not_eq_true', decide_eq_false_iff_not, decide_eq_true_eq, Bool.not_eq_false']; (first | done | omega))))))
      (first | (refine apost_ret rfl (resl_tmp rfl resl_nil) ?_))
      exact AV.Le.refl _
  · rw [decide_eq_false (show ¬ D = E from fun e => hl (by rw [e]))]
    refine pcall_body (f := 42) Try.func42 rfl rfl rfl rfl ?_
    (repeat (first | ((with_reducible apply al_q); exact rfl) | ((with_reducible apply al_len); (iterate 3 exact rfl)) | ((with_reducible apply awp_seq)) | ((with_reducible apply athen_normal)) | ((with_reducible apply awp_region)) | ((with_reducible apply al_nil)) | ((with_reducible apply awp_ret)) | ((with_reducible apply athen_ret)) | ((with_reducible apply awp_cond_1); exact rfl; (first | assumption | exact decide_eq_true (by omega) | (simp only [Bool.not_eq_true', decide_eq_false_iff_not, decide_eq_true_eq, Bool.not_eq_false']; (first | done | omega))))))
    (first | (refine apost_ret rfl (resl_tmp rfl resl_nil) ?_))
    exact AV.Le.refl _
def EqP10 (D E : List Px) (n : Nat) (ts : List (Nat × AV)) (ms : List (Nat × List AC)) : Prop :=
  ∃ (k : Nat) (ki : Int), k ≤ D.length ∧ n = D.length - k ∧ ki = k ∧ D.take k = E.take k ∧ ms = [] ∧ ts = [(0, vIt D), (1, vIt E), (12, vI D.length), (13, vI ki)]
set_option maxRecDepth 100000 in
set_option maxHeartbeats 8000000 in
theorem p_EqualP {D E : List Px} (hd : D.length ≤ 1000000) : PCall Try.prog 41 [vIt D, vIt E] (vB (decide (D = E))) := by
  by_cases hl : (D.length : Int) = E.length
  · have hln : D.length = E.length := by omega
    refine pcall_body (f := 41) Try.func41 rfl rfl rfl rfl ?_
    (repeat (first | ((with_reducible apply al_q); exact rfl) | ((with_reducible apply al_len); (iterate 3 exact rfl)) | ((with_reducible apply awp_seq)) | ((with_reducible apply athen_normal)) | ((with_reducible apply awp_region)) | ((with_reducible apply al_nil)) | ((with_reducible apply awp_skip)) | ((with_reducible apply awp_block)) | ((with_reducible apply awp_cond_0); exact rfl; (first | assumption | exact decide_eq_false (by omega) | (simp only [Bool.not_eq_true', decide_eq_false_iff_not, decide_eq_true_eq, Bool.not_eq_false']; (first | done | omega))))))
    refine awp_loopL 26 (EqP10 D E) D.length _ [] ⟨0, 0, Nat.zero_le _, rfl, rfl, rfl, rfl, rfl⟩ rfl ⟨rfl, rfl, rfl, rfl, trivial⟩ trivial rfl ?_
    rintro n ts ms ⟨k, ki, hk, rfl, hki, hde, rfl, rfl⟩ hok
    clear hok
    by_cases hq : k < D.length
    · have q2 : ki < (D.length : Int) := by omega
      have q3 : 0 ≤ ki := by omega
      have q4 : ki < (E.length : Int) := by omega
      obtain ⟨x, y, g1⟩ : ∃ x y, D[k]? = some (x, y) := ⟨_, _, List.getElem?_eq_getElem hq⟩
      obtain ⟨z, w, g2⟩ : ∃ z w, E[k]? = some (z, w) := ⟨_, _, List.getElem?_eq_getElem (by omega)⟩
      have E1 := itC_xy hki g1
      have E2 := itC_xy hki g2
      have st := take_eq_step hde g1 g2
      cases he : eqP x y z w with
      | true =>
        have ht := st.1 (by obtain ⟨rfl, rfl⟩ := eqP_iff.1 he; rfl)
        (repeat (first | ((with_reducible apply al_q); exact rfl) | ((with_reducible apply al_loadPN); (iterate 5 exact rfl)) | ((with_reducible apply al_idxS); (iterate 3 exact rfl); (first | decide | omega); (first | decide | omega); (first | assumption | rfl); exact rfl) | ((with_reducible apply al_neqP); (iterate 4 exact rfl)) | ((with_reducible apply al_add); (iterate 3 exact rfl); (first | exact i64_wrap (by omega) | assumption | rfl); exact rfl) | ((with_reducible apply al_nilS); kernel_rfl) | ((with_reducible apply awp_region_draw); kernel_rfl; kernel_rfl; exact rfl) | ((with_reducible apply awp_seq)) | ((with_reducible apply athen_normal)) | ((with_reducible apply awp_region)) | ((with_reducible apply al_nil)) | ((with_reducible apply awp_skip)) | ((with_reducible apply awp_block)) | ((with_reducible apply ablock_normal)) | ((with_reducible apply awp_cond_1); exact rfl; (first | assumption | exact decide_eq_true (by omega) | (simp only [Bool.not_eq_true', decide_eq_false_iff_not, decide_eq_true_eq, Bool.not_eq_false']; (first | done | omega)))) | ((with_reducible apply awp_cond_0); exact rfl; (first | assumption | exact decide_eq_false (by omega) | (simp only [Bool.not_eq_true', decide_eq_false_iff_not, decide_eq_true_eq, Bool.not_eq_false']; (first | done | omega))))))
        exact ⟨D.length - (k + 1), _, [], by omega, ⟨k + 1, ki + 1, by omega, rfl, by omega, ht, rfl, rfl⟩, rfl, ⟨rfl, rfl, rfl, rfl, trivial⟩, trivial, rfl⟩
      | false =>
        rw [decide_eq_false (st.2 fun e => by
          have := eqP_iff.2 (⟨congrArg Prod.fst e, congrArg Prod.snd e⟩ : x = z ∧ y = w)
          rw [he] at this; cases this)]
        (repeat (first | ((with_reducible apply al_q); exact rfl) | ((with_reducible apply al_loadPN); (iterate 5 exact rfl)) | ((with_reducible apply al_idxS); (iterate 3 exact rfl); (first | decide | omega); (first | decide | omega); (first | assumption | rfl); exact rfl) | ((with_reducible apply al_neqP); (iterate 4 exact rfl)) | ((with_reducible apply al_nilS); kernel_rfl) | ((with_reducible apply awp_region_draw); kernel_rfl; kernel_rfl; exact rfl) | ((with_reducible apply awp_seq)) | ((with_reducible apply athen_normal)) | ((with_reducible apply awp_region)) | ((with_reducible apply al_nil)) | ((with_reducible apply awp_ret)) | ((with_reducible apply awp_skip)) | ((with_reducible apply athen_ret)) | ((with_reducible apply awp_block)) | ((with_reducible apply ablock_ret)) | ((with_reducible apply awp_cond_1); exact rfl; (first | assumption | exact decide_eq_true (by omega) | (simp only [Bool.not_eq_true', decide_eq_false_iff_not, decide_eq_true_eq, Bool.not_eq_false']; (first | done | omega))))))
        (first | (refine apost_ret rfl (resl_tmp rfl resl_nil) ?_))
        exact AV.Le.refl _
    · have q2 : ¬ ki < (D.length : Int) := by omega
      rw [List.take_of_length_le (by omega), List.take_of_length_le (by omega)] at hde
      rw [decide_eq_true hde]
      (repeat (first | ((with_reducible apply al_q); exact rfl) | ((with_reducible apply awp_seq)) | ((with_reducible apply athen_normal)) | ((with_reducible apply awp_region)) | ((with_reducible apply al_nil)) | ((with_reducible apply awp_ret)) | ((with_reducible apply ablock_same)) | ((with_reducible apply awp_exit)) | ((with_reducible apply athen_exit)) | ((with_reducible apply awp_cond_0); exact rfl; (first | assumption | exact decide_eq_false (by omega) | (simp only [Bool.not_eq_true', decide_eq_false_iff_not, decide_eq_true_eq, Bool.not_eq_false']; (first | done | omega))))))
      (first | (refine apost_ret rfl (resl_tmp rfl resl_nil) ?_))
      exact AV.Le.refl _
  · rw [decide_eq_false (show ¬ D = E from fun e => hl (by rw [e]))]
    refine pcall_body (f := 41) Try.func41 rfl rfl rfl rfl ?_
    (repeat (first | ((with_reducible apply al_q); exact rfl) | ((with_reducible apply al_len); (iterate 3 exact rfl)) | ((with_reducible apply awp_seq)) | ((with_reducible apply athen_normal)) | ((with_reducible apply awp_region)) | ((with_reducible apply al_nil)) | ((with_reducible apply awp_ret)) | ((with_reducible apply athen_ret)) | ((with_reducible apply awp_cond_1); exact rfl; (first | assumption | exact decide_eq_true (by omega) | (simp only [Bool.not_eq_true', decide_eq_false_iff_not, decide_eq_true_eq, Bool.not_eq_false']; (first | done | omega))))))
    (first | (refine apost_ret rfl (resl_tmp rfl resl_nil) ?_))
    exact AV.Le.refl _
set_option maxRecDepth 100000 in
set_option maxHeartbeats 8000000 in
theorem k_Same10 : CSame10 := by
  intro V W D E h1 h2 h3 h4
  have C1 := p_EqualP (D := V) (E := W) (by omega)
  have C2 := p_EqualI (D := D) (E := E) (by omega)
  generalize decide (V = W) = p1 at *
  generalize decide (D = E) = p2 at *
  cases p1 with
  | false =>
    refine pcall_body (f := 18) Try.func18 rfl rfl rfl rfl ?_
    (repeat (first | ((with_reducible apply al_q); exact rfl) | (refine al_call2 rfl rfl rfl rfl (by (first | exact C1 | exact C2)) rfl ?_) | ((with_reducible apply awp_seq)) | ((with_reducible apply athen_normal)) | ((with_reducible apply awp_region)) | ((with_reducible apply al_nil)) | ((with_reducible apply awp_ret))))
    (first | (refine apost_ret rfl (resl_tmp rfl resl_nil) ?_))
    exact AV.Le.refl _
  | true =>
    refine pcall_body (f := 18) Try.func18 rfl rfl rfl rfl ?_
    (repeat (first | ((with_reducible apply al_q); exact rfl) | (refine al_call2 rfl rfl rfl rfl (by (first | exact C1 | exact C2)) rfl ?_) | ((with_reducible apply awp_seq)) | ((with_reducible apply athen_normal)) | ((with_reducible apply awp_region)) | ((with_reducible apply al_nil)) | ((with_reducible apply awp_ret))))
    (first | (refine apost_ret rfl (resl_tmp rfl resl_nil) ?_))
    exact AV.Le.refl _
end Go.Proofs.Ytlglajaonmpljaa

namespace Go.Proofs.Ytlglajaonmpljaa
open Go.RowKit
set_option linter.unusedVariables false
set_option linter.unusedSimpArgs false
theorem itC_rd {l : List Px} {j : Int} {i : Nat} {x y : Int} (hj : j = i) (h : l[i]? = some (x, y)) : j.toNat * 2 + 2 ≤ (itC l).length ∧ ((itC l).drop (j.toNat * 2)).take 2 = [.c (.int .i64 x), .c (.int .i64 y)] := by
  have := (List.getElem?_eq_some_iff.1 h).1
  exact ⟨by rw [itC_len]; omega, itC_xy hj h⟩
theorem atL_len {r : Nat} (hr : r ≤ 28) (l : List Px) {n : Nat} (hl : l.length ≤ n) (p q : Px) : (atL r l p q).length ≤ n := Nat.le_trans (atL_spec hr l p q).2.2 hl
theorem ddS_p {p q x : Px} {out : List Px} (h : x = p) : ddS p q out x = out := by unfold ddS; rw [if_neg (fun h' => h'.1 h)]
theorem ddS_q {p q x : Px} {out : List Px} (h : x = q) : ddS p q out x = out := by unfold ddS; rw [if_neg (fun h' => h'.2.1 h)]
theorem ddS_l {p q x : Px} {out : List Px} (h : out.getLast? = some x) : ddS p q out x = out := by unfold ddS; rw [if_neg (fun h' => h'.2.2 h)]
theorem ddS_new {p q x : Px} {out : List Px} (h1 : x ≠ p) (h2 : x ≠ q) (h3 : out.getLast? ≠ some x) : ddS p q out x = out ++ [x] := by unfold ddS; rw [if_pos ⟨h1, h2, h3⟩]
theorem px_eq {x y z w : Int} (h : eqP x y z w = true) : (x, y) = (z, w) := by rw [eqP_iff] at h; rw [h.1, h.2]
theorem px_ne {x y z w : Int} (h : eqP x y z w = false) : (x, y) ≠ (z, w) := fun e => by
  rw [Prod.mk.injEq] at e
  rw [eqP_iff.2 e] at h; cases h
set_option maxRecDepth 100000 in
set_option maxHeartbeats 32000000 in
theorem drift_yes (cn : CNew10) (cs : CSplit10) (cr : CRight10) (cd : CDepth10) (cc : CClose10) {l : List Px} {a1 a2 b1 b2 : Int} {r : Nat} (hr : r ≤ 20) (ra : rB5 a1 a2 = true) (rb : rB5 b1 b2 = true) (hl : l.length ≤ 20) (hin : ∀ p ∈ l, InI p) (hal : PCall Try.prog 6 [] (vB true)) :
    PCall Try.prog 4 [vSeg10 a1 a2 b1 b2, vI r, vIt l] (vB true) := by
  have hR : IsR (r : Int) r := ⟨by omega, .inr (.inr rfl)⟩
  have hr28 : r ≤ 28 := by omega
  have R1 := p_r5Right ra
  have R2 := p_r5Right rb
  have qa := rB5_iff.1 ra
  have qb := rB5_iff.1 rb
  have O1 := p_gOf (x := a1) (y := a2) hR (by omega) (by omega) (by omega) (by omega)
  have O2 := p_gOf (x := b1) (y := b2) hR (by omega) (by omega) (by omega) (by omega)
  have N1 := cn (gsn a1 r) (gsn a2 r) (gsn b1 r) (gsn b2 r)
  have hS : (0 : Int) < 2 ^ r := Int.pow_pos (by decide)
  have hS2 : (2 : Int) ^ r ≤ 1048576 := by
    have := Int.ofNat_le.2 (Nat.pow_le_pow_right (show 0 < 2 by decide) hr)
    rw [Int.natCast_pow] at this
    exact this
  have g0 : ¬ (r : Int) < 0 := by omega
  have g1 : ¬ (r : Int) > 20 := by omega
  have g2 : ¬ (l.length : Int) > 20 := by omega
  have hi1 : inB r (gsn a1 r) (gsn a2 r) = true := by unfold inB; rw [gsn_wi (by omega) qa.1, gsn_wi (by omega) qa.2]; rfl
  have hi2 : inB r (gsn b1 r) (gsn b2 r) = true := by unfold inB; rw [gsn_wi (by omega) qb.1, gsn_wi (by omega) qb.2]; rfl
  have hRd0 : Rnd a1 a2 b1 b2 r 1 2 (newV (gsn a1 r, gsn a2 r) (gsn b1 r, gsn b2 r)) (newD (gsn a1 r, gsn a2 r) (gsn b1 r, gsn b2 r)) := by
    refine ⟨start_rt hi1 hi2, fun d hd => ?_, ?_, ?_⟩
    · unfold newD at hd
      split at hd
      · cases hd
      · rw [List.mem_singleton.1 hd]; exact Int.le_refl _
    · have e : rc ((1 : Nat) : Int) = 1 := by simp [rc]
      rw [e]; exact start_clo
    · unfold newV; split <;> simp
  generalize newV (gsn a1 r, gsn a2 r) (gsn b1 r, gsn b2 r) = V0 at *
  generalize newD (gsn a1 r, gsn a2 r) (gsn b1 r, gsn b2 r) = D0 at *
  have hII : ∀ {m N : Nat} {V : List Px} {D : List Int}, Rnd a1 a2 b1 b2 r m N V D → ∀ v ∈ V, InI v := fun h v hv => inI_of (h.rt.2.2.1 v hv)
  have C1 := cc V0 D0 a1 a2 b1 b2 r (2 ^ r) (Nat.le_trans hRd0.len (by omega)) (hII hRd0) ⟨⟨by simp only; omega, by simp only; omega⟩, by simp only; omega, by simp only; omega⟩
  rw [hRd0.closeB hr28 ra rb (2 ^ r) (by simp) (by omega)] at C1
  clear hi1 hi2
  refine pcall_body (f := 4) Try.func4 rfl rfl rfl rfl ?_
  refine awp_rows ?_
  (repeat (first | ((with_reducible apply hs_nilS); kernel_rfl) | ((with_reducible apply rwp_draw (id := 4) [9,0,1,2,3,4,5,6,7,8,10]); kernel_rfl; kernel_rfl; exact rfl) | ((with_reducible apply rwp_seq)) | ((with_reducible apply rthen_normal)) | ((with_reducible apply rwp_region)) | ((with_reducible apply hs_nil)) | ((with_reducible apply rwp_skip)) | ((with_reducible apply rwp_block)) | ((with_reducible apply rwp_cond_0); exact rfl; (first | assumption | exact decide_eq_false (by omega) | (simp only [Bool.not_eq_true', decide_eq_false_iff_not, decide_eq_true_eq, Bool.not_eq_false']; (first | done | omega)) | exact rfl)) | ((with_reducible apply hs_c); exact rfl; (repeat (first | ((with_reducible apply al_q); exact rfl) | ((with_reducible apply al_len); (iterate 3 exact rfl)) | (refine al_call1 rfl rfl rfl (by (first | exact R1 | exact R2 | exact O1 | exact O2 | exact N1 | exact C1)) rfl ?_) | (refine al_call2 rfl rfl rfl rfl (by (first | exact R1 | exact R2 | exact O1 | exact O2 | exact N1 | exact C1)) rfl ?_) | (refine al_call5 rfl rfl rfl rfl rfl rfl rfl (by (first | exact R1 | exact R2 | exact O1 | exact O2 | exact N1 | exact C1)) rfl ?_) | ((with_reducible apply al_shl1); exact rfl; exact rfl; assumption; exact rfl) | ((with_reducible apply al_guard_b (c := false)); exact rfl; exact rfl; (first | assumption | exact decide_eq_false (by omega) | (simp only [Bool.not_eq_true', decide_eq_false_iff_not, decide_eq_true_eq, Bool.not_eq_false']; (first | done | omega)))))); (with_reducible apply al_nil))))
  refine rwp_loopL 163 (R10I l a1 a2 b1 b2 r) 2 noRows _ [(3, mSeg a1 a2 b1 b2), (8, mCh V0 D0), (9, mSet10 l)] ⟨2, 2, V0, D0, Nat.le_refl _, by omega, rfl, rfl, hRd0, rfl, rfl, rfl⟩ (RLe.refl _) rfl ⟨rfl, rfl, rfl, rfl, rfl, rfl, trivial⟩ ⟨rfl, rfl, rfl, trivial⟩ rfl ?_
  clear R1 R2 O1 O2 N1 C1 hRd0
  rintro n R ts ms ⟨m, mi, V, D, hm2, hm4, rfl, hmi, hRd, rfl, rfl, rfl⟩ hok
  clear hok
  by_cases hm : m < 4
  · have t1 : mi ≤ 3 := by omega
    have hVD := hRd.rt.2.1
    have hN : 2 * 21 ^ (m - 2) ≤ 42 := by
      rcases (show m = 2 ∨ m = 3 by omega) with rfl | rfl <;> decide
    have hVl := hRd.len
    have hDl : D.length ≤ 1000 := by omega
    have hfe := from_end (atL r l) (V := V) (D := D) hVD
    (repeat (first | ((with_reducible apply rwp_seq)) | ((with_reducible apply rthen_normal)) | ((with_reducible apply rwp_region)) | ((with_reducible apply hs_nil)) | ((with_reducible apply rwp_skip)) | ((with_reducible apply rwp_block)) | ((with_reducible apply rwp_cond_1); exact rfl; (first | assumption | exact decide_eq_true (by omega) | (simp only [Bool.not_eq_true', decide_eq_false_iff_not, decide_eq_true_eq, Bool.not_eq_false']; (first | done | omega)) | exact rfl)) | ((with_reducible apply hs_c); exact rfl; (repeat (first | ((with_reducible apply al_q); exact rfl) | ((with_reducible apply al_sub); (iterate 3 exact rfl); (first | exact i64_wrap (by omega) | assumption | rfl); exact rfl) | ((with_reducible apply al_len); (iterate 3 exact rfl)))); (with_reducible apply al_nil))))
    refine rwp_loopL 163 (L10I l a1 a2 b1 b2 r mi V D) D.length noRows _ [(3, mSeg a1 a2 b1 b2), (8, mCh V D), (9, mSet10 l)] ⟨D.length, (D.length : Int) - 1, Nat.le_refl _, rfl, rfl, rfl, by rw [hfe.1, hfe.2], rfl⟩ (RLe.refl _) rfl ⟨rfl, rfl, rfl, rfl, rfl, rfl, rfl, trivial⟩ ⟨rfl, rfl, rfl, trivial⟩ rfl ?_
    clear hfe
    rintro j R ts ms ⟨_, jj, hj, rfl, hjj, rfl, rfl, rfl⟩ hok
    clear hok
    by_cases hj0 : 0 < j
    · obtain ⟨j, rfl⟩ : ∃ i, j = i + 1 := ⟨j - 1, by omega⟩
      have t2 : jj ≥ 0 := by omega
      obtain ⟨p, hp⟩ : ∃ p, V[j]? = some p := ⟨_, List.getElem?_eq_getElem (by omega)⟩
      obtain ⟨q, hq⟩ : ∃ q, V[j + 1]? = some q := ⟨_, List.getElem?_eq_getElem (by omega)⟩
      have fa := from_at (at' := atL r l) hp hq
      have fs := from_step (at' := atL r l) hVD hp hq
      have fm := from_mem (at' := atL r l) (V := V) (D := D) (j := j + 1)
      have hal20 : ∀ p q, (atL r l p q).length ≤ 20 := fun p q => atL_len hr28 l hl p q
      have fl := from_len (at' := atL r l) (V := V) (j := j + 1) hal20
      have hCl := fm.2 hVD hj
      have hCD : ∀ d ∈ fromD (atL r l) V D (j + 1), 1 ≤ d ∧ d ≤ 1048576 := fun e he => by
        obtain ⟨d, h1, h2⟩ := fm.1 e he
        have h3 := hRd.rt.2.2.2.2.1 d h1
        have h4 := hRd.dp d h1
        omega
      have hSp := cs (fromV (atL r l) V (j + 1)) (fromD (atL r l) V D (j + 1)) j (atL r l p q) hCl (by omega) (Nat.le_trans (hal20 p q) (by omega)) fs.2.2.1 hCD
      have hjC : (j : Int) < ((fromV (atL r l) V (j + 1)).length : Int) ∧ (j : Int) + 1 < ((fromV (atL r l) V (j + 1)).length : Int) := by have := fs.2.2.1; omega
      have hres : (atL r l p q = [] ∧ fromV (atL r l) V j = fromV (atL r l) V (j + 1) ∧ fromD (atL r l) V D j = fromD (atL r l) V D (j + 1)) ∨ (atL r l p q ≠ [] ∧ fromV (atL r l) V j = spV (fromV (atL r l) V (j + 1)) j (atL r l p q) ∧ fromD (atL r l) V D j = spD (fromD (atL r l) V D (j + 1)) j (atL r l p q).length) := by
        by_cases he : atL r l p q = []
        · exact .inl ⟨he, fs.2.2.2.2 he⟩
        · exact .inr ⟨he, fs.1, fs.2.2.2.1 he⟩
      have hpi := hRd.rt.2.2.1 p (List.mem_of_getElem? hp)
      have hqi := hRd.rt.2.2.1 q (List.mem_of_getElem? hq)
      obtain ⟨p1, p2⟩ := p
      obtain ⟨q1, q2⟩ := q
      have hjj' : jj = (j : Int) := by omega
      have hjj1 : jj + 1 = ((j + 1 : Nat) : Int) := by omega
      have E1 := itC_xy hjj' fa.1
      have E2 := itC_xy hjj1 fa.2
      have K1 : PCall Try.prog 14 [vP p1 p2, vI r] (vP (2 ^ r * p1) (2 ^ r * p2)) := p_Center hR hpi
      have K2 : PCall Try.prog 14 [vP q1 q2, vI r] (vP (2 ^ r * q1) (2 ^ r * q2)) := p_Center hR hqi
      have T1 := p_Met9 (rm := 100) (L := l) (by omega) (a1 := 2 ^ r * p1) (a2 := 2 ^ r * p2) (b1 := 2 ^ r * q1) (b2 := 2 ^ r * q2) (k := r) (by omega) hin
      have hTl := sortI_len (decide ((2 : Int) ^ r * q1 < 2 ^ r * p1)) (decide ((2 : Int) ^ r * q2 < 2 ^ r * p2)) (metF (2 ^ r * p1) (2 ^ r * p2) (2 ^ r * q1) (2 ^ r * q2) r) l
      have hTa : atL r l (p1, p2) (q1, q2) = ddL (p1, p2) (q1, q2) (sortI (decide ((2 : Int) ^ r * q1 < 2 ^ r * p1)) (decide ((2 : Int) ^ r * q2 < 2 ^ r * p2)) (metF (2 ^ r * p1) (2 ^ r * p2) (2 ^ r * q1) (2 ^ r * q2) r) l) := rfl
      generalize sortI (decide ((2 : Int) ^ r * q1 < 2 ^ r * p1)) (decide ((2 : Int) ^ r * q2 < 2 ^ r * p2)) (metF (2 ^ r * p1) (2 ^ r * p2) (2 ^ r * q1) (2 ^ r * q2) r) l = T at *
      have hatl := hal20 (p1, p2) (q1, q2)
      generalize atL r l (p1, p2) (q1, q2) = at1 at *
      have hL20 : T.length ≤ 20 := by omega
      have hdl : ∀ i, (ddL (p1, p2) (q1, q2) (T.take i)).length ≤ i := fun i => by
        have key : ∀ (m out : List Px), (m.foldl (ddS (p1, p2) (q1, q2)) out).length ≤ out.length + m.length := by
          intro m
          induction m with
          | nil => intro out; exact Nat.le_refl _
          | cons x m ih =>
            intro out
            rw [List.foldl_cons]
            have := ih (ddS (p1, p2) (q1, q2) out x)
            have h2 : (ddS (p1, p2) (q1, q2) out x).length ≤ out.length + 1 := by unfold ddS; split <;> simp
            simp only [List.length_cons]
            omega
        have := key (T.take i) []
        rw [List.length_nil, List.length_take] at this
        have e : (ddL (p1, p2) (q1, q2) (T.take i)).length ≤ 0 + min i T.length := this
        omega
      generalize hCV : fromV (atL r l) V (j + 1) = CV at *
      generalize hCDe : fromD (atL r l) V D (j + 1) = CD at *
      clear fa fs fm hal20 fl hCD hpi hqi hp hq hin cn cs cr cd cc hII
      refine rwp_nil 0 38 2 rfl ?_
      (repeat (first | ((with_reducible apply hs_nilS); kernel_rfl) | ((with_reducible apply rwp_draw (id := 14) [11,12,0,1,2,3,4,5,6,7,8,9,10,13,14]); kernel_rfl; kernel_rfl; exact rfl) | ((with_reducible apply rwp_draw (id := 16) [0,1,2,3,4,5,6,7,8,9,10]); kernel_rfl; kernel_rfl; exact rfl) | ((with_reducible apply rwp_seq)) | ((with_reducible apply rthen_normal)) | ((with_reducible apply rwp_region)) | ((with_reducible apply hs_nil)) | ((with_reducible apply rwp_skip)) | ((with_reducible apply rwp_block)) | ((with_reducible apply rwp_cond_1); exact rfl; (first | assumption | exact decide_eq_true (by omega) | (simp only [Bool.not_eq_true', decide_eq_false_iff_not, decide_eq_true_eq, Bool.not_eq_false']; (first | done | omega)) | exact rfl)) | ((with_reducible apply hs_c); exact rfl; (repeat (first | ((with_reducible apply al_q); exact rfl) | ((with_reducible apply al_loadPN); (iterate 5 exact rfl)) | ((with_reducible apply al_idxS); (iterate 3 exact rfl); (first | decide | omega); (first | decide | omega); (first | assumption | rfl); exact rfl) | ((with_reducible apply al_add); (iterate 3 exact rfl); (first | exact i64_wrap (by omega) | assumption | rfl); exact rfl) | ((with_reducible apply al_len); (iterate 3 exact rfl)) | (refine al_call2 rfl rfl rfl rfl (by (first | exact K1 | exact K2 | exact T1)) rfl ?_) | (refine al_call4 rfl rfl rfl rfl rfl rfl (by (first | exact K1 | exact K2 | exact T1)) rfl ?_))); (with_reducible apply al_nil))))
      refine rwp_loopL 163 (P10I l T a1 a2 b1 b2 r mi jj CV CD (p1, p2) (q1, q2)) T.length (row1 0 (pxRow (.slice none 0 0) [])) _ [(3, mSeg a1 a2 b1 b2), (8, mCh CV CD), (9, mSet10 l), (12, mPx p1 p2), (13, mPx q1 q2)] ⟨0, .slice none 0 0, 0, Nat.zero_le _, rfl, rfl, rfl, rfl, rfl⟩ (row1_le _ _ _) rfl ⟨rfl, rfl, rfl, rfl, rfl, rfl, rfl, rfl, rfl, rfl, rfl, rfl, rfl, trivial⟩ ⟨rfl, rfl, rfl, rfl, rfl, trivial⟩ rfl ?_
      clear K1 K2 T1 E1 E2
      rintro n R ts ms ⟨i, v, ii, hi, rfl, hii, rfl, rfl, rfl⟩ hok
      clear hok
      by_cases hqi : i < T.length
      · have u2 : ii < (T.length : Int) := by omega
        have u3 : 0 ≤ ii := by omega
        obtain ⟨x, y, g3⟩ : ∃ x y, T[i]? = some (x, y) := ⟨_, _, List.getElem?_eq_getElem hqi⟩
        have E3 := itC_xy hii g3
        have hst : ddL (p1, p2) (q1, q2) (T.take (i + 1)) = ddS (p1, p2) (q1, q2) (ddL (p1, p2) (q1, q2) (T.take i)) (x, y) := by
          rw [List.take_succ_eq_append_getElem hqi, (List.getElem?_eq_some_iff.1 g3).2, ddL_app]
        have hol := hdl i
        clear hSp hres hTa hdl hal g3 hjC hCl
        generalize ddL (p1, p2) (q1, q2) (T.take i) = out at *
        cases ha : eqP x y p1 p2 with
        | true =>
          have hs := ddS_p (q := (q1, q2)) (out := out) (px_eq ha)
          have hA : (!eqP x y p1 p2) = false := by rw [ha]; rfl
          (repeat (first | ((with_reducible apply hs_nilS); kernel_rfl) | ((with_reducible apply rwp_draw (id := 19) [0,1,2,3,4,5,6,7,8,9,10,11,12,13,14,15,16,17,18,19,20,21,22]); kernel_rfl; kernel_rfl; exact rfl) | ((with_reducible apply rwp_seq)) | ((with_reducible apply rthen_normal)) | ((with_reducible apply rwp_region)) | ((with_reducible apply hs_nil)) | ((with_reducible apply rwp_skip)) | ((with_reducible apply rwp_block)) | ((with_reducible apply rblock_normal)) | ((with_reducible apply rwp_cond_1); exact rfl; (first | assumption | exact decide_eq_true (by omega) | (simp only [Bool.not_eq_true', decide_eq_false_iff_not, decide_eq_true_eq, Bool.not_eq_false']; (first | done | omega)) | exact rfl)) | ((with_reducible apply rwp_cond_0); exact rfl; (first | assumption | exact decide_eq_false (by omega) | (simp only [Bool.not_eq_true', decide_eq_false_iff_not, decide_eq_true_eq, Bool.not_eq_false']; (first | done | omega)) | exact rfl)) | ((with_reducible apply hs_c); exact rfl; (repeat (first | ((with_reducible apply al_q); exact rfl) | ((with_reducible apply al_loadPN); (iterate 5 exact rfl)) | ((with_reducible apply al_idxS); (iterate 3 exact rfl); (first | decide | omega); (first | decide | omega); (first | assumption | rfl); exact rfl) | ((with_reducible apply al_neqP); (iterate 4 exact rfl)) | ((with_reducible apply al_add); (iterate 3 exact rfl); (first | exact i64_wrap (by omega) | assumption | rfl); exact rfl) | ((with_reducible apply al_guard_b (c := false)); exact rfl; exact rfl; (first | assumption | exact decide_eq_false (by omega) | (simp only [Bool.not_eq_true', decide_eq_false_iff_not, decide_eq_true_eq, Bool.not_eq_false']; (first | done | omega)))))); (with_reducible apply al_nil))))
          exact ⟨T.length - (i + 1), row1 0 (pxRow v out), _, [(3, mSeg a1 a2 b1 b2), (8, mCh CV CD), (9, mSet10 l), (12, mPx p1 p2), (13, mPx q1 q2)], by omega, ⟨i + 1, v, ii + 1, by omega, rfl, by omega, by rw [hst, hs], rfl, rfl⟩, RLe.refl _, rfl, ⟨rfl, rfl, rfl, rfl, rfl, rfl, rfl, rfl, rfl, rfl, rfl, rfl, rfl, trivial⟩, ⟨rfl, rfl, rfl, rfl, rfl, trivial⟩, rfl⟩
        | false =>
          have hA : (!eqP x y p1 p2) = true := by rw [ha]; rfl
          cases hb : eqP x y q1 q2 with
          | true =>
            have hs := ddS_q (p := (p1, p2)) (out := out) (px_eq hb)
            have hB : (!eqP x y q1 q2) = false := by rw [hb]; rfl
            (repeat (first | ((with_reducible apply hs_nilS); kernel_rfl) | ((with_reducible apply rwp_draw (id := 19) [0,1,2,3,4,5,6,7,8,9,10,11,12,13,14,15,16,17,18,19,20,21,22]); kernel_rfl; kernel_rfl; exact rfl) | ((with_reducible apply rwp_seq)) | ((with_reducible apply rthen_normal)) | ((with_reducible apply rwp_region)) | ((with_reducible apply hs_nil)) | ((with_reducible apply rwp_skip)) | ((with_reducible apply rwp_block)) | ((with_reducible apply rblock_normal)) | ((with_reducible apply rwp_cond_1); exact rfl; (first | assumption | exact decide_eq_true (by omega) | (simp only [Bool.not_eq_true', decide_eq_false_iff_not, decide_eq_true_eq, Bool.not_eq_false']; (first | done | omega)) | exact rfl)) | ((with_reducible apply rwp_cond_0); exact rfl; (first | assumption | exact decide_eq_false (by omega) | (simp only [Bool.not_eq_true', decide_eq_false_iff_not, decide_eq_true_eq, Bool.not_eq_false']; (first | done | omega)) | exact rfl)) | ((with_reducible apply hs_c); exact rfl; (repeat (first | ((with_reducible apply al_q); exact rfl) | ((with_reducible apply al_loadPN); (iterate 5 exact rfl)) | ((with_reducible apply al_idxS); (iterate 3 exact rfl); (first | decide | omega); (first | decide | omega); (first | assumption | rfl); exact rfl) | ((with_reducible apply al_neqP); (iterate 4 exact rfl)) | ((with_reducible apply al_add); (iterate 3 exact rfl); (first | exact i64_wrap (by omega) | assumption | rfl); exact rfl) | ((with_reducible apply al_guard_b (c := true)); exact rfl; exact rfl; (first | assumption | exact decide_eq_true (by omega) | (simp only [Bool.not_eq_true', decide_eq_false_iff_not, decide_eq_true_eq, Bool.not_eq_false']; (first | done | omega)))) | ((with_reducible apply al_guard_b (c := false)); exact rfl; exact rfl; (first | assumption | exact decide_eq_false (by omega) | (simp only [Bool.not_eq_true', decide_eq_false_iff_not, decide_eq_true_eq, Bool.not_eq_false']; (first | done | omega)))))); (with_reducible apply al_nil))))
            exact ⟨T.length - (i + 1), row1 0 (pxRow v out), _, [(3, mSeg a1 a2 b1 b2), (8, mCh CV CD), (9, mSet10 l), (12, mPx p1 p2), (13, mPx q1 q2)], by omega, ⟨i + 1, v, ii + 1, by omega, rfl, by omega, by rw [hst, hs], rfl, rfl⟩, RLe.refl _, rfl, ⟨rfl, rfl, rfl, rfl, rfl, rfl, rfl, rfl, rfl, rfl, rfl, rfl, rfl, trivial⟩, ⟨rfl, rfl, rfl, rfl, rfl, trivial⟩, rfl⟩
          | false =>
            have hB : (!eqP x y q1 q2) = true := by rw [hb]; rfl
            rcases List.eq_nil_or_concat out with ho | ⟨o', z, ho⟩
            · have hs := ddS_new (out := out) (px_ne ha) (px_ne hb) (by rw [ho]; simp)
              have h5 : ((pxRow v out).n : Int) = 0 := by show (out.length : Int) = 0; rw [ho]; rfl
              (repeat (first | ((with_reducible apply hs_nilS); kernel_rfl) | ((with_reducible apply rwp_draw (id := 19) [0,1,2,3,4,5,6,7,8,9,10,11,12,13,14,15,16,17,18,19,20,21,22]); kernel_rfl; kernel_rfl; exact rfl) | ((with_reducible apply rwp_seq)) | ((with_reducible apply rthen_normal)) | ((with_reducible apply rwp_region)) | ((with_reducible apply hs_nil)) | ((with_reducible apply rwp_skip)) | ((with_reducible apply rwp_block)) | ((with_reducible apply rwp_cond_1); exact rfl; (first | assumption | exact decide_eq_true (by omega) | (simp only [Bool.not_eq_true', decide_eq_false_iff_not, decide_eq_true_eq, Bool.not_eq_false']; (first | done | omega)) | exact rfl)) | ((with_reducible apply hs_c); exact rfl; (repeat (first | ((with_reducible apply al_q); exact rfl) | ((with_reducible apply al_loadPN); (iterate 5 exact rfl)) | ((with_reducible apply al_idxS); (iterate 3 exact rfl); (first | decide | omega); (first | decide | omega); (first | assumption | rfl); exact rfl) | ((with_reducible apply al_neqP); (iterate 4 exact rfl)) | ((with_reducible apply al_bslice); (iterate 10 exact rfl)) | ((with_reducible apply al_guard_b (c := true)); exact rfl; exact rfl; (first | assumption | exact decide_eq_true (by omega) | (simp only [Bool.not_eq_true', decide_eq_false_iff_not, decide_eq_true_eq, Bool.not_eq_false']; (first | done | omega)))))); (with_reducible apply al_nil)) | ((with_reducible apply hs_len 0); (iterate 4 exact rfl); kernel_rfl; exact rfl)))
              refine hs_app0 0 rfl rfl rfl rfl ?q1 ?q2 rfl rfl (fun v' hv' => ?_)
              case q1 => exact le_maxLen (by show out.length + 1 ≤ 1000000; omega)
              case q2 => show (out.length + 1) * 16 ≤ 140737488355328; omega
              (repeat (first | ((with_reducible apply rthen_normal)) | ((with_reducible apply rwp_region)) | ((with_reducible apply hs_nil)) | ((with_reducible apply rblock_normal)) | ((with_reducible apply hs_c); exact rfl; (repeat (first | ((with_reducible apply al_q); exact rfl) | ((with_reducible apply al_add); (iterate 3 exact rfl); (first | exact i64_wrap (by omega) | assumption | rfl); exact rfl))); (with_reducible apply al_nil))))
              refine ⟨T.length - (i + 1), row1 0 (pxRow v' (out ++ [(x, y)])), _, [(3, mSeg a1 a2 b1 b2), (8, mCh CV CD), (9, mSet10 l), (12, mPx p1 p2), (13, mPx q1 q2)], by omega, ⟨i + 1, v', ii + 1, by omega, rfl, by omega, by rw [hst, hs], rfl, rfl⟩, ?_, rfl, ⟨rfl, rfl, rfl, rfl, rfl, rfl, rfl, rfl, rfl, rfl, rfl, rfl, rfl, trivial⟩, ⟨rfl, rfl, rfl, rfl, rfl, trivial⟩, rfl⟩
              rw [pxRow_one10]; exact row1_le _ _ _
            · rw [List.concat_eq_append] at ho
              obtain ⟨z1, z2⟩ := z
              have hlz : out.getLast? = some (z1, z2) := by rw [ho]; simp
              have hgz : out[out.length - 1]? = some (z1, z2) := by rw [← List.getLast?_eq_getElem?]; exact hlz
              have hpos : 0 < out.length := by rw [ho, List.length_append, List.length_singleton]; omega
              have h5 : ¬ ((pxRow v out).n : Int) = 0 := by show ¬ (out.length : Int) = 0; omega
              have w5 : IntKind.i64.wrap (((pxRow v out).n : Int) - 1) = (out.length : Int) - 1 := (i64_wrap (by omega) : IntKind.i64.wrap ((out.length : Int) - 1) = (out.length : Int) - 1)
              have w2 : 0 ≤ (out.length : Int) - 1 := by omega
              have w3 : (out.length : Int) - 1 < out.length := by omega
              have E4 := itC_rd (j := (out.length : Int) - 1) (by omega) hgz
              clear ho hgz
              cases hc : eqP z1 z2 x y with
              | true =>
                have hs := ddS_l (p := (p1, p2)) (q := (q1, q2)) (show out.getLast? = some (x, y) by rw [hlz, px_eq hc])
                have hC : (!eqP z1 z2 x y) = false := by rw [hc]; rfl
                (repeat (first | ((with_reducible apply hs_nilS); kernel_rfl) | ((with_reducible apply rwp_draw (id := 19) [0,1,2,3,4,5,6,7,8,9,10,11,12,13,14,15,16,17,18,19,20,21,22]); kernel_rfl; kernel_rfl; exact rfl) | ((with_reducible apply rwp_seq)) | ((with_reducible apply rthen_normal)) | ((with_reducible apply rwp_region)) | ((with_reducible apply hs_nil)) | ((with_reducible apply rwp_skip)) | ((with_reducible apply rwp_block)) | ((with_reducible apply rblock_normal)) | ((with_reducible apply rwp_cond_1); exact rfl; (first | assumption | exact decide_eq_true (by omega) | (simp only [Bool.not_eq_true', decide_eq_false_iff_not, decide_eq_true_eq, Bool.not_eq_false']; (first | done | omega)) | exact rfl)) | ((with_reducible apply rwp_cond_0); exact rfl; (first | assumption | exact decide_eq_false (by omega) | (simp only [Bool.not_eq_true', decide_eq_false_iff_not, decide_eq_true_eq, Bool.not_eq_false']; (first | done | omega)) | exact rfl)) | ((with_reducible apply hs_c); exact rfl; (repeat (first | ((with_reducible apply al_q); exact rfl) | ((with_reducible apply al_loadPN); (iterate 5 exact rfl)) | ((with_reducible apply al_idxS); (iterate 3 exact rfl); (first | decide | omega); (first | decide | omega); (first | assumption | rfl); exact rfl) | ((with_reducible apply al_neqP); (iterate 4 exact rfl)) | ((with_reducible apply al_add); (iterate 3 exact rfl); (first | exact i64_wrap (by omega) | assumption | rfl); exact rfl) | ((with_reducible apply al_sub); (iterate 3 exact rfl); (first | exact i64_wrap (by omega) | assumption | rfl); exact rfl) | ((with_reducible apply al_guard_b (c := true)); exact rfl; exact rfl; (first | assumption | exact decide_eq_true (by omega) | (simp only [Bool.not_eq_true', decide_eq_false_iff_not, decide_eq_true_eq, Bool.not_eq_false']; (first | done | omega)))) | ((with_reducible apply al_guard_b (c := false)); exact rfl; exact rfl; (first | assumption | exact decide_eq_false (by omega) | (simp only [Bool.not_eq_true', decide_eq_false_iff_not, decide_eq_true_eq, Bool.not_eq_false']; (first | done | omega)))))); (with_reducible apply al_nil)) | ((with_reducible apply hs_len 0); (iterate 4 exact rfl); kernel_rfl; exact rfl) | ((with_reducible apply hs_idx 0); (iterate 4 exact rfl); (first | omega); (first | assumption | omega); exact rfl; kernel_rfl; exact rfl) | ((with_reducible apply hs_loadN 0); (iterate 3 exact rfl); (first | assumption | omega); assumption; exact rfl; kernel_rfl; exact rfl)))
                exact ⟨T.length - (i + 1), row1 0 (pxRow v out), _, [(3, mSeg a1 a2 b1 b2), (8, mCh CV CD), (9, mSet10 l), (12, mPx p1 p2), (13, mPx q1 q2)], by omega, ⟨i + 1, v, ii + 1, by omega, rfl, by omega, by rw [hst, hs], rfl, rfl⟩, RLe.refl _, rfl, ⟨rfl, rfl, rfl, rfl, rfl, rfl, rfl, rfl, rfl, rfl, rfl, rfl, rfl, trivial⟩, ⟨rfl, rfl, rfl, rfl, rfl, trivial⟩, rfl⟩
              | false =>
                have hs := ddS_new (out := out) (px_ne ha) (px_ne hb) (fun e => by rw [hlz] at e; exact px_ne hc (Option.some.inj e))
                have hC : (!eqP z1 z2 x y) = true := by rw [hc]; rfl
                (repeat (first | ((with_reducible apply hs_nilS); kernel_rfl) | ((with_reducible apply rwp_draw (id := 19) [0,1,2,3,4,5,6,7,8,9,10,11,12,13,14,15,16,17,18,19,20,21,22]); kernel_rfl; kernel_rfl; exact rfl) | ((with_reducible apply rwp_seq)) | ((with_reducible apply rthen_normal)) | ((with_reducible apply rwp_region)) | ((with_reducible apply hs_nil)) | ((with_reducible apply rwp_skip)) | ((with_reducible apply rwp_block)) | ((with_reducible apply rwp_cond_1); exact rfl; (first | assumption | exact decide_eq_true (by omega) | (simp only [Bool.not_eq_true', decide_eq_false_iff_not, decide_eq_true_eq, Bool.not_eq_false']; (first | done | omega)) | exact rfl)) | ((with_reducible apply hs_c); exact rfl; (repeat (first | ((with_reducible apply al_q); exact rfl) | ((with_reducible apply al_loadPN); (iterate 5 exact rfl)) | ((with_reducible apply al_idxS); (iterate 3 exact rfl); (first | decide | omega); (first | decide | omega); (first | assumption | rfl); exact rfl) | ((with_reducible apply al_neqP); (iterate 4 exact rfl)) | ((with_reducible apply al_sub); (iterate 3 exact rfl); (first | exact i64_wrap (by omega) | assumption | rfl); exact rfl) | ((with_reducible apply al_bslice); (iterate 10 exact rfl)) | ((with_reducible apply al_guard_b (c := true)); exact rfl; exact rfl; (first | assumption | exact decide_eq_true (by omega) | (simp only [Bool.not_eq_true', decide_eq_false_iff_not, decide_eq_true_eq, Bool.not_eq_false']; (first | done | omega)))) | ((with_reducible apply al_guard_b (c := false)); exact rfl; exact rfl; (first | assumption | exact decide_eq_false (by omega) | (simp only [Bool.not_eq_true', decide_eq_false_iff_not, decide_eq_true_eq, Bool.not_eq_false']; (first | done | omega)))))); (with_reducible apply al_nil)) | ((with_reducible apply hs_len 0); (iterate 4 exact rfl); kernel_rfl; exact rfl) | ((with_reducible apply hs_idx 0); (iterate 4 exact rfl); (first | omega); (first | assumption | omega); exact rfl; kernel_rfl; exact rfl) | ((with_reducible apply hs_loadN 0); (iterate 3 exact rfl); (first | assumption | omega); assumption; exact rfl; kernel_rfl; exact rfl)))
                refine hs_app0 0 rfl rfl rfl rfl ?q1 ?q2 rfl rfl (fun v' hv' => ?_)
                case q1 => exact le_maxLen (by show out.length + 1 ≤ 1000000; omega)
                case q2 => show (out.length + 1) * 16 ≤ 140737488355328; omega
                (repeat (first | ((with_reducible apply rthen_normal)) | ((with_reducible apply rwp_region)) | ((with_reducible apply hs_nil)) | ((with_reducible apply rblock_normal)) | ((with_reducible apply hs_c); exact rfl; (repeat (first | ((with_reducible apply al_q); exact rfl) | ((with_reducible apply al_add); (iterate 3 exact rfl); (first | exact i64_wrap (by omega) | assumption | rfl); exact rfl))); (with_reducible apply al_nil))))
                refine ⟨T.length - (i + 1), row1 0 (pxRow v' (out ++ [(x, y)])), _, [(3, mSeg a1 a2 b1 b2), (8, mCh CV CD), (9, mSet10 l), (12, mPx p1 p2), (13, mPx q1 q2)], by omega, ⟨i + 1, v', ii + 1, by omega, rfl, by omega, by rw [hst, hs], rfl, rfl⟩, ?_, rfl, ⟨rfl, rfl, rfl, rfl, rfl, rfl, rfl, rfl, rfl, rfl, rfl, rfl, rfl, trivial⟩, ⟨rfl, rfl, rfl, rfl, rfl, trivial⟩, rfl⟩
                rw [pxRow_one10]; exact row1_le _ _ _
      · have u2 : ¬ ii < (T.length : Int) := by omega
        have e0 : T.take i = T := List.take_of_length_le (by omega)
        rw [e0, ← hTa]
        refine rwp_cool 0 14 (pxRow v at1) rfl rfl ?_
        rw [← hjj'] at hSp
        clear hdl hTa e0
        rcases hres with ⟨he, r1, r2⟩ | ⟨he, r1, r2⟩
        · subst he
          simp only [List.isEmpty_nil, if_true, Bool.not_true] at hSp
          (repeat (first | ((with_reducible apply rwp_seq)) | ((with_reducible apply rthen_normal)) | ((with_reducible apply rwp_region)) | ((with_reducible apply hs_nil)) | ((with_reducible apply rwp_skip)) | ((with_reducible apply rblock_normal)) | ((with_reducible apply rblock_same)) | ((with_reducible apply rwp_exit)) | ((with_reducible apply rthen_exit)) | ((with_reducible apply rwp_cond_0); exact rfl; (first | assumption | exact decide_eq_false (by omega) | (simp only [Bool.not_eq_true', decide_eq_false_iff_not, decide_eq_true_eq, Bool.not_eq_false']; (first | done | omega)) | exact rfl)) | ((with_reducible apply hs_c); exact rfl; (repeat (first | ((with_reducible apply al_q); exact rfl) | ((with_reducible apply al_sub); (iterate 3 exact rfl); (first | exact i64_wrap (by omega) | assumption | rfl); exact rfl) | (refine al_call3 rfl rfl rfl rfl rfl (by (first | exact hSp)) rfl ?_))); (with_reducible apply al_nil))))
          exact ⟨j, noRows, _, [(3, mSeg a1 a2 b1 b2), (8, mCh CV CD), (9, mSet10 l)], by omega, ⟨j, jj - 1, by omega, rfl, by omega, rfl, by rw [r1, r2], rfl⟩, (fun i q h => by cases h), rfl, ⟨rfl, rfl, rfl, rfl, rfl, rfl, rfl, trivial⟩, ⟨rfl, rfl, rfl, trivial⟩, rfl⟩
        · have hb : at1.isEmpty = false := by
            cases hh : at1.isEmpty with
            | false => rfl
            | true => exact absurd (List.isEmpty_iff.1 hh) he
          rw [hb] at hSp
          simp only [Bool.false_eq_true, if_false, Bool.not_false] at hSp
          rw [← r1, ← r2] at hSp
          generalize hFV : fromV (atL r l) V j = FV at *
          generalize hFD : fromD (atL r l) V D j = FD at *
          (repeat (first | ((with_reducible apply rwp_seq)) | ((with_reducible apply rthen_normal)) | ((with_reducible apply rwp_region)) | ((with_reducible apply hs_nil)) | ((with_reducible apply rblock_normal)) | ((with_reducible apply rblock_same)) | ((with_reducible apply rwp_exit)) | ((with_reducible apply rthen_exit)) | ((with_reducible apply rwp_cond_1); exact rfl; (first | assumption | exact decide_eq_true (by omega) | (simp only [Bool.not_eq_true', decide_eq_false_iff_not, decide_eq_true_eq, Bool.not_eq_false']; (first | done | omega)) | exact rfl)) | ((with_reducible apply rwp_cond_0); exact rfl; (first | assumption | exact decide_eq_false (by omega) | (simp only [Bool.not_eq_true', decide_eq_false_iff_not, decide_eq_true_eq, Bool.not_eq_false']; (first | done | omega)) | exact rfl)) | ((with_reducible apply hs_c); exact rfl; (repeat (first | ((with_reducible apply al_q); exact rfl) | ((with_reducible apply al_sub); (iterate 3 exact rfl); (first | exact i64_wrap (by omega) | assumption | rfl); exact rfl) | (refine al_call3 rfl rfl rfl rfl rfl (by (first | exact hSp)) rfl ?_))); (with_reducible apply al_nil))))
          exact ⟨j, noRows, _, [(3, mSeg a1 a2 b1 b2), (8, mCh FV FD), (9, mSet10 l)], by omega, ⟨j, jj - 1, by omega, rfl, by omega, rfl, by rw [hFV, hFD], rfl⟩, (fun i q h => by cases h), rfl, ⟨rfl, rfl, rfl, rfl, rfl, rfl, rfl, trivial⟩, ⟨rfl, rfl, rfl, trivial⟩, rfl⟩
    · obtain rfl : j = 0 := by omega
      have t2 : ¬ jj ≥ 0 := by omega
      have hRd' : Rnd a1 a2 b1 b2 r m (2 * 21 ^ (m - 2) * 21) (fromV (atL r l) V 0) (fromD (atL r l) V D 0) := by
        have := hRd.exp hr28 (by omega) hl
        rw [show m - 1 + 1 = m by omega] at this
        exact this
      have hfb : 0 ≤ mi * 2 ^ r ∧ mi * 2 ^ r ≤ 3145728 := by
        rcases (show mi = 2 ∨ mi = 3 by omega) with e | e <;> rw [e] <;> omega
      have hlen : (fromV (atL r l) V 0).length ≤ 882 := Nat.le_trans hRd'.len (by omega)
      have hlD : (fromD (atL r l) V D 0).length ≤ 882 := by have := hRd'.rt.2.1; omega
      have RR := cr _ _ r hr28 (Nat.le_trans hlen (by omega)) (Nat.le_trans hlD (by omega)) (hII hRd') (fun d hd => by have := hRd'.rt.2.2.2.2.1 d hd; omega)
      rw [rtB_of hRd'.rt] at RR
      have DD := cd (fromV (atL r l) V 0) (fromD (atL r l) V D 0) (Nat.le_trans hlen (by omega)) (Nat.le_trans hlD (by omega))
      have hdp := dptD_le (D := fromD (atL r l) V D 0) (m := m) (by omega) hRd'.dp
      have CC := cc (fromV (atL r l) V 0) (fromD (atL r l) V D 0) a1 a2 b1 b2 r (mi * 2 ^ r) (Nat.le_trans hlen (by omega)) (hII hRd') ⟨⟨by simp only; omega, by simp only; omega⟩, by simp only; omega, by simp only; omega⟩
      rw [hRd'.closeB hr28 ra rb (mi * 2 ^ r) (by rw [hmi]) (by omega)] at CC
      have hRd'' : Rnd a1 a2 b1 b2 r (m + 1 - 1) (2 * 21 ^ (m + 1 - 2)) (fromV (atL r l) V 0) (fromD (atL r l) V D 0) := by
        rw [show m + 1 - 1 = m by omega, show m + 1 - 2 = m - 2 + 1 by omega, Nat.pow_succ, ← Nat.mul_assoc]
        exact hRd'
      have hdp' : ¬ dptD (fromD (atL r l) V D 0) > mi := by omega
      clear hRd hRd' cn cs cr cd cc hII hlen hlD hdp
      generalize dptD (fromD (atL r l) V D 0) = dd at *
      generalize fromV (atL r l) V 0 = EV at *
      generalize fromD (atL r l) V D 0 = ED at *
      (repeat (first | ((with_reducible apply rwp_seq)) | ((with_reducible apply rthen_normal)) | ((with_reducible apply rwp_region)) | ((with_reducible apply hs_nil)) | ((with_reducible apply rwp_skip)) | ((with_reducible apply rblock_normal)) | ((with_reducible apply rblock_same)) | ((with_reducible apply rwp_exit)) | ((with_reducible apply rthen_exit)) | ((with_reducible apply rwp_cond_0); exact rfl; (first | assumption | exact decide_eq_false (by omega) | (simp only [Bool.not_eq_true', decide_eq_false_iff_not, decide_eq_true_eq, Bool.not_eq_false']; (first | done | omega)) | exact rfl)) | ((with_reducible apply hs_c); exact rfl; (repeat (first | ((with_reducible apply al_q); exact rfl) | ((with_reducible apply al_add); (iterate 3 exact rfl); (first | exact i64_wrap (by omega) | assumption | rfl); exact rfl) | ((with_reducible apply al_mul); (iterate 3 exact rfl); (first | exact i64_wrap (by omega) | assumption | rfl); exact rfl) | (refine al_call1 rfl rfl rfl (by (first | exact RR | exact DD | exact CC)) rfl ?_) | (refine al_call2 rfl rfl rfl rfl (by (first | exact RR | exact DD | exact CC)) rfl ?_) | (refine al_call5 rfl rfl rfl rfl rfl rfl rfl (by (first | exact RR | exact DD | exact CC)) rfl ?_) | ((with_reducible apply al_guard_b (c := false)); exact rfl; exact rfl; (first | assumption | exact decide_eq_false (by omega) | (simp only [Bool.not_eq_true', decide_eq_false_iff_not, decide_eq_true_eq, Bool.not_eq_false']; (first | done | omega)))))); (with_reducible apply al_nil))))
      exact ⟨4 - (m + 1), noRows, _, [(3, mSeg a1 a2 b1 b2), (8, mCh EV ED), (9, mSet10 l)], by omega, ⟨m + 1, mi + 1, EV, ED, by omega, by omega, rfl, by omega, hRd'', rfl, rfl, rfl⟩, RLe.refl _, rfl, ⟨rfl, rfl, rfl, rfl, rfl, rfl, trivial⟩, ⟨rfl, rfl, rfl, trivial⟩, rfl⟩
  · have t1 : ¬ mi ≤ 3 := by omega
    (repeat (first | ((with_reducible apply rwp_seq)) | ((with_reducible apply rthen_normal)) | ((with_reducible apply rwp_region)) | ((with_reducible apply hs_nil)) | ((with_reducible apply rwp_ret)) | ((with_reducible apply rblock_same)) | ((with_reducible apply rwp_exit)) | ((with_reducible apply rthen_exit)) | ((with_reducible apply rwp_cond_0); exact rfl; (first | assumption | exact decide_eq_false (by omega) | (simp only [Bool.not_eq_true', decide_eq_false_iff_not, decide_eq_true_eq, Bool.not_eq_false']; (first | done | omega)) | exact rfl)) | ((with_reducible apply hs_c); exact rfl; (repeat (first | ((with_reducible apply al_q); exact rfl) | (refine al_call0 rfl rfl (by (first | exact hal)) rfl ?_))); (with_reducible apply al_nil))))
    (first | (refine apost_ret rfl (resl_tmp rfl resl_nil) ?_))
    exact AV.Le.refl _
theorem law_Drift10 (cn : CNew10) (cs : CSplit10) (cr : CRight10) (cd : CDepth10) (cc : CClose10) {l : List Px} {a1 a2 b1 b2 k : Int} (hin : ∀ p ∈ l, InI p) (hal : PCall Try.prog 6 [] (vB true)) : PCall Try.prog 4 [vSeg10 a1 a2 b1 b2, vI k, vIt l] (vB true) := by
  have R1 := p_r5Right (x := a1) (y := a2) rfl
  have R2 := p_r5Right (x := b1) (y := b2) rfl
  by_cases q1 : k < 0
  · exact drift_no R1 R2 hal (.inl q1)
  · by_cases q2 : k > 20
    · exact drift_no R1 R2 hal (.inr (.inl ⟨q1, q2⟩))
    · cases g1 : rB5 a1 a2 with
      | false => rw [g1] at R1; exact drift_no R1 R2 hal (.inr (.inr (.inl ⟨q1, q2, rfl⟩)))
      | true =>
        rw [g1] at R1
        cases g2 : rB5 b1 b2 with
        | false => rw [g2] at R2; exact drift_no R1 R2 hal (.inr (.inr (.inr (.inl ⟨q1, q2, rfl, rfl⟩))))
        | true =>
          rw [g2] at R2
          by_cases q3 : (l.length : Int) > 20
          · exact drift_no R1 R2 hal (.inr (.inr (.inr (.inr ⟨q1, q2, rfl, rfl, q3⟩))))
          · obtain ⟨r, rfl⟩ : ∃ r : Nat, k = (r : Int) := ⟨k.toNat, by omega⟩
            exact drift_yes cn cs cr cd cc (by omega) g1 g2 (by omega) hin hal
end Go.Proofs.Ytlglajaonmpljaa

namespace Go.Proofs.Ytlglajaonmpljaa
open Go.RowKit
theorem k_alive10 : PCall Try.prog 6 [] (vB true) := p_alive10 k_New10 k_Split10 k_SplitN10 k_Right10 k_Depth10 k_Same10 k_Clone10 k_Close10
theorem drift_walk (a1 a2 b1 b2 k : Int) (l : List Px)
    (_ : -9223372036854775808 ≤ a1 ∧ a1 ≤ 9223372036854775807) (_ : -9223372036854775808 ≤ a2 ∧ a2 ≤ 9223372036854775807) (_ : -9223372036854775808 ≤ b1 ∧ b1 ≤ 9223372036854775807) (_ : -9223372036854775808 ≤ b2 ∧ b2 ≤ 9223372036854775807)
    (_ : -9223372036854775808 ≤ k ∧ k ≤ 9223372036854775807) (_ : (l.length : Int) ≤ 9223372036854775807) (hin : ∀ v ∈ l, InI v) : PCall Try.prog 4 [vSeg10 a1 a2 b1 b2, vI k, vIt l] (vB true) :=
  law_Drift10 k_New10 k_Split10 k_Right10 k_Depth10 k_Close10 hin k_alive10
end Go.Proofs.Ytlglajaonmpljaa

namespace Go.Proofs.Ytlglajaonmpljaa
open Go.ChangeShapes Go.WideShapes Go.ChangeAt Go.RowKit Go.Joins
set_option linter.unusedVariables false
set_option linter.unusedSimpArgs false
theorem laidOut : laidOutB Try.prog = true := by kernel_rfl
theorem cell_lt {W : World} {b : Addr} {v : Value} (h : W.cell? b = some v) : b.block < W.heap.size := by
  unfold World.cell? at h
  split at h
  · rename_i hh; exact (Array.getElem?_eq_some_iff.1 hh).1
  · cases h
theorem wf_i64 {n : Int} (h : (Lit.int .i64 n).wf = true) : -9223372036854775808 ≤ n ∧ n ≤ 9223372036854775807 := by
  simpa [Lit.wf, IntKind.min, IntKind.max, IntKind.signed, IntKind.bits] using h
/-- a row of things of two numbers as an argument: what it reads as. -/
theorem open_pxsW {H : Type} {enc : TypeId × Value → H} {P : Program} {W : World} {t e : TypeId} {f0 f1 : Field} (ht : P.underlying t = some (.slice e)) (he : P.underlying e = some (.struct #[f0, f1])) (ce : P.cellsOf e = 2) (o0 : f0.offset = 0) (o1 : f1.offset = 1) (c0 : P.cellsOf f0.type = 1) (c1 : P.cellsOf f1.type = 1) (k0 : P.underlying f0.type = some (.int .i64)) (k1 : P.underlying f1.type = some (.int .i64))
    {v : Value} {d : DataW H} {p : List MemPlace} (hv : ∃ a len cap, v = .slice a len cap) (h0 : DataW.Trod enc P W 0 (fun _ => true) true t v d p) :
    ∃ l : List (Int × Int), (l.length : Int) ≤ 9223372036854775807 ∧ (∀ p ∈ l, InI p) ∧ (∀ n, (∀ w ∈ DataW.weights P t d, w ≤ n) → l.length * P.bytesOf e ≤ n) ∧ RpV (fun _ => True) id W (vIt l) v := by
  obtain ⟨a0, len0, cap0, rfl⟩ := hv
  obtain ⟨fuel, hf⟩ := h0
  rcases Go.Deep.open_slice_pairs ht he ce o0 o1 c0 c1 hf with ⟨hcs, hx⟩ | ⟨a, len, cap, m, n, V0, V1, D0, D1, P0, P1, hcs, hb, hl, hm, hmm, hx, hi⟩
  · simp [Value.cells] at hcs
    obtain ⟨rfl, rfl, rfl⟩ := hcs
    exact ⟨[], by decide, fun p hp => (by cases hp), (fun n _ => by simp), ⟨none, 0, rfl, Nat.le_refl _, rfl, fun h => absurd h (Nat.lt_irrefl _)⟩, fun _ _ => trivial⟩
  · simp [Value.cells] at hcs
    obtain ⟨rfl, rfl, rfl⟩ := hcs
    simp only [if_true] at hmm
    subst hmm
    simp only [Prod.mk.injEq] at hx
    obtain ⟨hdd, rfl⟩ := hx
    have each : ∀ i, i < m → ∃ q : Int × Int, V0 i = .int .i64 q.1 ∧ V1 i = .int .i64 q.2 ∧ InI q := fun i h => by
      obtain ⟨_, _, g0, g1⟩ := hi i h
      obtain ⟨x, hx, _, wx⟩ := DataW.trod_int k0 g0
      obtain ⟨y, hy, _, wy⟩ := DataW.trod_int k1 g1
      simp at hx hy
      exact ⟨(x, y), hx, hy, wf_i64 wx, wf_i64 wy⟩
    obtain ⟨q, hq⟩ := Go.Deep.choose_lt each
    have hcells : ∀ (l : List (Int × Int)) (k : Nat), (∀ i (p : Int × Int), l[i]? = some p → W.cell? (a.add ((k + i) * 2)) = some (.int .i64 p.1) ∧ W.cell? (a.add ((k + i) * 2 + 1)) = some (.int .i64 p.2)) →
        ∃ vs : List Value, RpL (fun _ => True) id W (itC l) vs ∧ ∀ (j : Nat) v, vs[j]? = some v → W.cell? (a.add (k * 2 + j)) = some v := by
      intro l
      induction l with
      | nil => intro k _; exact ⟨[], ⟨rfl, fun i x v h => by simp [itC] at h⟩, fun j v h => by simp at h⟩
      | cons p l ih =>
        intro k h
        obtain ⟨vs, g1, g2⟩ := ih (k + 1) (fun i p' hp' => by
          have := h (i + 1) p' (by simpa using hp')
          rw [show k + (i + 1) = k + 1 + i by omega] at this
          exact this)
        obtain ⟨h1, h2⟩ := h 0 p rfl
        refine ⟨.int .i64 p.1 :: .int .i64 p.2 :: vs, ⟨by simp [itC, g1.1], fun i x v hx hv => ?_⟩, fun j v hv => ?_⟩
        · match i with
          | 0 => simp [itC] at hx hv; subst hx; subst hv; exact ⟨rfl, rfl⟩
          | 1 => simp [itC] at hx hv; subst hx; subst hv; exact ⟨rfl, rfl⟩
          | i + 2 => exact g1.2 i x v (by simpa [itC] using hx) (by simpa using hv)
        · match j with
          | 0 => simp at hv; subst hv; simpa using h1
          | 1 => simp at hv; subst hv; simpa using h2
          | j + 2 =>
            have := g2 j v (by simpa using hv)
            rw [show (k + 1) * 2 + j = k * 2 + (j + 2) by omega] at this
            exact this
    obtain ⟨vs, g1, g2⟩ := hcells ((List.range len0).map q) 0 (fun i p hp => by
      rw [List.getElem?_map] at hp
      cases hr : (List.range len0)[i]? with
      | none => rw [hr] at hp; cases hp
      | some j =>
        rw [hr] at hp
        cases hp
        obtain ⟨h3, h4⟩ := List.getElem?_eq_some_iff.1 hr
        simp at h3 h4
        subst h4
        obtain ⟨e0, e1, _⟩ := hi i (by omega)
        obtain ⟨f0, f1, _⟩ := hq i (by omega)
        rw [f0] at e0
        rw [f1] at e1
        simpa using ⟨e0, e1⟩)
    have hlen : ∀ l : List (Int × Int), (itC l).length = l.length * 2 := fun l => by
      induction l with
      | nil => rfl
      | cons p l ih => simp [itC, ih]; omega
    have hclo : ∀ l : List (Int × Int), ∀ y ∈ itC l, y.closedB = true := fun l => by
      induction l with
      | nil => intro y hy; cases hy
      | cons p l ih =>
        intro y hy
        simp only [itC, List.mem_cons] at hy
        rcases hy with rfl | rfl | hy
        · rfl
        · rfl
        · exact ih y hy
    refine ⟨(List.range len0).map q, by simp; unfold maxLen at hm; omega, fun p hp => ?_, fun n hw => ?_, ?_⟩
    · obtain ⟨i, hi1, rfl⟩ := List.mem_map.1 hp
      have h5 : i < len0 := by simpa using hi1
      exact (hq i (by omega)).2.2
    · rw [hdd] at hw
      unfold DataW.weights at hw
      rw [ht] at hw
      simp only at hw
      have := hw _ (List.mem_cons_self ..)
      refine Nat.le_trans (Nat.mul_le_mul_right _ ?_) this
      simp
    refine ⟨⟨some a, m, by simp, by simpa using hl, hlen _, fun hn => ⟨a, vs, rfl, ?_, g1, fun j v hv => by have := g2 j v hv; rwa [Nat.zero_mul, Nat.zero_add] at this, hclo _⟩⟩, fun _ _ => trivial⟩
    have hn' : 0 < len0 := by simpa using hn
    have := cell_lt (hi 0 (by omega)).1
    rwa [block_add] at this
/-- a call that returns true, at values that are told. -/
theorem pcall_true' {P : Program} {f : FuncId} {args : List AV} (h : PCall P f args (vB true)) (vals : List Value) (W : World) (hl : args.length = vals.length) (hr : ∀ (i : Nat) (x : AV) (v : Value), args[i]? = some x → vals[i]? = some v → RpV (fun _ => True) id W x v) :
    Calls P f vals.toArray W fun e W' => e = .returned (.bool true) ∧ Below W.heap.size W W' :=
  (h.call (fun _ => True) W vals ⟨hl, hr⟩).mono fun e W' ⟨v, he, ⟨hv, _⟩, hb⟩ => by subst hv; exact ⟨he, hb⟩
end Go.Proofs.Ytlglajaonmpljaa

