/-
  My own texts, without what this claim does not need. My own text.
-/
import Derived.Deep.SlicePairs
import Derived.ChangeSame
import Derived.Carry
import Derived.Test.YtlfkllmnekdghaaRows
import Derived.Test.YtlfkllmnekdghaaInpSamK4
namespace Go.Proofs.Ytlfkllmnekdghaa
open Go.RowKit
set_option linter.unusedVariables false
set_option linter.unusedSimpArgs false
theorem ovr_self (R : Rws) : ovr R R = R := by
  funext j
  unfold ovr
  cases R j <;> rfl
theorem ovr_no (R : Rws) : ovr noRows R = R := rfl
theorem ovr_ovr (R1 R : Rws) : ovr (ovr R1 R) R = ovr R1 R := by
  funext j
  unfold ovr
  cases R1 j <;> cases R j <;> rfl
theorem FamP.skip {o : Nat} {hv : Value} {vs : List Value} {L : List (List Pt)} {R : Rws} (h : FamP o hv vs L R) (ho : o ≠ 1) (h4 : o < 4) : FamP o hv vs L (fun j => if j = 1 then none else R j) := ⟨h.len, by rw [if_neg ho]; exact h.hdr, fun j r v h1 h2 => by rw [if_neg (by omega)]; exact h.rings j r v h1 h2⟩
theorem mapC_cl (vs : List Value) : (vs.map AC.c).all AC.closedB = true := by
  rw [List.all_eq_true]
  intro y hy
  obtain ⟨v, _, rfl⟩ := List.mem_map.1 hy
  rfl
/-- where the ring of number j of a job's copy stands. -/
def nmC (n j : Nat) : Nat := if j < n then 4 * (j + 1) else 4 * (j - n + 1) + 1
theorem nmC_mod (n j : Nat) : nmC n j % 4 = 0 ∨ nmC n j % 4 = 1 := by unfold nmC; split <;> omega
theorem nmC_pos (n j : Nat) : 2 ≤ nmC n j := by unfold nmC; split <;> omega
theorem nmC_inj {n i j : Nat} (h : nmC n i = nmC n j) : i = j := by unfold nmC at h; split at h <;> split at h <;> omega
/-- a job's copy, turned: its heads in row 0, of each ring so many points. -/
structure MutR (n : Nat) (v : Value) (ws : List Value) (C : List (List Pt)) (R : Rws) : Prop where
  len : ws.length = C.length
  hdr : R 0 = some ⟨45, 1, v, C.length, ws.map AC.c⟩
  rings : ∀ (j : Nat) r u, C[j]? = some r → ws[j]? = some u → ∃ r' : List Pt, r'.length = r.length ∧ R (nmC n j) = some ⟨37, 2, u, r.length, ringC r'⟩
theorem MutR.set {n i : Nat} {v u : Value} {ws : List Value} {C : List (List Pt)} {R : Rws} {r r1 : List Pt} (h : MutR n v ws C R) (h1 : C[i]? = some r) (h2 : ws[i]? = some u) (hl : r1.length = r.length) : MutR n v ws C (upd R (nmC n i) ⟨37, 2, u, r.length, ringC r1⟩) := by
  have hp := nmC_pos n i
  refine ⟨h.len, by rw [upd_ne _ _ (by omega)]; exact h.hdr, fun j r' u' h1' h2' => ?_⟩
  by_cases e : j = i
  · subst e
    rw [h1] at h1'
    rw [h2] at h2'
    cases h1'; cases h2'
    exact ⟨r1, hl, upd_same _ _ _⟩
  · obtain ⟨r2, q1, q2⟩ := h.rings j r' u' h1' h2'
    exact ⟨r2, q1, by rw [upd_ne _ _ (fun q => e (nmC_inj q))]; exact q2⟩
theorem mut_begin {A B : List (List Pt)} {va vb v : Value} {vas vbs : List Value} {R : Rws} (fa : FamP 0 va vas A R) (fb : FamP 1 vb vbs B R) : MutR A.length v (vas ++ vbs) (A ++ B) (upd (fun j => if j = 1 then none else R j) 0 ⟨45, 1, v, A.length + B.length, vas.map AC.c ++ vbs.map AC.c⟩) := by
  refine ⟨by rw [List.length_append, List.length_append, fa.len, fb.len], by rw [upd_same, List.length_append, List.map_append], fun j r u h1 h2 => ⟨r, rfl, ?_⟩⟩
  have hp := nmC_pos A.length j
  rw [upd_ne _ _ (by omega), if_neg (by omega)]
  unfold nmC
  by_cases hj : j < A.length
  · rw [if_pos hj]
    rw [List.getElem?_append_left hj] at h1
    rw [List.getElem?_append_left (by rw [fa.len]; exact hj)] at h2
    exact fa.rings j r u h1 h2
  · rw [if_neg hj]
    rw [List.getElem?_append_right (by omega)] at h1
    rw [List.getElem?_append_right (by rw [fa.len]; omega), fa.len] at h2
    exact fb.rings (j - A.length) r u h1 h2
theorem ringC_cons11 (p : Pt) (l : List Pt) : ringC (p :: l) = .c (.int .i64 p.1) :: .c (.int .i64 p.2) :: ringC l := rfl
theorem ringC_x {l : List Pt} {k : Nat} {x y : Int} (h : l[k]? = some (x, y)) : (ringC l)[k * 2 + 0]? = some (.c (.int .i64 x)) := by
  have e := ringC_at (ii := (k : Int)) rfl h
  have e2 := congrArg (fun z => z[0]?) e
  simp only [Int.toNat_natCast, List.getElem?_take, List.getElem?_drop] at e2
  simpa using e2
theorem ringC_set {l : List Pt} {k : Nat} {x y c : Int} (h : l[k]? = some (x, y)) : splice (ringC l) (k * 2 + 0) [.c (.int .i64 c)] = ringC (l.set k (c, y)) := by
  have hk := (List.getElem?_eq_some_iff.1 h).1
  have he := (List.getElem?_eq_some_iff.1 h).2
  unfold splice
  rw [Nat.add_zero, show [AC.c (.int .i64 c)].length = 1 from rfl, ringC_take]
  have h1 : (ringC l).drop (k * 2 + 1) = .c (.int .i64 y) :: ringC (l.drop (k + 1)) := by
    rw [← List.drop_drop, ringC_drop, List.drop_eq_getElem_cons hk, he, ringC_cons11]
    rfl
  rw [h1, List.set_eq_take_append_cons_drop, if_pos hk]
  simp [ringC, ptC]
abbrev jobX (va vb : Value) (op fill rung cap : Int) : List AC := [.c va, .c vb, .c (.int .i64 op), .c (.int .i64 fill), .c (.int .i64 rung), .c (.int .i64 cap)]
def SoI (A B : List (List Pt)) (op fill rung cap : Int) (w ve vf : Value) (ws ves vfs : List Value) (k : Nat) (R : Rws) (ts : List (Nat × AV)) (ms : List (Nat × List AC)) : Prop :=
  ∃ (i : Nat) (ii : Int), i ≤ (A ++ B).length ∧ k = (A ++ B).length - i ∧ ii = i ∧ MutR A.length w ws (A ++ B) R ∧ FamP 2 ve ves A R ∧ FamP 3 vf vfs B R ∧ ms = [(2, jobC A B op fill rung cap), (6, jobX ve vf op fill rung cap)] ∧
    ts = [(2, .w (.one (.own 2 0))), (6, .w (.one (.own 6 0))), (40, vC w), (41, vI ((A.length + B.length : Nat) : Int)), (42, vI ii)]
def SiI (A B : List (List Pt)) (op fill rung cap : Int) (w ve vf : Value) (ws ves vfs : List Value) (r : List Pt) (u : Value) (oo : Int) (k : Nat) (R : Rws) (ts : List (Nat × AV)) (ms : List (Nat × List AC)) : Prop :=
  ∃ (i : Nat) (ii : Int), i ≤ r.length ∧ k = r.length - i ∧ ii = i ∧ MutR A.length w ws (A ++ B) R ∧ FamP 2 ve ves A R ∧ FamP 3 vf vfs B R ∧ ms = [(2, jobC A B op fill rung cap), (6, jobX ve vf op fill rung cap)] ∧
    ts = [(2, .w (.one (.own 2 0))), (6, .w (.one (.own 6 0))), (8, vC u), (40, vC w), (41, vI ((A.length + B.length : Nat) : Int)), (42, vI oo), (47, vI r.length), (48, vI ii)]
set_option maxRecDepth 100000 in
set_option maxHeartbeats 16000000 in
theorem law_Same {A B A' B' : List (List Pt)} {op fill rung cap op' fill' rung' cap' : Int} (hb : A.length + B.length + sumL A + sumL B ≤ 1048576) (hb' : A'.length + B'.length + sumL A' + sumL B' ≤ 1048576) :
    PCall Try.prog 5 [.w (.agg (jobC A B op fill rung cap)), .w (.agg (jobC A' B' op' fill' rung' cap'))] (vB true) := by
  have L1 := p_alive11
  have M1 := p_Many (op := op) (fill := fill) (rung := rung) (cap := cap) hb
  have M2 := p_Many (op := op') (fill := fill') (rung := rung') (cap := cap') hb'
  have cs : ∃ m m', ((A.length + B.length + (sumL A + sumL B) : Nat) : Int) = m ∧ ((A'.length + B'.length + (sumL A' + sumL B') : Nat) : Int) = m' ∧ (m > 600 ∨ (¬ m > 600 ∧ m' > 600) ∨ (¬ m > 600 ∧ ¬ m' > 600)) := ⟨_, _, rfl, rfl, by omega⟩
  obtain ⟨m, m', hm, hm', cs⟩ := cs
  rw [hm] at M1
  rw [hm'] at M2
  rcases cs with h1 | ⟨h1, h2⟩ | ⟨h1, h2⟩
  · clear hm hm'
    refine pcall_body (f := 5) Try.func5 rfl rfl rfl rfl ?_
    (repeat (first | ((with_reducible apply al_q); exact rfl) | (refine al_call0 rfl rfl (by (first | exact L1 | exact M1 | exact M2)) rfl ?_) | (refine al_call1 rfl rfl rfl (by (first | exact L1 | exact M1 | exact M2)) rfl ?_) | ((with_reducible apply al_guard_b (c := true)); exact rfl; exact rfl; (first | assumption | exact decide_eq_true (by omega) | (simp only [Bool.not_eq_true', decide_eq_false_iff_not, decide_eq_true_eq, Bool.not_eq_false']; (first | done | omega)))) | ((with_reducible apply awp_seq)) | ((with_reducible apply athen_normal)) | ((with_reducible apply awp_region)) | ((with_reducible apply al_nil)) | ((with_reducible apply awp_ret)) | ((with_reducible apply athen_ret)) | ((with_reducible apply awp_cond_t); exact rfl)))
    (first | (refine apost_ret rfl (resl_tmp rfl resl_nil) ?_))
    exact AV.Le.refl _
  · clear hm hm'
    refine pcall_body (f := 5) Try.func5 rfl rfl rfl rfl ?_
    (repeat (first | ((with_reducible apply al_q); exact rfl) | (refine al_call0 rfl rfl (by (first | exact L1 | exact M1 | exact M2)) rfl ?_) | (refine al_call1 rfl rfl rfl (by (first | exact L1 | exact M1 | exact M2)) rfl ?_) | ((with_reducible apply al_guard_b (c := false)); exact rfl; exact rfl; (first | assumption | exact decide_eq_false (by omega) | (simp only [Bool.not_eq_true', decide_eq_false_iff_not, decide_eq_true_eq, Bool.not_eq_false']; (first | done | omega)))) | ((with_reducible apply awp_seq)) | ((with_reducible apply athen_normal)) | ((with_reducible apply awp_region)) | ((with_reducible apply al_nil)) | ((with_reducible apply awp_ret)) | ((with_reducible apply athen_ret)) | ((with_reducible apply awp_cond_1); exact rfl; (first | assumption | exact decide_eq_true (by omega) | (simp only [Bool.not_eq_true', decide_eq_false_iff_not, decide_eq_true_eq, Bool.not_eq_false']; (first | done | omega))))))
    (first | (refine apost_ret rfl (resl_tmp rfl resl_nil) ?_))
    exact AV.Le.refl _
  · have hA : A.length ≤ 400000 := by omega
    have hB : B.length ≤ 400000 := by omega
    have hr : ∀ r ∈ A ++ B, r.length ≤ 900000 := fun r h => by
      rcases List.mem_append.1 h with h | h
      · have := mem_sumL h; omega
      · have := mem_sumL h; omega
    have hA' : A'.length ≤ 400000 := by omega
    have hB' : B'.length ≤ 400000 := by omega
    have S1 := p_Same11 (A := A) (B := B) (A' := A') (B' := B') (op := op) (fill := fill) (rung := rung) (cap := cap) (op' := op') (fill' := fill') (rung' := rung') (cap' := cap') (by omega) (by omega) (by omega) (by omega) (fun r h => by have := hr r h; omega)
    have S2 := p_rSame11 (A := A) (B := B) (A' := A') (B' := B') (op := op) (fill := fill) (rung := rung) (cap := cap) (op' := op') (fill' := fill') (rung' := rung') (cap' := cap') hA hB hr
    have H1 := h_Clone11 (A := A) (B := B) (op := op) (fill := fill) (rung := rung) (cap := cap) (o := 0) (.inl rfl) (by omega) (by omega) hr
    have hsm : smB A B op fill rung cap A B op fill rung cap = true := decide_eq_true ⟨rfl, rfl, rfl, rfl, rfl, rfl⟩
    generalize smB A B op fill rung cap A' B' op' fill' rung' cap' = w at S1 S2
    have S1' : PCall Try.prog 17 [.w (.agg [ringsA A, ringsA B, .c (.int .i64 op), .c (.int .i64 fill), .c (.int .i64 rung), .c (.int .i64 cap)]), .w (.agg [ringsA A', ringsA B', .c (.int .i64 op'), .c (.int .i64 fill'), .c (.int .i64 rung'), .c (.int .i64 cap')])] (vB w) := S1
    have S2' : PCall Try.prog 18 [.w (.agg [ringsA A, ringsA B, .c (.int .i64 op), .c (.int .i64 fill), .c (.int .i64 rung), .c (.int .i64 cap)]), .w (.agg [ringsA A', ringsA B', .c (.int .i64 op'), .c (.int .i64 fill'), .c (.int .i64 rung'), .c (.int .i64 cap')])] (vB w) := S2
    clear S1 S2
    have hs3 : (!(true == true)) = false := rfl
    have hs4 : (!(false == false)) = false := rfl
    have hlen : (A ++ B).length ≤ 600 := by rw [List.length_append]; omega
    clear hm hm'
    cases w
    all_goals
      refine pcall_body (f := 5) Try.func5 rfl rfl rfl rfl ?_
      refine awp_rows ?_
      (repeat (first | ((with_reducible apply rwp_seq)) | ((with_reducible apply rthen_normal)) | ((with_reducible apply rwp_region)) | ((with_reducible apply hs_nil)) | ((with_reducible apply rwp_skip)) | ((with_reducible apply rwp_cond_0); exact rfl; (first | assumption | exact decide_eq_false (by omega) | (simp only [Bool.not_eq_true', decide_eq_false_iff_not, decide_eq_true_eq, Bool.not_eq_false']; (first | done | omega)) | exact rfl)) | ((with_reducible apply hs_c); exact rfl; (repeat (first | ((with_reducible apply al_q); exact rfl) | (refine al_call1 rfl rfl rfl (by (first | exact M1 | exact M2)) rfl ?_) | ((with_reducible apply al_guard_b (c := false)); exact rfl; exact rfl; (first | assumption | exact decide_eq_false (by omega) | (simp only [Bool.not_eq_true', decide_eq_false_iff_not, decide_eq_true_eq, Bool.not_eq_false']; (first | done | omega)))))); (with_reducible apply al_nil))))
      refine hs_f rfl rfl rfl rfl H1 (fun i r h => by cases h) rfl rfl (fun rv m' R1 h => ?_)
      obtain ⟨va, vb, vas, vbs, rfl, rfl, fa, fb, nab, xab⟩ := h
      refine ⟨rfl, ?_⟩
      have fa := fa.top (R' := noRows)
      have fb := fb.top (R' := noRows)
      generalize ovr R1 noRows = R at fa fb
      have V1 := v_rSame (A' := A) (B' := B) (op := op) (fill := fill) (rung := rung) (cap := cap) (op' := op) (fill' := fill) (rung' := rung) (cap' := cap) fa fb hA hB hr
      (repeat (first | ((with_reducible apply rwp_drawH (id := 4) [0,1,2,3,4,5,6,7,8,9,10,11,12] [31]); kernel_rfl; kernel_rfl; exact rfl) | ((with_reducible apply rwp_seq)) | ((with_reducible apply rthen_normal)) | ((with_reducible apply hs_nil)) | ((with_reducible apply hs_c); exact rfl; (repeat (first | ((with_reducible apply al_q); exact rfl) | (refine al_call2 rfl rfl rfl rfl (by (first | with_reducible exact S1' | with_reducible exact S2')) rfl ?_) | ((with_reducible apply al_bin); (iterate 5 exact rfl); (intro W; go_simp; try rfl); (intro W; go_simp; try rfl); exact rfl; exact rfl))); (with_reducible apply al_nil))))
      refine hs_f rfl rfl rfl rfl V1 (RLe.refl _) rfl rfl (fun rv m' R1 h => ?_)
      obtain ⟨R2, ⟨rfl, _, rfl⟩, rfl, rfl⟩ := h
      refine ⟨rfl, ?_⟩
      rw [ovr_no, ovr_self, hsm]
      (repeat (first | ((with_reducible apply hs_nilS); kernel_rfl) | ((with_reducible apply rwp_seq)) | ((with_reducible apply rthen_normal)) | ((with_reducible apply rwp_region)) | ((with_reducible apply rwp_skip)) | ((with_reducible apply rwp_cond_0); exact rfl; (first | assumption | exact decide_eq_false (by omega) | (simp only [Bool.not_eq_true', decide_eq_false_iff_not, decide_eq_true_eq, Bool.not_eq_false']; (first | done | omega)) | exact rfl)) | ((with_reducible apply hs_c); exact rfl; (repeat (first | ((with_reducible apply al_q); exact rfl))); (with_reducible apply al_nil))))
      have V2 := v_Clone (op := op) (fill := fill) (rung := rung) (cap := cap) fa fb (by omega) (by omega) hr
      refine hs_f rfl rfl rfl rfl V2 (RLe.refl _) rfl rfl (fun rv m' R1 h => ?_)
      obtain ⟨R2, ⟨ve, vf, ves, vfs, rfl, _, fe, ff, ncd, _⟩, rfl, rfl⟩ := h
      refine ⟨rfl, ?_⟩
      rw [ovr_ovr]
      have fa := fa.under (R' := R2) (ncd 0 (by decide) (by decide)) (fun j => ncd _ (by omega) (by omega))
      have fb := fb.under (R' := R2) (ncd 1 (by decide) (by decide)) (fun j => ncd _ (by omega) (by omega))
      have fe := fe.top (R' := R)
      have ff := ff.top (R' := R)
      clear V1 V2 ncd
      generalize ovr R2 R = R at fa fb fe ff
      (repeat (first | ((with_reducible apply rthen_normal)) | ((with_reducible apply hs_nil)) | ((with_reducible apply hs_c); exact rfl; (repeat (first | ((with_reducible apply al_q); exact rfl))); (with_reducible apply al_nil))))
      refine rwp_seq ?_
      refine rwp_coolb 1 5 1 _ fb.hdr rfl rfl ?_
      (repeat (first | ((with_reducible apply rwp_seq)) | ((with_reducible apply rwp_region)) | ((with_reducible apply hs_c); exact rfl; (repeat (first | ((with_reducible apply al_q); exact rfl))); (with_reducible apply al_nil))))
      refine hs_app0 0 fa.hdr rfl rfl rfl ?q1 ?q2 (mapC_cl _) rfl (fun w1 hw1 => ?_)
      case q1 => exact le_maxLen (by show A.length + B.length ≤ 1000000; omega)
      case q2 => show (A.length + B.length) * 24 ≤ 140737488355328; omega
      refine hs_len 0 (upd_same _ _ _) rfl rfl rfl (by kernel_rfl) rfl ?_
      (repeat (first | ((with_reducible apply rthen_normal)) | ((with_reducible apply hs_nil)) | ((with_reducible apply rwp_block)) | ((with_reducible apply hs_c); exact rfl; (repeat (first | ((with_reducible apply al_q); exact rfl))); (with_reducible apply al_nil))))
      refine rwp_loopL 67 (SoI A B op fill rung cap w1 ve vf (vas ++ vbs) ves vfs) (A ++ B).length _ _ _ ⟨0, 0, Nat.zero_le _, rfl, rfl, mut_begin fa fb, (fe.skip (by decide) (by decide)).upd (by decide) (by decide), (ff.skip (by decide) (by decide)).upd (by decide) (by decide), rfl, rfl⟩ (RLe.refl _) rfl ⟨rfl, rfl, rfl, rfl, rfl, trivial⟩ ⟨rfl, rfl, trivial⟩ rfl ?_
      clear fa fb fe ff hw1 S1' S2' M1 M2 h1 h2 H1
      rintro n R ts ms ⟨i, ii, hi, rfl, hii, hmu, fe, ff, rfl, rfl⟩ hok
      clear hok
      by_cases hq : i < (A ++ B).length
      · have hq' : i < A.length + B.length := by rw [← List.length_append]; exact hq
        have q2 : ii < ((A.length + B.length : Nat) : Int) := by omega
        have q3 : 0 ≤ ii := by omega
        have q2' : ii < (((A ++ B).length : Nat) : Int) := by omega
        have q4 : 0 < (A ++ B).length := by omega
        have hnm := nmC_mod A.length i
        have hnp := nmC_pos A.length i
        obtain ⟨r, hri⟩ : ∃ r, (A ++ B)[i]? = some r := ⟨_, List.getElem?_eq_getElem hq⟩
        obtain ⟨u, hui⟩ : ∃ u, (vas ++ vbs)[i]? = some u := ⟨_, List.getElem?_eq_getElem (by rw [hmu.len]; exact hq)⟩
        have hrl := hr r (List.mem_of_getElem? hri)
        have F1 : ((vas ++ vbs).map AC.c)[ii.toNat * 1]? = some (.c u) := by rw [show ii.toNat * 1 = i by omega, List.getElem?_map, hui]; rfl
        (repeat (first | ((with_reducible apply rwp_seq)) | ((with_reducible apply rthen_normal)) | ((with_reducible apply rwp_region)) | ((with_reducible apply hs_nil)) | ((with_reducible apply rwp_skip)) | ((with_reducible apply rwp_block)) | ((with_reducible apply rwp_cond_1); exact rfl; (first | assumption | exact decide_eq_true (by omega) | (simp only [Bool.not_eq_true', decide_eq_false_iff_not, decide_eq_true_eq, Bool.not_eq_false']; (first | done | omega)) | exact rfl)) | ((with_reducible apply hs_c); exact rfl; (repeat (first | ((with_reducible apply al_q); exact rfl))); (with_reducible apply al_nil))))
        refine hs_idx 0 hmu.hdr rfl rfl rfl q3 q2' rfl (by kernel_rfl) rfl ?_
        refine hs_load1 0 hmu.hdr rfl rfl q4 F1 rfl (by kernel_rfl) rfl ?_
        (repeat (first | ((with_reducible apply rwp_seq)) | ((with_reducible apply rthen_normal)) | ((with_reducible apply rwp_region)) | ((with_reducible apply hs_nil)) | ((with_reducible apply hs_c); exact rfl; (repeat (first | ((with_reducible apply al_q); exact rfl))); (with_reducible apply al_nil))))
        obtain ⟨r0, hr0, hR0⟩ := hmu.rings i r u hri hui
        refine hs_len (nmC A.length i) hR0 rfl rfl rfl (by kernel_rfl) rfl ?_
        (repeat (first | ((with_reducible apply rthen_normal)) | ((with_reducible apply hs_nil)) | ((with_reducible apply rwp_block)) | ((with_reducible apply hs_c); exact rfl; (repeat (first | ((with_reducible apply al_q); exact rfl))); (with_reducible apply al_nil))))
        refine rwp_loopL 67 (SiI A B op fill rung cap w1 ve vf (vas ++ vbs) ves vfs r u ii) r.length _ _ _ ⟨0, 0, Nat.zero_le _, rfl, rfl, hmu, fe, ff, rfl, rfl⟩ (RLe.refl _) rfl ⟨rfl, rfl, rfl, rfl, rfl, rfl, rfl, rfl, trivial⟩ ⟨rfl, rfl, trivial⟩ rfl ?_
        clear hR0 hr0 r0 hmu fe ff
        rintro n R ts ms ⟨j, jj, hj, rfl, hjj, hmu, fe, ff, rfl, rfl⟩ hok
        clear hok
        by_cases hp : j < r.length
        · have p2 : jj < (r.length : Int) := by omega
          have p3 : 0 ≤ jj := by omega
          have p4 : 0 < r.length := by omega
          obtain ⟨r0, hr0, hR0⟩ := hmu.rings i r u hri hui
          obtain ⟨px, py, g1⟩ : ∃ px py, r0[j]? = some (px, py) := ⟨_, _, List.getElem?_eq_getElem (by omega)⟩
          have ej : jj.toNat = j := by omega
          have FX : (ringC r0)[jj.toNat * 2 + 0]? = some (.c (.int .i64 px)) := by rw [ej]; exact ringC_x g1
          have hoff : jj.toNat * 2 + 0 + 1 ≤ (ringC r0).length := by rw [ringC_len]; omega
          obtain ⟨c, hc⟩ : ∃ c, IntKind.wrap .i64 (px + 1) = c := ⟨_, rfl⟩
          (repeat (first | ((with_reducible apply rwp_seq)) | ((with_reducible apply rthen_normal)) | ((with_reducible apply rwp_region)) | ((with_reducible apply hs_nil)) | ((with_reducible apply rwp_skip)) | ((with_reducible apply rwp_block)) | ((with_reducible apply rwp_cond_1); exact rfl; (first | assumption | exact decide_eq_true (by omega) | (simp only [Bool.not_eq_true', decide_eq_false_iff_not, decide_eq_true_eq, Bool.not_eq_false']; (first | done | omega)) | exact rfl)) | ((with_reducible apply hs_c); exact rfl; (repeat (first | ((with_reducible apply al_q); exact rfl))); (with_reducible apply al_nil))))
          refine hs_idx (nmC A.length i) hR0 rfl rfl rfl p3 p2 rfl (by kernel_rfl) rfl ?_
          refine hs_fld (nmC A.length i) hR0 rfl rfl p4 (by kernel_rfl) rfl ?_
          refine hs_load1 (nmC A.length i) hR0 rfl rfl p4 FX rfl (by kernel_rfl) rfl ?_
          (repeat (first | ((with_reducible apply hs_c); exact rfl; (repeat (first | ((with_reducible apply al_add); (iterate 3 exact rfl); (first | exact i64_wrap (by omega) | assumption | rfl); exact rfl))); (with_reducible apply al_nil))))
          refine hs_idx (nmC A.length i) hR0 rfl rfl rfl p3 p2 rfl (by kernel_rfl) rfl ?_
          refine hs_fld (nmC A.length i) hR0 rfl rfl p4 (by kernel_rfl) rfl ?_
          refine hs_store (nmC A.length i) hR0 rfl rfl rfl p4 rfl rfl hoff rfl ?_
          (repeat (first | ((with_reducible apply rthen_normal)) | ((with_reducible apply rwp_region)) | ((with_reducible apply hs_nil)) | ((with_reducible apply rblock_normal)) | ((with_reducible apply hs_c); exact rfl; (repeat (first | ((with_reducible apply al_q); exact rfl) | ((with_reducible apply al_add); (iterate 3 exact rfl); (first | exact i64_wrap (by omega) | assumption | rfl); exact rfl))); (with_reducible apply al_nil))))
          have es : splice (ringC r0) (jj.toNat * 2 + 0) [AC.c (.int .i64 c)] = ringC (r0.set j (c, py)) := by rw [ej]; exact ringC_set g1
          refine ⟨r.length - (j + 1), _, _, _, by omega, ⟨j + 1, jj + 1, hp, rfl, by omega, ?_, fe.upd (by decide) (by omega), ff.upd (by decide) (by omega), rfl, rfl⟩, RLe.refl _, rfl, ⟨rfl, rfl, rfl, rfl, rfl, rfl, rfl, rfl, trivial⟩, ⟨rfl, rfl, trivial⟩, rfl⟩
          show MutR A.length w1 (vas ++ vbs) (A ++ B) (upd R (nmC A.length i) ⟨37, 2, u, r.length, splice (ringC r0) (jj.toNat * 2 + 0) [AC.c (.int .i64 c)]⟩)
          rw [es]
          exact hmu.set hri hui (by rw [List.length_set]; exact hr0)
        · have e : j = r.length := by omega
          subst e
          have p2 : ¬ jj < (r.length : Int) := by omega
          (repeat (first | ((with_reducible apply rwp_seq)) | ((with_reducible apply rthen_normal)) | ((with_reducible apply rwp_region)) | ((with_reducible apply hs_nil)) | ((with_reducible apply rblock_normal)) | ((with_reducible apply rblock_same)) | ((with_reducible apply rwp_exit)) | ((with_reducible apply rthen_exit)) | ((with_reducible apply rwp_cond_0); exact rfl; (first | assumption | exact decide_eq_false (by omega) | (simp only [Bool.not_eq_true', decide_eq_false_iff_not, decide_eq_true_eq, Bool.not_eq_false']; (first | done | omega)) | exact rfl)) | ((with_reducible apply hs_c); exact rfl; (repeat (first | ((with_reducible apply al_q); exact rfl) | ((with_reducible apply al_add); (iterate 3 exact rfl); (first | exact i64_wrap (by omega) | assumption | rfl); exact rfl))); (with_reducible apply al_nil))))
          exact ⟨(A ++ B).length - (i + 1), _, _, _, by omega, ⟨i + 1, ii + 1, hq, rfl, by omega, hmu, fe, ff, rfl, rfl⟩, RLe.refl _, rfl, ⟨rfl, rfl, rfl, rfl, rfl, trivial⟩, ⟨rfl, rfl, trivial⟩, rfl⟩
      · have hq' : ¬ ii < ((A.length + B.length : Nat) : Int) := by rw [← List.length_append]; omega
        have V3 := v_rSame (A' := A) (B' := B) (op := op) (fill := fill) (rung := rung) (cap := cap) (op' := op) (fill' := fill) (rung' := rung) (cap' := cap) fe ff hA hB hr
        (repeat (first | ((with_reducible apply rwp_seq)) | ((with_reducible apply rthen_normal)) | ((with_reducible apply rwp_region)) | ((with_reducible apply hs_nil)) | ((with_reducible apply rblock_same)) | ((with_reducible apply rwp_exit)) | ((with_reducible apply rthen_exit)) | ((with_reducible apply rwp_cond_0); exact rfl; (first | assumption | exact decide_eq_false (by omega) | (simp only [Bool.not_eq_true', decide_eq_false_iff_not, decide_eq_true_eq, Bool.not_eq_false']; (first | done | omega)) | exact rfl)) | ((with_reducible apply hs_c); exact rfl; (repeat (first | ((with_reducible apply al_q); exact rfl) | (refine al_call0 rfl rfl (by (first | exact L1)) rfl ?_))); (with_reducible apply al_nil))))
        refine hs_f rfl rfl rfl rfl V3 (RLe.refl _) rfl rfl (fun rv m' R1 h => ?_)
        obtain ⟨R2, ⟨rfl, _, rfl⟩, rfl, rfl⟩ := h
        refine ⟨rfl, ?_⟩
        rw [ovr_no, ovr_self, hsm]
        (repeat (first | ((with_reducible apply rthen_normal)) | ((with_reducible apply hs_nil)) | ((with_reducible apply rwp_ret)) | ((with_reducible apply hs_c); exact rfl; (repeat (first | ((with_reducible apply al_q); exact rfl))); (with_reducible apply al_nil))))
        (first | (refine apost_ret rfl (resl_tmp rfl resl_nil) ?_))
        exact AV.Le.refl _
end Go.Proofs.Ytlfkllmnekdghaa

namespace Go.Proofs.Ytlfkllmnekdghaa
open Go.RowKit
set_option linter.unusedVariables false
theorem same_walk (A B : List (List Pt)) (op fill rung cap : Int) (A' B' : List (List Pt)) (op' fill' rung' cap' : Int) (h : A.length + B.length + sumL A + sumL B ≤ 1048576) (h' : A'.length + B'.length + sumL A' + sumL B' ≤ 1048576) :
    PCall Try.prog 5 [.w (.agg (jobC A B op fill rung cap)), .w (.agg (jobC A' B' op' fill' rung' cap'))] (vB true) := law_Same h h'
end Go.Proofs.Ytlfkllmnekdghaa

namespace Go.Proofs.Ytlfkllmnekdghaa
open Go.ChangeShapes Go.WideShapes Go.ChangeAt Go.RowKit Go.Joins
set_option linter.unusedVariables false
set_option linter.unusedSimpArgs false
theorem laidOut : laidOutB Try.prog = true := by kernel_rfl
theorem cell_lt {W : World} {b : Addr} {v : Value} (h : W.cell? b = some v) : b.block < W.heap.size := by
  unfold World.cell? at h
  split at h
  · rename_i hh; exact (Array.getElem?_eq_some_iff.1 hh).1
  · cases h
theorem ringC_cons (p : Pt) (l : List Pt) : ringC (p :: l) = .c (.int .i64 p.1) :: .c (.int .i64 p.2) :: ringC l := rfl
theorem bulk_one {H : Type} (d : DataW H) : 1 ≤ Rows.uptoBulk d := by
  cases d with
  | lit l => cases l <;> simp [Rows.uptoBulk]
  | nil => simp [Rows.uptoBulk]
  | ptr d => simp [Rows.uptoBulk]
  | slice elems spare => simp [Rows.uptoBulk]
  | agg parts => simp [Rows.uptoBulk]
  | iface t d => simp [Rows.uptoBulk]
  | map entries => simp [Rows.uptoBulk]
  | held h => simp [Rows.uptoBulk]
theorem bulk_len {H : Type} (l : List (DataW H)) : l.length ≤ Rows.uptoBulkAll l := by
  induction l with
  | nil => simp [Rows.uptoBulkAll]
  | cons x r ih => have := bulk_one x; simp only [Rows.uptoBulkAll, List.length_cons]; omega
theorem bulk_slice {H : Type} (elems spare : List (DataW H)) : Rows.uptoBulkAll elems + 1 ≤ Rows.uptoBulk (.slice elems spare) := by
  simp only [Rows.uptoBulk]
  omega
theorem weightsAll_mem {H : Type} {P : Program} {e : TypeId} {d : DataW H} {w : Nat} : ∀ {l : List (DataW H)}, d ∈ l → w ∈ DataW.weights P e d → w ∈ DataW.weightsAll P e l
  | x :: l, h, hw => by
    rw [DataW.weightsAll]
    rcases List.mem_cons.1 h with rfl | h
    · exact List.mem_append_left _ hw
    · exact List.mem_append_right _ (weightsAll_mem h hw)
/-- a row of things of two numbers as an argument: what it reads as. -/
theorem open_ring {H : Type} {enc : TypeId × Value → H} {P : Program} {W : World} {t e : TypeId} {f0 f1 : Field} (ht : P.underlying t = some (.slice e)) (he : P.underlying e = some (.struct #[f0, f1])) (ce : P.cellsOf e = 2) (o0 : f0.offset = 0) (o1 : f1.offset = 1) (c0 : P.cellsOf f0.type = 1) (c1 : P.cellsOf f1.type = 1) (k0 : P.underlying f0.type = some (.int .i64)) (k1 : P.underlying f1.type = some (.int .i64))
    {v : Value} {d : DataW H} {p : List MemPlace} (hv : ∃ a len cap, v = .slice a len cap) (h0 : DataW.Trod enc P W 0 (fun _ => true) true t v d p) :
    ∃ l : List (Int × Int), (∀ n, (∀ w ∈ DataW.weights P t d, w ≤ n) → l.length * P.bytesOf e ≤ n) ∧ l.length + 1 ≤ Rows.uptoBulk d ∧ RpV (fun _ => True) id W ((.w (.one (ringA l)))) v := by
  obtain ⟨a0, len0, cap0, rfl⟩ := hv
  obtain ⟨fuel, hf⟩ := h0
  rcases Go.Deep.open_slice_pairs ht he ce o0 o1 c0 c1 hf with ⟨hcs, hx⟩ | ⟨a, len, cap, m, n, V0, V1, D0, D1, P0, P1, hcs, hb, hl, hm, hmm, hx, hi⟩
  · simp [Value.cells] at hcs
    obtain ⟨rfl, rfl, rfl⟩ := hcs
    obtain ⟨rfl, rfl⟩ := Prod.mk.inj hx
    exact ⟨[], (fun n _ => by simp), (by simp [Rows.uptoBulk]), ⟨none, 0, rfl, Nat.le_refl _, rfl, fun h => absurd h (Nat.lt_irrefl _)⟩, fun _ _ => trivial⟩
  · simp [Value.cells] at hcs
    obtain ⟨rfl, rfl, rfl⟩ := hcs
    simp only [if_true] at hmm
    subst hmm
    simp only [Prod.mk.injEq] at hx
    obtain ⟨hdd, rfl⟩ := hx
    have each : ∀ i, i < m → ∃ q : Int × Int, V0 i = .int .i64 q.1 ∧ V1 i = .int .i64 q.2 := fun i h => by
      obtain ⟨_, _, g0, g1⟩ := hi i h
      obtain ⟨x, hx, _, wx⟩ := DataW.trod_int k0 g0
      obtain ⟨y, hy, _, wy⟩ := DataW.trod_int k1 g1
      simp at hx hy
      exact ⟨(x, y), hx, hy⟩
    obtain ⟨q, hq⟩ := Go.Deep.choose_lt each
    have hcells : ∀ (l : List (Int × Int)) (k : Nat), (∀ i (p : Int × Int), l[i]? = some p → W.cell? (a.add ((k + i) * 2)) = some (.int .i64 p.1) ∧ W.cell? (a.add ((k + i) * 2 + 1)) = some (.int .i64 p.2)) →
        ∃ vs : List Value, RpL (fun _ => True) id W (ringC l) vs ∧ ∀ (j : Nat) v, vs[j]? = some v → W.cell? (a.add (k * 2 + j)) = some v := by
      intro l
      induction l with
      | nil => intro k _; exact ⟨[], ⟨rfl, fun i x v h => by simp [ringC] at h⟩, fun j v h => by simp at h⟩
      | cons p l ih =>
        intro k h
        obtain ⟨vs, g1, g2⟩ := ih (k + 1) (fun i p' hp' => by
          have := h (i + 1) p' (by simpa using hp')
          rw [show k + (i + 1) = k + 1 + i by omega] at this
          exact this)
        obtain ⟨h1, h2⟩ := h 0 p rfl
        refine ⟨.int .i64 p.1 :: .int .i64 p.2 :: vs, ⟨by simp [ringC_cons, g1.1], fun i x v hx hv => ?_⟩, fun j v hv => ?_⟩
        · match i with
          | 0 => simp [ringC_cons] at hx hv; subst hx; subst hv; exact ⟨rfl, rfl⟩
          | 1 => simp [ringC_cons] at hx hv; subst hx; subst hv; exact ⟨rfl, rfl⟩
          | i + 2 => exact g1.2 i x v (by simpa [ringC_cons] using hx) (by simpa using hv)
        · match j with
          | 0 => simp at hv; subst hv; simpa using h1
          | 1 => simp at hv; subst hv; simpa using h2
          | j + 2 =>
            have := g2 j v (by simpa using hv)
            rw [show (k + 1) * 2 + j = k * 2 + (j + 2) by omega] at this
            exact this
    obtain ⟨vs, g1, g2⟩ := hcells ((List.range len0).map q) 0 (fun i p hp => by
      rw [List.getElem?_map] at hp
      cases hr : (List.range len0)[i]? with
      | none => rw [hr] at hp; cases hp
      | some j =>
        rw [hr] at hp
        cases hp
        obtain ⟨h3, h4⟩ := List.getElem?_eq_some_iff.1 hr
        simp at h3 h4
        subst h4
        obtain ⟨e0, e1, _⟩ := hi i (by omega)
        obtain ⟨f0, f1⟩ := hq i (by omega)
        rw [f0] at e0
        rw [f1] at e1
        simpa using ⟨e0, e1⟩)
    have hlen : ∀ l : List (Int × Int), (ringC l).length = l.length * 2 := fun l => by
      induction l with
      | nil => rfl
      | cons p l ih => simp [ringC_cons, ih]; omega
    have hclo : ∀ l : List (Int × Int), ∀ y ∈ ringC l, y.closedB = true := fun l => by
      induction l with
      | nil => intro y hy; cases hy
      | cons p l ih =>
        intro y hy
        simp only [ringC_cons, List.mem_cons] at hy
        rcases hy with rfl | rfl | hy
        · rfl
        · rfl
        · exact ih y hy
    refine ⟨(List.range len0).map q, fun n hw => ?_, ?_, ?_⟩
    · rw [hdd] at hw
      unfold DataW.weights at hw
      rw [ht] at hw
      simp only at hw
      have := hw _ (List.mem_cons_self ..)
      refine Nat.le_trans (Nat.mul_le_mul_right _ ?_) this
      simp
    · rw [hdd]
      have h1 := bulk_slice (H := H) (List.map (fun i => DataW.agg [D0 i, D1 i]) (List.range len0)) (List.map (fun j => DataW.agg [D0 (len0 + j), D1 (len0 + j)]) (List.range (m - len0)))
      have h2 := bulk_len (H := H) (List.map (fun i => DataW.agg [D0 i, D1 i]) (List.range len0))
      simp only [List.length_map, List.length_range] at h2 ⊢
      omega
    refine ⟨⟨some a, m, by simp, by simpa using hl, hlen _, fun hn => ⟨a, vs, rfl, ?_, g1, fun j v hv => by have := g2 j v hv; rwa [Nat.zero_mul, Nat.zero_add] at this, hclo _⟩⟩, fun _ _ => trivial⟩
    have hn' : 0 < len0 := by simpa using hn
    have := cell_lt (hi 0 (by omega)).1
    rwa [block_add] at this
/-- a call that returns true, at values that are told. -/
theorem pcall_true' {P : Program} {f : FuncId} {args : List AV} (h : PCall P f args (vB true)) (vals : List Value) (W : World) (hl : args.length = vals.length) (hr : ∀ (i : Nat) (x : AV) (v : Value), args[i]? = some x → vals[i]? = some v → RpV (fun _ => True) id W x v) :
    Calls P f vals.toArray W fun e W' => e = .returned (.bool true) ∧ Below W.heap.size W W' :=
  (h.call (fun _ => True) W vals ⟨hl, hr⟩).mono fun e W' ⟨v, he, ⟨hv, _⟩, hb⟩ => by subst hv; exact ⟨he, hb⟩
theorem bulk_sum {H : Type} (D : Nat → DataW H) (q : Nat → List Pt) : ∀ (l : List Nat), (∀ i ∈ l, (q i).length + 1 ≤ Rows.uptoBulk (D i)) → l.length + sumL (l.map q) ≤ Rows.uptoBulkAll (l.map D)
  | [], _ => by simp [sumL, Rows.uptoBulkAll]
  | i :: l, h => by
    have h1 := h i (List.mem_cons_self ..)
    have h2 := bulk_sum D q l fun j hj => h j (List.mem_cons_of_mem _ hj)
    have e : sumL ((i :: l).map q) = (q i).length + sumL (l.map q) := by simp [sumL]
    rw [e, List.map_cons, Rows.uptoBulkAll, List.length_cons]
    omega
/-- rows of rings as an argument. -/
theorem open_rings {H : Type} {enc : TypeId × Value → H} {P : Program} {W : World} {tt t e : TypeId} {f0 f1 : Field} (hu : P.underlying tt = some (.slice t)) (cu : P.cellsOf t = 1) (ht : P.underlying t = some (.slice e)) (he : P.underlying e = some (.struct #[f0, f1])) (ce : P.cellsOf e = 2) (o0 : f0.offset = 0) (o1 : f1.offset = 1) (c0 : P.cellsOf f0.type = 1) (c1 : P.cellsOf f1.type = 1) (k0 : P.underlying f0.type = some (.int .i64)) (k1 : P.underlying f1.type = some (.int .i64))
    {v : Value} {d : DataW H} {p : List MemPlace} (hv : ∃ a len cap, v = .slice a len cap) (h0 : DataW.Trod enc P W 0 (fun _ => true) true tt v d p) :
    ∃ L : List (List Pt), (∀ n, (∀ w ∈ DataW.weights P tt d, w ≤ n) → L.length * P.bytesOf t ≤ n ∧ ∀ r ∈ L, r.length * P.bytesOf e ≤ n) ∧ L.length + sumL L + 1 ≤ Rows.uptoBulk d ∧ RpV (fun _ => True) id W (.w (.one (ringsA L))) v := by
  obtain ⟨a0, len0, cap0, rfl⟩ := hv
  obtain ⟨fuel, hf⟩ := h0
  rcases Go.Deep.open_slice1 hu cu hf with ⟨hcs, hx⟩ | ⟨a, len, cap, m, n, V0, D0, P0, hcs, hb, hl, hm, hmm, hx, hi⟩
  · simp [Value.cells] at hcs
    obtain ⟨rfl, rfl, rfl⟩ := hcs
    obtain ⟨rfl, rfl⟩ := Prod.mk.inj hx
    exact ⟨[], (fun n _ => ⟨by simp, fun r hr => by cases hr⟩), (by simp [Rows.uptoBulk, sumL]), ⟨none, 0, rfl, Nat.le_refl _, rfl, fun h => absurd h (Nat.lt_irrefl _)⟩, fun _ _ => trivial⟩
  · simp [Value.cells] at hcs
    obtain ⟨rfl, rfl, rfl⟩ := hcs
    simp only [if_true] at hmm
    subst hmm
    have each : ∀ i, i < m → ∃ q : List Pt, (∀ n, (∀ w ∈ DataW.weights P t (D0 i), w ≤ n) → q.length * P.bytesOf e ≤ n) ∧ q.length + 1 ≤ Rows.uptoBulk (D0 i) ∧ RpV (fun _ => True) id W (.w (.one (ringA q))) (V0 i) := fun i h => by
      obtain ⟨_, g0⟩ := hi i h
      generalize V0 i = x at g0
      have s0 : ∃ a len cap, x = .slice a len cap := by
        rcases Go.Deep.open_slice_pairs ht he ce o0 o1 c0 c1 g0 with ⟨hc, _⟩ | ⟨a, len, cap, _, _, _, _, _, _, _, _, hc, _⟩
        · exact ⟨none, 0, 0, List.head_eq_of_cons_eq hc⟩
        · exact ⟨some a, len, cap, List.head_eq_of_cons_eq hc⟩
      exact open_ring ht he ce o0 o1 c0 c1 k0 k1 s0 ⟨n, by obtain ⟨a, len, cap, rfl⟩ := s0; exact g0⟩
    obtain ⟨q, hq⟩ := Go.Deep.choose_lt each
    have hdd := congrArg Prod.fst hx
    simp only at hdd
    have hat : ∀ (j : Nat) u, ((List.range len0).map V0)[j]? = some u → W.cell? (a.add j) = some u ∧ j < len0 := fun j u hu => by
      rw [List.getElem?_map] at hu
      cases hr : (List.range len0)[j]? with
      | none => rw [hr] at hu; cases hu
      | some i =>
        rw [hr] at hu
        cases hu
        obtain ⟨h3, h4⟩ := List.getElem?_eq_some_iff.1 hr
        simp at h3 h4
        subst h4
        exact ⟨(hi j (by omega)).1, h3⟩
    refine ⟨(List.range len0).map q, fun k hw => ?_, ?_, ?_⟩
    · rw [hdd] at hw
      unfold DataW.weights at hw
      rw [hu] at hw
      simp only at hw
      refine ⟨?_, fun r hr => ?_⟩
      · have := hw _ (List.mem_cons_self ..)
        refine Nat.le_trans (Nat.mul_le_mul_right _ ?_) this
        simp
      · obtain ⟨i, hi', rfl⟩ := List.mem_map.1 hr
        have hil : i < len0 := by simpa using hi'
        exact (hq i (by omega)).1 k fun w hw' => hw w (List.mem_cons_of_mem _ (List.mem_append_left _ (weightsAll_mem (List.mem_map.2 ⟨i, hi', rfl⟩) hw')))
    · rw [hdd]
      have h1 := bulk_slice (H := H) ((List.range len0).map D0) ((List.range (m - len0)).map fun j => D0 (len0 + j))
      have h2 := bulk_sum D0 q (List.range len0) fun i hi' => (hq i (Nat.lt_of_lt_of_le (List.mem_range.1 hi') hl)).2.1
      simp only [List.length_map, List.length_range] at h2 ⊢
      omega
    refine ⟨⟨some a, m, by simp, by simpa using hl, by simp, fun hn => ⟨a, (List.range len0).map V0, rfl, ?_, ⟨by simp, fun i x u hx hu => ?_⟩, fun j u hu => (hat j u hu).1, fun y hy => ?_⟩⟩, fun _ _ => trivial⟩
    · have hn' : 0 < len0 := by simpa using hn
      have := cell_lt (hi 0 (by omega)).1
      rwa [block_add] at this
    · rw [List.getElem?_map] at hu
      rw [List.map_map, List.getElem?_map] at hx
      cases hr : (List.range len0)[i]? with
      | none => rw [hr] at hx; cases hx
      | some j =>
        rw [hr] at hx hu
        cases hx; cases hu
        have hjl : j < len0 := by have := List.mem_of_getElem? hr; simpa using this
        exact (hq j (by omega)).2.2
    · rw [List.map_map] at hy
      obtain ⟨j, _, rfl⟩ := List.mem_map.1 hy
      rfl
theorem okw_str {P : Program} {W : World} {base t : Nat} {fs : Array Field} {v : Value} (ht : P.underlying t = some (.struct fs)) (h : Value.okWide P W .any base t v) : ∃ cs, v = .agg cs := by
  unfold Value.okWide at h
  rw [ht] at h
  obtain ⟨cs, h1, _⟩ := h
  exact ⟨cs, h1⟩
/-- a job as an argument. -/
theorem open_job {H : Type} {enc : TypeId × Value → H} {P : Program} {W : World} {tj tt t e : TypeId} {g0 g1 g2 g3 g4 g5 f0 f1 : Field} (hj : P.underlying tj = some (.struct #[g0, g1, g2, g3, g4, g5])) (cj : P.cellsOf tj = 6) (go0 : g0.offset = 0) (go1 : g1.offset = 1) (go2 : g2.offset = 2) (go3 : g3.offset = 3) (go4 : g4.offset = 4) (go5 : g5.offset = 5) (gt0 : g0.type = tt) (gt1 : g1.type = tt) (gc0 : P.cellsOf tt = 1)
    (gk2 : P.underlying g2.type = some (.int .i64)) (gk3 : P.underlying g3.type = some (.int .i64)) (gk4 : P.underlying g4.type = some (.int .i64)) (gk5 : P.underlying g5.type = some (.int .i64)) (gc2 : P.cellsOf g2.type = 1) (gc3 : P.cellsOf g3.type = 1) (gc4 : P.cellsOf g4.type = 1) (gc5 : P.cellsOf g5.type = 1)
    (hu : P.underlying tt = some (.slice t)) (cu : P.cellsOf t = 1) (ht : P.underlying t = some (.slice e)) (he : P.underlying e = some (.struct #[f0, f1])) (ce : P.cellsOf e = 2) (o0 : f0.offset = 0) (o1 : f1.offset = 1) (c0 : P.cellsOf f0.type = 1) (c1 : P.cellsOf f1.type = 1) (k0 : P.underlying f0.type = some (.int .i64)) (k1 : P.underlying f1.type = some (.int .i64))
    {v : Value} {d : DataW H} {p : List MemPlace} (hagg : ∃ cs, v = .agg cs) (h0 : DataW.Trod enc P W 0 (fun _ => true) true tj v d p) :
    ∃ (A B : List (List Pt)) (op fill rung cap : Int), (∀ n, (∀ w ∈ DataW.weights P tj d, w ≤ n) → A.length * P.bytesOf t ≤ n ∧ B.length * P.bytesOf t ≤ n ∧ (∀ r ∈ A, r.length * P.bytesOf e ≤ n) ∧ ∀ r ∈ B, r.length * P.bytesOf e ≤ n) ∧ A.length + B.length + sumL A + sumL B ≤ Rows.uptoBulk d ∧ RpV (fun _ => True) id W (.w (.agg (jobC A B op fill rung cap))) v := by
  obtain ⟨cs, rfl⟩ := hagg
  obtain ⟨fuel, hf⟩ := h0
  obtain ⟨xs, n, _, hx, hlen, hxs, hfs⟩ := DataW.trod_struct hj hf
  rw [cj] at hlen
  obtain ⟨x0, x1, x2, x3, x4, x5, hcs⟩ : ∃ x0 x1 x2 x3 x4 x5, cs = #[x0, x1, x2, x3, x4, x5] := by
    have hl : cs.toList.length = 6 := hlen
    match hh : cs.toList, hl with
    | [a, b, c, d, e, f], _ => exact ⟨a, b, c, d, e, f, by rw [← Array.toArray_toList (xs := cs), hh]⟩
  subst hcs
  obtain ⟨y0, y1, y2, y3, y4, y5, rfl⟩ : ∃ y0 y1 y2 y3 y4 y5, xs = [y0, y1, y2, y3, y4, y5] := by
    match xs, hxs with
    | [a, b, c, d, e, f], _ => exact ⟨a, b, c, d, e, f, rfl⟩
  have h0 := hfs 0 g0 rfl
  have h1 := hfs 1 g1 rfl
  have h2 := hfs 2 g2 rfl
  have h3 := hfs 3 g3 rfl
  have h4 := hfs 4 g4 rfl
  have h5 := hfs 5 g5 rfl
  rw [go0, gt0, gc0] at h0
  rw [go1, gt1, gc0] at h1
  rw [go2, gc2] at h2
  rw [go3, gc3] at h3
  rw [go4, gc4] at h4
  rw [go5, gc5] at h5
  have h0 : DataW.trod enc P W 0 (fun _ => true) true n tt [x0] = some y0 := h0
  have h1 : DataW.trod enc P W 0 (fun _ => true) true n tt [x1] = some y1 := h1
  have h2 : DataW.trod enc P W 0 (fun _ => true) true n g2.type [x2] = some y2 := h2
  have h3 : DataW.trod enc P W 0 (fun _ => true) true n g3.type [x3] = some y3 := h3
  have h4 : DataW.trod enc P W 0 (fun _ => true) true n g4.type [x4] = some y4 := h4
  have h5 : DataW.trod enc P W 0 (fun _ => true) true n g5.type [x5] = some y5 := h5
  have sl : ∀ x y, DataW.trod enc P W 0 (fun _ => true) true n tt [x] = some y → ∃ a len cap, x = .slice a len cap := fun x y h => by
    rcases Go.Deep.open_slice1 hu cu h with ⟨hc, _⟩ | ⟨a, len, cap, _, _, _, _, _, hc, _⟩
    · exact ⟨none, 0, 0, List.head_eq_of_cons_eq hc⟩
    · exact ⟨some a, len, cap, List.head_eq_of_cons_eq hc⟩
  have s0 := sl _ _ h0
  have s1 := sl _ _ h1
  have t0 : DataW.Trod enc P W 0 (fun _ => true) true tt x0 y0.1 y0.2 := ⟨n, by obtain ⟨a, len, cap, rfl⟩ := s0; exact h0⟩
  have t1 : DataW.Trod enc P W 0 (fun _ => true) true tt x1 y1.1 y1.2 := ⟨n, by obtain ⟨a, len, cap, rfl⟩ := s1; exact h1⟩
  obtain ⟨A, w1, u1, r1⟩ := open_rings hu cu ht he ce o0 o1 c0 c1 k0 k1 s0 t0
  obtain ⟨B, w2, u2, r2⟩ := open_rings hu cu ht he ce o0 o1 c0 c1 k0 k1 s1 t1
  obtain ⟨n2, e2, _, _⟩ := DataW.trod_int gk2 h2
  obtain ⟨n3, e3, _, _⟩ := DataW.trod_int gk3 h3
  obtain ⟨n4, e4, _, _⟩ := DataW.trod_int gk4 h4
  obtain ⟨n5, e5, _, _⟩ := DataW.trod_int gk5 h5
  simp at e2 e3 e4 e5
  subst e2 e3 e4 e5
  have hdd := congrArg Prod.fst hx
  simp only [List.map_cons, List.map_nil] at hdd
  refine ⟨A, B, n2, n3, n4, n5, fun k hw => ?_, ?_, [x0, x1, .int .i64 n2, .int .i64 n3, .int .i64 n4, .int .i64 n5], rfl, rfl, fun i x u hx hu => ?_⟩
  · rw [hdd] at hw
    unfold DataW.weights at hw
    rw [hj] at hw
    simp only [List.map_cons, List.map_nil, DataW.weightsEach, gt0, gt1] at hw
    obtain ⟨a1, a2⟩ := w1 k fun w h => hw w (List.mem_append_left _ h)
    obtain ⟨a3, a4⟩ := w2 k fun w h => hw w (List.mem_append_right _ (List.mem_append_left _ h))
    exact ⟨a1, a3, a2, a4⟩
  · rw [hdd]
    simp only [Rows.uptoBulk, Rows.uptoBulkAll]
    omega
  · match i with
    | 0 => cases hx; cases hu; exact r1
    | 1 => cases hx; cases hu; exact r2
    | 2 => cases hx; cases hu; exact ⟨rfl, rfl⟩
    | 3 => cases hx; cases hu; exact ⟨rfl, rfl⟩
    | 4 => cases hx; cases hu; exact ⟨rfl, rfl⟩
    | 5 => cases hx; cases hu; exact ⟨rfl, rfl⟩
    | i + 6 => simp [jobC] at hx
end Go.Proofs.Ytlfkllmnekdghaa

