/-
  My own texts, without what this claim does not need. My own text.
-/
import Derived.Deep.SlicePairs
import Derived.ChangeSame
import Derived.Carry
import Derived.Test.YtlglajaonmpljaaChCloseK4
namespace Go.Proofs.Ytlglajaonmpljaa
open Go.RowKit
set_option linter.unusedVariables false
set_option linter.unusedSimpArgs false
def ClI (a1 a2 b1 b2 far : Int) (r : Nat) (V : List Px) (D : List Int) (G : Bool) (n : Nat) (ts : List (Nat × AV)) (ms : List (Nat × List AC)) : Prop :=
  ∃ (i : Nat) (ii : Int) (c : Int × Int), i ≤ V.length ∧ n = V.length - i ∧ ii = i ∧ okS c ∧ grd a1 a2 b1 b2 (2 ^ r) far c (V.drop i) = G ∧ ms = [(5, mCh V D), (6, shC (a1, a2)), (7, shC (b1, b2)), (13, shC c)] ∧
    ts = [(3, vI r), (4, vI far), (5, vOw 5), (6, vOw 6), (7, vOw 7), (13, vOw 13), (58, vIt V), (59, vI V.length), (60, vI ii)]
set_option maxRecDepth 100000 in
set_option maxHeartbeats 16000000 in
theorem p_Close_in {V : List Px} {D : List Int} {a1 a2 b1 b2 far : Int} {r : Nat} (hr : r ≤ 28) (hV : 0 < V.length) (hb : V.length ≤ 1000) (hin : ∀ v ∈ V, inB r v.1 v.2 = true) : PCall Try.prog 8 [vCh V D, vP a1 a2, vP b1 b2, vI r, vI far] (vB (cloB a1 a2 b1 b2 r far V)) := by
  have hR : IsR (r : Int) r := ⟨hr, .inr (.inr rfl)⟩
  have A1 := p_areIn_yes hr hV (by omega)
  rw [show (V.all fun v => inB r v.1 v.2) = true from List.all_eq_true.2 hin] at A1
  obtain ⟨x0, y0, g0⟩ : ∃ x y, V[0]? = some (x, y) := ⟨_, _, List.getElem?_eq_getElem hV⟩
  obtain ⟨x1, y1, g1⟩ : ∃ x y, V[V.length - 1]? = some (x, y) := ⟨_, _, List.getElem?_eq_getElem (by omega)⟩
  have E0 := itC_xy (j := 0) (i := 0) rfl g0
  have E1 := itC_xy (j := (V.length : Int) - 1) (i := V.length - 1) (by omega) g1
  have K0 := p_Center hR (hin _ (List.mem_of_getElem? g0))
  have K1 := p_Center hR (hin _ (List.mem_of_getElem? g1))
  have hC := cloB_grd (a1 := a1) (a2 := a2) (b1 := b1) (b2 := b2) (far := far) (V := V) (v := (x0, y0)) (w := (x1, y1)) hr (by rw [List.head?_eq_getElem?]; exact g0) (by rw [List.getLast?_eq_getElem?]; exact g1) hin
  rw [hC]
  clear hC g0 g1
  simp only at K0 K1 ⊢
  generalize 2 ^ r * x0 = X0 at *
  generalize 2 ^ r * y0 = Y0 at *
  generalize 2 ^ r * x1 = X1 at *
  generalize 2 ^ r * y1 = Y1 at *
  have N0 := p_Near (a1 := a1) (a2 := a2) (b1 := a1) (b2 := a2) (p1 := X0) (p2 := Y0) (f := far)
  have N1 := p_Near (a1 := b1) (a2 := b2) (b1 := b1) (b2 := b2) (p1 := X1) (p2 := Y1) (f := far)
  have v0 : (0 : Int) < V.length := by omega
  have v1 : 0 ≤ (V.length : Int) - 1 := by omega
  have v2 : (V.length : Int) - 1 < V.length := by omega
  cases n0 : neB a1 a2 a1 a2 X0 Y0 far with
  | false =>
    rw [n0] at N0
    rw [Bool.false_and]
    clear hin hR N1
    refine pcall_body (f := 8) Try.func8 rfl rfl rfl rfl ?_
    (repeat (first | ((with_reducible apply al_q); exact rfl) | ((with_reducible apply al_loadPN); (iterate 5 exact rfl)) | ((with_reducible apply al_idxS); (iterate 3 exact rfl); (first | decide | omega); (first | decide | omega); (first | assumption | rfl); exact rfl) | ((with_reducible apply al_sub); (iterate 3 exact rfl); (first | exact i64_wrap (by omega) | assumption | rfl); exact rfl) | ((with_reducible apply al_len); (iterate 3 exact rfl)) | (refine al_call2 rfl rfl rfl rfl (by (first | exact A1 | exact K0 | exact K1 | exact N0)) rfl ?_) | (refine al_call4 rfl rfl rfl rfl rfl rfl (by (first | exact A1 | exact K0 | exact K1 | exact N0)) rfl ?_) | ((with_reducible apply al_nilS); kernel_rfl) | ((with_reducible apply awp_region_draw); kernel_rfl; kernel_rfl; exact rfl) | ((with_reducible apply awp_seq)) | ((with_reducible apply athen_normal)) | ((with_reducible apply awp_region)) | ((with_reducible apply al_nil)) | ((with_reducible apply awp_ret)) | ((with_reducible apply awp_skip)) | ((with_reducible apply athen_ret)) | ((with_reducible apply awp_cond_t); exact rfl) | ((with_reducible apply awp_cond_f); exact rfl)))
    (first | (refine apost_ret rfl (resl_tmp rfl resl_nil) ?_))
    exact AV.Le.refl _
  | true =>
    rw [n0] at N0
    rw [Bool.true_and]
    cases n1 : neB b1 b2 b1 b2 X1 Y1 far with
    | false =>
      rw [n1] at N1
      rw [Bool.false_and]
      clear hin hR
      refine pcall_body (f := 8) Try.func8 rfl rfl rfl rfl ?_
      (repeat (first | ((with_reducible apply al_q); exact rfl) | ((with_reducible apply al_loadPN); (iterate 5 exact rfl)) | ((with_reducible apply al_idxS); (iterate 3 exact rfl); (first | decide | omega); (first | decide | omega); (first | assumption | rfl); exact rfl) | ((with_reducible apply al_sub); (iterate 3 exact rfl); (first | exact i64_wrap (by omega) | assumption | rfl); exact rfl) | ((with_reducible apply al_len); (iterate 3 exact rfl)) | (refine al_call2 rfl rfl rfl rfl (by (first | exact A1 | exact K0 | exact K1 | exact N0 | exact N1)) rfl ?_) | (refine al_call4 rfl rfl rfl rfl rfl rfl (by (first | exact A1 | exact K0 | exact K1 | exact N0 | exact N1)) rfl ?_) | ((with_reducible apply al_nilS); kernel_rfl) | ((with_reducible apply awp_region_draw); kernel_rfl; kernel_rfl; exact rfl) | ((with_reducible apply awp_seq)) | ((with_reducible apply athen_normal)) | ((with_reducible apply awp_region)) | ((with_reducible apply al_nil)) | ((with_reducible apply awp_ret)) | ((with_reducible apply awp_skip)) | ((with_reducible apply athen_ret)) | ((with_reducible apply awp_cond_t); exact rfl) | ((with_reducible apply awp_cond_f); exact rfl)))
      (first | (refine apost_ret rfl (resl_tmp rfl resl_nil) ?_))
      exact AV.Le.refl _
    | true =>
      rw [n1] at N1
      rw [Bool.true_and]
      have ba := neB_pt.1 n0
      have bb := neB_pt.1 n1
      have ra := rB5_iff.1 ba.1
      have rb := rB5_iff.1 bb.1
      have hf : 0 ≤ far ∧ far ≤ 268435456 := ⟨ba.2.2.1, ba.2.2.2.1⟩
      clear ba bb n0 n1
      generalize hG : grd a1 a2 b1 b2 (2 ^ r) far (0, 1) V = G
      refine pcall_body (f := 8) Try.func8 rfl rfl rfl rfl ?_
      (repeat (first | ((with_reducible apply al_q); exact rfl) | ((with_reducible apply al_loadPN); (iterate 5 exact rfl)) | ((with_reducible apply al_idxS); (iterate 3 exact rfl); (first | decide | omega); (first | decide | omega); (first | assumption | rfl); exact rfl) | ((with_reducible apply al_sub); (iterate 3 exact rfl); (first | exact i64_wrap (by omega) | assumption | rfl); exact rfl) | ((with_reducible apply al_len); (iterate 3 exact rfl)) | (refine al_call2 rfl rfl rfl rfl (by (first | exact A1 | exact K0 | exact K1 | exact N0 | exact N1)) rfl ?_) | (refine al_call4 rfl rfl rfl rfl rfl rfl (by (first | exact A1 | exact K0 | exact K1 | exact N0 | exact N1)) rfl ?_) | ((with_reducible apply al_nilS); kernel_rfl) | ((with_reducible apply awp_region_draw); kernel_rfl; kernel_rfl; exact rfl) | ((with_reducible apply awp_seq)) | ((with_reducible apply athen_normal)) | ((with_reducible apply awp_region)) | ((with_reducible apply al_nil)) | ((with_reducible apply awp_skip)) | ((with_reducible apply awp_block)) | ((with_reducible apply awp_cond_f); exact rfl)))
      refine awp_loopL 107 (ClI a1 a2 b1 b2 far r V D G) V.length _ [(5, mCh V D), (6, shC (a1, a2)), (7, shC (b1, b2)), (13, shC (0, 1))] ⟨0, 0, (0, 1), Nat.zero_le _, rfl, rfl, ⟨by decide, by decide⟩, hG, rfl, rfl⟩ rfl ⟨rfl, rfl, rfl, rfl, rfl, rfl, rfl, rfl, rfl, trivial⟩ ⟨rfl, rfl, rfl, rfl, trivial⟩ rfl ?_
      clear hG A1 E0 E1 K0 K1 N0 N1 v0 v1 v2
      rintro n ts ms ⟨i, ii, c, hi, rfl, hii, hc, hG, rfl, rfl⟩ hok
      clear hok
      by_cases hq : i < V.length
      · have q2 : ii < (V.length : Int) := by omega
        have q3 : 0 ≤ ii := by omega
        obtain ⟨x, y, g1⟩ : ∃ x y, V[i]? = some (x, y) := ⟨_, _, List.getElem?_eq_getElem hq⟩
        have E1 := itC_xy hii g1
        have hxy := hin _ (List.mem_of_getElem? g1)
        have K1 := p_Center hR hxy
        obtain ⟨bx, bY⟩ := in_big hxy
        have hd : V.drop i = (x, y) :: V.drop (i + 1) := by
          rw [List.drop_eq_getElem_cons hq, (List.getElem?_eq_some_iff.1 g1).2]
        rw [hd] at hG
        unfold grd nxS at hG
        simp only at hG bx bY K1
        clear hd g1 hxy hin hR
        generalize hP : (2 : Int) ^ r = P2 at *
        generalize P2 * x = X at *
        generalize P2 * y = Y at *
        have S1 := p_stretch ra.1 rb.1 bx hf
        have S2 := p_stretch ra.2 rb.2 bY hf
        have f1 := shrF_ok ra.1 rb.1 bx hf
        have f2 := shrF_ok ra.2 rb.2 bY hf
        have t1 := shrT_ok ra.1 rb.1 bx hf
        have t2 := shrT_ok ra.2 rb.2 bY hf
        generalize shrF a1 b1 X far = fx at *
        generalize shrF a2 b2 Y far = fy at *
        generalize shrT a1 b1 X far = tx at *
        generalize shrT a2 b2 Y far = ty at *
        have L1 := p_latest (x := c) (l := [fx, fy]) hc (fun z hz => by
          rcases List.mem_cons.1 hz with rfl | hz
          · exact f1
          · rcases List.mem_cons.1 hz with rfl | hz
            · exact f2
            · cases hz) (by show 2 ≤ 1000; decide)
        have hn := latS_ok (latS_ok hc f1) f2
        rw [show [fx, fy].foldl latS c = latS (latS c fx) fy from rfl] at L1
        generalize latS (latS c fx) fy = c' at *
        have H1 := p_isAhead t1 hn
        have H2 := p_isAhead t2 hn
        obtain ⟨fx1, fx2⟩ := fx
        obtain ⟨fy1, fy2⟩ := fy
        obtain ⟨tx1, tx2⟩ := tx
        obtain ⟨ty1, ty2⟩ := ty
        obtain ⟨c1, c2⟩ := c
        obtain ⟨d1, d2⟩ := c'
        simp only at S1 S2 L1 H1 H2
        replace L1 : PCall Try.prog 23 [vP c1 c2, vS 2 2 [.c (.int .i64 fx1), .c (.int .i64 fx2), .c (.int .i64 fy1), .c (.int .i64 fy2)]] (vP d1 d2) := L1
        clear f1 f2 t1 t2 hc
        cases h1 : ahS (tx1, tx2) (d1, d2) with
        | true =>
          rw [h1] at hG H1
          rw [← hG]
          (repeat (first | ((with_reducible apply al_q); exact rfl) | ((with_reducible apply al_loadPN); (iterate 5 exact rfl)) | ((with_reducible apply al_idxS); (iterate 3 exact rfl); (first | decide | omega); (first | decide | omega); (first | assumption | rfl); exact rfl) | ((with_reducible apply al_bslice); (iterate 10 exact rfl)) | (refine al_call2 rfl rfl rfl rfl (by (first | exact K1 | exact S1 | exact S2 | exact L1 | exact H1)) rfl ?_) | (refine al_call4 rfl rfl rfl rfl rfl rfl (by (first | exact K1 | exact S1 | exact S2 | exact L1 | exact H1)) rfl ?_) | ((with_reducible apply awp_seq)) | ((with_reducible apply athen_normal)) | ((with_reducible apply awp_region)) | ((with_reducible apply al_nil)) | ((with_reducible apply awp_ret)) | ((with_reducible apply awp_skip)) | ((with_reducible apply athen_ret)) | ((with_reducible apply awp_block)) | ((with_reducible apply ablock_ret)) | ((with_reducible apply awp_cond_t); exact rfl) | ((with_reducible apply awp_cond_1); exact rfl; (first | assumption | exact decide_eq_true (by omega) | (simp only [Bool.not_eq_true', decide_eq_false_iff_not, decide_eq_true_eq, Bool.not_eq_false']; (first | done | omega))))))
          (first | (refine apost_ret rfl (resl_tmp rfl resl_nil) ?_))
          exact AV.Le.refl _
        | false =>
          rw [h1] at hG H1
          cases h2 : ahS (ty1, ty2) (d1, d2) with
          | true =>
            rw [h2] at hG H2
            rw [← hG]
            (repeat (first | ((with_reducible apply al_q); exact rfl) | ((with_reducible apply al_loadPN); (iterate 5 exact rfl)) | ((with_reducible apply al_idxS); (iterate 3 exact rfl); (first | decide | omega); (first | decide | omega); (first | assumption | rfl); exact rfl) | ((with_reducible apply al_bslice); (iterate 10 exact rfl)) | (refine al_call2 rfl rfl rfl rfl (by (first | exact K1 | exact S1 | exact S2 | exact L1 | exact H1 | exact H2)) rfl ?_) | (refine al_call4 rfl rfl rfl rfl rfl rfl (by (first | exact K1 | exact S1 | exact S2 | exact L1 | exact H1 | exact H2)) rfl ?_) | ((with_reducible apply awp_seq)) | ((with_reducible apply athen_normal)) | ((with_reducible apply awp_region)) | ((with_reducible apply al_nil)) | ((with_reducible apply awp_ret)) | ((with_reducible apply awp_skip)) | ((with_reducible apply athen_ret)) | ((with_reducible apply awp_block)) | ((with_reducible apply ablock_ret)) | ((with_reducible apply awp_cond_t); exact rfl) | ((with_reducible apply awp_cond_1); exact rfl; (first | assumption | exact decide_eq_true (by omega) | (simp only [Bool.not_eq_true', decide_eq_false_iff_not, decide_eq_true_eq, Bool.not_eq_false']; (first | done | omega))))))
            (first | (refine apost_ret rfl (resl_tmp rfl resl_nil) ?_))
            exact AV.Le.refl _
          | false =>
            rw [h2] at hG H2
            simp only [Bool.not_false, Bool.true_and] at hG
            (repeat (first | ((with_reducible apply al_q); exact rfl) | ((with_reducible apply al_loadPN); (iterate 5 exact rfl)) | ((with_reducible apply al_idxS); (iterate 3 exact rfl); (first | decide | omega); (first | decide | omega); (first | assumption | rfl); exact rfl) | ((with_reducible apply al_add); (iterate 3 exact rfl); (first | exact i64_wrap (by omega) | assumption | rfl); exact rfl) | ((with_reducible apply al_bslice); (iterate 10 exact rfl)) | (refine al_call2 rfl rfl rfl rfl (by (first | exact K1 | exact S1 | exact S2 | exact L1 | exact H1 | exact H2)) rfl ?_) | (refine al_call4 rfl rfl rfl rfl rfl rfl (by (first | exact K1 | exact S1 | exact S2 | exact L1 | exact H1 | exact H2)) rfl ?_) | ((with_reducible apply awp_seq)) | ((with_reducible apply athen_normal)) | ((with_reducible apply awp_region)) | ((with_reducible apply al_nil)) | ((with_reducible apply awp_skip)) | ((with_reducible apply awp_block)) | ((with_reducible apply ablock_normal)) | ((with_reducible apply awp_cond_f); exact rfl) | ((with_reducible apply awp_cond_1); exact rfl; (first | assumption | exact decide_eq_true (by omega) | (simp only [Bool.not_eq_true', decide_eq_false_iff_not, decide_eq_true_eq, Bool.not_eq_false']; (first | done | omega))))))
            exact ⟨V.length - (i + 1), _, [(5, mCh V D), (6, shC (a1, a2)), (7, shC (b1, b2)), (13, shC (d1, d2))], by omega, ⟨i + 1, ii + 1, (d1, d2), by omega, rfl, by omega, hn, by rw [hP]; exact hG, rfl, rfl⟩, rfl, ⟨rfl, rfl, rfl, rfl, rfl, rfl, rfl, rfl, rfl, trivial⟩, ⟨rfl, rfl, rfl, rfl, trivial⟩, rfl⟩
      · have q2 : ¬ ii < (V.length : Int) := by omega
        rw [List.drop_of_length_le (by omega)] at hG
        unfold grd at hG
        have H1 := p_isAhead (x := (1, 1)) (y := c) ⟨by decide, by decide⟩ hc
        rw [← hG]
        (repeat (first | ((with_reducible apply al_q); exact rfl) | (refine al_call2 rfl rfl rfl rfl (by (first | exact H1)) rfl ?_) | ((with_reducible apply awp_seq)) | ((with_reducible apply athen_normal)) | ((with_reducible apply awp_region)) | ((with_reducible apply al_nil)) | ((with_reducible apply awp_ret)) | ((with_reducible apply ablock_same)) | ((with_reducible apply awp_exit)) | ((with_reducible apply athen_exit)) | ((with_reducible apply awp_cond_0); exact rfl; (first | assumption | exact decide_eq_false (by omega) | (simp only [Bool.not_eq_true', decide_eq_false_iff_not, decide_eq_true_eq, Bool.not_eq_false']; (first | done | omega))))))
        (first | (refine apost_ret rfl (resl_tmp rfl resl_nil) ?_))
        exact AV.Le.refl _
set_option maxRecDepth 100000 in
set_option maxHeartbeats 8000000 in
theorem p_Close_no {V : List Px} {D : List Int} {a1 a2 b1 b2 k far : Int} (A1 : PCall Try.prog 20 [vIt V, vI k] (vB false)) : PCall Try.prog 8 [vCh V D, vP a1 a2, vP b1 b2, vI k, vI far] (vB false) := by
  refine pcall_body (f := 8) Try.func8 rfl rfl rfl rfl ?_
  (repeat (first | ((with_reducible apply al_q); exact rfl) | (refine al_call2 rfl rfl rfl rfl (by (first | exact A1)) rfl ?_) | ((with_reducible apply awp_seq)) | ((with_reducible apply athen_normal)) | ((with_reducible apply awp_region)) | ((with_reducible apply al_nil)) | ((with_reducible apply awp_ret)) | ((with_reducible apply athen_ret)) | ((with_reducible apply awp_cond_t); exact rfl)))
  (first | (refine apost_ret rfl (resl_tmp rfl resl_nil) ?_))
  exact AV.Le.refl _
theorem k_Close10 : CClose10 := by
  intro V D a1 a2 b1 b2 k far hb hin hk
  by_cases h0 : V.length = 0
  · have e : cloB a1 a2 b1 b2 k far V = false := by
      unfold cloB preB
      rw [decide_eq_true h0]; simp
    rw [e]
    exact p_Close_no (p_areIn_no (.inl (by omega)))
  · by_cases h1 : 0 ≤ k ∧ k ≤ 28
    · obtain ⟨r, rfl⟩ := Int.eq_ofNat_of_zero_le h1.1
      cases h2 : (V.all fun v => inB r v.1 v.2) with
      | false =>
        have e : cloB a1 a2 b1 b2 r far V = false := by
          unfold cloB ctnB
          rw [Int.toNat_natCast, h2]; simp
        rw [e]
        have := p_areIn_yes (V := V) (r := r) (by omega) (by omega) (by omega)
        rw [h2] at this
        exact p_Close_no this
      | true => exact p_Close_in (by omega) (by omega) hb (List.all_eq_true.1 h2)
    · have e : cloB a1 a2 b1 b2 k far V = false := by
        unfold cloB preB
        rw [decide_eq_false h1]; simp
      rw [e]
      exact p_Close_no (p_areIn_no (.inr ⟨by omega, h1⟩))
end Go.Proofs.Ytlglajaonmpljaa

namespace Go.Proofs.Ytlglajaonmpljaa
open Go.RowKit
set_option linter.unusedVariables false
set_option linter.unusedSimpArgs false
section
variable {P : Program} {B0 : Base} {s : AS} {ops : Array Oper} {dr : Option (List Nat)} {ty d : Nat} {pos : String} {after : Array Edge} {guard : Option (Nat × Bool)} {K : AS → Prop} {rest : List Oper}
/-- u[l:], of a row's slice u. -/
theorem al_slU {tt z n l lo hi : Nat} {v u : Value} {x y : Operand} [S : SliOf P tt z] (hw : want ops ⟨some d, .slice tt x (some y) none none, ty, pos, after, guard⟩ s = some true) (hx : s.look x = some (vC u)) (hy : s.look y = some (vI (l : Int))) (hu : RowSub v z lo hi u) (hm : hi - lo = n) (h1 : l ≤ n) (hd : Nat.blt d s.n = true) (h : aList P ops K rest (s.put (some d) (vC (rowSl u z l n)))) : aList P ops K (⟨some d, .slice tt x (some y) none none, ty, pos, after, guard⟩ :: rest) s := by
  subst hm
  obtain ⟨⟨A, c, rfl⟩, _⟩ := hu
  refine al_quiet (av := vC (rowSl (.slice A (hi - lo) c) z l (hi - lo))) hw ⟨fun _ _ h => (by cases h), fun q hq => ?_, fun U ρ W env he => ?_, fun j hj => absurd hj (noown _ j)⟩ hd h
  · simp [Op.operands] at hq
    rcases hq with rfl | rfl
    · exact ⟨_, hx⟩
    · exact ⟨_, hy⟩
  · have ex : env x = .slice A (hi - lo) c := (he x (by simp [Op.operands]) _ hx).1
    have ey : env y = .int .i64 (l : Int) := (he y (by simp [Op.operands]) _ hy).1
    obtain ⟨e', i', hu, hi', hs⟩ := sliOf_spec S.h
    have hu' : P.underlying tt = some (.slice (P.elem tt)) := by rw [elem_slice hu]; exact hu
    refine ⟨rowSl (.slice A (hi - lo) c) z l (hi - lo), ?_, rfl, rfl⟩
    simp only [execOp, ex, Option.map_some, Option.map_none, ey, Sem.run_bind, run_sliceAt_slice W tt _ _ _ _ hu', run_slice_l W tt A (hi - lo) c hu' .i64 l (by omega) (by omega), elem_slice hu, run_sizeOf' hi', Result.andThen_ok, hs, Sem.run_pure, Int.toNat_natCast, rowSl]
/-- u[:l]. -/
theorem al_slUh {tt z n l lo hi : Nat} {v u : Value} {x y : Operand} [S : SliOf P tt z] (hw : want ops ⟨some d, .slice tt x none (some y) none, ty, pos, after, guard⟩ s = some true) (hx : s.look x = some (vC u)) (hy : s.look y = some (vI (l : Int))) (hu : RowSub v z lo hi u) (hm : hi - lo = n) (h1 : l ≤ n) (hd : Nat.blt d s.n = true) (h : aList P ops K rest (s.put (some d) (vC (rowSl u z 0 l)))) : aList P ops K (⟨some d, .slice tt x none (some y) none, ty, pos, after, guard⟩ :: rest) s := by
  subst hm
  obtain ⟨⟨A, c, rfl⟩, hc⟩ := hu
  have hlc : l ≤ c := by
    rcases Nat.eq_zero_or_pos l with e | e
    · omega
    · have hh := hc (show lo < hi by omega)
      obtain ⟨g, n', c', g1, g2, g3⟩ := hh
      have e4 : c = c' - lo := by injection g3
      clear g1 g3 hc
      omega
  refine al_quiet (av := vC (rowSl (.slice A (hi - lo) c) z 0 l)) hw ⟨fun _ _ h => (by cases h), fun q hq => ?_, fun U ρ W env he => ?_, fun j hj => absurd hj (noown _ j)⟩ hd h
  · simp [Op.operands] at hq
    rcases hq with rfl | rfl
    · exact ⟨_, hx⟩
    · exact ⟨_, hy⟩
  · have ex : env x = .slice A (hi - lo) c := (he x (by simp [Op.operands]) _ hx).1
    have ey : env y = .int .i64 (l : Int) := (he y (by simp [Op.operands]) _ hy).1
    obtain ⟨e', i', hu, hi', hs⟩ := sliOf_spec S.h
    have hu' : P.underlying tt = some (.slice (P.elem tt)) := by rw [elem_slice hu]; exact hu
    refine ⟨rowSl (.slice A (hi - lo) c) z 0 l, ?_, rfl, rfl⟩
    simp only [execOp, ex, Option.map_some, Option.map_none, ey, Sem.run_bind, run_sliceAt_slice W tt _ _ _ _ hu', run_slice_h W tt A (hi - lo) c hu' .i64 l (by omega) (by omega), elem_slice hu, run_sizeOf' hi', Result.andThen_ok, hs, Sem.run_pure, Int.toNat_natCast, rowSl]
end
end Go.Proofs.Ytlglajaonmpljaa

namespace Go.Proofs.Ytlglajaonmpljaa
open Go.RowKit
set_option linter.unusedVariables false
set_option linter.unusedSimpArgs false
/-- what was filled in part is filled on. -/
theorem splice_fill {A C Zs : List AC} {n : Nat} (h : A.length = n) : splice (A ++ Zs) n C = (A ++ C) ++ Zs.drop C.length := by
  subst h
  unfold splice
  rw [List.take_left, List.drop_append, List.drop_of_length_le (by omega), List.nil_append, Nat.add_sub_cancel_left]
theorem itC_takeN {l : List Px} {n : Nat} (h : l.length = n) : (itC l).take (n * 2) = itC l := List.take_of_length_le (by rw [itC_len]; omega)
theorem inC_takeN {l : List Int} {n : Nat} (h : l.length = n) : (inC l).take (n * 1) = inC l := List.take_of_length_le (by simp [inC]; omega)
theorem inC_closed1 (l : List Int) : (inC l).all AC.closedB = true := List.all_eq_true.2 fun y hy => by
  obtain ⟨x, _, rfl⟩ := List.mem_map.1 hy
  rfl
theorem inC_len1 (l : List Int) : (inC l).length = l.length * 1 := by simp [inC]
/-- rows, as a row. -/
abbrev rsC (LL : List (List Px)) : List AC := LL.map fun l => AC.p (SlP 2 l.length (itC l))
abbrev vRs (LL : List (List Px)) : AV := vS 1 LL.length (rsC LL)
theorem rsC_at {LL : List (List Px)} {j : Int} {i : Nat} {l : List Px} (hj : j = i) (h : LL[i]? = some l) : ((rsC LL).drop (j.toNat * 1)).take 1 = [.p (SlP 2 l.length (itC l))] := by
  subst hj
  have hi := (List.getElem?_eq_some_iff.1 h).1
  rw [Int.toNat_natCast, Nat.mul_one, List.drop_eq_getElem_cons (by simpa [rsC] using hi)]
  have : LL[i] = l := (List.getElem?_eq_some_iff.1 h).2
  simp [rsC, this]
def preP (LL : List (List Px)) (i : Nat) : List Px := (LL.take i).flatten
theorem preP_one {LL : List (List Px)} {i : Nat} {l : List Px} (h : LL[i]? = some l) : preP LL (i + 1) = preP LL i ++ l := by
  unfold preP
  rw [List.take_succ_eq_append_getElem (List.getElem?_eq_some_iff.1 h).1, (List.getElem?_eq_some_iff.1 h).2]; simp
theorem preP_all {LL : List (List Px)} {i : Nat} (h : LL.length ≤ i) : preP LL i = LL.flatten := by unfold preP; rw [List.take_of_length_le h]
theorem preP_len (LL : List (List Px)) (i : Nat) : (preP LL i).length ≤ LL.flatten.length := by
  have : LL.flatten = preP LL i ++ (LL.drop i).flatten := by unfold preP; rw [← List.flatten_append, List.take_append_drop]
  rw [this, List.length_append]; omega
def JpA (LL : List (List Px)) (n : Nat) (R : Rws) (ts : List (Nat × AV)) (ms : List (Nat × List AC)) : Prop :=
  ∃ (i : Nat) (ii ni : Int), i ≤ LL.length ∧ n = LL.length - i ∧ ii = i ∧ ni = ((preP LL i).length : Nat) ∧ R = noRows ∧ ms = [] ∧ ts = [(0, vRs LL), (3, vI ni), (10, vRs LL), (11, vI LL.length), (12, vI ii)]
def JpB (LL : List (List Px)) (N : Nat) (v : Value) (Z0 : List AC) (n : Nat) (R : Rws) (ts : List (Nat × AV)) (ms : List (Nat × List AC)) : Prop :=
  ∃ (i : Nat) (ii : Int) (u : Value), i ≤ LL.length ∧ n = LL.length - i ∧ ii = i ∧ RowSub v 2 (preP LL i).length N u ∧ R = row1 0 ⟨38, 2, v, N, itC (preP LL i) ++ Z0.drop ((preP LL i).length * 2)⟩ ∧ ms = [] ∧ ts = [(6, vC v), (7, vC u), (24, vRs LL), (25, vI LL.length), (26, vI ii)]
set_option maxRecDepth 100000 in
set_option maxHeartbeats 8000000 in
theorem p_joinedP {LL : List (List Px)} (hL : LL.length ≤ 1000) (hN : LL.flatten.length ≤ 100000) : PCall Try.prog 43 [vRs LL] (vIt LL.flatten) := by
  refine pcall_body (f := 43) Try.func43 rfl rfl rfl rfl ?_
  refine awp_rows ?_
  (repeat (first | ((with_reducible apply rwp_seq)) | ((with_reducible apply rthen_normal)) | ((with_reducible apply rwp_region)) | ((with_reducible apply hs_nil)) | ((with_reducible apply rwp_block)) | ((with_reducible apply hs_c); exact rfl; (repeat (first | ((with_reducible apply al_q); exact rfl) | ((with_reducible apply al_len); (iterate 3 exact rfl)))); (with_reducible apply al_nil))))
  refine rwp_loopL 37 (JpA LL) LL.length noRows _ [] ⟨0, 0, 0, Nat.zero_le _, rfl, rfl, rfl, rfl, rfl, rfl⟩ (RLe.refl _) rfl ⟨rfl, rfl, rfl, rfl, rfl, trivial⟩ trivial rfl ?_
  rintro n R ts ms ⟨i, ii, ni, hi, rfl, hii, hni, rfl, rfl, rfl⟩ hok
  clear hok
  by_cases hq : i < LL.length
  · have q2 : ii < (LL.length : Int) := by omega
    have q3 : 0 ≤ ii := by omega
    obtain ⟨l, g1⟩ : ∃ l, LL[i]? = some l := ⟨_, List.getElem?_eq_getElem hq⟩
    have E1 := rsC_at hii g1
    have h1 := preP_one g1
    have h2 := preP_len LL (i + 1)
    have h3 : (preP LL (i + 1)).length = (preP LL i).length + l.length := by rw [h1, List.length_append]
    (repeat (first | ((with_reducible apply rwp_seq)) | ((with_reducible apply rthen_normal)) | ((with_reducible apply rwp_region)) | ((with_reducible apply hs_nil)) | ((with_reducible apply rwp_skip)) | ((with_reducible apply rwp_block)) | ((with_reducible apply rblock_normal)) | ((with_reducible apply rwp_cond_1); exact rfl; (first | assumption | exact decide_eq_true (by omega) | (simp only [Bool.not_eq_true', decide_eq_false_iff_not, decide_eq_true_eq, Bool.not_eq_false']; (first | done | omega)) | exact rfl)) | ((with_reducible apply hs_c); exact rfl; (repeat (first | ((with_reducible apply al_q); exact rfl) | ((with_reducible apply al_loadP1); (iterate 5 exact rfl)) | ((with_reducible apply al_idxS); (iterate 3 exact rfl); (first | decide | omega); (first | decide | omega); (first | assumption | rfl); exact rfl) | ((with_reducible apply al_add); (iterate 3 exact rfl); (first | exact i64_wrap (by omega) | assumption | rfl); exact rfl) | ((with_reducible apply al_len); (iterate 3 exact rfl)))); (with_reducible apply al_nil))))
    exact ⟨LL.length - (i + 1), noRows, _, [], by omega, ⟨i + 1, ii + 1, _, by omega, rfl, by omega, by omega, rfl, rfl, rfl⟩, RLe.refl _, rfl, ⟨rfl, rfl, rfl, rfl, rfl, trivial⟩, trivial, rfl⟩
  · have q2 : ¬ ii < (LL.length : Int) := by omega
    rw [preP_all (by omega)] at hni
    subst hni
    generalize hNN : LL.flatten.length = N at *
    (repeat (first | ((with_reducible apply rwp_seq)) | ((with_reducible apply rthen_normal)) | ((with_reducible apply rwp_region)) | ((with_reducible apply hs_nil)) | ((with_reducible apply rblock_same)) | ((with_reducible apply rwp_exit)) | ((with_reducible apply rthen_exit)) | ((with_reducible apply rwp_cond_0); exact rfl; (first | assumption | exact decide_eq_false (by omega) | (simp only [Bool.not_eq_true', decide_eq_false_iff_not, decide_eq_true_eq, Bool.not_eq_false']; (first | done | omega)) | exact rfl)) | ((with_reducible apply hs_c); exact rfl; (repeat (first | ((with_reducible apply al_q); exact rfl))); (with_reducible apply al_nil))))
    refine hs_make (l := N) (c' := N) 0 rfl rfl rfl rfl (Nat.le_refl _) rfl rfl ?h2 (le_maxLen (by omega)) rfl (fun v hv => ?_)
    case h2 => show 16 * N ≤ 281474976710656; omega
    generalize hZ : zeroN N 2 _ = Z0
    have hZl : Z0.length = N * 2 := by rw [← hZ]; simp [zeroN]
    clear hZ
    (repeat (first | ((with_reducible apply rwp_seq)) | ((with_reducible apply rthen_normal)) | ((with_reducible apply rwp_region)) | ((with_reducible apply hs_nil)) | ((with_reducible apply rwp_block)) | ((with_reducible apply hs_c); exact rfl; (repeat (first | ((with_reducible apply al_q); exact rfl) | ((with_reducible apply al_len); (iterate 3 exact rfl)))); (with_reducible apply al_nil))))
    refine rwp_shape 0 (r := ⟨38, 2, v, N, Z0⟩) rfl (fun Ad c hv1 hnc hcm hA hlen => ?_)
    have hv2 : v = .slice Ad N c := hv1
    have hu0 : RowSub v 2 0 N v := by rw [hv2]; exact RowSub.all 2 hnc hA
    clear hv1 hnc hcm hA hlen
    refine rwp_loopL 37 (JpB LL N v Z0) LL.length (row1 0 ⟨38, 2, v, N, Z0⟩) _ [] ⟨0, 0, v, Nat.zero_le _, rfl, rfl, hu0, rfl, rfl, rfl⟩ (row1_le _ _ _) rfl ⟨rfl, rfl, rfl, rfl, rfl, trivial⟩ trivial rfl ?_
    clear hq q2 hu0 hii hv2
    rintro n R ts ms ⟨i, ii, u, hi, rfl, hii, hu, rfl, rfl, rfl⟩ hok
    clear hok
    by_cases hq : i < LL.length
    · have q2 : ii < (LL.length : Int) := by omega
      have q3 : 0 ≤ ii := by omega
      obtain ⟨l, g1⟩ : ∃ l, LL[i]? = some l := ⟨_, List.getElem?_eq_getElem hq⟩
      have E1 := rsC_at hii g1
      have h1 := preP_one g1
      have h2 := preP_len LL (i + 1)
      have h3 : (preP LL (i + 1)).length = (preP LL i).length + l.length := by rw [h1, List.length_append]
      rw [hNN] at h2
      have c1 := itC_closed l
      have k1 : Nat.min l.length (N - (preP LL i).length) = l.length := Nat.min_eq_left (by omega)
      obtain ⟨m, hm⟩ : ∃ m, N - (preP LL i).length = m := ⟨_, rfl⟩
      have b1 : (preP LL i).length ≤ N := by omega
      have b2 : l.length ≤ m := by omega
      have s1 : splice (itC (preP LL i) ++ Z0.drop ((preP LL i).length * 2)) ((preP LL i).length * 2) ((itC l).take (l.length * 2)) = itC (preP LL (i + 1)) ++ Z0.drop ((preP LL (i + 1)).length * 2) := by
        rw [itC_takeN rfl, splice_fill (itC_len _), ← itC_append, ← h1, List.drop_drop, itC_len]
        congr 2
        omega
      have hu' := hu.sl hm b2 b1
      rw [← h3] at hu'
      (repeat (first | ((with_reducible apply rwp_seq)) | ((with_reducible apply rthen_normal)) | ((with_reducible apply rwp_region)) | ((with_reducible apply hs_nil)) | ((with_reducible apply rwp_skip)) | ((with_reducible apply rwp_block)) | ((with_reducible apply rblock_normal)) | ((with_reducible apply rwp_cond_1); exact rfl; (first | assumption | exact decide_eq_true (by omega) | (simp only [Bool.not_eq_true', decide_eq_false_iff_not, decide_eq_true_eq, Bool.not_eq_false']; (first | done | omega)) | exact rfl)) | ((with_reducible apply hs_c); exact rfl; (repeat (first | ((with_reducible apply al_q); exact rfl) | ((with_reducible apply al_loadP1); (iterate 5 exact rfl)) | ((with_reducible apply al_idxS); (iterate 3 exact rfl); (first | decide | omega); (first | decide | omega); (first | assumption | rfl); exact rfl) | ((with_reducible apply al_add); (iterate 3 exact rfl); (first | exact i64_wrap (by omega) | assumption | rfl); exact rfl) | ((with_reducible apply al_slU); (iterate 3 exact rfl); assumption; (first | assumption | exact rfl); (first | assumption | omega); exact rfl))); (with_reducible apply al_nil)) | ((with_reducible apply hs_copyU 0); (iterate 3 exact rfl); assumption; exact rfl; exact rfl; exact rfl; (first | assumption | omega); (first | exact Nat.le_refl _ | assumption); (first | assumption | exact rfl); exact rfl; assumption; assumption; exact rfl)))
      exact ⟨LL.length - (i + 1), _, _, [], by omega, ⟨i + 1, ii + 1, _, by omega, rfl, by omega, hu', rfl, rfl, rfl⟩, row1_le _ _ _, rfl, ⟨rfl, rfl, rfl, rfl, rfl, trivial⟩, trivial, rfl⟩
    · have q2 : ¬ ii < (LL.length : Int) := by omega
      have e0 : itC (preP LL i) ++ Z0.drop ((preP LL i).length * 2) = itC LL.flatten := by
        rw [preP_all (by omega), List.drop_of_length_le (by omega), List.append_nil]
      rw [e0]
      refine rwp_cool 0 6 ⟨38, 2, v, N, itC LL.flatten⟩ rfl rfl ?_
      rw [← hNN]
      (repeat (first | ((with_reducible apply rwp_seq)) | ((with_reducible apply rthen_normal)) | ((with_reducible apply rwp_region)) | ((with_reducible apply hs_nil)) | ((with_reducible apply rwp_ret)) | ((with_reducible apply rblock_same)) | ((with_reducible apply rwp_exit)) | ((with_reducible apply rthen_exit)) | ((with_reducible apply rwp_cond_0); exact rfl; (first | assumption | exact decide_eq_false (by omega) | (simp only [Bool.not_eq_true', decide_eq_false_iff_not, decide_eq_true_eq, Bool.not_eq_false']; (first | done | omega)) | exact rfl)) | ((with_reducible apply hs_c); exact rfl; (repeat (first | ((with_reducible apply al_q); exact rfl))); (with_reducible apply al_nil))))
      (first | (refine apost_ret rfl (resl_tmp rfl resl_nil) ?_))
      exact AV.Le.refl _
end Go.Proofs.Ytlglajaonmpljaa

namespace Go.Proofs.Ytlglajaonmpljaa
open Go.RowKit
set_option linter.unusedVariables false
set_option linter.unusedSimpArgs false
/-- rows, as a row. -/
abbrev rsI (LL : List (List Int)) : List AC := LL.map fun l => AC.p (SlP 1 l.length (inC l))
abbrev vRI (LL : List (List Int)) : AV := vS 1 LL.length (rsI LL)
theorem rsI_at {LL : List (List Int)} {j : Int} {i : Nat} {l : List Int} (hj : j = i) (h : LL[i]? = some l) : ((rsI LL).drop (j.toNat * 1)).take 1 = [.p (SlP 1 l.length (inC l))] := by
  subst hj
  have hi := (List.getElem?_eq_some_iff.1 h).1
  rw [Int.toNat_natCast, Nat.mul_one, List.drop_eq_getElem_cons (by simpa [rsI] using hi)]
  have : LL[i] = l := (List.getElem?_eq_some_iff.1 h).2
  simp [rsI, this]
def preI (LL : List (List Int)) (i : Nat) : List Int := (LL.take i).flatten
theorem preI_one {LL : List (List Int)} {i : Nat} {l : List Int} (h : LL[i]? = some l) : preI LL (i + 1) = preI LL i ++ l := by
  unfold preI
  rw [List.take_succ_eq_append_getElem (List.getElem?_eq_some_iff.1 h).1, (List.getElem?_eq_some_iff.1 h).2]; simp
theorem preI_all {LL : List (List Int)} {i : Nat} (h : LL.length ≤ i) : preI LL i = LL.flatten := by unfold preI; rw [List.take_of_length_le h]
theorem preI_len (LL : List (List Int)) (i : Nat) : (preI LL i).length ≤ LL.flatten.length := by
  have : LL.flatten = preI LL i ++ (LL.drop i).flatten := by unfold preI; rw [← List.flatten_append, List.take_append_drop]
  rw [this, List.length_append]; omega
def JiA (LL : List (List Int)) (n : Nat) (R : Rws) (ts : List (Nat × AV)) (ms : List (Nat × List AC)) : Prop :=
  ∃ (i : Nat) (ii ni : Int), i ≤ LL.length ∧ n = LL.length - i ∧ ii = i ∧ ni = ((preI LL i).length : Nat) ∧ R = noRows ∧ ms = [] ∧ ts = [(0, vRI LL), (3, vI ni), (10, vRI LL), (11, vI LL.length), (12, vI ii)]
def JiB (LL : List (List Int)) (N : Nat) (v : Value) (Z0 : List AC) (n : Nat) (R : Rws) (ts : List (Nat × AV)) (ms : List (Nat × List AC)) : Prop :=
  ∃ (i : Nat) (ii : Int) (u : Value), i ≤ LL.length ∧ n = LL.length - i ∧ ii = i ∧ RowSub v 1 (preI LL i).length N u ∧ R = row1 0 ⟨3, 1, v, N, inC (preI LL i) ++ Z0.drop ((preI LL i).length * 1)⟩ ∧ ms = [] ∧ ts = [(6, vC v), (7, vC u), (24, vRI LL), (25, vI LL.length), (26, vI ii)]
set_option maxRecDepth 100000 in
set_option maxHeartbeats 8000000 in
theorem p_joinedI {LL : List (List Int)} (hL : LL.length ≤ 1000) (hN : LL.flatten.length ≤ 100000) : PCall Try.prog 44 [vRI LL] (vIn LL.flatten) := by
  refine pcall_body (f := 44) Try.func44 rfl rfl rfl rfl ?_
  refine awp_rows ?_
  (repeat (first | ((with_reducible apply rwp_seq)) | ((with_reducible apply rthen_normal)) | ((with_reducible apply rwp_region)) | ((with_reducible apply hs_nil)) | ((with_reducible apply rwp_block)) | ((with_reducible apply hs_c); exact rfl; (repeat (first | ((with_reducible apply al_q); exact rfl) | ((with_reducible apply al_len); (iterate 3 exact rfl)))); (with_reducible apply al_nil))))
  refine rwp_loopL 37 (JiA LL) LL.length noRows _ [] ⟨0, 0, 0, Nat.zero_le _, rfl, rfl, rfl, rfl, rfl, rfl⟩ (RLe.refl _) rfl ⟨rfl, rfl, rfl, rfl, rfl, trivial⟩ trivial rfl ?_
  rintro n R ts ms ⟨i, ii, ni, hi, rfl, hii, hni, rfl, rfl, rfl⟩ hok
  clear hok
  by_cases hq : i < LL.length
  · have q2 : ii < (LL.length : Int) := by omega
    have q3 : 0 ≤ ii := by omega
    obtain ⟨l, g1⟩ : ∃ l, LL[i]? = some l := ⟨_, List.getElem?_eq_getElem hq⟩
    have E1 := rsI_at hii g1
    have h1 := preI_one g1
    have h2 := preI_len LL (i + 1)
    have h3 : (preI LL (i + 1)).length = (preI LL i).length + l.length := by rw [h1, List.length_append]
    (repeat (first | ((with_reducible apply rwp_seq)) | ((with_reducible apply rthen_normal)) | ((with_reducible apply rwp_region)) | ((with_reducible apply hs_nil)) | ((with_reducible apply rwp_skip)) | ((with_reducible apply rwp_block)) | ((with_reducible apply rblock_normal)) | ((with_reducible apply rwp_cond_1); exact rfl; (first | assumption | exact decide_eq_true (by omega) | (simp only [Bool.not_eq_true', decide_eq_false_iff_not, decide_eq_true_eq, Bool.not_eq_false']; (first | done | omega)) | exact rfl)) | ((with_reducible apply hs_c); exact rfl; (repeat (first | ((with_reducible apply al_q); exact rfl) | ((with_reducible apply al_loadP1); (iterate 5 exact rfl)) | ((with_reducible apply al_idxS); (iterate 3 exact rfl); (first | decide | omega); (first | decide | omega); (first | assumption | rfl); exact rfl) | ((with_reducible apply al_add); (iterate 3 exact rfl); (first | exact i64_wrap (by omega) | assumption | rfl); exact rfl) | ((with_reducible apply al_len); (iterate 3 exact rfl)))); (with_reducible apply al_nil))))
    exact ⟨LL.length - (i + 1), noRows, _, [], by omega, ⟨i + 1, ii + 1, _, by omega, rfl, by omega, by omega, rfl, rfl, rfl⟩, RLe.refl _, rfl, ⟨rfl, rfl, rfl, rfl, rfl, trivial⟩, trivial, rfl⟩
  · have q2 : ¬ ii < (LL.length : Int) := by omega
    rw [preI_all (by omega)] at hni
    subst hni
    generalize hNN : LL.flatten.length = N at *
    (repeat (first | ((with_reducible apply rwp_seq)) | ((with_reducible apply rthen_normal)) | ((with_reducible apply rwp_region)) | ((with_reducible apply hs_nil)) | ((with_reducible apply rblock_same)) | ((with_reducible apply rwp_exit)) | ((with_reducible apply rthen_exit)) | ((with_reducible apply rwp_cond_0); exact rfl; (first | assumption | exact decide_eq_false (by omega) | (simp only [Bool.not_eq_true', decide_eq_false_iff_not, decide_eq_true_eq, Bool.not_eq_false']; (first | done | omega)) | exact rfl)) | ((with_reducible apply hs_c); exact rfl; (repeat (first | ((with_reducible apply al_q); exact rfl))); (with_reducible apply al_nil))))
    refine hs_make (l := N) (c' := N) 0 rfl rfl rfl rfl (Nat.le_refl _) rfl rfl ?h2 (le_maxLen (by omega)) rfl (fun v hv => ?_)
    case h2 => show 8 * N ≤ 281474976710656; omega
    generalize hZ : zeroN N 1 _ = Z0
    have hZl : Z0.length = N * 1 := by rw [← hZ]; simp [zeroN]
    clear hZ
    (repeat (first | ((with_reducible apply rwp_seq)) | ((with_reducible apply rthen_normal)) | ((with_reducible apply rwp_region)) | ((with_reducible apply hs_nil)) | ((with_reducible apply rwp_block)) | ((with_reducible apply hs_c); exact rfl; (repeat (first | ((with_reducible apply al_q); exact rfl) | ((with_reducible apply al_len); (iterate 3 exact rfl)))); (with_reducible apply al_nil))))
    refine rwp_shape 0 (r := ⟨3, 1, v, N, Z0⟩) rfl (fun Ad c hv1 hnc hcm hA hlen => ?_)
    have hv2 : v = .slice Ad N c := hv1
    have hu0 : RowSub v 1 0 N v := by rw [hv2]; exact RowSub.all 1 hnc hA
    clear hv1 hnc hcm hA hlen
    refine rwp_loopL 37 (JiB LL N v Z0) LL.length (row1 0 ⟨3, 1, v, N, Z0⟩) _ [] ⟨0, 0, v, Nat.zero_le _, rfl, rfl, hu0, rfl, rfl, rfl⟩ (row1_le _ _ _) rfl ⟨rfl, rfl, rfl, rfl, rfl, trivial⟩ trivial rfl ?_
    clear hq q2 hu0 hii hv2
    rintro n R ts ms ⟨i, ii, u, hi, rfl, hii, hu, rfl, rfl, rfl⟩ hok
    clear hok
    by_cases hq : i < LL.length
    · have q2 : ii < (LL.length : Int) := by omega
      have q3 : 0 ≤ ii := by omega
      obtain ⟨l, g1⟩ : ∃ l, LL[i]? = some l := ⟨_, List.getElem?_eq_getElem hq⟩
      have E1 := rsI_at hii g1
      have h1 := preI_one g1
      have h2 := preI_len LL (i + 1)
      have h3 : (preI LL (i + 1)).length = (preI LL i).length + l.length := by rw [h1, List.length_append]
      rw [hNN] at h2
      have c1 := inC_closed1 l
      have k1 : Nat.min l.length (N - (preI LL i).length) = l.length := Nat.min_eq_left (by omega)
      obtain ⟨m, hm⟩ : ∃ m, N - (preI LL i).length = m := ⟨_, rfl⟩
      have b1 : (preI LL i).length ≤ N := by omega
      have b2 : l.length ≤ m := by omega
      have s1 : splice (inC (preI LL i) ++ Z0.drop ((preI LL i).length * 1)) ((preI LL i).length * 1) ((inC l).take (l.length * 1)) = inC (preI LL (i + 1)) ++ Z0.drop ((preI LL (i + 1)).length * 1) := by
        rw [inC_takeN rfl, splice_fill (inC_len1 _), ← inC_append, ← h1, List.drop_drop, inC_len1]
        congr 2
        omega
      have hu' := hu.sl hm b2 b1
      rw [← h3] at hu'
      (repeat (first | ((with_reducible apply rwp_seq)) | ((with_reducible apply rthen_normal)) | ((with_reducible apply rwp_region)) | ((with_reducible apply hs_nil)) | ((with_reducible apply rwp_skip)) | ((with_reducible apply rwp_block)) | ((with_reducible apply rblock_normal)) | ((with_reducible apply rwp_cond_1); exact rfl; (first | assumption | exact decide_eq_true (by omega) | (simp only [Bool.not_eq_true', decide_eq_false_iff_not, decide_eq_true_eq, Bool.not_eq_false']; (first | done | omega)) | exact rfl)) | ((with_reducible apply hs_c); exact rfl; (repeat (first | ((with_reducible apply al_q); exact rfl) | ((with_reducible apply al_loadP1); (iterate 5 exact rfl)) | ((with_reducible apply al_idxS); (iterate 3 exact rfl); (first | decide | omega); (first | decide | omega); (first | assumption | rfl); exact rfl) | ((with_reducible apply al_add); (iterate 3 exact rfl); (first | exact i64_wrap (by omega) | assumption | rfl); exact rfl) | ((with_reducible apply al_slU); (iterate 3 exact rfl); assumption; (first | assumption | exact rfl); (first | assumption | omega); exact rfl))); (with_reducible apply al_nil)) | ((with_reducible apply hs_copyU 0); (iterate 3 exact rfl); assumption; exact rfl; exact rfl; exact rfl; (first | assumption | omega); (first | exact Nat.le_refl _ | assumption); (first | assumption | exact rfl); exact rfl; assumption; assumption; exact rfl)))
      exact ⟨LL.length - (i + 1), _, _, [], by omega, ⟨i + 1, ii + 1, _, by omega, rfl, by omega, hu', rfl, rfl, rfl⟩, row1_le _ _ _, rfl, ⟨rfl, rfl, rfl, rfl, rfl, trivial⟩, trivial, rfl⟩
    · have q2 : ¬ ii < (LL.length : Int) := by omega
      have e0 : inC (preI LL i) ++ Z0.drop ((preI LL i).length * 1) = inC LL.flatten := by
        rw [preI_all (by omega), List.drop_of_length_le (by omega), List.append_nil]
      rw [e0]
      refine rwp_cool 0 6 ⟨3, 1, v, N, inC LL.flatten⟩ rfl rfl ?_
      rw [← hNN]
      (repeat (first | ((with_reducible apply rwp_seq)) | ((with_reducible apply rthen_normal)) | ((with_reducible apply rwp_region)) | ((with_reducible apply hs_nil)) | ((with_reducible apply rwp_ret)) | ((with_reducible apply rblock_same)) | ((with_reducible apply rwp_exit)) | ((with_reducible apply rthen_exit)) | ((with_reducible apply rwp_cond_0); exact rfl; (first | assumption | exact decide_eq_false (by omega) | (simp only [Bool.not_eq_true', decide_eq_false_iff_not, decide_eq_true_eq, Bool.not_eq_false']; (first | done | omega)) | exact rfl)) | ((with_reducible apply hs_c); exact rfl; (repeat (first | ((with_reducible apply al_q); exact rfl))); (with_reducible apply al_nil))))
      (first | (refine apost_ret rfl (resl_tmp rfl resl_nil) ?_))
      exact AV.Le.refl _
end Go.Proofs.Ytlglajaonmpljaa

namespace Go.Proofs.Ytlglajaonmpljaa
open Go.RowKit
set_option linter.unusedVariables false
set_option linter.unusedSimpArgs false
theorem p_Mul64 {x y : Nat} (hx : x < 9223372036854775808) (hy : y < 9223372036854775808) (h : x * y < 9223372036854775808) : PCall Try.prog 81 [vC (.int .u64 (x : Nat)), vC (.int .u64 (y : Nat))] (.tup [.one (.c (.int .u64 0)), .one (.c (.int .u64 ((x * y : Nat) : Int)))]) := by
  refine pcall_ev [.int .u64 (x : Nat), .int .u64 (y : Nat)] (.tuple #[.int .u64 0, .int .u64 ((x * y : Nat) : Int)]) rfl rfl rfl rfl rfl fun W => ?_
  refine (Try.bits_Mul64 x y (by omega) (by omega) W).mono ?_
  rintro e w' ⟨rfl, rfl⟩
  have e1 : x * y / 18446744073709551616 = 0 := Nat.div_eq_of_lt (by omega)
  have e2 : x * y % 18446744073709551616 = x * y := Nat.mod_eq_of_lt (by omega)
  rw [e1, e2]
  exact ⟨rfl, Below.refl _ _⟩
set_option maxRecDepth 100000 in
set_option maxHeartbeats 8000000 in
theorem p_Mul1 {y : Nat} (hy : y < 9223372036854775808) : PCall Try.prog 56 [vC (.int .u64 1), vC (.int .u64 (y : Nat))] (.tup [.one (.c (.int .u64 0)), .one (.c (.int .u64 (y : Nat)))]) := by
  have C1 := p_Mul64 (x := 1) (y := y) (by decide) hy (by omega)
  rw [Nat.one_mul] at C1
  replace C1 : PCall Try.prog 81 [vC (.int .u64 1), vC (.int .u64 (y : Nat))] (.tup [.one (.c (.int .u64 0)), .one (.c (.int .u64 (y : Nat)))]) := C1
  refine pcall_body (f := 56) Try.func56 rfl rfl rfl rfl ?_
  (repeat (first | ((with_reducible apply al_q); exact rfl) | (refine al_call2 rfl rfl rfl rfl (by (first | exact C1)) rfl ?_) | ((with_reducible apply awp_seq)) | ((with_reducible apply athen_normal)) | ((with_reducible apply awp_region)) | ((with_reducible apply al_nil)) | ((with_reducible apply awp_ret)) | ((with_reducible apply awp_skip)) | ((with_reducible apply awp_cond_f); exact rfl)))
  (first | (refine apost_ret rfl (resl_tmp rfl (resl_tmp rfl resl_nil)) ?_))
  exact AV.Le.refl _
def RpI (d : Int) (m : Nat) (v : Value) (Z0 : List AC) (n : Nat) (R : Rws) (ts : List (Nat × AV)) (ms : List (Nat × List AC)) : Prop :=
  ∃ (k : Nat) (ki : Int), 1 ≤ k ∧ k ≤ m ∧ n = m - k ∧ ki = k ∧ R = row1 0 ⟨3, 1, v, m, inC (List.replicate k d) ++ Z0.drop k⟩ ∧ ms = [] ∧ ts = [(7, vC v), (8, vI ki)]
set_option maxRecDepth 100000 in
set_option maxHeartbeats 8000000 in
theorem p_Repeat1 {d : Int} {m : Nat} (hm1 : 1 ≤ m) (hm : m ≤ 100000) : PCall Try.prog 36 [vIn [d], vI m] (vIn (List.replicate m d)) := by
  have M1 := p_Mul1 (y := m) (by omega)
  have w1 : IntKind.u64.wrap (m : Int) = m := by rw [IntKind.wrap_u64]; omega
  have w2 : IntKind.i64.wrap (m : Int) = m := i64_wrap (by omega)
  have q0 : ¬ (m : Int) < 0 := by omega
  have q1 : ¬ (m : Int) > 9223372036854775807 := by omega
  have k1 : Nat.min 1 m = 1 := Nat.min_eq_left hm1
  refine pcall_body (f := 36) Try.func36 rfl rfl rfl rfl ?_
  refine awp_rows ?_
  (repeat (first | ((with_reducible apply rwp_seq)) | ((with_reducible apply rthen_normal)) | ((with_reducible apply rwp_region)) | ((with_reducible apply hs_nil)) | ((with_reducible apply rwp_skip)) | ((with_reducible apply rwp_cond_0); exact rfl; (first | assumption | exact decide_eq_false (by omega) | (simp only [Bool.not_eq_true', decide_eq_false_iff_not, decide_eq_true_eq, Bool.not_eq_false']; (first | done | omega)) | exact rfl)) | ((with_reducible apply hs_c); exact rfl; (repeat (first | ((with_reducible apply al_q); exact rfl) | ((with_reducible apply al_convI); exact rfl; exact rfl; (first | exact i64_wrap (by omega) | assumption | rfl); exact rfl) | ((with_reducible apply al_len); (iterate 3 exact rfl)) | (refine al_call2 rfl rfl rfl rfl (by (first | exact M1)) rfl ?_))); (with_reducible apply al_nil))))
  refine hs_make (l := m) (c' := m) 0 rfl rfl rfl rfl (Nat.le_refl _) rfl rfl ?h2 (le_maxLen (by omega)) rfl (fun v hv => ?_)
  case h2 => show 8 * m ≤ 281474976710656; omega
  generalize hZ : zeroN m 1 _ = Z0
  have hZl : Z0.length = m := by rw [← hZ]; simp [zeroN]
  have hZc : Z0.all AC.closedB = true := by
    rw [← hZ]
    refine List.all_eq_true.2 fun y hy => ?_
    simp only [zeroN, List.mem_map] at hy
    obtain ⟨j, _, rfl⟩ := hy
    rfl
  clear hZ
  have s1 : splice Z0 (0 * 1) ((inC [d]).take (1 * 1)) = inC (List.replicate 1 d) ++ Z0.drop 1 := by
    unfold splice; simp [inC]
  (repeat (first | ((with_reducible apply rwp_seq)) | ((with_reducible apply rthen_normal)) | ((with_reducible apply rwp_region)) | ((with_reducible apply hs_nil)) | ((with_reducible apply rwp_block)) | ((with_reducible apply hs_c); exact rfl; (repeat (first | ((with_reducible apply al_q); exact rfl))); (with_reducible apply al_nil)) | ((with_reducible apply hs_copy 0); (iterate 6 exact rfl); (first | assumption | exact rfl); exact rfl; (first | assumption | exact rfl); (first | assumption | exact rfl); exact rfl)))
  refine rwp_shape 0 (r := ⟨3, 1, v, m, inC (List.replicate 1 d) ++ Z0.drop 1⟩) rfl (fun Ad c hv1 hnc hcm hA hlen => ?_)
  have hv2 : v = .slice Ad m c := hv1
  have hu : RowSub v 1 0 m v := by rw [hv2]; exact RowSub.all 1 hnc hA
  clear hv1 hnc hcm hA hlen hv2
  refine rwp_loopL 48 (RpI d m v Z0) (m - 1) (row1 0 ⟨3, 1, v, m, inC (List.replicate 1 d) ++ Z0.drop 1⟩) _ [] ⟨1, 1, Nat.le_refl _, hm1, rfl, rfl, rfl, rfl, rfl⟩ (row1_le _ _ _) rfl ⟨rfl, rfl, trivial⟩ trivial rfl ?_
  clear M1 w1 w2 q0 q1 k1 s1
  rintro n R ts ms ⟨k, ki, hk1, hk, rfl, rfl, rfl, rfl, rfl⟩ hok
  clear hok
  by_cases hq : k < m
  · have q2 : (k : Int) < (m : Int) := by omega
    obtain ⟨x, hx⟩ : ∃ x, Nat.min k (m - k) = x := ⟨_, rfl⟩
    have hx1 : 1 ≤ x := by rw [← hx]; exact Nat.le_min.2 ⟨hk1, by omega⟩
    have hxk : x ≤ k := by rw [← hx]; exact Nat.min_le_left _ _
    have hxm : x ≤ m - k := by rw [← hx]; exact Nat.min_le_right _ _
    have m0 : m - 0 = m := Nat.sub_zero m
    have u1 := hu.sl m0 hk (Nat.zero_le _)
    have u2 := hu.slh (k := k) (by omega)
    rw [Nat.zero_add] at u1 u2
    have e0 : 0 + k = k := Nat.zero_add k
    have cl : (inC (List.replicate k d) ++ Z0.drop k).all AC.closedB = true := by
      rw [List.all_append, inC_closed1, Bool.true_and]
      exact List.all_eq_true.2 fun y hy => List.all_eq_true.1 hZc y (List.mem_of_mem_drop hy)
    have s1 : splice (inC (List.replicate k d) ++ Z0.drop k) (k * 1) ((((inC (List.replicate k d) ++ Z0.drop k).drop (0 * 1)).take (k * 1)).take (x * 1)) = inC (List.replicate (k + x) d) ++ Z0.drop (k + x) := by
      have lk : (inC (List.replicate k d)).length = k * 1 := by simp [inC]
      rw [Nat.zero_mul, List.drop_zero, ← lk, List.take_left, splice_fill rfl]
      have e3 : (inC (List.replicate k d)).take (x * 1) = inC (List.replicate x d) := by
        simp only [inC, List.map_replicate, Nat.mul_one, List.take_replicate]
        rw [Nat.min_eq_left hxk]
      rw [e3, List.drop_drop, ← inC_append, List.replicate_append_replicate, show (inC (List.replicate x d)).length = x by simp [inC]]
    have w1 : IntKind.i64.wrap ((k : Int) + (x : Int)) = (k : Int) + (x : Int) := i64_wrap (by omega)
    (repeat (first | ((with_reducible apply hs_nilS); kernel_rfl) | ((with_reducible apply rwp_draw (id := 9) [0,1,2,3,4,5,6,7,8,9]); kernel_rfl; kernel_rfl; exact rfl) | ((with_reducible apply rwp_seq)) | ((with_reducible apply rthen_normal)) | ((with_reducible apply rwp_region)) | ((with_reducible apply hs_nil)) | ((with_reducible apply rwp_skip)) | ((with_reducible apply rwp_block)) | ((with_reducible apply rblock_normal)) | ((with_reducible apply rwp_cond_1); exact rfl; (first | assumption | exact decide_eq_true (by omega) | (simp only [Bool.not_eq_true', decide_eq_false_iff_not, decide_eq_true_eq, Bool.not_eq_false']; (first | done | omega)) | exact rfl)) | ((with_reducible apply hs_c); exact rfl; (repeat (first | ((with_reducible apply al_q); exact rfl) | ((with_reducible apply al_add); (iterate 3 exact rfl); (first | exact i64_wrap (by omega) | assumption | rfl); exact rfl) | ((with_reducible apply al_slU); (iterate 3 exact rfl); assumption; (first | assumption | exact rfl); (first | assumption | omega); exact rfl) | ((with_reducible apply al_slUh); (iterate 3 exact rfl); assumption; (first | assumption | exact rfl); (first | assumption | omega); exact rfl))); (with_reducible apply al_nil)) | ((with_reducible apply hs_len 0); (iterate 4 exact rfl); kernel_rfl; exact rfl) | ((with_reducible apply hs_copyW 0); (iterate 3 exact rfl); assumption; exact rfl; assumption; assumption; assumption; exact rfl; exact rfl; (first | assumption | omega); (first | exact Nat.le_refl _ | assumption); (first | assumption | exact rfl); exact rfl; assumption; assumption; exact rfl)))
    exact ⟨m - (k + x), _, _, [], by omega, ⟨k + x, (k : Int) + (x : Int), by omega, by omega, rfl, by omega, rfl, rfl, rfl⟩, row1_le _ _ _, rfl, ⟨rfl, rfl, trivial⟩, trivial, rfl⟩
  · have q2 : ¬ (k : Int) < (m : Int) := by omega
    have e0 : inC (List.replicate k d) ++ Z0.drop k = inC (List.replicate m d) := by
      rw [show k = m by omega, List.drop_of_length_le (by omega), List.append_nil]
    rw [e0]
    refine rwp_cool 0 7 ⟨3, 1, v, m, inC (List.replicate m d)⟩ rfl rfl ?_
    have el : vS 1 m (inC (List.replicate m d)) = vIn (List.replicate m d) := by
      show vS 1 m _ = vS 1 (List.replicate m d).length _
      rw [List.length_replicate]
    rw [← el]
    (repeat (first | ((with_reducible apply rwp_seq)) | ((with_reducible apply rthen_normal)) | ((with_reducible apply rwp_region)) | ((with_reducible apply hs_nil)) | ((with_reducible apply rwp_ret)) | ((with_reducible apply rblock_same)) | ((with_reducible apply rwp_exit)) | ((with_reducible apply rthen_exit)) | ((with_reducible apply rwp_cond_0); exact rfl; (first | assumption | exact decide_eq_false (by omega) | (simp only [Bool.not_eq_true', decide_eq_false_iff_not, decide_eq_true_eq, Bool.not_eq_false']; (first | done | omega)) | exact rfl)) | ((with_reducible apply hs_c); exact rfl; (repeat (first | ((with_reducible apply al_q); exact rfl) | ((with_reducible apply al_len); (iterate 3 exact rfl)))); (with_reducible apply al_nil))))
    (first | (refine apost_ret rfl (resl_tmp rfl resl_nil) ?_))
    exact AV.Le.refl _
end Go.Proofs.Ytlglajaonmpljaa

namespace Go.Proofs.Ytlglajaonmpljaa
open Go.RowKit
set_option linter.unusedVariables false
set_option linter.unusedSimpArgs false
set_option maxRecDepth 100000 in
set_option maxHeartbeats 8000000 in
theorem p_insteadP {V l : List Px} {f t : Int} (hf : 0 ≤ f ∧ f ≤ V.length) (ht : 0 ≤ t ∧ t ≤ V.length) (hV : V.length ≤ 10000) (hl : l.length ≤ 10000) : PCall Try.prog 37 [vIt V, vI f, vI t, vIt l] (vIt (V.take f.toNat ++ l ++ V.drop t.toNat)) := by
  have J := p_joinedP (LL := [V.take f.toNat, l, V.drop t.toNat]) (by show 3 ≤ 1000; decide) (by simp [List.length_append]; omega)
  have e0 : [V.take f.toNat, l, V.drop t.toNat].flatten = V.take f.toNat ++ l ++ V.drop t.toNat := by simp
  rw [e0] at J
  replace J : PCall Try.prog 43 [vS 1 3 [.p (SlP 2 (V.take f.toNat).length (itC (V.take f.toNat))), .p (SlP 2 l.length (itC l)), .p (SlP 2 (V.drop t.toNat).length (itC (V.drop t.toNat)))]] (vIt (V.take f.toNat ++ l ++ V.drop t.toNat)) := J
  have a1 : 0 ≤ f := hf.1
  have a2 : f ≤ f := Int.le_refl f
  have a3 : f ≤ V.length := hf.2
  have a4 : 0 ≤ t := ht.1
  have a5 : t ≤ V.length := ht.2
  have a6 : (V.length : Int) ≤ V.length := Int.le_refl _
  have m1 : f.toNat - 0 = (V.take f.toNat).length := by rw [List.length_take]; omega
  have e1 : ((itC V).drop (0 * 2)).take ((V.take f.toNat).length * 2) = itC (V.take f.toNat) := by
    have h : itC V = itC (V.take f.toNat) ++ itC (V.drop f.toNat) := by rw [← itC_append, List.take_append_drop]
    rw [h, Nat.zero_mul, List.drop_zero, ← itC_len, List.take_left]
  have m2 : (V.length : Int).toNat - t.toNat = (V.drop t.toNat).length := by rw [List.length_drop]; omega
  have e2 : ((itC V).drop (t.toNat * 2)).take ((V.drop t.toNat).length * 2) = itC (V.drop t.toNat) := by
    have h : itC V = itC (V.take t.toNat) ++ itC (V.drop t.toNat) := by rw [← itC_append, List.take_append_drop]
    rw [h, show t.toNat * 2 = (itC (V.take t.toNat)).length by rw [itC_len, List.length_take]; omega, List.drop_left, itC_takeN rfl]
  refine pcall_body (f := 37) Try.func37 rfl rfl rfl rfl ?_
  (repeat (first | ((with_reducible apply al_q); exact rfl) | ((with_reducible apply al_len); (iterate 3 exact rfl)) | ((with_reducible apply al_sl_hm); (iterate 4 exact rfl); (first | assumption | omega); (first | assumption | omega); (first | assumption | omega); (first | assumption | rfl); (first | assumption | rfl); exact rfl) | ((with_reducible apply al_sl_lhm); (iterate 5 exact rfl); (first | assumption | omega); (first | assumption | omega); (first | assumption | omega); (first | assumption | omega); (first | assumption | rfl); (first | assumption | rfl); exact rfl) | ((with_reducible apply al_bslice); (iterate 10 exact rfl)) | (refine al_call1 rfl rfl rfl (by (first | exact J)) rfl ?_) | ((with_reducible apply al_nilS); kernel_rfl) | ((with_reducible apply awp_region_draw); kernel_rfl; kernel_rfl; exact rfl) | ((with_reducible apply awp_seq)) | ((with_reducible apply athen_normal)) | ((with_reducible apply awp_region)) | ((with_reducible apply al_nil)) | ((with_reducible apply awp_ret))))
  (first | (refine apost_ret rfl (resl_tmp rfl resl_nil) ?_))
  exact AV.Le.refl _
set_option maxRecDepth 100000 in
set_option maxHeartbeats 8000000 in
theorem p_insteadI {V l : List Int} {f t : Int} (hf : 0 ≤ f ∧ f ≤ V.length) (ht : 0 ≤ t ∧ t ≤ V.length) (hV : V.length ≤ 10000) (hl : l.length ≤ 10000) : PCall Try.prog 38 [vIn V, vI f, vI t, vIn l] (vIn (V.take f.toNat ++ l ++ V.drop t.toNat)) := by
  have J := p_joinedI (LL := [V.take f.toNat, l, V.drop t.toNat]) (by show 3 ≤ 1000; decide) (by simp [List.length_append]; omega)
  have e0 : [V.take f.toNat, l, V.drop t.toNat].flatten = V.take f.toNat ++ l ++ V.drop t.toNat := by simp
  rw [e0] at J
  replace J : PCall Try.prog 44 [vS 1 3 [.p (SlP 1 (V.take f.toNat).length (inC (V.take f.toNat))), .p (SlP 1 l.length (inC l)), .p (SlP 1 (V.drop t.toNat).length (inC (V.drop t.toNat)))]] (vIn (V.take f.toNat ++ l ++ V.drop t.toNat)) := J
  have a1 : 0 ≤ f := hf.1
  have a2 : f ≤ f := Int.le_refl f
  have a3 : f ≤ V.length := hf.2
  have a4 : 0 ≤ t := ht.1
  have a5 : t ≤ V.length := ht.2
  have a6 : (V.length : Int) ≤ V.length := Int.le_refl _
  have m1 : f.toNat - 0 = (V.take f.toNat).length := by rw [List.length_take]; omega
  have e1 : ((inC V).drop (0 * 1)).take ((V.take f.toNat).length * 1) = inC (V.take f.toNat) := by
    have h : inC V = inC (V.take f.toNat) ++ inC (V.drop f.toNat) := by rw [← inC_append, List.take_append_drop]
    rw [h, Nat.zero_mul, List.drop_zero, ← inC_len1, List.take_left]
  have m2 : (V.length : Int).toNat - t.toNat = (V.drop t.toNat).length := by rw [List.length_drop]; omega
  have e2 : ((inC V).drop (t.toNat * 1)).take ((V.drop t.toNat).length * 1) = inC (V.drop t.toNat) := by
    have h : inC V = inC (V.take t.toNat) ++ inC (V.drop t.toNat) := by rw [← inC_append, List.take_append_drop]
    rw [h, show t.toNat * 1 = (inC (V.take t.toNat)).length by rw [inC_len1, List.length_take]; omega, List.drop_left, inC_takeN rfl]
  refine pcall_body (f := 38) Try.func38 rfl rfl rfl rfl ?_
  (repeat (first | ((with_reducible apply al_q); exact rfl) | ((with_reducible apply al_len); (iterate 3 exact rfl)) | ((with_reducible apply al_sl_hm); (iterate 4 exact rfl); (first | assumption | omega); (first | assumption | omega); (first | assumption | omega); (first | assumption | rfl); (first | assumption | rfl); exact rfl) | ((with_reducible apply al_sl_lhm); (iterate 5 exact rfl); (first | assumption | omega); (first | assumption | omega); (first | assumption | omega); (first | assumption | omega); (first | assumption | rfl); (first | assumption | rfl); exact rfl) | ((with_reducible apply al_bslice); (iterate 10 exact rfl)) | (refine al_call1 rfl rfl rfl (by (first | exact J)) rfl ?_) | ((with_reducible apply al_nilS); kernel_rfl) | ((with_reducible apply awp_region_draw); kernel_rfl; kernel_rfl; exact rfl) | ((with_reducible apply awp_seq)) | ((with_reducible apply athen_normal)) | ((with_reducible apply awp_region)) | ((with_reducible apply al_nil)) | ((with_reducible apply awp_ret))))
  (first | (refine apost_ret rfl (resl_tmp rfl resl_nil) ?_))
  exact AV.Le.refl _
set_option maxRecDepth 100000 in
set_option maxHeartbeats 8000000 in
theorem k_Clone10 : CClone10 := by
  intro V D hb hd
  have J1 := p_joinedP (LL := [V]) (by show 1 ≤ 1000; decide) (by simp; omega)
  have J2 := p_joinedI (LL := [D]) (by show 1 ≤ 1000; decide) (by simp; omega)
  rw [show [V].flatten = V by simp] at J1
  rw [show [D].flatten = D by simp] at J2
  replace J1 : PCall Try.prog 43 [vS 1 1 [.p (SlP 2 V.length (itC V))]] (vIt V) := J1
  replace J2 : PCall Try.prog 44 [vS 1 1 [.p (SlP 1 D.length (inC D))]] (vIn D) := J2
  refine pcall_body (f := 19) Try.func19 rfl rfl rfl rfl ?_
  (repeat (first | ((with_reducible apply al_q); exact rfl) | ((with_reducible apply al_bslice); (iterate 10 exact rfl)) | (refine al_call1 rfl rfl rfl (by (first | exact J1 | exact J2)) rfl ?_) | ((with_reducible apply al_nilS); kernel_rfl) | ((with_reducible apply awp_region_draw); kernel_rfl; kernel_rfl; exact rfl) | ((with_reducible apply awp_seq)) | ((with_reducible apply athen_normal)) | ((with_reducible apply awp_region)) | ((with_reducible apply al_nil)) | ((with_reducible apply awp_ret))))
  (first | (refine apost_ret rfl (resl_agg rfl rfl rfl resl_nil) ?_) | (refine apost_ret rfl (resl_one rfl rfl rfl resl_nil) ?_))
  exact AV.Le.refl _
theorem tup_le {xs ys : List AW} (hl : xs.length = ys.length) (h : ∀ (i : Nat) x y, xs[i]? = some x → ys[i]? = some y → AV.Le (.w x) (.w y)) : AV.Le (.tup xs) (.tup ys) := fun U ρ W v hv => by
  obtain ⟨vs, e, hn, hh⟩ := hv
  exact ⟨vs, e, by rw [← hl]; exact hn, fun i y u hy hu => by
    have hi : i < xs.length := by rw [hl]; exact (List.getElem?_eq_some_iff.1 hy).1
    exact h i _ y (List.getElem?_eq_getElem hi) hy U ρ W u (hh i _ u (List.getElem?_eq_getElem hi) hu)⟩
theorem fls_le : AV.Le (.tup [.agg [.c (.slice none 0 0), .c (.slice none 0 0)], .one (.c (.bool false))]) (.tup [.agg (mCh [] []), .one (.c (.bool false))]) := tup_le rfl fun i x y hx hy => by
  match i with
  | 0 => cases hx; cases hy; exact ch0_le
  | 1 => cases hx; cases hy; exact AV.Le.refl _
  | i + 2 => simp at hx
set_option maxRecDepth 100000 in
set_option maxHeartbeats 8000000 in
theorem split_none {V l : List Px} {D : List Int} {j : Nat} (hb : V.length ≤ 1000) (hd : D.length ≤ 1000) (hj : j ≤ 1000)
    (cs : (j : Int) ≥ D.length ∨ (¬ (j : Int) ≥ D.length ∧ (j : Int) ≥ (V.length : Int) - 1) ∨ (¬ (j : Int) ≥ D.length ∧ ¬ (j : Int) ≥ (V.length : Int) - 1 ∧ (l.length : Int) = 0)) : PCall Try.prog 15 [vCh V D, vI j, vIt l] (.tup [.agg (mCh [] []), .one (.c (.bool false))]) := by
  have q0 : ¬ (j : Int) < 0 := by omega
  generalize (j : Int) = jj at *
  rcases cs with q1 | ⟨q1, q2⟩ | ⟨q1, q2, q3⟩
  all_goals
    refine pcall_body (f := 15) Try.func15 rfl rfl rfl rfl ?_
    (repeat (first | ((with_reducible apply al_q); exact rfl) | ((with_reducible apply al_sub); (iterate 3 exact rfl); (first | exact i64_wrap (by omega) | assumption | rfl); exact rfl) | ((with_reducible apply al_len); (iterate 3 exact rfl)) | ((with_reducible apply al_guard_b (c := true)); exact rfl; exact rfl; (first | assumption | exact decide_eq_true (by omega) | (simp only [Bool.not_eq_true', decide_eq_false_iff_not, decide_eq_true_eq, Bool.not_eq_false']; (first | done | omega)))) | ((with_reducible apply al_guard_b (c := false)); exact rfl; exact rfl; (first | assumption | exact decide_eq_false (by omega) | (simp only [Bool.not_eq_true', decide_eq_false_iff_not, decide_eq_true_eq, Bool.not_eq_false']; (first | done | omega)))) | ((with_reducible apply awp_seq)) | ((with_reducible apply athen_normal)) | ((with_reducible apply awp_region)) | ((with_reducible apply al_nil)) | ((with_reducible apply awp_ret)) | ((with_reducible apply athen_ret)) | ((with_reducible apply awp_cond_t); exact rfl) | ((with_reducible apply awp_cond_1); exact rfl; (first | assumption | exact decide_eq_true (by omega) | (simp only [Bool.not_eq_true', decide_eq_false_iff_not, decide_eq_true_eq, Bool.not_eq_false']; (first | done | omega))))))
    (first | (refine apost_ret rfl (resl_agg rfl rfl rfl (resl_tmp rfl resl_nil)) ?_) | (refine apost_ret rfl (resl_one rfl rfl rfl (resl_tmp rfl resl_nil)) ?_))
    exact fls_le
set_option maxRecDepth 100000 in
set_option maxHeartbeats 8000000 in
theorem split_yes {V l : List Px} {D : List Int} {j : Nat} {jj dj : Int} (hjj : jj = j) (hdj : D[j]? = some dj) (hd0 : 1 ≤ dj ∧ dj ≤ 1048576) (hl : 0 < l.length) (hD : V.length = D.length + 1) (hb : V.length ≤ 1000) (hbl : l.length ≤ 100) : PCall Try.prog 15 [vCh V D, vI jj, vIt l] (.tup [.agg (mCh (spV V j l) (spD D j l.length)), .one (.c (.bool true))]) := by
  have hjD : j < D.length := (List.getElem?_eq_some_iff.1 hdj).1
  have q0 : ¬ jj < 0 := by omega
  have q1 : ¬ jj ≥ D.length := by omega
  have q2 : ¬ jj ≥ (V.length : Int) - 1 := by omega
  have q3 : ¬ (l.length : Int) = 0 := by omega
  have q4 : jj < (D.length : Int) := by omega
  have E1 := inC_at hjj hdj
  have P1 := p_Repeat1 (d := dj + 1) (m := l.length + 1) (by omega) (by omega)
  have P2 := p_insteadP (V := V) (l := l) (f := jj + 1) (t := jj + 1) (by omega) (by omega) (by omega) (by omega)
  have P3 := p_insteadI (V := D) (l := List.replicate (l.length + 1) (dj + 1)) (f := jj) (t := jj + 1) (by omega) (by omega) (by omega) (by rw [List.length_replicate]; omega)
  have e1 : (jj + 1).toNat = j + 1 := by omega
  have e2 : jj.toNat = j := by omega
  have e3 : D.getD j 0 = dj := by simp [List.getD, hdj]
  have e4 : D.take j ++ List.replicate (l.length + 1) (dj + 1) ++ D.drop (j + 1) = spD D j l.length := by unfold spD; rw [e3]
  have e5 : V.take (j + 1) ++ l ++ V.drop (j + 1) = spV V j l := rfl
  rw [e1, e5] at P2
  rw [e1, e2, e4] at P3
  have e6 : (((l.length + 1 : Nat) : Int)) = (l.length : Int) + 1 := by omega
  rw [e6] at P1
  clear e1 e2 e3 e4 e5 e6
  generalize spV V j l = V' at *
  generalize spD D j l.length = D' at *
  generalize List.replicate (l.length + 1) (dj + 1) = T at *
  refine pcall_body (f := 15) Try.func15 rfl rfl rfl rfl ?_
  (repeat (first | ((with_reducible apply al_q); exact rfl) | ((with_reducible apply al_loadP1); (iterate 5 exact rfl)) | ((with_reducible apply al_idxS); (iterate 3 exact rfl); (first | decide | omega); (first | decide | omega); (first | assumption | rfl); exact rfl) | ((with_reducible apply al_add); (iterate 3 exact rfl); (first | exact i64_wrap (by omega) | assumption | rfl); exact rfl) | ((with_reducible apply al_sub); (iterate 3 exact rfl); (first | exact i64_wrap (by omega) | assumption | rfl); exact rfl) | ((with_reducible apply al_len); (iterate 3 exact rfl)) | ((with_reducible apply al_bslice); (iterate 10 exact rfl)) | (refine al_call2 rfl rfl rfl rfl (by (first | exact P1 | exact P2 | exact P3)) rfl ?_) | (refine al_call4 rfl rfl rfl rfl rfl rfl (by (first | exact P1 | exact P2 | exact P3)) rfl ?_) | ((with_reducible apply al_guard_b (c := false)); exact rfl; exact rfl; (first | assumption | exact decide_eq_false (by omega) | (simp only [Bool.not_eq_true', decide_eq_false_iff_not, decide_eq_true_eq, Bool.not_eq_false']; (first | done | omega)))) | ((with_reducible apply al_nilS); kernel_rfl) | ((with_reducible apply awp_region_draw); kernel_rfl; kernel_rfl; exact rfl) | ((with_reducible apply awp_seq)) | ((with_reducible apply athen_normal)) | ((with_reducible apply awp_region)) | ((with_reducible apply al_nil)) | ((with_reducible apply awp_ret)) | ((with_reducible apply awp_skip)) | ((with_reducible apply awp_cond_0); exact rfl; (first | assumption | exact decide_eq_false (by omega) | (simp only [Bool.not_eq_true', decide_eq_false_iff_not, decide_eq_true_eq, Bool.not_eq_false']; (first | done | omega))))))
  (first | (refine apost_ret rfl (resl_agg rfl rfl rfl (resl_tmp rfl resl_nil)) ?_) | (refine apost_ret rfl (resl_one rfl rfl rfl (resl_tmp rfl resl_nil)) ?_))
  exact AV.Le.refl _
theorem k_Split10 : CSplit10 := by
  intro V D j l hV hb hbl hj hdd
  cases hl : l with
  | nil => exact split_none (V := V) (D := D) (l := []) (j := j) (by omega) (by omega) (by omega) (.inr (.inr ⟨by omega, by omega, rfl⟩))
  | cons p m =>
    rw [← hl]
    have e : l.isEmpty = false := by rw [hl]; rfl
    rw [e]
    have hl0 : 0 < l.length := by rw [hl]; exact Nat.zero_lt_succ _
    obtain ⟨dj, hdj⟩ : ∃ dj, D[j]? = some dj := ⟨_, List.getElem?_eq_getElem hj⟩
    exact split_yes (V := V) (l := l) (D := D) (j := j) rfl hdj (hdd dj (List.mem_of_getElem? hdj)) hl0 hV hb hbl
theorem k_SplitN10 : CSplitN10 := fun V D j l hb hd hbl hj hjb => split_none hb hd hjb (.inl (by omega))
end Go.Proofs.Ytlglajaonmpljaa

namespace Go.Proofs.Ytlglajaonmpljaa
open Go.RowKit
set_option linter.unusedVariables false
set_option linter.unusedSimpArgs false
theorem ch1_le (V : List Px) : AV.Le (.w (.agg [.p (SlP 2 V.length (itC V)), .c (.slice none 0 0)])) (vCh V []) := agg_le rfl fun j x y hx hy => by
  match j with
  | 0 => cases hx; cases hy; exact .inl rfl
  | 1 => cases hx; cases hy; exact .inr ⟨rfl, 1, rfl⟩
  | j + 2 => simp at hx
set_option maxRecDepth 100000 in
set_option maxHeartbeats 8000000 in
theorem k_New10 : CNew10 := by
  intro x y z w
  cases hq : eqP x y z w with
  | true =>
    obtain ⟨rfl, rfl⟩ := eqP_iff.1 hq
    rw [show newV (x, y) (x, y) = [(x, y)] from if_pos rfl, show newD (x, y) (x, y) = [] from if_pos rfl]
    refine pcall_body (f := 11) Try.func11 rfl rfl rfl rfl ?_
    (repeat (first | ((with_reducible apply al_q); exact rfl) | ((with_reducible apply al_eqP); (iterate 4 exact rfl)) | ((with_reducible apply al_bslice); (iterate 10 exact rfl)) | ((with_reducible apply awp_seq)) | ((with_reducible apply athen_normal)) | ((with_reducible apply awp_region)) | ((with_reducible apply al_nil)) | ((with_reducible apply awp_ret)) | ((with_reducible apply athen_ret)) | ((with_reducible apply awp_cond_1); exact rfl; (first | assumption | exact decide_eq_true (by omega) | (simp only [Bool.not_eq_true', decide_eq_false_iff_not, decide_eq_true_eq, Bool.not_eq_false']; (first | done | omega))))))
    (first | (refine apost_ret rfl (resl_agg rfl rfl rfl resl_nil) ?_) | (refine apost_ret rfl (resl_one rfl rfl rfl resl_nil) ?_))
    exact ch1_le [(x, y)]
  | false =>
    have hn : ¬ ((x, y) : Px) = (z, w) := fun e => by
      have := eqP_iff.2 (⟨congrArg Prod.fst e, congrArg Prod.snd e⟩ : x = z ∧ y = w)
      rw [hq] at this; cases this
    rw [show newV (x, y) (z, w) = [(x, y), (z, w)] from if_neg hn, show newD (x, y) (z, w) = [1] from if_neg hn]
    refine pcall_body (f := 11) Try.func11 rfl rfl rfl rfl ?_
    (repeat (first | ((with_reducible apply al_q); exact rfl) | ((with_reducible apply al_eqP); (iterate 4 exact rfl)) | ((with_reducible apply al_bslice); (iterate 10 exact rfl)) | ((with_reducible apply awp_seq)) | ((with_reducible apply athen_normal)) | ((with_reducible apply awp_region)) | ((with_reducible apply al_nil)) | ((with_reducible apply awp_ret)) | ((with_reducible apply awp_skip)) | ((with_reducible apply awp_cond_0); exact rfl; (first | assumption | exact decide_eq_false (by omega) | (simp only [Bool.not_eq_true', decide_eq_false_iff_not, decide_eq_true_eq, Bool.not_eq_false']; (first | done | omega))))))
    (first | (refine apost_ret rfl (resl_agg rfl rfl rfl resl_nil) ?_) | (refine apost_ret rfl (resl_one rfl rfl rfl resl_nil) ?_))
    exact AV.Le.refl _
def DpI (V : List Px) (D : List Int) (n : Nat) (ts : List (Nat × AV)) (ms : List (Nat × List AC)) : Prop :=
  ∃ (k : Nat) (ki d : Int), k ≤ D.length ∧ n = D.length - k ∧ ki = k ∧ d = dptD (D.take k) ∧ ms = [(1, mCh V D)] ∧ ts = [(1, vOw 1), (3, vI d), (7, vS 1 D.length (inC D)), (8, vI D.length), (9, vI ki)]
theorem dptD_one {D : List Int} {k : Nat} {d : Int} (h : D[k]? = some d) : dptD (D.take (k + 1)) = max (dptD (D.take k)) d := by
  have hk := (List.getElem?_eq_some_iff.1 h).1
  have e : D.take (k + 1) = D.take k ++ [d] := by
    rw [List.take_succ_eq_append_getElem hk, (List.getElem?_eq_some_iff.1 h).2]
  unfold dptD
  rw [e, List.foldl_append]; rfl
set_option maxRecDepth 100000 in
set_option maxHeartbeats 8000000 in
theorem k_Depth10 : CDepth10 := by
  intro V D hb hd
  refine pcall_body (f := 17) Try.func17 rfl rfl rfl rfl ?_
  (repeat (first | ((with_reducible apply al_q); exact rfl) | ((with_reducible apply al_len); (iterate 3 exact rfl)) | ((with_reducible apply awp_seq)) | ((with_reducible apply athen_normal)) | ((with_reducible apply awp_region)) | ((with_reducible apply al_nil)) | ((with_reducible apply awp_block))))
  refine awp_loopL 18 (DpI V D) D.length _ [(1, mCh V D)] ⟨0, 0, 0, Nat.zero_le _, rfl, rfl, rfl, rfl, rfl⟩ rfl ⟨rfl, rfl, rfl, rfl, rfl, trivial⟩ ⟨rfl, trivial⟩ rfl ?_
  rintro n ts ms ⟨k, ki, d, hk, rfl, hki, hde, rfl, rfl⟩ hok
  clear hok
  by_cases hq : k < D.length
  · have q2 : ki < (D.length : Int) := by omega
    have q3 : 0 ≤ ki := by omega
    obtain ⟨e, g1⟩ : ∃ e, D[k]? = some e := ⟨_, List.getElem?_eq_getElem hq⟩
    have E1 := inC_at hki g1
    have ht := dptD_one g1
    rw [← hde, show max d e = if e > d then e else d by split <;> omega] at ht
    (repeat (first | ((with_reducible apply al_q); exact rfl) | ((with_reducible apply al_loadP1); (iterate 5 exact rfl)) | ((with_reducible apply al_idxS); (iterate 3 exact rfl); (first | decide | omega); (first | decide | omega); (first | assumption | rfl); exact rfl) | ((with_reducible apply al_add); (iterate 3 exact rfl); (first | exact i64_wrap (by omega) | assumption | rfl); exact rfl) | ((with_reducible apply al_max); (iterate 4 exact rfl)) | ((with_reducible apply awp_seq)) | ((with_reducible apply athen_normal)) | ((with_reducible apply awp_region)) | ((with_reducible apply al_nil)) | ((with_reducible apply awp_skip)) | ((with_reducible apply awp_block)) | ((with_reducible apply ablock_normal)) | ((with_reducible apply awp_cond_1); exact rfl; (first | assumption | exact decide_eq_true (by omega) | (simp only [Bool.not_eq_true', decide_eq_false_iff_not, decide_eq_true_eq, Bool.not_eq_false']; (first | done | omega))))))
    exact ⟨D.length - (k + 1), _, [(1, mCh V D)], by omega, ⟨k + 1, ki + 1, _, by omega, rfl, by omega, ht.symm, rfl, rfl⟩, rfl, ⟨rfl, rfl, rfl, rfl, rfl, trivial⟩, ⟨rfl, trivial⟩, rfl⟩
  · have q2 : ¬ ki < (D.length : Int) := by omega
    have e0 : D.take k = D := List.take_of_length_le (by omega)
    rw [e0] at hde
    rw [← hde]
    (repeat (first | ((with_reducible apply al_q); exact rfl) | ((with_reducible apply awp_seq)) | ((with_reducible apply athen_normal)) | ((with_reducible apply awp_region)) | ((with_reducible apply al_nil)) | ((with_reducible apply awp_ret)) | ((with_reducible apply ablock_same)) | ((with_reducible apply awp_exit)) | ((with_reducible apply athen_exit)) | ((with_reducible apply awp_cond_0); exact rfl; (first | assumption | exact decide_eq_false (by omega) | (simp only [Bool.not_eq_true', decide_eq_false_iff_not, decide_eq_true_eq, Bool.not_eq_false']; (first | done | omega))))))
    (first | (refine apost_ret rfl (resl_tmp rfl resl_nil) ?_))
    exact AV.Le.refl _
theorem take_eq_step {α : Type} {D E : List α} {k : Nat} {d e : α} (h : D.take k = E.take k) (g1 : D[k]? = some d) (g2 : E[k]? = some e) : (d = e → D.take (k + 1) = E.take (k + 1)) ∧ (d ≠ e → D ≠ E) := by
  refine ⟨fun hd => ?_, fun hd hD => hd ?_⟩
  · rw [List.take_succ_eq_append_getElem (List.getElem?_eq_some_iff.1 g1).1, List.take_succ_eq_append_getElem (List.getElem?_eq_some_iff.1 g2).1, (List.getElem?_eq_some_iff.1 g1).2, (List.getElem?_eq_some_iff.1 g2).2, h, hd]
  · rw [hD, g2] at g1; exact (Option.some.inj g1).symm
def EqI (D E : List Int) (n : Nat) (ts : List (Nat × AV)) (ms : List (Nat × List AC)) : Prop :=
  ∃ (k : Nat) (ki : Int), k ≤ D.length ∧ n = D.length - k ∧ ki = k ∧ D.take k = E.take k ∧ ms = [] ∧ ts = [(0, vIn D), (1, vIn E), (12, vI D.length), (13, vI ki)]
set_option maxRecDepth 100000 in
set_option maxHeartbeats 8000000 in
theorem p_EqualI {D E : List Int} (hd : D.length ≤ 1000000) : PCall Try.prog 42 [vIn D, vIn E] (vB (decide (D = E))) := by
  by_cases hl : (D.length : Int) = E.length
  · have hln : D.length = E.length := by omega
    refine pcall_body (f := 42) Try.func42 rfl rfl rfl rfl ?_
    (repeat (first | ((with_reducible apply al_q); exact rfl) | ((with_reducible apply al_len); (iterate 3 exact rfl)) | ((with_reducible apply awp_seq)) | ((with_reducible apply athen_normal)) | ((with_reducible apply awp_region)) | ((with_reducible apply al_nil)) | ((with_reducible apply awp_skip)) | ((with_reducible apply awp_block)) | ((with_reducible apply awp_cond_0); exact rfl; (first | assumption | exact decide_eq_false (by omega) | (simp only [Bool.not_eq_true', decide_eq_false_iff_not, decide_eq_true_eq, Bool.not_eq_false']; (first | done | omega))))))
    refine awp_loopL 26 (EqI D E) D.length _ [] ⟨0, 0, Nat.zero_le _, rfl, rfl, rfl, rfl, rfl⟩ rfl ⟨rfl, rfl, rfl, rfl, trivial⟩ trivial rfl ?_
    rintro n ts ms ⟨k, ki, hk, rfl, hki, hde, rfl, rfl⟩ hok
    clear hok
    by_cases hq : k < D.length
    · have q2 : ki < (D.length : Int) := by omega
      have q3 : 0 ≤ ki := by omega
      have q4 : ki < (E.length : Int) := by omega
      obtain ⟨d, g1⟩ : ∃ d, D[k]? = some d := ⟨_, List.getElem?_eq_getElem hq⟩
      obtain ⟨e, g2⟩ : ∃ e, E[k]? = some e := ⟨_, List.getElem?_eq_getElem (by omega)⟩
      have E1 := inC_at hki g1
      have E2 := inC_at hki g2
      have st := take_eq_step hde g1 g2
      by_cases he : d = e
      · have ht := st.1 he
        (repeat (first | ((with_reducible apply al_q); exact rfl) | ((with_reducible apply al_loadP1); (iterate 5 exact rfl)) | ((with_reducible apply al_idxS); (iterate 3 exact rfl); (first | decide | omega); (first | decide | omega); (first | assumption | rfl); exact rfl) | ((with_reducible apply al_add); (iterate 3 exact rfl); (first | exact i64_wrap (by omega) | assumption | rfl); exact rfl) | ((with_reducible apply al_nilS); kernel_rfl) | ((with_reducible apply awp_region_draw); kernel_rfl; kernel_rfl; exact rfl) | ((with_reducible apply awp_seq)) | ((with_reducible apply athen_normal)) | ((with_reducible apply awp_region)) | ((with_reducible apply al_nil)) | ((with_reducible apply awp_skip)) | ((with_reducible apply awp_block)) | ((with_reducible apply ablock_normal)) | ((with_reducible apply awp_cond_1); exact rfl; (first | assumption | exact decide_eq_true (by omega) | (simp only [Bool.not_eq_true', decide_eq_false_iff_not, decide_eq_true_eq, Bool.not_eq_false']; (first | done | omega)))) | ((with_reducible apply awp_cond_0); exact rfl; (first | assumption | exact decide_eq_false (by omega) | (simp only [Bool.not_eq_true', decide_eq_false_iff_not, decide_eq_true_eq, Bool.not_eq_false']; (first | done | omega))))))
        exact ⟨D.length - (k + 1), _, [], by omega, ⟨k + 1, ki + 1, by omega, rfl, by omega, ht, rfl, rfl⟩, rfl, ⟨rfl, rfl, rfl, rfl, trivial⟩, trivial, rfl⟩
      · rw [decide_eq_false (st.2 he)]
        (repeat (first | ((with_reducible apply al_q); exact rfl) | ((with_reducible apply al_loadP1); (iterate 5 exact rfl)) | ((with_reducible apply al_idxS); (iterate 3 exact rfl); (first | decide | omega); (first | decide | omega); (first | assumption | rfl); exact rfl) | ((with_reducible apply al_nilS); kernel_rfl) | ((with_reducible apply awp_region_draw); kernel_rfl; kernel_rfl; exact rfl) | ((with_reducible apply awp_seq)) | ((with_reducible apply athen_normal)) | ((with_reducible apply awp_region)) | ((with_reducible apply al_nil)) | ((with_reducible apply awp_ret)) | ((with_reducible apply awp_skip)) | ((with_reducible apply athen_ret)) | ((with_reducible apply awp_block)) | ((with_reducible apply ablock_ret)) | ((with_reducible apply awp_cond_1); exact rfl; (first | assumption | exact decide_eq_true (by omega) | (simp only [Bool.not_eq_true', decide_eq_false_iff_not, decide_eq_true_eq, Bool.not_eq_false']; (first | done | omega))))))
        (first | (refine apost_ret rfl (resl_tmp rfl resl_nil) ?_))
        exact AV.Le.refl _
    · have q2 : ¬ ki < (D.length : Int) := by omega
      rw [List.take_of_length_le (by omega), List.take_of_length_le (by omega)] at hde
      rw [decide_eq_true hde]
      (repeat (first | ((with_reducible apply al_q); exact rfl) | ((with_reducible apply awp_seq)) | ((with_reducible apply athen_normal)) | ((with_reducible apply awp_region)) | ((with_reducible apply al_nil)) | ((with_reducible apply awp_ret)) | ((with_reducible apply ablock_same)) | ((with_reducible apply awp_exit)) | ((with_reducible apply athen_exit)) | ((with_reducible apply awp_cond_0); exact rfl; (first | assumption | exact decide_eq_false (by omega) | (simp only [Bool.not_eq_true', decide_eq_false_iff_not, decide_eq_true_eq, Bool.not_eq_false']; (first | done | omega))))))
      (first | (refine apost_ret rfl (resl_tmp rfl resl_nil) ?_))
      exact AV.Le.refl _
  · rw [decide_eq_false (show ¬ D = E from fun e => hl (by rw [e]))]
    refine pcall_body (f := 42) Try.func42 rfl rfl rfl rfl ?_
    (repeat (first | ((with_reducible apply al_q); exact rfl) | ((with_reducible apply al_len); (iterate 3 exact rfl)) | ((with_reducible apply awp_seq)) | ((with_reducible apply athen_normal)) | ((with_reducible apply awp_region)) | ((with_reducible apply al_nil)) | ((with_reducible apply awp_ret)) | ((with_reducible apply athen_ret)) | ((with_reducible apply awp_cond_1); exact rfl; (first | assumption | exact decide_eq_true (by omega) | (simp only [Bool.not_eq_true', decide_eq_false_iff_not, decide_eq_true_eq, Bool.not_eq_false']; (first | done | omega))))))
    (first | (refine apost_ret rfl (resl_tmp rfl resl_nil) ?_))
    exact AV.Le.refl _
def EqP10 (D E : List Px) (n : Nat) (ts : List (Nat × AV)) (ms : List (Nat × List AC)) : Prop :=
  ∃ (k : Nat) (ki : Int), k ≤ D.length ∧ n = D.length - k ∧ ki = k ∧ D.take k = E.take k ∧ ms = [] ∧ ts = [(0, vIt D), (1, vIt E), (12, vI D.length), (13, vI ki)]
set_option maxRecDepth 100000 in
set_option maxHeartbeats 8000000 in
theorem p_EqualP {D E : List Px} (hd : D.length ≤ 1000000) : PCall Try.prog 41 [vIt D, vIt E] (vB (decide (D = E))) := by
  by_cases hl : (D.length : Int) = E.length
  · have hln : D.length = E.length := by omega
    refine pcall_body (f := 41) Try.func41 rfl rfl rfl rfl ?_
    (repeat (first | ((with_reducible apply al_q); exact rfl) | ((with_reducible apply al_len); (iterate 3 exact rfl)) | ((with_reducible apply awp_seq)) | ((with_reducible apply athen_normal)) | ((with_reducible apply awp_region)) | ((with_reducible apply al_nil)) | ((with_reducible apply awp_skip)) | ((with_reducible apply awp_block)) | ((with_reducible apply awp_cond_0); exact rfl; (first | assumption | exact decide_eq_false (by omega) | (simp only [Bool.not_eq_true', decide_eq_false_iff_not, decide_eq_true_eq, Bool.not_eq_false']; (first | done | omega))))))
    refine awp_loopL 26 (EqP10 D E) D.length _ [] ⟨0, 0, Nat.zero_le _, rfl, rfl, rfl, rfl, rfl⟩ rfl ⟨rfl, rfl, rfl, rfl, trivial⟩ trivial rfl ?_
    rintro n ts ms ⟨k, ki, hk, rfl, hki, hde, rfl, rfl⟩ hok
    clear hok
    by_cases hq : k < D.length
    · have q2 : ki < (D.length : Int) := by omega
      have q3 : 0 ≤ ki := by omega
      have q4 : ki < (E.length : Int) := by omega
      obtain ⟨x, y, g1⟩ : ∃ x y, D[k]? = some (x, y) := ⟨_, _, List.getElem?_eq_getElem hq⟩
      obtain ⟨z, w, g2⟩ : ∃ z w, E[k]? = some (z, w) := ⟨_, _, List.getElem?_eq_getElem (by omega)⟩
      have E1 := itC_xy hki g1
      have E2 := itC_xy hki g2
      have st := take_eq_step hde g1 g2
      cases he : eqP x y z w with
      | true =>
        have ht := st.1 (by obtain ⟨rfl, rfl⟩ := eqP_iff.1 he; rfl)
        (repeat (first | ((with_reducible apply al_q); exact rfl) | ((with_reducible apply al_loadPN); (iterate 5 exact rfl)) | ((with_reducible apply al_idxS); (iterate 3 exact rfl); (first | decide | omega); (first | decide | omega); (first | assumption | rfl); exact rfl) | ((with_reducible apply al_neqP); (iterate 4 exact rfl)) | ((with_reducible apply al_add); (iterate 3 exact rfl); (first | exact i64_wrap (by omega) | assumption | rfl); exact rfl) | ((with_reducible apply al_nilS); kernel_rfl) | ((with_reducible apply awp_region_draw); kernel_rfl; kernel_rfl; exact rfl) | ((with_reducible apply awp_seq)) | ((with_reducible apply athen_normal)) | ((with_reducible apply awp_region)) | ((with_reducible apply al_nil)) | ((with_reducible apply awp_skip)) | ((with_reducible apply awp_block)) | ((with_reducible apply ablock_normal)) | ((with_reducible apply awp_cond_1); exact rfl; (first | assumption | exact decide_eq_true (by omega) | (simp only [Bool.not_eq_true', decide_eq_false_iff_not, decide_eq_true_eq, Bool.not_eq_false']; (first | done | omega)))) | ((with_reducible apply awp_cond_0); exact rfl; (first | assumption | exact decide_eq_false (by omega) | (simp only [Bool.not_eq_true', decide_eq_false_iff_not, decide_eq_true_eq, Bool.not_eq_false']; (first | done | omega))))))
        exact ⟨D.length - (k + 1), _, [], by omega, ⟨k + 1, ki + 1, by omega, rfl, by omega, ht, rfl, rfl⟩, rfl, ⟨rfl, rfl, rfl, rfl, trivial⟩, trivial, rfl⟩
      | false =>
        rw [decide_eq_false (st.2 fun e => by
          have := eqP_iff.2 (⟨congrArg Prod.fst e, congrArg Prod.snd e⟩ : x = z ∧ y = w)
          rw [he] at this; cases this)]
        (repeat (first | ((with_reducible apply al_q); exact rfl) | ((with_reducible apply al_loadPN); (iterate 5 exact rfl)) | ((with_reducible apply al_idxS); (iterate 3 exact rfl); (first | decide | omega); (first | decide | omega); (first | assumption | rfl); exact rfl) | ((with_reducible apply al_neqP); (iterate 4 exact rfl)) | ((with_reducible apply al_nilS); kernel_rfl) | ((with_reducible apply awp_region_draw); kernel_rfl; kernel_rfl; exact rfl) | ((with_reducible apply awp_seq)) | ((with_reducible apply athen_normal)) | ((with_reducible apply awp_region)) | ((with_reducible apply al_nil)) | ((with_reducible apply awp_ret)) | ((with_reducible apply awp_skip)) | ((with_reducible apply athen_ret)) | ((with_reducible apply awp_block)) | ((with_reducible apply ablock_ret)) | ((with_reducible apply awp_cond_1); exact rfl; (first | assumption | exact decide_eq_true (by omega) | (simp only [Bool.not_eq_true', decide_eq_false_iff_not, decide_eq_true_eq, Bool.not_eq_false']; (first | done | omega))))))
        (first | (refine apost_ret rfl (resl_tmp rfl resl_nil) ?_))
        exact AV.Le.refl _
    · have q2 : ¬ ki < (D.length : Int) := by omega
      rw [List.take_of_length_le (by omega), List.take_of_length_le (by omega)] at hde
      rw [decide_eq_true hde]
      (repeat (first | ((with_reducible apply al_q); exact rfl) | ((with_reducible apply awp_seq)) | ((with_reducible apply athen_normal)) | ((with_reducible apply awp_region)) | ((with_reducible apply al_nil)) | ((with_reducible apply awp_ret)) | ((with_reducible apply ablock_same)) | ((with_reducible apply awp_exit)) | ((with_reducible apply athen_exit)) | ((with_reducible apply awp_cond_0); exact rfl; (first | assumption | exact decide_eq_false (by omega) | (simp only [Bool.not_eq_true', decide_eq_false_iff_not, decide_eq_true_eq, Bool.not_eq_false']; (first | done | omega))))))
      (first | (refine apost_ret rfl (resl_tmp rfl resl_nil) ?_))
      exact AV.Le.refl _
  · rw [decide_eq_false (show ¬ D = E from fun e => hl (by rw [e]))]
    refine pcall_body (f := 41) Try.func41 rfl rfl rfl rfl ?_
    (repeat (first | ((with_reducible apply al_q); exact rfl) | ((with_reducible apply al_len); (iterate 3 exact rfl)) | ((with_reducible apply awp_seq)) | ((with_reducible apply athen_normal)) | ((with_reducible apply awp_region)) | ((with_reducible apply al_nil)) | ((with_reducible apply awp_ret)) | ((with_reducible apply athen_ret)) | ((with_reducible apply awp_cond_1); exact rfl; (first | assumption | exact decide_eq_true (by omega) | (simp only [Bool.not_eq_true', decide_eq_false_iff_not, decide_eq_true_eq, Bool.not_eq_false']; (first | done | omega))))))
    (first | (refine apost_ret rfl (resl_tmp rfl resl_nil) ?_))
    exact AV.Le.refl _
set_option maxRecDepth 100000 in
set_option maxHeartbeats 8000000 in
theorem k_Same10 : CSame10 := by
  intro V W D E h1 h2 h3 h4
  have C1 := p_EqualP (D := V) (E := W) (by omega)
  have C2 := p_EqualI (D := D) (E := E) (by omega)
  generalize decide (V = W) = p1 at *
  generalize decide (D = E) = p2 at *
  cases p1 with
  | false =>
    refine pcall_body (f := 18) Try.func18 rfl rfl rfl rfl ?_
    (repeat (first | ((with_reducible apply al_q); exact rfl) | (refine al_call2 rfl rfl rfl rfl (by (first | exact C1 | exact C2)) rfl ?_) | ((with_reducible apply awp_seq)) | ((with_reducible apply athen_normal)) | ((with_reducible apply awp_region)) | ((with_reducible apply al_nil)) | ((with_reducible apply awp_ret))))
    (first | (refine apost_ret rfl (resl_tmp rfl resl_nil) ?_))
    exact AV.Le.refl _
  | true =>
    refine pcall_body (f := 18) Try.func18 rfl rfl rfl rfl ?_
    (repeat (first | ((with_reducible apply al_q); exact rfl) | (refine al_call2 rfl rfl rfl rfl (by (first | exact C1 | exact C2)) rfl ?_) | ((with_reducible apply awp_seq)) | ((with_reducible apply athen_normal)) | ((with_reducible apply awp_region)) | ((with_reducible apply al_nil)) | ((with_reducible apply awp_ret))))
    (first | (refine apost_ret rfl (resl_tmp rfl resl_nil) ?_))
    exact AV.Le.refl _
end Go.Proofs.Ytlglajaonmpljaa

namespace Go.Proofs.Ytlglajaonmpljaa
open Go.RowKit
theorem k_alive10 : PCall Try.prog 6 [] (vB true) := p_alive10 k_New10 k_Split10 k_SplitN10 k_Right10 k_Depth10 k_Same10 k_Clone10 k_Close10
theorem close_walk (V : List Px) (D : List Int) (a1 a2 b1 b2 k far : Int) (hs : (V.length : Int) + D.length ≤ 9223372036854775807) (hin : ∀ v ∈ V, InI v)
    (_ : -9223372036854775808 ≤ a1 ∧ a1 ≤ 9223372036854775807) (_ : -9223372036854775808 ≤ a2 ∧ a2 ≤ 9223372036854775807) (_ : -9223372036854775808 ≤ b1 ∧ b1 ≤ 9223372036854775807) (_ : -9223372036854775808 ≤ b2 ∧ b2 ≤ 9223372036854775807)
    (hk : -9223372036854775808 ≤ k ∧ k ≤ 9223372036854775807) (hf : -9223372036854775808 ≤ far ∧ far ≤ 9223372036854775807) : PCall Try.prog 3 [vCh V D, vSeg10 a1 a2 b1 b2, .w (.agg [.c (.int .i64 k), .c (.int .i64 far)])] (vB true) :=
  law_Close10 k_Close10 hin ⟨hk, hf⟩ hs k_alive10
end Go.Proofs.Ytlglajaonmpljaa

namespace Go.Proofs.Ytlglajaonmpljaa
open Go.ChangeShapes Go.WideShapes Go.ChangeAt Go.RowKit Go.Joins
set_option linter.unusedVariables false
set_option linter.unusedSimpArgs false
theorem laidOut : laidOutB Try.prog = true := by kernel_rfl
theorem cell_lt {W : World} {b : Addr} {v : Value} (h : W.cell? b = some v) : b.block < W.heap.size := by
  unfold World.cell? at h
  split at h
  · rename_i hh; exact (Array.getElem?_eq_some_iff.1 hh).1
  · cases h
theorem wf_i64 {n : Int} (h : (Lit.int .i64 n).wf = true) : -9223372036854775808 ≤ n ∧ n ≤ 9223372036854775807 := by
  simpa [Lit.wf, IntKind.min, IntKind.max, IntKind.signed, IntKind.bits] using h
/-- a row of things of two numbers as an argument: what it reads as. -/
theorem open_pxsW {H : Type} {enc : TypeId × Value → H} {P : Program} {W : World} {t e : TypeId} {f0 f1 : Field} (ht : P.underlying t = some (.slice e)) (he : P.underlying e = some (.struct #[f0, f1])) (ce : P.cellsOf e = 2) (o0 : f0.offset = 0) (o1 : f1.offset = 1) (c0 : P.cellsOf f0.type = 1) (c1 : P.cellsOf f1.type = 1) (k0 : P.underlying f0.type = some (.int .i64)) (k1 : P.underlying f1.type = some (.int .i64))
    {v : Value} {d : DataW H} {p : List MemPlace} (hv : ∃ a len cap, v = .slice a len cap) (h0 : DataW.Trod enc P W 0 (fun _ => true) true t v d p) :
    ∃ l : List (Int × Int), (l.length : Int) ≤ 9223372036854775807 ∧ (∀ p ∈ l, InI p) ∧ (∀ n, (∀ w ∈ DataW.weights P t d, w ≤ n) → l.length * P.bytesOf e ≤ n) ∧ RpV (fun _ => True) id W (vIt l) v := by
  obtain ⟨a0, len0, cap0, rfl⟩ := hv
  obtain ⟨fuel, hf⟩ := h0
  rcases Go.Deep.open_slice_pairs ht he ce o0 o1 c0 c1 hf with ⟨hcs, hx⟩ | ⟨a, len, cap, m, n, V0, V1, D0, D1, P0, P1, hcs, hb, hl, hm, hmm, hx, hi⟩
  · simp [Value.cells] at hcs
    obtain ⟨rfl, rfl, rfl⟩ := hcs
    exact ⟨[], by decide, fun p hp => (by cases hp), (fun n _ => by simp), ⟨none, 0, rfl, Nat.le_refl _, rfl, fun h => absurd h (Nat.lt_irrefl _)⟩, fun _ _ => trivial⟩
  · simp [Value.cells] at hcs
    obtain ⟨rfl, rfl, rfl⟩ := hcs
    simp only [if_true] at hmm
    subst hmm
    simp only [Prod.mk.injEq] at hx
    obtain ⟨hdd, rfl⟩ := hx
    have each : ∀ i, i < m → ∃ q : Int × Int, V0 i = .int .i64 q.1 ∧ V1 i = .int .i64 q.2 ∧ InI q := fun i h => by
      obtain ⟨_, _, g0, g1⟩ := hi i h
      obtain ⟨x, hx, _, wx⟩ := DataW.trod_int k0 g0
      obtain ⟨y, hy, _, wy⟩ := DataW.trod_int k1 g1
      simp at hx hy
      exact ⟨(x, y), hx, hy, wf_i64 wx, wf_i64 wy⟩
    obtain ⟨q, hq⟩ := Go.Deep.choose_lt each
    have hcells : ∀ (l : List (Int × Int)) (k : Nat), (∀ i (p : Int × Int), l[i]? = some p → W.cell? (a.add ((k + i) * 2)) = some (.int .i64 p.1) ∧ W.cell? (a.add ((k + i) * 2 + 1)) = some (.int .i64 p.2)) →
        ∃ vs : List Value, RpL (fun _ => True) id W (itC l) vs ∧ ∀ (j : Nat) v, vs[j]? = some v → W.cell? (a.add (k * 2 + j)) = some v := by
      intro l
      induction l with
      | nil => intro k _; exact ⟨[], ⟨rfl, fun i x v h => by simp [itC] at h⟩, fun j v h => by simp at h⟩
      | cons p l ih =>
        intro k h
        obtain ⟨vs, g1, g2⟩ := ih (k + 1) (fun i p' hp' => by
          have := h (i + 1) p' (by simpa using hp')
          rw [show k + (i + 1) = k + 1 + i by omega] at this
          exact this)
        obtain ⟨h1, h2⟩ := h 0 p rfl
        refine ⟨.int .i64 p.1 :: .int .i64 p.2 :: vs, ⟨by simp [itC, g1.1], fun i x v hx hv => ?_⟩, fun j v hv => ?_⟩
        · match i with
          | 0 => simp [itC] at hx hv; subst hx; subst hv; exact ⟨rfl, rfl⟩
          | 1 => simp [itC] at hx hv; subst hx; subst hv; exact ⟨rfl, rfl⟩
          | i + 2 => exact g1.2 i x v (by simpa [itC] using hx) (by simpa using hv)
        · match j with
          | 0 => simp at hv; subst hv; simpa using h1
          | 1 => simp at hv; subst hv; simpa using h2
          | j + 2 =>
            have := g2 j v (by simpa using hv)
            rw [show (k + 1) * 2 + j = k * 2 + (j + 2) by omega] at this
            exact this
    obtain ⟨vs, g1, g2⟩ := hcells ((List.range len0).map q) 0 (fun i p hp => by
      rw [List.getElem?_map] at hp
      cases hr : (List.range len0)[i]? with
      | none => rw [hr] at hp; cases hp
      | some j =>
        rw [hr] at hp
        cases hp
        obtain ⟨h3, h4⟩ := List.getElem?_eq_some_iff.1 hr
        simp at h3 h4
        subst h4
        obtain ⟨e0, e1, _⟩ := hi i (by omega)
        obtain ⟨f0, f1, _⟩ := hq i (by omega)
        rw [f0] at e0
        rw [f1] at e1
        simpa using ⟨e0, e1⟩)
    have hlen : ∀ l : List (Int × Int), (itC l).length = l.length * 2 := fun l => by
      induction l with
      | nil => rfl
      | cons p l ih => simp [itC, ih]; omega
    have hclo : ∀ l : List (Int × Int), ∀ y ∈ itC l, y.closedB = true := fun l => by
      induction l with
      | nil => intro y hy; cases hy
      | cons p l ih =>
        intro y hy
        simp only [itC, List.mem_cons] at hy
        rcases hy with rfl | rfl | hy
        · rfl
        · rfl
        · exact ih y hy
    refine ⟨(List.range len0).map q, by simp; unfold maxLen at hm; omega, fun p hp => ?_, fun n hw => ?_, ?_⟩
    · obtain ⟨i, hi1, rfl⟩ := List.mem_map.1 hp
      have h5 : i < len0 := by simpa using hi1
      exact (hq i (by omega)).2.2
    · rw [hdd] at hw
      unfold DataW.weights at hw
      rw [ht] at hw
      simp only at hw
      have := hw _ (List.mem_cons_self ..)
      refine Nat.le_trans (Nat.mul_le_mul_right _ ?_) this
      simp
    refine ⟨⟨some a, m, by simp, by simpa using hl, hlen _, fun hn => ⟨a, vs, rfl, ?_, g1, fun j v hv => by have := g2 j v hv; rwa [Nat.zero_mul, Nat.zero_add] at this, hclo _⟩⟩, fun _ _ => trivial⟩
    have hn' : 0 < len0 := by simpa using hn
    have := cell_lt (hi 0 (by omega)).1
    rwa [block_add] at this
/-- a call that returns true, at values that are told. -/
theorem pcall_true' {P : Program} {f : FuncId} {args : List AV} (h : PCall P f args (vB true)) (vals : List Value) (W : World) (hl : args.length = vals.length) (hr : ∀ (i : Nat) (x : AV) (v : Value), args[i]? = some x → vals[i]? = some v → RpV (fun _ => True) id W x v) :
    Calls P f vals.toArray W fun e W' => e = .returned (.bool true) ∧ Below W.heap.size W W' :=
  (h.call (fun _ => True) W vals ⟨hl, hr⟩).mono fun e W' ⟨v, he, ⟨hv, _⟩, hb⟩ => by subst hv; exact ⟨he, hb⟩
/-- a row of numbers as an argument: what it reads as. -/
theorem open_intsW {H : Type} {enc : TypeId × Value → H} {P : Program} {W : World} {t e : TypeId} (ht : P.underlying t = some (.slice e)) (c0 : P.cellsOf e = 1) (k0 : P.underlying e = some (.int .i64))
    {v : Value} {d : DataW H} {p : List MemPlace} (hv : ∃ a len cap, v = .slice a len cap) (h0 : DataW.Trod enc P W 0 (fun _ => true) true t v d p) :
    ∃ l : List Int, (l.length : Int) ≤ 9223372036854775807 ∧ (∀ n, (∀ w ∈ DataW.weights P t d, w ≤ n) → l.length * P.bytesOf e ≤ n) ∧ RpV (fun _ => True) id W (vIn l) v := by
  obtain ⟨a0, len0, cap0, rfl⟩ := hv
  obtain ⟨fuel, hf⟩ := h0
  rcases Go.Deep.open_slice1 ht c0 hf with ⟨hcs, hx⟩ | ⟨a, len, cap, m, n, V0, D0, P0, hcs, hb, hl, hm, hmm, hx, hi⟩
  · simp [Value.cells] at hcs
    obtain ⟨rfl, rfl, rfl⟩ := hcs
    exact ⟨[], by decide, (fun n _ => by simp), ⟨none, 0, rfl, Nat.le_refl _, rfl, fun h => absurd h (Nat.lt_irrefl _)⟩, fun _ _ => trivial⟩
  · simp [Value.cells] at hcs
    obtain ⟨rfl, rfl, rfl⟩ := hcs
    simp only [if_true] at hmm
    subst hmm
    have each : ∀ i, i < m → ∃ q : Int, V0 i = .int .i64 q := fun i h => by
      obtain ⟨_, g0⟩ := hi i h
      obtain ⟨x, hx, _⟩ := DataW.trod_int k0 g0
      simp at hx
      exact ⟨x, hx⟩
    obtain ⟨q, hq⟩ := Go.Deep.choose_lt each
    have hat : ∀ (j : Nat) u, (((List.range len0).map q).map fun x => Value.int .i64 x)[j]? = some u → W.cell? (a.add j) = some u := fun j u hu => by
      rw [List.getElem?_map, List.getElem?_map] at hu
      cases hr : (List.range len0)[j]? with
      | none => rw [hr] at hu; cases hu
      | some i =>
        rw [hr] at hu
        cases hu
        obtain ⟨h3, h4⟩ := List.getElem?_eq_some_iff.1 hr
        simp at h3 h4
        subst h4
        have e0 := (hi j (by omega)).1
        rw [hq j (by omega)] at e0
        exact e0
    refine ⟨(List.range len0).map q, by simp; unfold maxLen at hm; omega, fun n hw => ?_, ?_⟩
    · have hdd := congrArg Prod.fst hx
      simp only at hdd
      rw [hdd] at hw
      unfold DataW.weights at hw
      rw [ht] at hw
      simp only at hw
      have := hw _ (List.mem_cons_self ..)
      refine Nat.le_trans (Nat.mul_le_mul_right _ ?_) this
      simp
    refine ⟨⟨some a, m, by simp, by simpa using hl, by simp [inC], fun hn => ⟨a, ((List.range len0).map q).map fun x => Value.int .i64 x, rfl, ?_, ⟨by simp [inC], fun i x u hx hu => ?_⟩, hat, fun y hy => ?_⟩⟩, fun _ _ => trivial⟩
    · have hn' : 0 < len0 := by simpa using hn
      have := cell_lt (hi 0 (by omega)).1
      rwa [block_add] at this
    · unfold inC at hx
      rw [List.getElem?_map] at hx hu
      cases hr : ((List.range len0).map q)[i]? with
      | none => rw [hr] at hx; cases hx
      | some y =>
        rw [hr] at hx hu
        cases hx; cases hu
        exact ⟨rfl, rfl⟩
    · unfold inC at hy
      obtain ⟨x, _, rfl⟩ := List.mem_map.1 hy
      rfl
theorem okw_str {P : Program} {W : World} {base t : Nat} {fs : Array Field} {v : Value} (ht : P.underlying t = some (.struct fs)) (h : Value.okWide P W .any base t v) : ∃ cs, v = .agg cs := by
  unfold Value.okWide at h
  rw [ht] at h
  obtain ⟨cs, h1, _⟩ := h
  exact ⟨cs, h1⟩
/-- a chain as an argument: what it reads as. -/
theorem open_ch {H : Type} {enc : TypeId × Value → H} {P : Program} {W : World} {t tv td ev ed : TypeId} {g0 g1 f0 f1 : Field} (ht : P.underlying t = some (.struct #[g0, g1])) (go0 : g0.offset = 0) (go1 : g1.offset = 1) (gt0 : g0.type = tv) (gt1 : g1.type = td) (gc0 : P.cellsOf tv = 1) (gc1 : P.cellsOf td = 1) (gc : P.cellsOf t = 2)
    (hv : P.underlying tv = some (.slice ev)) (he : P.underlying ev = some (.struct #[f0, f1])) (ce : P.cellsOf ev = 2) (o0 : f0.offset = 0) (o1 : f1.offset = 1) (c0 : P.cellsOf f0.type = 1) (c1 : P.cellsOf f1.type = 1) (k0 : P.underlying f0.type = some (.int .i64)) (k1 : P.underlying f1.type = some (.int .i64))
    (hd : P.underlying td = some (.slice ed)) (d0 : P.cellsOf ed = 1) (dk : P.underlying ed = some (.int .i64)) (bv : P.bytesOf ev = 16) (bd : P.bytesOf ed = 8)
    {v : Value} {d : DataW H} {p : List MemPlace} (hagg : ∃ cs, v = .agg cs) (h0 : DataW.Trod enc P W 0 (fun _ => true) true t v d p) (hw : ∀ w ∈ DataW.weights P t d, w ≤ reachBytes) :
    ∃ (V : List Px) (D : List Int), (V.length : Int) + D.length ≤ 9223372036854775807 ∧ (∀ p ∈ V, InI p) ∧ RpV (fun _ => True) id W (vCh V D) v := by
  obtain ⟨cs, rfl⟩ := hagg
  obtain ⟨fuel, hf⟩ := h0
  obtain ⟨y0, y1, n, hx, hlen, h1, h2⟩ := trod_struct2 ht hf
  rw [go0, gt0, gc0] at h1
  rw [go1, gt1, gc1] at h2
  rw [gc] at hlen
  obtain ⟨x0, x1, hcs⟩ : ∃ x0 x1, cs = #[x0, x1] := by
    have hl : cs.toList.length = 2 := hlen
    match hh : cs.toList, hl with
    | [a, b], _ => exact ⟨a, b, by rw [← Array.toArray_toList (xs := cs), hh]⟩
  subst hcs
  have h1' : DataW.trod enc P W 0 (fun _ => true) true n tv [x0] = some y0 := h1
  have h2' : DataW.trod enc P W 0 (fun _ => true) true n td [x1] = some y1 := h2
  have s0 : ∃ a len cap, x0 = .slice a len cap := by
    rcases Go.Deep.open_slice_pairs hv he ce o0 o1 c0 c1 h1' with ⟨hc, _⟩ | ⟨a, len, cap, _, _, _, _, _, _, _, _, hc, _⟩
    · exact ⟨none, 0, 0, List.head_eq_of_cons_eq hc⟩
    · exact ⟨some a, len, cap, List.head_eq_of_cons_eq hc⟩
  have s1 : ∃ a len cap, x1 = .slice a len cap := by
    rcases Go.Deep.open_slice1 hd d0 h2' with ⟨hc, _⟩ | ⟨a, len, cap, _, _, _, _, _, hc, _⟩
    · exact ⟨none, 0, 0, List.head_eq_of_cons_eq hc⟩
    · exact ⟨some a, len, cap, List.head_eq_of_cons_eq hc⟩
  have t0 : DataW.Trod enc P W 0 (fun _ => true) true tv x0 y0.1 y0.2 := ⟨n, by obtain ⟨a, len, cap, rfl⟩ := s0; exact h1'⟩
  have t1 : DataW.Trod enc P W 0 (fun _ => true) true td x1 y1.1 y1.2 := ⟨n, by obtain ⟨a, len, cap, rfl⟩ := s1; exact h2'⟩
  obtain ⟨V, l1, i1, w1, r1⟩ := open_pxsW hv he ce o0 o1 c0 c1 k0 k1 s0 t0
  obtain ⟨D, l2, w2, r2⟩ := open_intsW hd d0 dk s1 t1
  have hdd := congrArg Prod.fst hx
  simp only at hdd
  rw [hdd] at hw
  unfold DataW.weights at hw
  rw [ht] at hw
  simp only [List.map_cons, List.map_nil, DataW.weightsEach, List.append_nil, gt0, gt1] at hw
  have b1 := w1 reachBytes fun w h => hw w (List.mem_append_left _ h)
  have b2 := w2 reachBytes fun w h => hw w (List.mem_append_right _ h)
  rw [bv] at b1
  rw [bd] at b2
  unfold reachBytes at b1 b2
  refine ⟨V, D, by omega, i1, [x0, x1], rfl, rfl, fun i x u hx hu => ?_⟩
  match i with
  | 0 => cases hx; cases hu; exact r1
  | 1 => cases hx; cases hu; exact r2
  | i + 2 => simp at hx
end Go.Proofs.Ytlglajaonmpljaa

