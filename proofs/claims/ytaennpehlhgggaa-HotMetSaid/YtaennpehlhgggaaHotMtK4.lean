/-
  My own texts, without what this claim does not need. My own text.
-/
import Derived.Test.YtaennpehlhgggaaProg
import Derived.ProofKit
import Derived.OpenShut
import Derived.Deep.DeepHandedRow
import Derived.Lib.LaidTab
import Derived.Lib.SmallJoins
import Derived.Test.YtaennpehlhgggaaHotMtK3
namespace Go.Proofs.Ytaennpehlhgggaa
open Go.RowKit
set_option linter.unusedVariables false
set_option linter.unusedSimpArgs false
/-- the cells of a row of pixels with a value each. -/
def enC : List Ent → List AC
  | [] => []
  | e :: l => .c (.int .i64 e.1) :: .c (.int .i64 e.2.1) :: .c (.int .i64 e.2.2) :: enC l
abbrev vEn (l : List Ent) : AV := vS 3 l.length (enC l)
theorem enC_at : ∀ (l : List Ent) (i : Nat) (e : Ent), l[i]? = some e → ((enC l).drop (i * 3)).take 3 = [.c (.int .i64 e.1), .c (.int .i64 e.2.1), .c (.int .i64 e.2.2)]
  | [], i, p, h => by simp at h
  | q :: l, 0, p, h => by simp at h; subst h; simp [enC]
  | q :: l, i + 1, p, h => by
    have e : (i + 1) * 3 = i * 3 + 1 + 1 + 1 := by omega
    rw [e]
    simp only [enC, List.drop_succ_cons]
    exact enC_at l i p (by simpa using h)
theorem enC_xyv {l : List Ent} {j : Int} {i : Nat} {x y v : Int} (hj : j = i) (h : l[i]? = some (x, y, v)) : ((enC l).drop (j.toNat * 3)).take 3 = [.c (.int .i64 x), .c (.int .i64 y), .c (.int .i64 v)] := by
  subst hj
  exact enC_at l i (x, y, v) h
theorem enC_len : ∀ (l : List Ent), (enC l).length = l.length * 3
  | [] => rfl
  | p :: l => by simp only [enC, List.length_cons, enC_len l]; omega
theorem enC_append : ∀ (l m : List Ent), enC (l ++ m) = enC l ++ enC m
  | [], _ => rfl
  | p :: l, m => by simp only [List.cons_append, enC, enC_append l m]
theorem enC_closed : ∀ (l : List Ent), (enC l).all AC.closedB = true
  | [] => rfl
  | p :: l => by simp only [enC, List.all_cons, enC_closed l]; rfl
theorem enC_one (l : List Ent) (x y v : Int) : enC l ++ [.c (.int .i64 x), .c (.int .i64 y), .c (.int .i64 v)] = enC (l ++ [(x, y, v)]) := by rw [enC_append]; rfl
abbrev mPx (x y : Int) : List AC := [.c (.int .i64 x), .c (.int .i64 y)]
abbrev vOw (k : Nat) : AV := .w (.one (.own k 0))
def G8I (l : List Ent) (x y : Int) (n : Nat) (ts : List (Nat × AV)) (ms : List (Nat × List AC)) : Prop :=
  ∃ (k : Nat) (ki : Int), k ≤ l.length ∧ n = l.length - k ∧ ki = k ∧ (∀ j e, j < k → l[j]? = some e → ¬ (e.1 = x ∧ e.2.1 = y)) ∧ ms = [(3, mPx x y)] ∧ ts = [(0, vEn l), (3, vOw 3), (5, vI ki)]
end Go.Proofs.Ytaennpehlhgggaa

namespace Go.Proofs.Ytaennpehlhgggaa
open Go.RowKit
set_option linter.unusedVariables false
set_option linter.unusedSimpArgs false
abbrev p9Row (v : Value) (l : List (Int × Int)) : HRow := ⟨36, 2, v, l.length, itC l⟩
instance iHotA_1 : RowTy Try.prog 26 36 2 16 := ⟨by kernel_rfl⟩
theorem itC_one9 (l : List (Int × Int)) (x y : Int) : itC l ++ [.c (.int .i64 x), .c (.int .i64 y)] = itC (l ++ [(x, y)]) := by rw [itC_append]; rfl
theorem p9Row_one (v : Value) (l : List (Int × Int)) (x y : Int) : p9Row v (l ++ [(x, y)]) = ⟨36, 2, v, l.length + 1, itC l ++ [.c (.int .i64 x), .c (.int .i64 y)]⟩ := by
  unfold p9Row; rw [← itC_one9, List.length_append]; rfl
/-- a set of the document's. -/
abbrev vSet9 (r : Int) (l : List Px) : AV := .w (.agg [.c (.int .i64 r), .p (SlP 2 l.length (itC l))])
def room9 (n : Int) : Int := if n < 1 then 1 else if 1024 < n then 1024 else n
theorem nilW_le (r : Int) : (AV.w (.agg [.c (.int .i64 r), .c (.slice none 0 0)])).Le (vSet9 r []) := fun U ρ W v h => by
  obtain ⟨vs, rfl, hl, h⟩ := h
  refine ⟨vs, rfl, hl, fun i x u hx hu => ?_⟩
  match i with
  | 0 => cases hx; exact h 0 _ u rfl hu
  | 1 =>
    cases hx
    obtain ⟨rfl, _⟩ := h 1 _ u rfl hu
    exact ⟨⟨none, 0, rfl, Nat.le_refl _, by simp [itC], fun h => absurd h (Nat.lt_irrefl _)⟩, fun b ⟨c, a, q, hn, _⟩ => absurd hn (Nat.lt_irrefl _)⟩
  | i + 2 => simp at hx
set_option maxRecDepth 100000 in
set_option maxHeartbeats 4000000 in
theorem p_New9 {n : Int} : PCall Try.prog 11 [vI n] (vSet9 (room9 n) []) := by
  by_cases h1 : n < 1
  · have e : room9 n = 1 := by unfold room9; rw [if_pos h1]
    rw [e]
    refine pcall_body (f := 11) Try.func11 rfl rfl rfl rfl ?_
    (repeat (first | ((with_reducible apply al_q); exact rfl) | ((with_reducible apply awp_seq)) | ((with_reducible apply athen_normal)) | ((with_reducible apply awp_region)) | ((with_reducible apply al_nil)) | ((with_reducible apply awp_ret)) | ((with_reducible apply awp_skip)) | ((with_reducible apply awp_cond_f); exact rfl) | ((with_reducible apply awp_cond_1); exact rfl; (first | assumption | exact decide_eq_true (by omega) | (simp only [Bool.not_eq_true', decide_eq_false_iff_not, decide_eq_true_eq, Bool.not_eq_false']; (first | done | omega))))))
    (first | (refine apost_ret rfl (resl_agg rfl rfl rfl resl_nil) ?_) | (refine apost_ret rfl (resl_one rfl rfl rfl resl_nil) ?_))
    exact nilW_le 1
  · by_cases h2 : 1024 < n
    · have e : room9 n = 1024 := by unfold room9; rw [if_neg h1, if_pos h2]
      have h2' : n > 1024 := h2
      rw [e]
      refine pcall_body (f := 11) Try.func11 rfl rfl rfl rfl ?_
      (repeat (first | ((with_reducible apply al_q); exact rfl) | ((with_reducible apply awp_seq)) | ((with_reducible apply athen_normal)) | ((with_reducible apply awp_region)) | ((with_reducible apply al_nil)) | ((with_reducible apply awp_ret)) | ((with_reducible apply awp_skip)) | ((with_reducible apply awp_cond_1); exact rfl; (first | assumption | exact decide_eq_true (by omega) | (simp only [Bool.not_eq_true', decide_eq_false_iff_not, decide_eq_true_eq, Bool.not_eq_false']; (first | done | omega)))) | ((with_reducible apply awp_cond_0); exact rfl; (first | assumption | exact decide_eq_false (by omega) | (simp only [Bool.not_eq_true', decide_eq_false_iff_not, decide_eq_true_eq, Bool.not_eq_false']; (first | done | omega))))))
      (first | (refine apost_ret rfl (resl_agg rfl rfl rfl resl_nil) ?_) | (refine apost_ret rfl (resl_one rfl rfl rfl resl_nil) ?_))
      exact nilW_le 1024
    · have e : room9 n = n := by unfold room9; rw [if_neg h1, if_neg h2]
      have h2' : ¬ n > 1024 := h2
      rw [e]
      refine pcall_body (f := 11) Try.func11 rfl rfl rfl rfl ?_
      (repeat (first | ((with_reducible apply al_q); exact rfl) | ((with_reducible apply awp_seq)) | ((with_reducible apply athen_normal)) | ((with_reducible apply awp_region)) | ((with_reducible apply al_nil)) | ((with_reducible apply awp_ret)) | ((with_reducible apply awp_skip)) | ((with_reducible apply awp_cond_0); exact rfl; (first | assumption | exact decide_eq_false (by omega) | (simp only [Bool.not_eq_true', decide_eq_false_iff_not, decide_eq_true_eq, Bool.not_eq_false']; (first | done | omega))))))
      (first | (refine apost_ret rfl (resl_agg rfl rfl rfl resl_nil) ?_) | (refine apost_ret rfl (resl_one rfl rfl rfl resl_nil) ?_))
      exact nilW_le n
def btw9 (n a b : Int) : Bool := (decide (a ≤ n) && decide (n ≤ b)) || (decide (b ≤ n) && decide (n ≤ a))
/-- where a pixel stands; -1: nowhere. -/
def numI (l : List Px) (x y : Int) : Int := match l.findIdx? fun e => decide (e.1 = x) && decide (e.2 = y) with
  | some k => k
  | none => -1
def mSet9 (r : Int) (l : List Px) : List AC := [.c (.int .i64 r), .p (SlP 2 l.length (itC l))]
def N9I (r : Int) (l : List Px) (x y : Int) (n : Nat) (ts : List (Nat × AV)) (ms : List (Nat × List AC)) : Prop :=
  ∃ (k : Nat) (ki : Int), k ≤ l.length ∧ n = l.length - k ∧ ki = k ∧ (∀ j e, j < k → l[j]? = some e → ¬ (e.1 = x ∧ e.2 = y)) ∧ ms = [(2, [.c (.int .i64 r), .p (SlP 2 l.length (itC l))]), (3, mPx x y)] ∧ ts = [(2, vOw 2), (3, vOw 3), (5, vI ki)]
set_option maxRecDepth 100000 in
set_option maxHeartbeats 8000000 in
theorem p_Num9 {r : Int} {l : List Px} (hl : l.length ≤ 100000) {x y : Int} : PCall Try.prog 16 [vSet9 r l, vP x y] (vI (numI l x y)) := by
  refine pcall_body (f := 16) Try.func16 rfl rfl rfl rfl ?_
  (repeat (first | ((with_reducible apply al_q); exact rfl) | ((with_reducible apply awp_seq)) | ((with_reducible apply athen_normal)) | ((with_reducible apply awp_region)) | ((with_reducible apply al_nil)) | ((with_reducible apply awp_block))))
  refine awp_loopL 21 (N9I r l x y) l.length _ [(2, [.c (.int .i64 r), .p (SlP 2 l.length (itC l))]), (3, mPx x y)] ⟨0, 0, Nat.zero_le _, rfl, rfl, fun j e hj => absurd hj (Nat.not_lt_zero _), rfl, rfl⟩ rfl ⟨rfl, rfl, rfl, trivial⟩ ⟨rfl, rfl, trivial⟩ rfl ?_
  rintro n ts ms ⟨k, ki, hk, rfl, hki, hp, rfl, rfl⟩ hok
  clear hok
  by_cases q : k < l.length
  · have q' : ki < (l.length : Int) := by omega
    have q2 : 0 ≤ ki := by omega
    obtain ⟨a, b, g1⟩ : ∃ a b, l[k]? = some (a, b) := ⟨_, _, List.getElem?_eq_getElem q⟩
    have E1 := itC_xy hki g1
    cases hq : eqP a b x y with
    | true =>
      have he := eqP_iff.1 hq
      have hr : numI l x y = ki := by
        have : l.findIdx? (fun e => decide (e.1 = x) && decide (e.2 = y)) = some k := by
          rw [List.findIdx?_eq_some_iff_getElem]
          refine ⟨q, ?_, fun j hj => ?_⟩
          · have : l[k] = (a, b) := (List.getElem?_eq_some_iff.1 g1).2
            rw [this]; simp [he.1, he.2]
          · have := hp j _ hj (List.getElem?_eq_getElem (Nat.lt_trans hj q))
            simp only [Bool.and_eq_true, decide_eq_true_eq]; exact this
        unfold numI; rw [this]; exact hki.symm
      clear hp hki
      (repeat (first | ((with_reducible apply al_q); exact rfl) | ((with_reducible apply al_loadPN); (iterate 5 exact rfl)) | ((with_reducible apply al_idxS); (iterate 3 exact rfl); (first | decide | omega); (first | decide | omega); (first | assumption | rfl); exact rfl) | ((with_reducible apply al_eqP); (iterate 4 exact rfl)) | ((with_reducible apply al_len); (iterate 3 exact rfl)) | ((with_reducible apply al_nilS); kernel_rfl) | ((with_reducible apply awp_region_draw); kernel_rfl; kernel_rfl; exact rfl) | ((with_reducible apply awp_seq)) | ((with_reducible apply athen_normal)) | ((with_reducible apply awp_region)) | ((with_reducible apply al_nil)) | ((with_reducible apply awp_ret)) | ((with_reducible apply awp_skip)) | ((with_reducible apply athen_ret)) | ((with_reducible apply awp_block)) | ((with_reducible apply ablock_ret)) | ((with_reducible apply awp_cond_1); exact rfl; (first | assumption | exact decide_eq_true (by omega) | (simp only [Bool.not_eq_true', decide_eq_false_iff_not, decide_eq_true_eq, Bool.not_eq_false']; (first | done | omega))))))
      (first | (refine apost_ret rfl (resl_tmp rfl resl_nil) ?_))
      exact AV.Le.of_eq (by rw [hr]; rfl)
    | false =>
      have hp' : ∀ j e, j < k + 1 → l[j]? = some e → ¬ (e.1 = x ∧ e.2 = y) := fun j e hj he => by
        by_cases h : j = k
        · subst h
          rw [g1] at he
          cases he
          intro hh
          rw [eqP_iff.2 hh] at hq
          cases hq
        · exact hp j e (by omega) he
      clear hp
      (repeat (first | ((with_reducible apply al_q); exact rfl) | ((with_reducible apply al_loadPN); (iterate 5 exact rfl)) | ((with_reducible apply al_idxS); (iterate 3 exact rfl); (first | decide | omega); (first | decide | omega); (first | assumption | rfl); exact rfl) | ((with_reducible apply al_eqP); (iterate 4 exact rfl)) | ((with_reducible apply al_add); (iterate 3 exact rfl); (first | exact i64_wrap (by omega) | assumption | rfl); exact rfl) | ((with_reducible apply al_len); (iterate 3 exact rfl)) | ((with_reducible apply al_nilS); kernel_rfl) | ((with_reducible apply awp_region_draw); kernel_rfl; kernel_rfl; exact rfl) | ((with_reducible apply awp_seq)) | ((with_reducible apply athen_normal)) | ((with_reducible apply awp_region)) | ((with_reducible apply al_nil)) | ((with_reducible apply awp_skip)) | ((with_reducible apply awp_block)) | ((with_reducible apply ablock_normal)) | ((with_reducible apply awp_cond_1); exact rfl; (first | assumption | exact decide_eq_true (by omega) | (simp only [Bool.not_eq_true', decide_eq_false_iff_not, decide_eq_true_eq, Bool.not_eq_false']; (first | done | omega)))) | ((with_reducible apply awp_cond_0); exact rfl; (first | assumption | exact decide_eq_false (by omega) | (simp only [Bool.not_eq_true', decide_eq_false_iff_not, decide_eq_true_eq, Bool.not_eq_false']; (first | done | omega))))))
      exact ⟨l.length - (k + 1), _, [(2, [.c (.int .i64 r), .p (SlP 2 l.length (itC l))]), (3, mPx x y)], by omega, ⟨k + 1, ki + 1, by omega, rfl, by omega, hp', rfl, rfl⟩, rfl, ⟨rfl, rfl, rfl, trivial⟩, ⟨rfl, rfl, trivial⟩, rfl⟩
  · have q' : ¬ ki < (l.length : Int) := by omega
    have hr : numI l x y = -1 := by
      have : l.findIdx? (fun e => decide (e.1 = x) && decide (e.2 = y)) = none := by
        rw [List.findIdx?_eq_none_iff]
        intro e he
        obtain ⟨j, hj⟩ := List.getElem?_of_mem he
        have h1 := (List.getElem?_eq_some_iff.1 hj).1
        have := hp j e (by omega) hj
        cases hh : (decide (e.1 = x) && decide (e.2 = y)) with
        | false => rfl
        | true => simp only [Bool.and_eq_true, decide_eq_true_eq] at hh; exact absurd hh this
      unfold numI; rw [this]
    clear hp
    (repeat (first | ((with_reducible apply al_q); exact rfl) | ((with_reducible apply al_len); (iterate 3 exact rfl)) | ((with_reducible apply awp_seq)) | ((with_reducible apply athen_normal)) | ((with_reducible apply awp_region)) | ((with_reducible apply al_nil)) | ((with_reducible apply awp_ret)) | ((with_reducible apply ablock_same)) | ((with_reducible apply awp_exit)) | ((with_reducible apply athen_exit)) | ((with_reducible apply awp_cond_0); exact rfl; (first | assumption | exact decide_eq_false (by omega) | (simp only [Bool.not_eq_true', decide_eq_false_iff_not, decide_eq_true_eq, Bool.not_eq_false']; (first | done | omega))))))
    (first | (refine apost_ret rfl (resl_tmp rfl resl_nil) ?_))
    exact AV.Le.of_eq (by rw [hr]; rfl)
/-- what holds ahead of each round of put's loop: those that were taken, and the new one, if it stands already. -/
def P9I (l : List Px) (x y : Int) (fx fy : Bool) (n : Nat) (R : Rws) (ts : List (Nat × AV)) (ms : List (Nat × List AC)) : Prop :=
  ∃ (k : Nat) (v : Value) (ki : Int) (out : List Px) (dn : Bool), k ≤ l.length ∧ n = l.length - k ∧ ki = k ∧ dn = (l.take k).any (ahP fx fy (x, y)) ∧ out = (if dn then insQ fx fy (x, y) (l.take k) else l.take k) ∧ R = row1 0 (p9Row v out) ∧ ms = [(5, mPx x y)] ∧ ts = [(0, vIt l), (2, vB fx), (3, vB fy), (5, vOw 5), (9, vC v), (10, vB dn), (11, vI ki)]
set_option maxRecDepth 100000 in
set_option maxHeartbeats 8000000 in
theorem p_put9 {l : List Px} (hl : l.length ≤ 100000) {x y : Int} {fx fy : Bool} : PCall Try.prog 42 [vIt l, vP x y, vB fx, vB fy] (vIt (insQ fx fy (x, y) l)) := by
  refine pcall_body (f := 42) Try.func42 rfl rfl rfl rfl ?_
  refine awp_rows ?_
  refine rwp_nil 0 36 2 rfl ?_
  (repeat (first | ((with_reducible apply rwp_seq)) | ((with_reducible apply rthen_normal)) | ((with_reducible apply rwp_region)) | ((with_reducible apply hs_nil)) | ((with_reducible apply rwp_block)) | ((with_reducible apply hs_c); exact rfl; (repeat (first | ((with_reducible apply al_q); exact rfl))); (with_reducible apply al_nil))))
  refine rwp_loopL 48 (P9I l x y fx fy) l.length (row1 0 (p9Row (.slice none 0 0) [])) _ [(5, mPx x y)] ⟨0, .slice none 0 0, 0, [], false, Nat.zero_le _, rfl, rfl, rfl, rfl, rfl, rfl, rfl⟩ (row1_le _ _ _) rfl ⟨rfl, rfl, rfl, rfl, rfl, rfl, rfl, trivial⟩ ⟨rfl, trivial⟩ rfl ?_
  rintro n R ts ms ⟨k, v, ki, out, dn, hk, rfl, hki, hdn, hout, rfl, rfl, rfl⟩ hok
  clear hok
  have hol : out.length ≤ k + 1 := by
    rw [hout]
    split
    · rw [(insQ_perm fx fy (x, y) _).length_eq, List.length_cons, List.length_take]; omega
    · rw [List.length_take]; omega
  by_cases hq : k < l.length
  · have q2 : ki < (l.length : Int) := by omega
    have q3 : 0 ≤ ki := by omega
    obtain ⟨a, b, g1⟩ : ∃ a b, l[k]? = some (a, b) := ⟨_, _, List.getElem?_eq_getElem hq⟩
    have E1 := itC_xy hki g1
    have C1 := p_Ahead7 (x := x) (y := y) (z := a) (w := b) (fx := fx) (fy := fy) rfl
    rw [show ahdN x y a b fx fy = ahP fx fy (x, y) (a, b) from rfl] at C1
    have ht : l.take (k + 1) = l.take k ++ [(a, b)] := by
      rw [List.take_succ_eq_append_getElem hq, (List.getElem?_eq_some_iff.1 g1).2]
    have hany : (l.take (k + 1)).any (ahP fx fy (x, y)) = (dn || ahP fx fy (x, y) (a, b)) := by rw [ht, List.any_append, hdn]; simp
    cases dn with
    | true =>
      have hout' : insQ fx fy (x, y) (l.take (k + 1)) = out ++ [(a, b)] := by rw [hout, if_pos rfl, ht, insQ_some [(a, b)] hdn.symm]
      clear hout g1 ht
      (repeat (first | ((with_reducible apply hs_nilS); kernel_rfl) | ((with_reducible apply rwp_draw (id := 6) [0,1,2,3,4,5,6,7,8,9,10,11]); kernel_rfl; kernel_rfl; exact rfl) | ((with_reducible apply rwp_seq)) | ((with_reducible apply rthen_normal)) | ((with_reducible apply rwp_region)) | ((with_reducible apply hs_nil)) | ((with_reducible apply rwp_skip)) | ((with_reducible apply rwp_block)) | ((with_reducible apply rwp_cond_1); exact rfl; (first | assumption | exact decide_eq_true (by omega) | (simp only [Bool.not_eq_true', decide_eq_false_iff_not, decide_eq_true_eq, Bool.not_eq_false']; (first | done | omega)) | exact rfl)) | ((with_reducible apply rwp_cond_0); exact rfl; (first | assumption | exact decide_eq_false (by omega) | (simp only [Bool.not_eq_true', decide_eq_false_iff_not, decide_eq_true_eq, Bool.not_eq_false']; (first | done | omega)) | exact rfl)) | ((with_reducible apply hs_c); exact rfl; (repeat (first | ((with_reducible apply al_q); exact rfl) | ((with_reducible apply al_loadPN); (iterate 5 exact rfl)) | ((with_reducible apply al_idxS); (iterate 3 exact rfl); (first | decide | omega); (first | decide | omega); (first | assumption | rfl); exact rfl) | ((with_reducible apply al_len); (iterate 3 exact rfl)) | ((with_reducible apply al_bslice); (iterate 10 exact rfl)))); (with_reducible apply al_nil))))
      refine hs_app0 0 rfl rfl rfl rfl ?q1 ?q2 rfl rfl (fun v' hv' => ?_)
      case q1 => exact le_maxLen (by show out.length + 1 ≤ 1000000; omega)
      case q2 => show (out.length + 1) * 16 ≤ 140737488355328; omega
      (repeat (first | ((with_reducible apply rthen_normal)) | ((with_reducible apply rwp_region)) | ((with_reducible apply hs_nil)) | ((with_reducible apply rblock_normal)) | ((with_reducible apply hs_c); exact rfl; (repeat (first | ((with_reducible apply al_q); exact rfl) | ((with_reducible apply al_add); (iterate 3 exact rfl); (first | exact i64_wrap (by omega) | assumption | rfl); exact rfl))); (with_reducible apply al_nil))))
      refine ⟨l.length - (k + 1), row1 0 (p9Row v' (out ++ [(a, b)])), _, [(5, mPx x y)], by omega, ⟨k + 1, v', ki + 1, out ++ [(a, b)], true, by omega, rfl, by omega, by rw [hany]; rfl, by rw [if_pos rfl, hout'], rfl, rfl, rfl⟩, ?_, rfl, ⟨rfl, rfl, rfl, rfl, rfl, rfl, rfl, trivial⟩, ⟨rfl, trivial⟩, rfl⟩
      rw [p9Row_one]; exact row1_le _ _ _
    | false =>
      rw [if_neg (by decide)] at hout
      cases hah : ahP fx fy (x, y) (a, b) with
      | true =>
        rw [hah] at C1 hany
        have hout' : insQ fx fy (x, y) (l.take (k + 1)) = (out ++ [(x, y)]) ++ [(a, b)] := by rw [hout, ht, insQ_at hah hdn.symm, List.append_assoc]; rfl
        clear hout g1 ht
        (repeat (first | ((with_reducible apply hs_nilS); kernel_rfl) | ((with_reducible apply rwp_draw (id := 6) [0,1,2,3,4,5,6,7,8,9,10,11]); kernel_rfl; kernel_rfl; exact rfl) | ((with_reducible apply rwp_seq)) | ((with_reducible apply rthen_normal)) | ((with_reducible apply rwp_region)) | ((with_reducible apply hs_nil)) | ((with_reducible apply rwp_skip)) | ((with_reducible apply rwp_block)) | ((with_reducible apply rwp_cond_1); exact rfl; (first | assumption | exact decide_eq_true (by omega) | (simp only [Bool.not_eq_true', decide_eq_false_iff_not, decide_eq_true_eq, Bool.not_eq_false']; (first | done | omega)) | exact rfl)) | ((with_reducible apply hs_c); exact rfl; (repeat (first | ((with_reducible apply al_q); exact rfl) | ((with_reducible apply al_loadPN); (iterate 5 exact rfl)) | ((with_reducible apply al_idxS); (iterate 3 exact rfl); (first | decide | omega); (first | decide | omega); (first | assumption | rfl); exact rfl) | ((with_reducible apply al_len); (iterate 3 exact rfl)) | ((with_reducible apply al_bslice); (iterate 10 exact rfl)) | (refine al_call4 rfl rfl rfl rfl rfl rfl (by (first | exact C1)) rfl ?_))); (with_reducible apply al_nil))))
        refine hs_app0 0 rfl rfl rfl rfl ?q1 ?q2 rfl rfl (fun v1 hv1 => ?_)
        case q1 => exact le_maxLen (by show out.length + 1 ≤ 1000000; omega)
        case q2 => show (out.length + 1) * 16 ≤ 140737488355328; omega
        (repeat (first | ((with_reducible apply rthen_normal)) | ((with_reducible apply rwp_region)) | ((with_reducible apply hs_nil)) | ((with_reducible apply hs_c); exact rfl; (repeat (first | ((with_reducible apply al_q); exact rfl) | ((with_reducible apply al_loadPN); (iterate 5 exact rfl)) | ((with_reducible apply al_idxS); (iterate 3 exact rfl); (first | decide | omega); (first | decide | omega); (first | assumption | rfl); exact rfl) | ((with_reducible apply al_bslice); (iterate 10 exact rfl)))); (with_reducible apply al_nil))))
        refine hs_app0 0 rfl rfl rfl rfl ?q1 ?q2 rfl rfl (fun v' hv' => ?_)
        case q1 => exact le_maxLen (by show (out.length + 1) + 1 ≤ 1000000; omega)
        case q2 => show ((out.length + 1) + 1) * 16 ≤ 140737488355328; omega
        (repeat (first | ((with_reducible apply rthen_normal)) | ((with_reducible apply rwp_region)) | ((with_reducible apply hs_nil)) | ((with_reducible apply rblock_normal)) | ((with_reducible apply hs_c); exact rfl; (repeat (first | ((with_reducible apply al_q); exact rfl) | ((with_reducible apply al_add); (iterate 3 exact rfl); (first | exact i64_wrap (by omega) | assumption | rfl); exact rfl))); (with_reducible apply al_nil))))
        refine ⟨l.length - (k + 1), row1 0 (p9Row v' ((out ++ [(x, y)]) ++ [(a, b)])), _, [(5, mPx x y)], by omega, ⟨k + 1, v', ki + 1, (out ++ [(x, y)]) ++ [(a, b)], true, by omega, rfl, by omega, by rw [hany]; rfl, by rw [if_pos rfl, hout'], rfl, rfl, rfl⟩, ?_, rfl, ⟨rfl, rfl, rfl, rfl, rfl, rfl, rfl, trivial⟩, ⟨rfl, trivial⟩, rfl⟩
        have e1 : p9Row v' ((out ++ [(x, y)]) ++ [(a, b)]) = ⟨36, 2, v', out.length + 1 + 1, (itC out ++ [.c (.int .i64 x), .c (.int .i64 y)]) ++ [.c (.int .i64 a), .c (.int .i64 b)]⟩ := by
          unfold p9Row
          rw [itC_append, itC_append, List.length_append, List.length_append]; rfl
        rw [e1]; exact row1_le _ _ _
      | false =>
        rw [hah] at C1 hany
        have hout' : l.take (k + 1) = out ++ [(a, b)] := by rw [hout, ht]
        clear hout g1 ht
        (repeat (first | ((with_reducible apply hs_nilS); kernel_rfl) | ((with_reducible apply rwp_draw (id := 6) [0,1,2,3,4,5,6,7,8,9,10,11]); kernel_rfl; kernel_rfl; exact rfl) | ((with_reducible apply rwp_seq)) | ((with_reducible apply rthen_normal)) | ((with_reducible apply rwp_region)) | ((with_reducible apply hs_nil)) | ((with_reducible apply rwp_skip)) | ((with_reducible apply rwp_block)) | ((with_reducible apply rwp_cond_1); exact rfl; (first | assumption | exact decide_eq_true (by omega) | (simp only [Bool.not_eq_true', decide_eq_false_iff_not, decide_eq_true_eq, Bool.not_eq_false']; (first | done | omega)) | exact rfl)) | ((with_reducible apply rwp_cond_0); exact rfl; (first | assumption | exact decide_eq_false (by omega) | (simp only [Bool.not_eq_true', decide_eq_false_iff_not, decide_eq_true_eq, Bool.not_eq_false']; (first | done | omega)) | exact rfl)) | ((with_reducible apply hs_c); exact rfl; (repeat (first | ((with_reducible apply al_q); exact rfl) | ((with_reducible apply al_loadPN); (iterate 5 exact rfl)) | ((with_reducible apply al_idxS); (iterate 3 exact rfl); (first | decide | omega); (first | decide | omega); (first | assumption | rfl); exact rfl) | ((with_reducible apply al_len); (iterate 3 exact rfl)) | ((with_reducible apply al_bslice); (iterate 10 exact rfl)) | (refine al_call4 rfl rfl rfl rfl rfl rfl (by (first | exact C1)) rfl ?_))); (with_reducible apply al_nil))))
        refine hs_app0 0 rfl rfl rfl rfl ?q1 ?q2 rfl rfl (fun v' hv' => ?_)
        case q1 => exact le_maxLen (by show out.length + 1 ≤ 1000000; omega)
        case q2 => show (out.length + 1) * 16 ≤ 140737488355328; omega
        (repeat (first | ((with_reducible apply rthen_normal)) | ((with_reducible apply rwp_region)) | ((with_reducible apply hs_nil)) | ((with_reducible apply rblock_normal)) | ((with_reducible apply hs_c); exact rfl; (repeat (first | ((with_reducible apply al_q); exact rfl) | ((with_reducible apply al_add); (iterate 3 exact rfl); (first | exact i64_wrap (by omega) | assumption | rfl); exact rfl))); (with_reducible apply al_nil))))
        refine ⟨l.length - (k + 1), row1 0 (p9Row v' (out ++ [(a, b)])), _, [(5, mPx x y)], by omega, ⟨k + 1, v', ki + 1, out ++ [(a, b)], false, by omega, rfl, by omega, by rw [hany]; rfl, by rw [if_neg (by decide), hout'], rfl, rfl, rfl⟩, ?_, rfl, ⟨rfl, rfl, rfl, rfl, rfl, rfl, rfl, trivial⟩, ⟨rfl, trivial⟩, rfl⟩
        rw [p9Row_one]; exact row1_le _ _ _
  · have q2 : ¬ ki < (l.length : Int) := by omega
    have hkl : k = l.length := by omega
    have e0 : l.take k = l := by rw [hkl, List.take_length]
    rw [e0] at hdn hout
    cases dn with
    | true =>
      rw [if_pos rfl] at hout
      rw [← hout]
      refine rwp_cool 0 9 (p9Row v out) rfl rfl ?_
      (repeat (first | ((with_reducible apply rwp_seq)) | ((with_reducible apply rthen_normal)) | ((with_reducible apply rwp_region)) | ((with_reducible apply hs_nil)) | ((with_reducible apply rwp_ret)) | ((with_reducible apply rwp_skip)) | ((with_reducible apply rblock_same)) | ((with_reducible apply rwp_exit)) | ((with_reducible apply rthen_exit)) | ((with_reducible apply rwp_cond_0); exact rfl; (first | assumption | exact decide_eq_false (by omega) | (simp only [Bool.not_eq_true', decide_eq_false_iff_not, decide_eq_true_eq, Bool.not_eq_false']; (first | done | omega)) | exact rfl)) | ((with_reducible apply hs_c); exact rfl; (repeat (first | ((with_reducible apply al_q); exact rfl) | ((with_reducible apply al_len); (iterate 3 exact rfl)))); (with_reducible apply al_nil))))
      (first | (refine apost_ret rfl (resl_tmp rfl resl_nil) ?_))
      exact AV.Le.refl _
    | false =>
      rw [if_neg (by decide)] at hout
      have hf : insQ fx fy (x, y) l = out ++ [(x, y)] := by rw [hout]; exact insQ_none hdn.symm
      rw [hf]
      (repeat (first | ((with_reducible apply rwp_seq)) | ((with_reducible apply rthen_normal)) | ((with_reducible apply rwp_region)) | ((with_reducible apply hs_nil)) | ((with_reducible apply rblock_same)) | ((with_reducible apply rwp_exit)) | ((with_reducible apply rthen_exit)) | ((with_reducible apply rwp_cond_1); exact rfl; (first | assumption | exact decide_eq_true (by omega) | (simp only [Bool.not_eq_true', decide_eq_false_iff_not, decide_eq_true_eq, Bool.not_eq_false']; (first | done | omega)) | exact rfl)) | ((with_reducible apply rwp_cond_0); exact rfl; (first | assumption | exact decide_eq_false (by omega) | (simp only [Bool.not_eq_true', decide_eq_false_iff_not, decide_eq_true_eq, Bool.not_eq_false']; (first | done | omega)) | exact rfl)) | ((with_reducible apply hs_c); exact rfl; (repeat (first | ((with_reducible apply al_q); exact rfl) | ((with_reducible apply al_len); (iterate 3 exact rfl)) | ((with_reducible apply al_bslice); (iterate 10 exact rfl)))); (with_reducible apply al_nil))))
      refine hs_appC (k := (out ++ [(x, y)]).length) (zs := itC (out ++ [(x, y)])) 0 rfl rfl rfl rfl ?p1 ?p2 ?p3 ?p4 rfl rfl ?_
      case p1 => exact le_maxLen (by show out.length + 1 ≤ 1000000; omega)
      case p2 => show (out.length + 1) * 16 ≤ 140737488355328; omega
      case p3 => show out.length + 1 = (out ++ [(x, y)]).length; rw [List.length_append]; rfl
      case p4 => exact itC_one9 out x y
      (repeat (first | ((with_reducible apply rwp_seq)) | ((with_reducible apply rthen_normal)) | ((with_reducible apply rwp_region)) | ((with_reducible apply hs_nil)) | ((with_reducible apply rwp_ret)) | ((with_reducible apply hs_c); exact rfl; (repeat (first | ((with_reducible apply al_q); exact rfl))); (with_reducible apply al_nil))))
      (first | (refine apost_ret rfl (resl_tmp rfl resl_nil) ?_))
      exact AV.Le.refl _
end Go.Proofs.Ytaennpehlhgggaa

namespace Go.Proofs.Ytaennpehlhgggaa
open Go.RowKit
set_option linter.unusedVariables false
set_option linter.unusedSimpArgs false
/-- a function that is handed a row by its slice. -/
def RCall (P : Program) (f : FuncId) (args : List AV) (r : HRow) (post : AV → HRow → Prop) : Prop :=
  ∀ i, HCall P f args noMem (row1 i r) fun v m' R' => ∃ r', m' = noMem ∧ R' = row1 i r' ∧ post v r'
/-- and that leaves it as it is, and makes another one. -/
def RCall2 (P : Program) (f : FuncId) (args : List AV) (r : HRow) (post : AV → HRow → Prop) : Prop :=
  ∀ i j, i ≠ j → HCall P f args noMem (row1 i r) fun v m' R' => ∃ q, m' = noMem ∧ R' = upd (row1 i r) j q ∧ post v q
theorem renId {args : List AV} (ha : args.all AV.closedB = true) : args.map (AV.ren fun j => j) = args := by
  rw [List.all_eq_true] at ha
  conv => rhs; rw [← List.map_id args]
  exact List.map_congr_left fun x hx => ren_closedV (ha x hx)
theorem rcall_of {P : Program} {f : FuncId} {args : List AV} {r : HRow} {post : AV → HRow → Prop} (ha : args.all AV.closedB = true) (hp : ∀ v r', post v r' → v.closedB = true)
    (h : HCall P f args noMem (row1 0 r) fun v m' R' => ∃ r', m' = noMem ∧ R' = row1 0 r' ∧ post v r') : RCall P f args r post := by
  intro i
  have h1 := h.ren (π := fun j => j) (σ := swp 0 i) (τ := swp 0 i) (fun _ => rfl) (swp_swp _ _) (swp_swp _ _)
  rw [renId ha, show Mem.ren (fun j => j) noMem = noMem from rfl, row1_ren] at h1
  refine ⟨fun U ρ W vs hH hown hvs => (h1.call U ρ W vs hH hown hvs).mono ?_⟩
  rintro e W' ⟨v, r1, m', R', ρ', U', q0, ⟨r2, m2, R2, ⟨r', rfl, rfl, hq⟩, rfl, rfl, rfl⟩, q⟩
  rw [show Mem.ren (fun j => j) noMem = noMem from rfl, row1_ren, ren_closedV (hp _ _ hq)] at q
  exact ⟨v, r2, noMem, row1 i r', ρ', U', q0, ⟨r', rfl, rfl, hq⟩, q⟩
/-- the end of such a function. -/
theorem hfin_r1 {P : Program} {fn : Func} {l : List ResultVar} {xs : List AW} {R : Rws} {s : AS} {r r' : HRow} {post : AV → HRow → Prop} (hr : fn.results = l.toArray) (h : l.map (resOf P s) = xs.map some) (hi : R 0 = some r') (hx : (packed xs).closedB = true)
    (hp : post (packed xs) r') : hfin P fn noMem (row1 0 r) (fun v m' R' => ∃ r', m' = noMem ∧ R' = row1 0 r' ∧ post v r') R s := by
  refine ⟨xs, packed xs, noMem, row1 0 r', by rw [hr]; exact h, .refl _, ⟨r', rfl, rfl, hp⟩, fun k c h => (by cases h), fun i q h => ?_, fun j hj => absurd hj (AV.closed_of hx j), fun k c x j h => (by cases h), fun k c h => (by cases h), fun i q h => ?_⟩
  · obtain ⟨rfl, rfl⟩ := row1_iff h; exact hi
  · obtain ⟨rfl, rfl⟩ := row1_iff h; exact ⟨r', by unfold row1; exact upd_same _ _ _⟩
section
variable {P : Program} {R : Rws} {s : AS} {ops : Array Oper} {dr : Option (List Nat)} {ty : Nat} {pos : String} {after : Array Edge} {guard : Option (Nat × Bool)} {K : Rws → AS → Prop} {rest : List Oper}
theorem over_noMem (s : AS) : s.over noMem = s := by
  show ({ s with mem := ovr (fun _ => none) s.mem } : AS) = s
  rw [ovr_none]
/-- such a call in a walk. -/
theorem hs_r1 (i : Nat) {dst : Option Nat} {f : FuncId} {g : Operand} {ts : Array TypeId} {l : List Operand} {args : List AV} {r : HRow} {post : AV → HRow → Prop} [E : Enters P f] (hw : want ops ⟨dst, .call ⟨.value g, l.toArray, ts⟩, ty, pos, after, guard⟩ s = some true) (hm : hotM dr ⟨dst, .call ⟨.value g, l.toArray, ts⟩, ty, pos, after, guard⟩ = true)
    (hg : s.look g = some (vC (.func (.func f) #[] #[]))) (ha : l.map s.look = args.map some) (hp : RCall P f args r post) (hi : R i = some r) (hac : args.all AV.closedB = true) (hd : dstB dst s.n = true)
    (h : ∀ v r', post v r' → hList P ops dr K rest (upd R i r') (s.put dst v)) : hList P ops dr K (⟨dst, .call ⟨.value g, l.toArray, ts⟩, ty, pos, after, guard⟩ :: rest) R s := by
  refine hs_h hw hm hg ha (hp i) (fun x hx j hj => absurd hj (AV.closed_of (List.all_eq_true.1 hac x hx) j)) (fun k' cs' h' => by cases h') (fun i' r' h' => ?_) (fun k' cs' x j h' hx hj => by cases h') hd ?_
  · obtain ⟨rfl, rfl⟩ := row1_iff h'; exact hi
  · rintro v m' R' ⟨r', rfl, rfl, hq⟩
    refine ⟨fun k' c h' => (by cases h'), ?_⟩
    rw [show ovr (row1 i r') R = upd R i r' from ovr_upd R i r', over_noMem]
    exact h v r' hq
theorem hs_r2 (i j : Nat) (hij : i ≠ j) {dst : Option Nat} {f : FuncId} {g : Operand} {ts : Array TypeId} {l : List Operand} {args : List AV} {r : HRow} {post : AV → HRow → Prop} [E : Enters P f] (hw : want ops ⟨dst, .call ⟨.value g, l.toArray, ts⟩, ty, pos, after, guard⟩ s = some true) (hm : hotM dr ⟨dst, .call ⟨.value g, l.toArray, ts⟩, ty, pos, after, guard⟩ = true)
    (hg : s.look g = some (vC (.func (.func f) #[] #[]))) (ha : l.map s.look = args.map some) (hp : RCall2 P f args r post) (hi : R i = some r) (hac : args.all AV.closedB = true) (hd : dstB dst s.n = true)
    (h : ∀ v q, post v q → hList P ops dr K rest (upd R j q) (s.put dst v)) : hList P ops dr K (⟨dst, .call ⟨.value g, l.toArray, ts⟩, ty, pos, after, guard⟩ :: rest) R s := by
  refine hs_h hw hm hg ha (hp i j hij) (fun x hx j hj => absurd hj (AV.closed_of (List.all_eq_true.1 hac x hx) j)) (fun k' cs' h' => by cases h') (fun i' r' h' => ?_) (fun k' cs' x j h' hx hj => by cases h') hd ?_
  · obtain ⟨rfl, rfl⟩ := row1_iff h'; exact hi
  · rintro v m' R' ⟨q, rfl, rfl, hq⟩
    refine ⟨fun k' c h' => (by cases h'), ?_⟩
    have e1 : ovr (upd (row1 i r) j q) R = upd R j q := by
      funext x
      unfold row1
      by_cases e : x = j
      · subst e; rw [upd_same]; exact ovr_l (upd_same _ _ _)
      · by_cases e2 : x = i
        · subst e2; rw [upd_ne _ _ e, hi]; exact ovr_l (by rw [upd_ne _ _ e, upd_same])
        · rw [upd_ne _ _ e]; exact ovr_r (by rw [upd_ne _ _ e, upd_ne _ _ e2]; rfl)
    rw [e1, over_noMem]
    exact h v q hq
/-- the address of a field of a row's thing. -/
theorem hs_fld {x : Operand} {t f fo off : Nat} {r : HRow} (i : Nat) [S : FldOf P t f fo] {d : Nat} (hi : R i = some r) (hw : want ops ⟨some d, .fieldAddr t x f, ty, pos, after, guard⟩ s = some true) (hx : s.look x = some (vC (rowPtr r.v off))) (hn : 0 < r.n) (hr : rdD ops dr (some d) = true) (hd : Nat.blt d s.n = true) (h : hList P ops dr K rest R (s.put (some d) (vC (rowPtr r.v (off + fo))))) : hList P ops dr K (⟨some d, .fieldAddr t x f, ty, pos, after, guard⟩ :: rest) R s :=
  hs_read hw (.fld i r off t f fo x hi hn rfl hx S.h) rfl hr hd h
/-- a slice of a row from a thing on, its length, its things. -/
theorem hs_slL {x y : Operand} {t z lo d : Nat} {r : HRow} (i : Nat) [S : SliOf P t z] (hi : R i = some r) (hw : want ops ⟨some d, .slice t x (some y) none none, ty, pos, after, guard⟩ s = some true) (hx : s.look x = some (vC r.v)) (hy : s.look y = some (vC (.int .i64 lo))) (hz : z = r.sz) (hsz : Nat.blt 0 r.sz = true) (h1 : lo ≤ r.n) (hone : (rowSl r.v r.sz lo r.n).oneCell' = true) (hr : rdD ops dr (some d) = true) (hd : Nat.blt d s.n = true) (h : hList P ops dr K rest R (s.put (some d) (vC (rowSl r.v r.sz lo r.n)))) : hList P ops dr K (⟨some d, .slice t x (some y) none none, ty, pos, after, guard⟩ :: rest) R s := by
  subst hz
  exact hs_read hw (.sl i r t lo r.n x (some y) none hi (by simpa [Nat.blt_eq] using hsz) rfl hx (.inr ⟨y, rfl, hy⟩) (.inl ⟨rfl, rfl⟩) h1 (Nat.le_refl _) S.h) rfl hr hd h
theorem hs_lenS {x : Operand} {t z lo hi d : Nat} {r : HRow} (i : Nat) [S : SliOf P t z] (hi' : R i = some r) (hw : want ops ⟨some d, .call ⟨.builtin .len, #[x], #[t]⟩, ty, pos, after, guard⟩ s = some true) (hx : s.look x = some (vC (rowSl r.v r.sz lo hi))) (hsz : Nat.blt 0 r.sz = true) (hr : rdD ops dr (some d) = true) (hd : Nat.blt d s.n = true) (h : hList P ops dr K rest R (s.put (some d) (vI ((hi - lo : Nat) : Int)))) : hList P ops dr K (⟨some d, .call ⟨.builtin .len, #[x], #[t]⟩, ty, pos, after, guard⟩ :: rest) R s :=
  hs_read hw (.lenS i r t z lo hi x hi' (by simpa [Nat.blt_eq] using hsz) rfl hx S.h) rfl hr hd h
theorem hs_idxS {x y : Operand} {t z lo hi d : Nat} {r : HRow} {ik : IntKind} {j : Int} (i : Nat) [S : SliOf P t z] (hi' : R i = some r) (hw : want ops ⟨some d, .indexAddr t x y, ty, pos, after, guard⟩ s = some true) (hx : s.look x = some (vC (rowSl r.v r.sz lo hi))) (hy : s.look y = some (vC (.int ik j))) (hz : z = r.sz) (h0 : 0 ≤ j) (h1 : j < ((hi - lo : Nat) : Int)) (h2 : hi ≤ r.n) (hr : rdD ops dr (some d) = true) (hd : Nat.blt d s.n = true) (h : hList P ops dr K rest R (s.put (some d) (vC (rowPtr r.v ((lo + j.toNat) * r.sz))))) : hList P ops dr K (⟨some d, .indexAddr t x y, ty, pos, after, guard⟩ :: rest) R s := by
  subst hz
  exact hs_read hw (.idxS i r t lo hi x y ik j hi' rfl hx hy h0 h1 h2 S.h) rfl hr hd h
def rowTwo (r q : HRow) : Rws := fun i => if i = 0 then some r else if i = 1 then some q else none
theorem rowTwo_le {R : Rws} {r q : HRow} (h0 : R 0 = some r) (h1 : R 1 = some q) : RLe (rowTwo r q) R := by
  intro i p h
  unfold rowTwo at h
  by_cases e0 : i = 0
  · subst e0; simp at h; subst h; exact h0
  · by_cases e1 : i = 1
    · subst e1; simp at h; subst h; exact h1
    · simp [e0, e1] at h
end
/-- of a world: what becomes of the row that was handed in. -/
structure RowTo (W W' : World) (r r' : HRow) (U : Nat → Prop) : Prop where
  grown : W.grownBy W' r.v.ownBlock
  row : ∃ xs, W'.ownsRow 0 r'.e r'.sz r'.v r'.n xs ∧ RpL U id W r'.ys xs
  cl : ∀ y ∈ r'.ys, y.closedB = true
  blk : ∀ g, r'.v.ownBlock = some g → r.v.ownBlock = some g ∨ W.heap.size ≤ g
theorem RpL.toId {U : Nat → Prop} {ρ ρ' : Nat → Nat} {W : World} {xs : List AC} {vs : List Value} (hc : ∀ y ∈ xs, y.closedB = true) (h : RpL U ρ W xs vs) : RpL U ρ' W xs vs := h.closed_map hc fun b hb _ => ⟨hb, rfl⟩
theorem RpVs.toId {U : Nat → Prop} {ρ : Nat → Nat} {W : World} {args : List AV} {vs : List Value} (hc : args.all AV.closedB = true) (h : RpVs U ρ W args vs) : RpVs U id W args vs :=
  ⟨h.1, fun i x v hx hv => Rel.id_of_closed (AV.closed_of (List.all_eq_true.1 hc x (List.mem_of_getElem? hx))) (h.2 i x v hx hv)⟩
theorem kept_free {U : Nat → Prop} {W W' : World} {row : Option Nat} (hg : W.grownBy W' row) (hr : ∀ g, row = some g → ¬ U g) : ∀ b, U b → b < W.heap.size → (U b ∧ b < W.heap.size) ∧ W'.heap[b]? = W.heap[b]? := fun b hb hl =>
  ⟨⟨hb, hl⟩, hg.block b hl fun e => hr b e.symm hb⟩
theorem rcall_world {P : Program} {f : FuncId} {args : List AV} {r : HRow} {post : AV → HRow → Prop} (hac : args.all AV.closedB = true) (hsz : 0 < r.sz) (hps : ∀ rv r', post rv r' → 0 < r'.sz)
    (h : ∀ (U : Nat → Prop) (W : World) (vs : List Value) (xs : List Value), W.ownsRow 0 r.e r.sz r.v r.n xs → RpL U id W r.ys xs → (∀ y ∈ r.ys, y.closedB = true) → (∀ g, r.v.ownBlock = some g → ¬ U g) → RpVs U id W args vs →
      Calls P f vs.toArray W fun e W' => ∃ v rv r', e = .returned v ∧ post rv r' ∧ RowTo W W' r r' U ∧ RpV U id W rv v ∧ rv.closedB = true) : RCall P f args r post := by
  intro i
  refine ⟨fun U ρ W vs hH hown hvs => ?_⟩
  obtain ⟨hok0, hcl, hnu0⟩ := hH.rows i r (by unfold row1; exact upd_same _ _ _)
  obtain ⟨xs, ho, hl⟩ := hok0.row hsz
  have hnu := fun g hg => hnu0 g (.inl hg)
  refine (h U W vs xs ho (hl.toId hcl) hcl (fun g hg => (hnu g hg).1) (hvs.toId hac)).mono ?_
  rintro e W' ⟨v, rv, r', rfl, hp, ⟨hgr, ⟨ys, ho', hl'⟩, hcl', hblk⟩, hrv, hrc⟩
  have kf := kept_free hgr fun g hg => (hnu g hg).1
  have hat : ∀ b, HotAt ρ noMem (row1 i r) b ↔ r.v.ownBlock = some b := fun b => by
    constructor
    · rintro (⟨k, cs, hk, _⟩ | ⟨j, q, hj, hg⟩)
      · cases hk
      · obtain ⟨rfl, rfl⟩ := row1_iff hj; exact HRow.own_row hg hsz
    · intro hg; exact .inr ⟨i, r, by unfold row1; exact upd_same _ _ _, .inl hg⟩
  refine ⟨v, rv, noMem, row1 i r', ρ, fun b => U b ∧ b < W.heap.size, rfl, ⟨r', rfl, rfl, hp⟩, ⟨fun k cs hk => (by cases hk), fun k cs x j hk => (by cases hk), fun k k' cs cs' hk => (by cases hk), fun j q hj => ?_, fun j k q q' hj hk hjk => ?_⟩, ?_, fun j hj => absurd hj (AV.closed_of hrc j), fun k cs hk => (by cases hk), fun j q hj => ?_, fun b hb => .inl hb.1, ?_, ⟨hgr.os, hgr.tape, hgr.output, hgr.size, fun b hb => hgr.block b hb.1 fun e => hb.2 ((hat b).2 e.symm)⟩⟩
  · obtain ⟨rfl, rfl⟩ := row1_iff hj
    refine ⟨.inl ⟨hps _ _ hp, ys, ho', hl'.closed_map hcl' kf⟩, hcl', fun g hg => ⟨fun hu => ?_, fun k cs hk => (by cases hk)⟩⟩
    rcases hblk g (HRow.own_row hg (hps _ _ hp)) with q | q
    · exact (hnu g q).1 hu.1
    · omega
  · obtain ⟨rfl, _⟩ := row1_iff hj
    obtain ⟨rfl, _⟩ := row1_iff hk
    exact absurd rfl hjk
  · exact hrv.map kf fun j hj => absurd hj (AV.closed_of hrc j)
  · obtain ⟨rfl, rfl⟩ := row1_iff hj
    exact ⟨r', by unfold row1; exact upd_same _ _ _⟩
  · rintro b (⟨k, cs, hk, _⟩ | ⟨j, q, hj, hg⟩)
    · cases hk
    · obtain ⟨rfl, rfl⟩ := row1_iff hj
      rcases hblk b (HRow.own_row hg (hps _ _ hp)) with z | z
      · exact .inl ((hat b).2 z)
      · exact .inr z
/-- of a world: another row is made. -/
structure RowNew (W W' : World) (q : HRow) (U : Nat → Prop) : Prop where
  grown : W.grownBy W' none
  row : ∃ xs, W'.ownsRow 0 q.e q.sz q.v q.n xs ∧ RpL U id W q.ys xs
  cl : ∀ y ∈ q.ys, y.closedB = true
  blk : ∀ g, q.v.ownBlock = some g → W.heap.size ≤ g
theorem rcall2_world {P : Program} {f : FuncId} {args : List AV} {r : HRow} {post : AV → HRow → Prop} (hac : args.all AV.closedB = true) (hsz : 0 < r.sz) (hps : ∀ rv q, post rv q → 0 < q.sz)
    (h : ∀ (U : Nat → Prop) (W : World) (vs : List Value) (xs : List Value), W.ownsRow 0 r.e r.sz r.v r.n xs → RpL U id W r.ys xs → (∀ y ∈ r.ys, y.closedB = true) → RpVs U id W args vs →
      Calls P f vs.toArray W fun e W' => ∃ v rv q, e = .returned v ∧ post rv q ∧ RowNew W W' q U ∧ RpV U id W rv v ∧ rv.closedB = true) : RCall2 P f args r post := by
  intro i j hij
  refine ⟨fun U ρ W vs hH hown hvs => ?_⟩
  have hi : row1 i r i = some r := by unfold row1; exact upd_same _ _ _
  obtain ⟨hok0, hcl, hnu⟩ := hH.rows i r hi
  obtain ⟨xs, ho, hl⟩ := hok0.row hsz
  refine (h U W vs xs ho (hl.toId hcl) hcl (hvs.toId hac)).mono ?_
  rintro e W' ⟨v, rv, q, rfl, hp, ⟨hgr, ⟨ys, ho', hl'⟩, hcl', hblk⟩, hrv, hrc⟩
  have kf := kept_free (U := U) hgr fun g hg => by cases hg
  have two : ∀ {k : Nat} {p : HRow}, upd (row1 i r) j q k = some p → (k = j ∧ p = q) ∨ (k = i ∧ p = r) := fun {k p} h => by
    by_cases e : k = j
    · subst e; rw [upd_same] at h; cases h; exact .inl ⟨rfl, rfl⟩
    · rw [upd_ne _ _ e] at h; exact .inr (row1_iff h)
  have rl : ∀ g, r.own g → g < W.heap.size := fun g hg => hok0.lt hg
  have hqs := hps _ _ hp
  have hblk := fun g (hg : q.own g) => hblk g (HRow.own_row hg hqs)
  refine ⟨v, rv, noMem, upd (row1 i r) j q, ρ, fun b => U b ∧ b < W.heap.size, rfl, ⟨q, rfl, rfl, hp⟩, ⟨fun k cs hk => (by cases hk), fun k cs x j hk => (by cases hk), fun k k' cs cs' hk => (by cases hk), fun k p hk => ?_, fun k k' p p' hk hk' hne => ?_⟩, ?_, fun j hj => absurd hj (AV.closed_of hrc j), fun k cs hk => (by cases hk), fun k p hk => ?_, fun b hb => .inl hb.1, ?_, ⟨hgr.os, hgr.tape, hgr.output, hgr.size, fun b hb => hgr.block b hb.1 fun e => by cases e⟩⟩
  · rcases two hk with ⟨rfl, rfl⟩ | ⟨rfl, rfl⟩
    · exact ⟨.inl ⟨hqs, ys, ho', hl'.closed_map hcl' kf⟩, hcl', fun g hg => ⟨fun hu => by have := hblk g hg; omega, fun k cs hk => (by cases hk)⟩⟩
    · exact ⟨hok0.kept hcl (fun g hg => hgr.block g (rl g hg) fun e => (by cases e)) hgr.size kf, hcl, fun g hg => ⟨fun hu => (hnu g hg).1 hu.1, fun k cs hk => (by cases hk)⟩⟩
  · intro g hg hg'
    rcases two hk with ⟨rfl, rfl⟩ | ⟨rfl, rfl⟩
    · rcases two hk' with ⟨rfl, rfl⟩ | ⟨rfl, rfl⟩
      · exact hne rfl
      · have := hblk g hg; have := rl g hg'; omega
    · rcases two hk' with ⟨rfl, rfl⟩ | ⟨rfl, rfl⟩
      · have := hblk g hg'; have := rl g hg; omega
      · exact hne rfl
  · exact hrv.map kf fun j hj => absurd hj (AV.closed_of hrc j)
  · obtain ⟨rfl, rfl⟩ := row1_iff hk
    exact ⟨p, by rw [upd_ne _ _ hij]; exact hi⟩
  · rintro b (⟨k, cs, hk, _⟩ | ⟨k, p, hk, hg⟩)
    · cases hk
    · rcases two hk with ⟨rfl, rfl⟩ | ⟨rfl, rfl⟩
      · exact .inr (hblk b hg)
      · exact .inl (.inr ⟨_, _, hi, hg⟩)
/-- another thing is told of an own block, of which it holds, too. -/
theorem Rel.retellm {B : Base} {A : Nat → Prop} {s : AS} {ρ : Nat → Nat} {a : Act} {w : World} {k : Nat} {cs ds : List AC} (h : Rel B A s ρ a w) (hk : s.mem k = some cs) (hr : ∀ vs, RpL (s.free A ρ) ρ w cs vs → RpL (s.free A ρ) ρ w ds vs) : Rel B A (s.setm k ds) ρ a w := by
  obtain ⟨vs, ty, g1, g2, _⟩ := h.mm k cs hk
  have := h.set hk (hr vs g2)
  rwa [setRow_self w (ρ k) vs.toArray ty (0, 0) g1] at this
/-- a row is given up, and told by what an own block holds, too. -/
theorem rwp_coolm (i d k off : Nat) {P : Program} {R : Rws} {s : AS} {c : Code} {Q : Exit → Rws → AS → Prop} {cs : List AC} (r : HRow) (hi : R i = some r) (hd : s.tmps d = some (vC r.v)) (hk : s.mem k = some cs) (hc : cs[off]? = some (.c r.v)) (h : RWp P c Q (fun j => if j = i then none else R j) ((s.put (some d) (vS r.sz r.n r.ys)).setm k (cs.set off (.p (SlP r.sz r.n r.ys))))) (hsz : 0 < r.sz := by first | decide | exact Nat.zero_lt_succ _) : RWp P c Q R s := by
  rintro ok B0 A0 a w ⟨A, ρ, hR⟩
  have hdn : d < s.n := by
    obtain ⟨v, h1, _⟩ := hR.rel.tm d _ hd
    rw [← hR.rel.size]
    exact (Array.getElem?_eq_some_iff.1 h1).1
  obtain ⟨A', hR4⟩ := hR.cool i d r hi hsz hd hdn
  obtain ⟨v, v1, v2⟩ := hR.rel.tm d _ hd
  obtain ⟨v', w1, w2⟩ := hR4.rel.tm d _ (upd_same _ _ _)
  rw [v1] at w1
  cases w1
  obtain ⟨rfl, _⟩ := v2
  have hk4 : (s.put (some d) (vS r.sz r.n r.ys)).mem k = some cs := hk
  have hR5 := hR4.next (hR4.rel.retellm (ds := cs.set off (.p (SlP r.sz r.n r.ys))) hk4 fun vs hv => ⟨by rw [List.length_set]; exact hv.1, fun j x u hx hu => by
    rw [List.getElem?_set] at hx
    by_cases e : off = j
    · subst e
      rw [if_pos rfl] at hx
      split at hx
      · cases hx
        obtain ⟨rfl, _⟩ := hv.2 off _ u hc hu
        exact w2
      · cases hx
    · rw [if_neg e] at hx
      exact hv.2 j x u hx hu⟩)
  have ok4 : (s.put (some d) (vS r.sz r.n r.ys)).Ok := ok.put fun j hj => absurd hj (noownp _ j)
  refine h (ok4.setm fun x hx j hj => ?_) B0 A0 a w ⟨A', ρ, hR5⟩
  rcases List.mem_or_eq_of_mem_set hx with hx | rfl
  · exact ok4.mm k cs x j hk4 hx hj
  · cases hj
end Go.Proofs.Ytaennpehlhgggaa

namespace Go.Proofs.Ytaennpehlhgggaa
open Go.RowKit
set_option linter.unusedVariables false
set_option linter.unusedSimpArgs false
/-- is a number not too far? -/
def fB (n : Int) : Bool := decide (-536870912 ≤ n) && decide (n ≤ 536870912)
def rB (x y : Int) : Bool := fB x && fB y
/-- the product of three points. -/
def cr (o1 o2 a1 a2 b1 b2 : Int) : Int := (a1 - o1) * (b2 - o2) - (a2 - o2) * (b1 - o1)
/-- the product, or 0, if a point is not right. -/
def crV (o1 o2 a1 a2 b1 b2 : Int) : Int := if (rB o1 o2 && rB a1 a2 && rB b1 b2) = true then cr o1 o2 a1 a2 b1 b2 else 0
/-- the sign of a number. -/
def sgn4 (n : Int) : Int := if n < 0 then -1 else if 0 < n then 1 else 0
/-! boxes -/
abbrev imin (a b : Int) : Int := if b < a then b else a
abbrev imax (a b : Int) : Int := if b > a then b else a
def hB (l1 l2 h1 h2 p1 p2 : Int) : Bool := decide (l1 ≤ p1) && decide (p1 ≤ h1) && decide (l2 ≤ p2) && decide (p2 ≤ h2)
/-- is p on the segment from a to b? -/
def onB (p1 p2 a1 a2 b1 b2 : Int) : Bool := rB p1 p2 && rB a1 a2 && rB b1 b2 && hB (imin a1 b1) (imin a2 b2) (imax a1 b1) (imax a2 b2) p1 p2 && decide (cr a1 a2 b1 b2 p1 p2 = 0)
end Go.Proofs.Ytaennpehlhgggaa

namespace Go.Proofs.Ytaennpehlhgggaa
set_option linter.unusedVariables false
/-- is a point right in layer 5? -/
def rB5 (x y : Int) : Bool := decide (x ≤ 134217728) && decide (y ≤ 134217728) && decide (-134217728 ≤ x) && decide (-134217728 ≤ y)
theorem rB5_iff {x y : Int} : rB5 x y = true ↔ (-134217728 ≤ x ∧ x ≤ 134217728) ∧ -134217728 ≤ y ∧ y ≤ 134217728 := by
  unfold rB5
  simp only [Bool.and_eq_true, decide_eq_true_eq]
  omega
/-- the first point is no greater than the second. -/
def lx (a1 a2 b1 b2 : Int) : Prop := a1 < b1 ∨ (a1 = b1 ∧ a2 ≤ b2)
instance (a1 a2 b1 b2 : Int) : Decidable (lx a1 a2 b1 b2) := by unfold lx; exact inferInstance
theorem lx.trans {a1 a2 b1 b2 c1 c2 : Int} (h : lx a1 a2 b1 b2) (k : lx b1 b2 c1 c2) : lx a1 a2 c1 c2 := by unfold lx at *; omega
/-- p is on the segment from s to t, s no greater than t. -/
def inBox (p1 p2 a1 a2 b1 b2 : Int) : Prop := imin a1 b1 ≤ p1 ∧ p1 ≤ imax a1 b1 ∧ imin a2 b2 ≤ p2 ∧ p2 ≤ imax a2 b2
/-- p is on the segment from s to t. -/
def On (p1 p2 s1 s2 t1 t2 : Int) : Prop := cr s1 s2 t1 t2 p1 p2 = 0 ∧ inBox p1 p2 s1 s2 t1 t2
/-- how two directions turn. -/
def par (s1 s2 s3 s4 t1 t2 t3 t4 : Int) : Int := (s3 - s1) * (t4 - t2) - (s4 - s2) * (t3 - t1)
/-- is n over d between two numbers? -/
def bw (n d a b : Int) : Prop := imin a b * d ≤ n ∧ n ≤ imax a b * d
/-! what two segments have in common -/
structure Mt where
  k : Int
  n : Int
  d : Int
  m : Int
  e : Int
  p1 : Int
  p2 : Int
  q1 : Int
  q2 : Int
def noM : Mt := ⟨0, 0, 0, 0, 0, 0, 0, 0, 0⟩
def plM (n d m e : Int) : Mt := ⟨1, n, d, m, e, 0, 0, 0, 0⟩
def alM (p1 p2 q1 q2 : Int) : Mt := ⟨2, 0, 0, 0, 0, p1, p2, q1, q2⟩
def nr1 (n d : Int) : Int := if d < 0 then -n else n
def nr2 (d : Int) : Int := if d < 0 then -d else d
/-- the lines' numbers. -/
def nX (a1 a2 b1 b2 c1 c2 d1 d2 : Int) : Int := ((b2 - a2) * a1 + (a1 - b1) * a2) * (c1 - d1) - (a1 - b1) * ((d2 - c2) * c1 + (c1 - d1) * c2)
def nY (a1 a2 b1 b2 c1 c2 d1 d2 : Int) : Int := (b2 - a2) * ((d2 - c2) * c1 + (c1 - d1) * c2) - ((b2 - a2) * a1 + (a1 - b1) * a2) * (d2 - c2)
def wD (a1 a2 b1 b2 c1 c2 d1 d2 : Int) : Int := (b2 - a2) * (c1 - d1) - (a1 - b1) * (d2 - c2)
section
variable (a1 a2 b1 b2 c1 c2 d1 d2 : Int)
end
/-- two lines of other directions meet within both segments. -/
def four (a1 a2 b1 b2 c1 c2 d1 d2 x y d : Int) : Prop := bw x d a1 b1 ∧ bw y d a2 b2 ∧ bw x d c1 d1 ∧ bw y d c2 d2
instance (n d a b : Int) : Decidable (bw n d a b) := by unfold bw; exact inferInstance
instance (a1 a2 b1 b2 c1 c2 d1 d2 x y d : Int) : Decidable (four a1 a2 b1 b2 c1 c2 d1 d2 x y d) := by unfold four; exact inferInstance
def meetW (a1 a2 b1 b2 c1 c2 d1 d2 x y d : Int) : Mt := if four a1 a2 b1 b2 c1 c2 d1 d2 x y d then plM x d y d else noM
def meetN (a1 a2 b1 b2 c1 c2 d1 d2 : Int) : Mt :=
  meetW a1 a2 b1 b2 c1 c2 d1 d2 (nr1 (nX a1 a2 b1 b2 c1 c2 d1 d2) (wD a1 a2 b1 b2 c1 c2 d1 d2)) (nr1 (nY a1 a2 b1 b2 c1 c2 d1 d2) (wD a1 a2 b1 b2 c1 c2 d1 d2)) (nr2 (wD a1 a2 b1 b2 c1 c2 d1 d2))
/-- both above 0, or both below. -/
def same (m n : Int) : Prop := (0 < m ∧ 0 < n) ∨ (m < 0 ∧ n < 0)
instance (m n : Int) : Decidable (same m n) := by unfold same; exact inferInstance
/-! the lesser, and the greater, of two points -/
def lo1 (a1 a2 b1 b2 : Int) : Int := if lx a1 a2 b1 b2 then a1 else b1
def lo2 (a1 a2 b1 b2 : Int) : Int := if lx a1 a2 b1 b2 then a2 else b2
def hi1 (a1 a2 b1 b2 : Int) : Int := if lx a1 a2 b1 b2 then b1 else a1
def hi2 (a1 a2 b1 b2 : Int) : Int := if lx a1 a2 b1 b2 then b2 else a2
theorem on_comm {p1 p2 a1 a2 b1 b2 : Int} : On p1 p2 b1 b2 a1 a2 ↔ On p1 p2 a1 a2 b1 b2 := by
  unfold On inBox
  have e : cr b1 b2 a1 a2 p1 p2 = - cr a1 a2 b1 b2 p1 p2 := by unfold cr; grind
  have m : ∀ x y : Int, imin x y = imin y x := fun x y => by unfold imin; split <;> split <;> omega
  have n : ∀ x y : Int, imax x y = imax y x := fun x y => by unfold imax; split <;> split <;> omega
  rw [e, m a1, m a2, n a1, n a2]
  constructor <;> rintro ⟨h, k⟩ <;> exact ⟨by omega, k⟩
instance (p1 p2 a1 a2 b1 b2 : Int) : Decidable (inBox p1 p2 a1 a2 b1 b2) := by unfold inBox; exact inferInstance
instance (p1 p2 a1 a2 b1 b2 : Int) : Decidable (On p1 p2 a1 a2 b1 b2) := by unfold On; exact inferInstance
def inlP (f1 f2 g1 g2 : Int) : Mt := if f1 = g1 ∧ f2 = g2 then plM f1 1 f2 1 else alM f1 f2 g1 g2
def inl (s1 s2 s3 s4 t1 t2 t3 t4 : Int) : Mt :=
  if On (hi1 s1 s2 t1 t2) (hi2 s1 s2 t1 t2) s1 s2 s3 s4 ∧ On (hi1 s1 s2 t1 t2) (hi2 s1 s2 t1 t2) t1 t2 t3 t4 then inlP (hi1 s1 s2 t1 t2) (hi2 s1 s2 t1 t2) (lo1 s3 s4 t3 t4) (lo2 s3 s4 t3 t4) else noM
def ok5 (x y : Int) : Bool := decide (x ≤ 134217728) && decide (y ≤ 134217728) && decide (-134217728 ≤ x) && decide (-134217728 ≤ y)
/-- the sorted segments in one line. -/
def inlS (a1 a2 b1 b2 c1 c2 d1 d2 : Int) : Mt := inl (lo1 a1 a2 b1 b2) (lo2 a1 a2 b1 b2) (hi1 a1 a2 b1 b2) (hi2 a1 a2 b1 b2) (lo1 c1 c2 d1 d2) (lo2 c1 c2 d1 d2) (hi1 c1 c2 d1 d2) (hi2 c1 c2 d1 d2)
/-- what two segments of right points have in common. -/
def meetV (a1 a2 b1 b2 c1 c2 d1 d2 : Int) : Mt := if wD a1 a2 b1 b2 c1 c2 d1 d2 = 0 then inlS a1 a2 b1 b2 c1 c2 d1 d2 else meetN a1 a2 b1 b2 c1 c2 d1 d2
/-- by the ends' sides: s, t in order. -/
def meetS (s1 s2 s3 s4 t1 t2 t3 t4 A B C D : Int) : Mt :=
  if A = B then inl s1 s2 s3 s4 t1 t2 t3 t4
  else if same A B ∨ same C D then noM
  else plM (nr1 (t3 * A - t1 * B) (A - B)) (nr2 (A - B)) (nr1 (t4 * A - t2 * B) (A - B)) (nr2 (A - B))
/-! the least, and the greatest, of a row -/
def lt' (a b : Int × Int) : Prop := a.1 < b.1 ∨ (a.1 = b.1 ∧ a.2 < b.2)
instance (a b : Int × Int) : Decidable (lt' a b) := by unfold lt'; exact inferInstance
def lea (a b : Int × Int) : Int × Int := if lt' a b then a else b
def mos (a b : Int × Int) : Int × Int := if lea a b = a then b else a
/-- the ends that are on both segments. -/
def ends (a1 a2 b1 b2 c1 c2 d1 d2 : Int) : List (Int × Int) := [(a1, a2), (b1, b2), (c1, c2), (d1, d2)].filter fun p => decide (On p.1 p.2 a1 a2 b1 b2) && decide (On p.1 p.2 c1 c2 d1 d2)
def rowM : List (Int × Int) → Mt
  | [] => noM
  | x :: l => inlP (l.foldl lea x).1 (l.foldl lea x).2 (l.foldl mos x).1 (l.foldl mos x).2
end Go.Proofs.Ytaennpehlhgggaa

namespace Go.Proofs.Ytaennpehlhgggaa
open Go.RowKit
set_option linter.unusedVariables false
set_option linter.unusedSimpArgs false
set_option maxRecDepth 100000 in
set_option maxHeartbeats 4000000 in
theorem p_r2Cmp {n d m e : Int} (a : NB 200 n) (b : NB 200 d) (c : NB 200 m) (f : NB 200 e) : PCall Try.prog 104 [rfv n d, rfv m e] (vI (icmp (n * e) (m * d))) := by
  have C1 := p_rMul (n := n) (m := e) (a.up (by omega)) (f.up (by omega))
  have C2 := p_rMul (n := m) (m := d) (c.up (by omega)) (b.up (by omega))
  have C3 := p_rCmp (n := n * e) (m := m * d) ((a.mul f).up (by omega)) ((c.mul b).up (by omega))
  clear a b c f
  refine pcall_body (f := 104) Try.func104 rfl rfl rfl rfl ?_
  (repeat (first | ((with_reducible apply al_q); exact rfl) | (refine al_call2 rfl rfl rfl rfl (by (first | exact C1 | exact C2 | exact C3)) rfl ?_) | ((with_reducible apply al_nilS); kernel_rfl) | ((with_reducible apply awp_region_draw); kernel_rfl; kernel_rfl; exact rfl) | ((with_reducible apply awp_seq)) | ((with_reducible apply athen_normal)) | ((with_reducible apply awp_region)) | ((with_reducible apply al_nil)) | ((with_reducible apply awp_ret))))
  (first | (refine apost_ret rfl (resl_tmp rfl resl_nil) ?_))
  exact AV.Le.refl _
set_option maxRecDepth 100000 in
set_option maxHeartbeats 4000000 in
theorem p_r5Right {x y : Int} {b : Bool} (hb : rB5 x y = b) : PCall Try.prog 21 [vP x y] (vB b) := by
  have cs : (x ≤ 134217728 ∧ y ≤ 134217728 ∧ -134217728 ≤ x ∧ -134217728 ≤ y ∧ b = true) ∨ (x ≤ 134217728 ∧ y ≤ 134217728 ∧ -134217728 ≤ x ∧ ¬ -134217728 ≤ y ∧ b = false) ∨ (x ≤ 134217728 ∧ y ≤ 134217728 ∧ ¬ -134217728 ≤ x ∧ b = false) ∨ (x ≤ 134217728 ∧ ¬ y ≤ 134217728 ∧ b = false) ∨ (¬ x ≤ 134217728 ∧ b = false) := by
    rw [← hb]; unfold rB5
    by_cases q1 : x ≤ 134217728 <;> by_cases q2 : y ≤ 134217728 <;> by_cases q3 : -134217728 ≤ x <;> by_cases q4 : -134217728 ≤ y <;> simp [q1, q2, q3, q4]
  clear hb
  rcases cs with ⟨q1, q2, q3, q4, rfl⟩ | ⟨q1, q2, q3, q4, rfl⟩ | ⟨q1, q2, q3, rfl⟩ | ⟨q1, q2, rfl⟩ | ⟨q1, rfl⟩
  all_goals
    refine pcall_body (f := 21) Try.func21 rfl rfl rfl rfl ?_
    (repeat (first | ((with_reducible apply al_q); exact rfl) | ((with_reducible apply al_guard_b (c := true)); exact rfl; exact rfl; (first | assumption | exact decide_eq_true (by omega) | (simp only [Bool.not_eq_true', decide_eq_false_iff_not, decide_eq_true_eq, Bool.not_eq_false']; (first | done | omega)))) | ((with_reducible apply al_guard_b (c := false)); exact rfl; exact rfl; (first | assumption | exact decide_eq_false (by omega) | (simp only [Bool.not_eq_true', decide_eq_false_iff_not, decide_eq_true_eq, Bool.not_eq_false']; (first | done | omega)))) | ((with_reducible apply awp_seq)) | ((with_reducible apply athen_normal)) | ((with_reducible apply awp_region)) | ((with_reducible apply al_nil)) | ((with_reducible apply awp_ret))))
    (first | (refine apost_ret rfl (resl_tmp rfl resl_nil) ?_))
    first | exact AV.Le.refl _ | exact AV.Le.of_eq (by rw [decide_eq_true q4]; rfl) | exact AV.Le.of_eq (by rw [decide_eq_false q4]; rfl)
theorem NB.i64 {n : Int} (h0 : -9223372036854775808 ≤ n) (h1 : n < 9223372036854775808) : NB 5 n := by unfold NB; omega
end Go.Proofs.Ytaennpehlhgggaa

namespace Go.Proofs.Ytaennpehlhgggaa
set_option linter.unusedVariables false
/-- a place on the way: n over d, left itself or not. -/
structure Bd where
  n : Int
  d : Int
  own : Bool
structure Pa where
  f : Bd
  t : Bd
def cmB (x y : Bd) : Int := icmp (x.n * y.d) (y.n * x.d)
def laB (x y : Bd) : Bd := if 0 < cmB x y ∨ (cmB x y = 0 ∧ y.own = true) then x else y
def eaB (x y : Bd) : Bd := if cmB x y < 0 ∨ (cmB x y = 0 ∧ y.own = true) then x else y
def kpB (p : Pa) (u v : Int) (own : Bool) : Pa :=
  if 0 < v - u then ⟨laB p.f ⟨-u, v - u, own⟩, p.t⟩
  else if v - u < 0 then ⟨p.f, eaB p.t ⟨u, -(v - u), own⟩⟩
  else if u < 0 ∨ (u = 0 ∧ own = false) then ⟨⟨1, 1, false⟩, ⟨0, 1, false⟩⟩ else p
def anB (p : Pa) : Bool := decide (cmB p.f p.t < 0) || (decide (cmB p.f p.t = 0) && p.f.own && p.t.own)
def alB : Pa := ⟨⟨0, 1, true⟩, ⟨1, 1, true⟩⟩
theorem ic_lt (x y : Int) : icmp x y < 0 ↔ x < y := by unfold icmp; split <;> (try split) <;> omega
theorem ic_gt (x y : Int) : 0 < icmp x y ↔ y < x := by unfold icmp; split <;> (try split) <;> omega
theorem ic_eq (x y : Int) : icmp x y = 0 ↔ x = y := by unfold icmp; split <;> (try split) <;> omega
/-- is n over d not ahead of a bound; not behind it? -/
def Aft (x : Bd) (n d : Int) : Prop := x.n * d < n * x.d ∨ (x.own = true ∧ x.n * d = n * x.d)
def Bef (y : Bd) (n d : Int) : Prop := n * y.d < y.n * d ∨ (y.own = true ∧ n * y.d = y.n * d)
def InP (p : Pa) (n d : Int) : Prop := Aft p.f n d ∧ Bef p.t n d
theorem mul_lt {a b c : Int} (h : a < b) (hc : 0 < c) : a * c < b * c := Int.mul_lt_mul_of_pos_right h hc
theorem lt_mul {a b c : Int} (h : a * c < b * c) (hc : 0 < c) : a < b := Int.lt_of_mul_lt_mul_right h (by omega)
theorem le_mul {a b c : Int} (h : a * c ≤ b * c) (hc : 0 < c) : a ≤ b := Int.le_of_mul_le_mul_right h hc
theorem eq_mul {a b c : Int} (h : a * c = b * c) (hc : 0 < c) : a = b := Int.eq_of_mul_eq_mul_right (by omega) h
/-- fractions: no greater, no greater. -/
theorem fr_ll {a b c d e f : Int} (hb : 0 < b) (hd : 0 < d) (hf : 0 < f) (h : a * d < c * b) (k : c * f < e * d) : a * f < e * b := by
  have h1 := mul_lt h hf
  have h2 := mul_lt k hb
  refine lt_mul (c := d) ?_ hd
  have e1 : a * d * f = a * f * d := by grind
  have e2 : c * b * f = c * f * b := by grind
  have e3 : e * d * b = e * b * d := by grind
  omega
theorem fr_el {a b c d e f : Int} (hb : 0 < b) (hd : 0 < d) (hf : 0 < f) (h : a * d = c * b) (k : c * f < e * d) : a * f < e * b := by
  have h2 := mul_lt k hb
  refine lt_mul (c := d) ?_ hd
  have e1 : a * d * f = a * f * d := by grind
  have e2 : c * b * f = c * f * b := by grind
  have e3 : e * d * b = e * b * d := by grind
  have h1 : a * d * f = c * b * f := by rw [h]
  omega
theorem fr_le {a b c d e f : Int} (hb : 0 < b) (hd : 0 < d) (hf : 0 < f) (h : a * d < c * b) (k : c * f = e * d) : a * f < e * b := by
  have h1 := mul_lt h hf
  refine lt_mul (c := d) ?_ hd
  have e1 : a * d * f = a * f * d := by grind
  have e2 : c * b * f = c * f * b := by grind
  have e3 : e * d * b = e * b * d := by grind
  have h2 : c * f * b = e * d * b := by rw [k]
  omega
theorem fr_ee {a b c d e f : Int} (hb : 0 < b) (hd : 0 < d) (hf : 0 < f) (h : a * d = c * b) (k : c * f = e * d) : a * f = e * b := by
  refine eq_mul (c := d) ?_ hd
  have e1 : a * d * f = a * f * d := by grind
  have e2 : c * b * f = c * f * b := by grind
  have e3 : e * d * b = e * b * d := by grind
  have h1 : a * d * f = c * b * f := by rw [h]
  have h2 : c * f * b = e * d * b := by rw [k]
  omega
theorem cm_tri (x y : Bd) : (x.n * y.d < y.n * x.d ∧ cmB x y < 0) ∨ (x.n * y.d = y.n * x.d ∧ cmB x y = 0) ∨ (y.n * x.d < x.n * y.d ∧ 0 < cmB x y) := by
  have h1 := ic_lt (x.n * y.d) (y.n * x.d)
  have h2 := ic_gt (x.n * y.d) (y.n * x.d)
  have h3 := ic_eq (x.n * y.d) (y.n * x.d)
  unfold cmB
  omega
theorem la_cases (x y : Bd) : (laB x y = x ∧ (0 < cmB x y ∨ (cmB x y = 0 ∧ y.own = true))) ∨ (laB x y = y ∧ ¬ (0 < cmB x y ∨ (cmB x y = 0 ∧ y.own = true))) := by
  unfold laB
  split
  · rename_i h; exact .inl ⟨rfl, h⟩
  · rename_i h; exact .inr ⟨rfl, h⟩
theorem ea_cases (x y : Bd) : (eaB x y = x ∧ (cmB x y < 0 ∨ (cmB x y = 0 ∧ y.own = true))) ∨ (eaB x y = y ∧ ¬ (cmB x y < 0 ∨ (cmB x y = 0 ∧ y.own = true))) := by
  unfold eaB
  split
  · rename_i h; exact .inl ⟨rfl, h⟩
  · rename_i h; exact .inr ⟨rfl, h⟩
theorem aft_la {x y : Bd} {n d : Int} (hx : 0 < x.d) (hy : 0 < y.d) (hd : 0 < d) : Aft (laB x y) n d ↔ Aft x n d ∧ Aft y n d := by
  unfold Aft
  rcases la_cases x y with ⟨e, h⟩ | ⟨e, h⟩ <;> rw [e] <;> rcases cm_tri x y with ⟨t, c⟩ | ⟨t, c⟩ | ⟨t, c⟩
  · omega
  · have ho : y.own = true := by rcases h with h | ⟨_, h⟩ <;> first | exact h | (exfalso; omega)
    refine ⟨fun k => ⟨k, ?_⟩, fun k => k.1⟩
    rcases k with k | ⟨_, k⟩
    · exact .inl (fr_el hy hx hd t.symm k)
    · exact .inr ⟨ho, fr_ee hy hx hd t.symm k⟩
  · refine ⟨fun k => ⟨k, ?_⟩, fun k => k.1⟩
    rcases k with k | ⟨_, k⟩
    · exact .inl (fr_ll hy hx hd t k)
    · exact .inl (fr_le hy hx hd t k)
  · refine ⟨fun k => ⟨?_, k⟩, fun k => k.2⟩
    rcases k with k | ⟨_, k⟩
    · exact .inl (fr_ll hx hy hd t k)
    · exact .inl (fr_le hx hy hd t k)
  · refine ⟨fun k => ⟨?_, k⟩, fun k => k.2⟩
    have ho : ¬ y.own = true := fun q => h (.inr ⟨c, q⟩)
    rcases k with k | ⟨q, k⟩
    · exact .inl (fr_el hx hy hd t k)
    · exact absurd q ho
  · omega
theorem bef_ea {x y : Bd} {n d : Int} (hx : 0 < x.d) (hy : 0 < y.d) (hd : 0 < d) : Bef (eaB x y) n d ↔ Bef x n d ∧ Bef y n d := by
  unfold Bef
  rcases ea_cases x y with ⟨e, h⟩ | ⟨e, h⟩ <;> rw [e] <;> rcases cm_tri x y with ⟨t, c⟩ | ⟨t, c⟩ | ⟨t, c⟩
  · refine ⟨fun k => ⟨k, ?_⟩, fun k => k.1⟩
    rcases k with k | ⟨_, k⟩
    · exact .inl (fr_ll hd hx hy k t)
    · exact .inl (fr_el hd hx hy k t)
  · have ho : y.own = true := by rcases h with h | ⟨_, h⟩ <;> first | exact h | (exfalso; omega)
    refine ⟨fun k => ⟨k, ?_⟩, fun k => k.1⟩
    rcases k with k | ⟨_, k⟩
    · exact .inl (fr_le hd hx hy k t)
    · exact .inr ⟨ho, fr_ee hd hx hy k t⟩
  · omega
  · omega
  · refine ⟨fun k => ⟨?_, k⟩, fun k => k.2⟩
    have ho : ¬ y.own = true := fun q => h (.inr ⟨c, q⟩)
    rcases k with k | ⟨q, k⟩
    · exact .inl (fr_le hd hy hx k t.symm)
    · exact absurd q ho
  · refine ⟨fun k => ⟨?_, k⟩, fun k => k.2⟩
    rcases k with k | ⟨_, k⟩
    · exact .inl (fr_ll hd hy hx k t)
    · exact .inl (fr_el hd hy hx k t)
/-- what goes evenly from u to v is above 0 at n over d, or is 0 there, if that is own. -/
def Hol (u v : Int) (own : Bool) (n d : Int) : Prop := 0 < u * (d - n) + v * n ∨ (own = true ∧ u * (d - n) + v * n = 0)
theorem kp_in {p : Pa} {u v n d : Int} {own : Bool} (hf : 0 < p.f.d) (ht : 0 < p.t.d) (hd : 0 < d) : InP (kpB p u v own) n d ↔ InP p n d ∧ Hol u v own n d := by
  have e0 : u * (d - n) + v * n = (v - u) * n + u * d := by grind
  unfold kpB
  by_cases h1 : 0 < v - u
  · rw [if_pos h1]
    unfold InP
    rw [aft_la hf h1 hd]
    have : Aft ⟨-u, v - u, own⟩ n d ↔ Hol u v own n d := by
      unfold Aft Hol
      simp only
      have e1 : -u * d = -(u * d) := by grind
      have e2 : n * (v - u) = (v - u) * n := by grind
      rw [e0, e1, e2]
      constructor
      · rintro (k | ⟨k, l⟩)
        · exact .inl (by omega)
        · exact .inr ⟨k, by omega⟩
      · rintro (k | ⟨k, l⟩)
        · exact .inl (by omega)
        · exact .inr ⟨k, by omega⟩
    rw [this]
    constructor
    · rintro ⟨⟨a, b⟩, c⟩; exact ⟨⟨a, c⟩, b⟩
    · rintro ⟨⟨a, c⟩, b⟩; exact ⟨⟨a, b⟩, c⟩
  · rw [if_neg h1]
    by_cases h2 : v - u < 0
    · rw [if_pos h2]
      unfold InP
      have hq : (0 : Int) < -(v - u) := by omega
      rw [bef_ea ht hq hd]
      have : Bef ⟨u, -(v - u), own⟩ n d ↔ Hol u v own n d := by
        unfold Bef Hol
        simp only
        have e2 : n * -(v - u) = -((v - u) * n) := by grind
        rw [e0, e2]
        constructor
        · rintro (k | ⟨k, l⟩)
          · exact .inl (by omega)
          · exact .inr ⟨k, by omega⟩
        · rintro (k | ⟨k, l⟩)
          · exact .inl (by omega)
          · exact .inr ⟨k, by omega⟩
      rw [this]
      constructor
      · rintro ⟨a, b, c⟩; exact ⟨⟨a, b⟩, c⟩
      · rintro ⟨⟨a, b⟩, c⟩; exact ⟨a, b, c⟩
    · rw [if_neg h2]
      have e3 : v - u = 0 := by omega
      have e4 : u * (d - n) + v * n = u * d := by rw [e0, e3]; omega
      by_cases h3 : u < 0 ∨ (u = 0 ∧ own = false)
      · rw [if_pos h3]
        have hno : ¬ Hol u v own n d := by
          unfold Hol
          rw [e4]
          rcases h3 with h3 | ⟨rfl, rfl⟩
          · have := mul_lt h3 hd
            omega
          · simp
        refine ⟨fun k => absurd k ?_, fun k => absurd k.2 hno⟩
        unfold InP Aft Bef
        simp
        omega
      · rw [if_neg h3]
        have hyes : Hol u v own n d := by
          unfold Hol
          rw [e4]
          by_cases h4 : u = 0
          · subst h4
            right
            refine ⟨?_, by simp⟩
            cases own with
            | true => rfl
            | false => exact absurd (.inr ⟨rfl, rfl⟩) h3
          · left
            have : 0 < u := by omega
            have := mul_lt this hd
            omega
        exact ⟨fun k => ⟨k, hyes⟩, fun k => k.1⟩
theorem la_d {x y : Bd} (hx : 0 < x.d) (hy : 0 < y.d) : 0 < (laB x y).d := by unfold laB; split <;> assumption
theorem ea_d {x y : Bd} (hx : 0 < x.d) (hy : 0 < y.d) : 0 < (eaB x y).d := by unfold eaB; split <;> assumption
theorem kp_d {p : Pa} {u v : Int} {own : Bool} (hf : 0 < p.f.d) (ht : 0 < p.t.d) : 0 < (kpB p u v own).f.d ∧ 0 < (kpB p u v own).t.d := by
  unfold kpB
  by_cases h1 : 0 < v - u
  · rw [if_pos h1]; exact ⟨la_d hf h1, ht⟩
  · rw [if_neg h1]
    by_cases h2 : v - u < 0
    · rw [if_pos h2]; exact ⟨hf, ea_d ht (by simp only; omega)⟩
    · rw [if_neg h2]
      split
      · exact ⟨by decide, by decide⟩
      · exact ⟨hf, ht⟩
/-- the middle of two. -/
def midN (x y : Bd) : Int := x.n * y.d + y.n * x.d
def midD (x y : Bd) : Int := x.d * y.d + x.d * y.d
theorem mid_in {p : Pa} (hf : 0 < p.f.d) (ht : 0 < p.t.d) (h : p.f.n * p.t.d < p.t.n * p.f.d) : 0 < midD p.f p.t ∧ InP p (midN p.f p.t) (midD p.f p.t) := by
  unfold midN midD InP Aft Bef
  have hm : 0 < p.f.d * p.t.d := Int.mul_pos hf ht
  refine ⟨by omega, .inl ?_, .inl ?_⟩
  · have := mul_lt h hf
    grind
  · have := mul_lt h ht
    grind
theorem an_iff {p : Pa} (hf : 0 < p.f.d) (ht : 0 < p.t.d) : anB p = true ↔ ∃ n d, 0 < d ∧ InP p n d := by
  unfold anB
  simp only [Bool.or_eq_true, Bool.and_eq_true, decide_eq_true_eq]
  constructor
  · intro h
    rcases cm_tri p.f p.t with ⟨t, c⟩ | ⟨t, c⟩ | ⟨t, c⟩
    · obtain ⟨h1, h2⟩ := mid_in hf ht t
      exact ⟨_, _, h1, h2⟩
    · rcases h with h | ⟨⟨_, h1⟩, h2⟩
      · omega
      · exact ⟨p.f.n, p.f.d, hf, .inr ⟨h1, rfl⟩, .inr ⟨h2, t⟩⟩
    · rcases h with h | ⟨⟨h, _⟩, _⟩ <;> omega
  · rintro ⟨n, d, hd, h1, h2⟩
    rcases cm_tri p.f p.t with ⟨t, c⟩ | ⟨t, c⟩ | ⟨t, c⟩
    · exact .inl c
    · right
      refine ⟨⟨c, ?_⟩, ?_⟩
      · rcases h1 with h1 | ⟨h1, _⟩
        · exfalso
          rcases h2 with h2 | ⟨_, h2⟩
          · have := fr_ll hf hd ht h1 h2; omega
          · have := fr_le hf hd ht h1 h2; omega
        · exact h1
      · rcases h2 with h2 | ⟨h2, _⟩
        · exfalso
          rcases h1 with h1 | ⟨_, h1⟩
          · have := fr_ll hf hd ht h1 h2; omega
          · have := fr_el hf hd ht h1 h2; omega
        · exact h2
    · exfalso
      rcases h1 with h1 | ⟨_, h1⟩ <;> rcases h2 with h2 | ⟨_, h2⟩
      · have := fr_ll hf hd ht h1 h2; omega
      · have := fr_le hf hd ht h1 h2; omega
      · have := fr_el hf hd ht h1 h2; omega
      · have := fr_ee hf hd ht h1 h2; omega
/-- the four cuts. -/
def cut4 (u1 v1 u2 v2 u3 v3 u4 v4 : Int) (o p : Bool) : Pa := kpB (kpB (kpB (kpB alB u1 v1 o) u2 v2 o) u3 v3 p) u4 v4 p
theorem cut4_d (u1 v1 u2 v2 u3 v3 u4 v4 : Int) (o p : Bool) : 0 < (cut4 u1 v1 u2 v2 u3 v3 u4 v4 o p).f.d ∧ 0 < (cut4 u1 v1 u2 v2 u3 v3 u4 v4 o p).t.d := by
  unfold cut4
  have h1 := kp_d (p := alB) (u := u1) (v := v1) (own := o) (by decide) (by decide)
  have h2 := kp_d (u := u2) (v := v2) (own := o) h1.1 h1.2
  have h3 := kp_d (u := u3) (v := v3) (own := p) h2.1 h2.2
  exact kp_d (u := u4) (v := v4) (own := p) h3.1 h3.2
theorem al_in {n d : Int} (hd : 0 < d) : InP alB n d ↔ 0 ≤ n ∧ n ≤ d := by
  unfold InP Aft Bef alB
  simp
  omega
theorem cut4_in {u1 v1 u2 v2 u3 v3 u4 v4 n d : Int} {o p : Bool} (hd : 0 < d) : InP (cut4 u1 v1 u2 v2 u3 v3 u4 v4 o p) n d ↔ (0 ≤ n ∧ n ≤ d) ∧ Hol u1 v1 o n d ∧ Hol u2 v2 o n d ∧ Hol u3 v3 p n d ∧ Hol u4 v4 p n d := by
  unfold cut4
  have h1 := kp_d (p := alB) (u := u1) (v := v1) (own := o) (by decide) (by decide)
  have h2 := kp_d (u := u2) (v := v2) (own := o) h1.1 h1.2
  have h3 := kp_d (u := u3) (v := v3) (own := p) h2.1 h2.2
  rw [kp_in h3.1 h3.2 hd, kp_in h2.1 h2.2 hd, kp_in h1.1 h1.2 hd, kp_in (by decide) (by decide) hd, al_in hd]
  simp only [and_assoc]
/-- the segment has a place in the box. -/
def Met (u1 v1 u2 v2 u3 v3 u4 v4 : Int) (o p : Bool) : Prop := ∃ n d, 0 < d ∧ (0 ≤ n ∧ n ≤ d) ∧ Hol u1 v1 o n d ∧ Hol u2 v2 o n d ∧ Hol u3 v3 p n d ∧ Hol u4 v4 p n d
theorem cut4_any (u1 v1 u2 v2 u3 v3 u4 v4 : Int) (o p : Bool) : anB (cut4 u1 v1 u2 v2 u3 v3 u4 v4 o p) = true ↔ Met u1 v1 u2 v2 u3 v3 u4 v4 o p := by
  obtain ⟨h1, h2⟩ := cut4_d u1 v1 u2 v2 u3 v3 u4 v4 o p
  rw [an_iff h1 h2]
  constructor
  · rintro ⟨n, d, hd, h⟩; exact ⟨n, d, hd, (cut4_in hd).1 h⟩
  · rintro ⟨n, d, hd, h⟩; exact ⟨n, d, hd, (cut4_in hd).2 h⟩
end Go.Proofs.Ytaennpehlhgggaa

namespace Go.Proofs.Ytaennpehlhgggaa
open Go.RowKit
set_option linter.unusedVariables false
set_option linter.unusedSimpArgs false
def fB5 (n : Int) : Bool := decide (-134217728 ≤ n) && decide (n ≤ 134217728)
set_option maxRecDepth 100000 in
set_option maxHeartbeats 4000000 in
theorem p_far5 {n : Int} {b : Bool} (hb : fB5 n = b) : PCall Try.prog 98 [vI n] (vB b) := by
  have cs : (-134217728 ≤ n ∧ n ≤ 134217728 ∧ b = true) ∨ (-134217728 ≤ n ∧ ¬ n ≤ 134217728 ∧ b = false) ∨ (¬ -134217728 ≤ n ∧ b = false) := by
    rw [← hb]; unfold fB5
    by_cases h1 : -134217728 ≤ n <;> by_cases h2 : n ≤ 134217728 <;> simp [h1, h2]
  clear hb
  rcases cs with ⟨h1, h2, rfl⟩ | ⟨h1, h2, rfl⟩ | ⟨h1, rfl⟩
  all_goals
    refine pcall_body (f := 98) Try.func98 rfl rfl rfl rfl ?_
    (repeat (first | ((with_reducible apply al_q); exact rfl) | ((with_reducible apply al_guard_b (c := true)); exact rfl; exact rfl; (first | assumption | exact decide_eq_true (by omega) | (simp only [Bool.not_eq_true', decide_eq_false_iff_not, decide_eq_true_eq, Bool.not_eq_false']; (first | done | omega)))) | ((with_reducible apply al_guard_b (c := false)); exact rfl; exact rfl; (first | assumption | exact decide_eq_false (by omega) | (simp only [Bool.not_eq_true', decide_eq_false_iff_not, decide_eq_true_eq, Bool.not_eq_false']; (first | done | omega)))) | ((with_reducible apply awp_seq)) | ((with_reducible apply athen_normal)) | ((with_reducible apply awp_region)) | ((with_reducible apply al_nil)) | ((with_reducible apply awp_ret))))
    (first | (refine apost_ret rfl (resl_tmp rfl resl_nil) ?_))
    first | exact AV.Le.refl _ | exact AV.Le.of_eq (by rw [decide_eq_true h2]; rfl) | exact AV.Le.of_eq (by rw [decide_eq_false h2]; rfl)
theorem rB5_f (x y : Int) : rB5 x y = (fB5 x && fB5 y) := by
  unfold rB5 fB5
  rw [Bool.eq_iff_iff]
  simp only [Bool.and_eq_true, decide_eq_true_eq]
  omega
set_option maxRecDepth 100000 in
set_option maxHeartbeats 4000000 in
theorem p_cRight {x y : Int} {b : Bool} (hb : rB5 x y = b) : PCall Try.prog 75 [vP x y] (vB b) := by
  have C1 := p_far5 (n := x) rfl
  have C2 := p_far5 (n := y) rfl
  rw [rB5_f] at hb
  cases q1 : fB5 x <;> cases q2 : fB5 y <;> rw [q1] at C1 <;> rw [q2] at C2 <;> rw [q1, q2] at hb <;> subst hb <;> clear q1 q2
  all_goals
    refine pcall_body (f := 75) Try.func75 rfl rfl rfl rfl ?_
    (repeat (first | ((with_reducible apply al_q); exact rfl) | (refine al_call1 rfl rfl rfl (by (first | exact C1 | exact C2)) rfl ?_) | ((with_reducible apply awp_seq)) | ((with_reducible apply athen_normal)) | ((with_reducible apply awp_region)) | ((with_reducible apply al_nil)) | ((with_reducible apply awp_ret))))
    (first | (refine apost_ret rfl (resl_tmp rfl resl_nil) ?_))
    exact AV.Le.refl _
end Go.Proofs.Ytaennpehlhgggaa

namespace Go.Proofs.Ytaennpehlhgggaa
open Go.RowKit
set_option linter.unusedVariables false
set_option linter.unusedSimpArgs false
theorem p_Compare {n m : Int} : PCall Try.prog 95 [vI n, vI m] (vI (icmp n m)) :=
  pcall_ev [.int .i64 n, .int .i64 m] (.int .i64 (icmp n m)) rfl rfl rfl rfl rfl fun W => Compare_any n m W
/-- a bound, as a value. -/
abbrev vBd (n d : Int) (o : Bool) : AV := .w (.agg [.c (.int .i64 n), .c (.int .i64 d), .c (.bool o)])
abbrev vBdB (x : Bd) : AV := vBd x.n x.d x.own
/-- numbers small enough for products. -/
def BdOK (x : Bd) : Prop := (-2000000000 ≤ x.n ∧ x.n ≤ 2000000000) ∧ 0 < x.d ∧ x.d ≤ 2000000000
theorem mul_bd2 {x y : Int} (h1 : -2000000000 ≤ x) (h2 : x ≤ 2000000000) (h3 : 0 ≤ y) (h4 : y ≤ 2000000000) : -4000000000000000000 ≤ x * y ∧ x * y ≤ 4000000000000000000 := by
  have a1 : x * y ≤ 2000000000 * y := Int.mul_le_mul_of_nonneg_right h2 h3
  have a2 : -2000000000 * y ≤ x * y := Int.mul_le_mul_of_nonneg_right h1 h3
  omega
theorem bd_wrap {x y : Bd} (hx : BdOK x) (hy : BdOK y) : IntKind.i64.wrap (x.n * y.d) = x.n * y.d := by
  obtain ⟨⟨a1, a2⟩, a3, a4⟩ := hx
  obtain ⟨⟨b1, b2⟩, b3, b4⟩ := hy
  have := mul_bd2 a1 a2 (by omega : (0 : Int) ≤ y.d) b4
  exact i64_wrap (by omega)
set_option maxRecDepth 100000 in
set_option maxHeartbeats 4000000 in
theorem p_xcompare' {n d m e c : Int} {o q : Bool} (C1 : PCall Try.prog 95 [vI (n * e), vI (m * d)] (vI c)) (w1 : IntKind.i64.wrap (n * e) = n * e) (w2 : IntKind.i64.wrap (m * d) = m * d) : PCall Try.prog 101 [vBd n d o, vBd m e q] (vI c) := by
  refine pcall_body (f := 101) Try.func101 rfl rfl rfl rfl ?_
  (repeat (first | ((with_reducible apply al_q); exact rfl) | ((with_reducible apply al_mul); (iterate 3 exact rfl); (first | exact i64_wrap (by omega) | assumption | rfl); exact rfl) | (refine al_call2 rfl rfl rfl rfl (by (first | exact C1)) rfl ?_) | ((with_reducible apply awp_seq)) | ((with_reducible apply athen_normal)) | ((with_reducible apply awp_region)) | ((with_reducible apply al_nil)) | ((with_reducible apply awp_ret))))
  (first | (refine apost_ret rfl (resl_tmp rfl resl_nil) ?_))
  exact AV.Le.refl _
theorem p_xcompare {x y : Bd} (hx : BdOK x) (hy : BdOK y) : PCall Try.prog 101 [vBdB x, vBdB y] (vI (cmB x y)) :=
  p_xcompare' p_Compare (bd_wrap hx hy) (bd_wrap hy hx)
set_option maxRecDepth 100000 in
set_option maxHeartbeats 4000000 in
theorem p_later' {n d m e c : Int} {o q : Bool} {r1 r2 : Int} {r3 : Bool} (C1 : PCall Try.prog 101 [vBd n d o, vBd m e q] (vI c)) (cs : (0 < c ∧ r1 = n ∧ r2 = d ∧ r3 = o) ∨ (¬ 0 < c ∧ c = 0 ∧ q = true ∧ r1 = n ∧ r2 = d ∧ r3 = o) ∨ (¬ 0 < c ∧ c = 0 ∧ q = false ∧ r1 = m ∧ r2 = e ∧ r3 = q) ∨ (¬ 0 < c ∧ ¬ c = 0 ∧ r1 = m ∧ r2 = e ∧ r3 = q)) : PCall Try.prog 107 [vBd n d o, vBd m e q] (vBd r1 r2 r3) := by
  rcases cs with ⟨q1, rfl, rfl, rfl⟩ | ⟨q1, q2, rfl, rfl, rfl, rfl⟩ | ⟨q1, q2, rfl, rfl, rfl, rfl⟩ | ⟨q1, q2, rfl, rfl, rfl⟩
  all_goals
    refine pcall_body (f := 107) Try.func107 rfl rfl rfl rfl ?_
    (repeat (first | ((with_reducible apply al_q); exact rfl) | (refine al_call2 rfl rfl rfl rfl (by (first | exact C1)) rfl ?_) | ((with_reducible apply al_guard_b (c := true)); exact rfl; exact rfl; (first | assumption | exact decide_eq_true (by omega) | (simp only [Bool.not_eq_true', decide_eq_false_iff_not, decide_eq_true_eq, Bool.not_eq_false']; (first | done | omega)))) | ((with_reducible apply al_guard_b (c := false)); exact rfl; exact rfl; (first | assumption | exact decide_eq_false (by omega) | (simp only [Bool.not_eq_true', decide_eq_false_iff_not, decide_eq_true_eq, Bool.not_eq_false']; (first | done | omega)))) | ((with_reducible apply awp_seq)) | ((with_reducible apply athen_normal)) | ((with_reducible apply awp_region)) | ((with_reducible apply al_nil)) | ((with_reducible apply awp_ret)) | ((with_reducible apply awp_skip)) | ((with_reducible apply athen_ret)) | ((with_reducible apply awp_cond_t); exact rfl) | ((with_reducible apply awp_cond_f); exact rfl)))
    (first | (refine apost_ret rfl (resl_agg rfl rfl rfl resl_nil) ?_) | (refine apost_ret rfl (resl_one rfl rfl rfl resl_nil) ?_))
    exact AV.Le.refl _
theorem p_later {x y : Bd} (hx : BdOK x) (hy : BdOK y) : PCall Try.prog 107 [vBdB x, vBdB y] (vBdB (laB x y)) := by
  refine p_later' (p_xcompare hx hy) ?_
  rcases la_cases x y with ⟨e, h⟩ | ⟨e, h⟩ <;> rw [e]
  · by_cases h1 : 0 < cmB x y
    · exact .inl ⟨h1, rfl, rfl, rfl⟩
    · rcases h with h | ⟨h, k⟩
      · exact absurd h h1
      · exact .inr (.inl ⟨h1, h, k, rfl, rfl, rfl⟩)
  · have h1 : ¬ 0 < cmB x y := fun k => h (.inl k)
    by_cases h2 : cmB x y = 0
    · refine .inr (.inr (.inl ⟨h1, h2, ?_, rfl, rfl, rfl⟩))
      cases hy : y.own with
      | false => rfl
      | true => exact absurd (.inr ⟨h2, hy⟩) h
    · exact .inr (.inr (.inr ⟨h1, h2, rfl, rfl, rfl⟩))
set_option maxRecDepth 100000 in
set_option maxHeartbeats 4000000 in
theorem p_earlier' {n d m e c : Int} {o q : Bool} {r1 r2 : Int} {r3 : Bool} (C1 : PCall Try.prog 101 [vBd n d o, vBd m e q] (vI c)) (cs : (c < 0 ∧ r1 = n ∧ r2 = d ∧ r3 = o) ∨ (¬ c < 0 ∧ c = 0 ∧ q = true ∧ r1 = n ∧ r2 = d ∧ r3 = o) ∨ (¬ c < 0 ∧ c = 0 ∧ q = false ∧ r1 = m ∧ r2 = e ∧ r3 = q) ∨ (¬ c < 0 ∧ ¬ c = 0 ∧ r1 = m ∧ r2 = e ∧ r3 = q)) : PCall Try.prog 108 [vBd n d o, vBd m e q] (vBd r1 r2 r3) := by
  rcases cs with ⟨q1, rfl, rfl, rfl⟩ | ⟨q1, q2, rfl, rfl, rfl, rfl⟩ | ⟨q1, q2, rfl, rfl, rfl, rfl⟩ | ⟨q1, q2, rfl, rfl, rfl⟩
  all_goals
    refine pcall_body (f := 108) Try.func108 rfl rfl rfl rfl ?_
    (repeat (first | ((with_reducible apply al_q); exact rfl) | (refine al_call2 rfl rfl rfl rfl (by (first | exact C1)) rfl ?_) | ((with_reducible apply al_guard_b (c := true)); exact rfl; exact rfl; (first | assumption | exact decide_eq_true (by omega) | (simp only [Bool.not_eq_true', decide_eq_false_iff_not, decide_eq_true_eq, Bool.not_eq_false']; (first | done | omega)))) | ((with_reducible apply al_guard_b (c := false)); exact rfl; exact rfl; (first | assumption | exact decide_eq_false (by omega) | (simp only [Bool.not_eq_true', decide_eq_false_iff_not, decide_eq_true_eq, Bool.not_eq_false']; (first | done | omega)))) | ((with_reducible apply awp_seq)) | ((with_reducible apply athen_normal)) | ((with_reducible apply awp_region)) | ((with_reducible apply al_nil)) | ((with_reducible apply awp_ret)) | ((with_reducible apply awp_skip)) | ((with_reducible apply athen_ret)) | ((with_reducible apply awp_cond_t); exact rfl) | ((with_reducible apply awp_cond_f); exact rfl)))
    (first | (refine apost_ret rfl (resl_agg rfl rfl rfl resl_nil) ?_) | (refine apost_ret rfl (resl_one rfl rfl rfl resl_nil) ?_))
    exact AV.Le.refl _
theorem p_earlier {x y : Bd} (hx : BdOK x) (hy : BdOK y) : PCall Try.prog 108 [vBdB x, vBdB y] (vBdB (eaB x y)) := by
  refine p_earlier' (p_xcompare hx hy) ?_
  rcases ea_cases x y with ⟨e, h⟩ | ⟨e, h⟩ <;> rw [e]
  · by_cases h1 : cmB x y < 0
    · exact .inl ⟨h1, rfl, rfl, rfl⟩
    · rcases h with h | ⟨h, k⟩
      · exact absurd h h1
      · exact .inr (.inl ⟨h1, h, k, rfl, rfl, rfl⟩)
  · have h1 : ¬ cmB x y < 0 := fun k => h (.inl k)
    by_cases h2 : cmB x y = 0
    · refine .inr (.inr (.inl ⟨h1, h2, ?_, rfl, rfl, rfl⟩))
      cases hy : y.own with
      | false => rfl
      | true => exact absurd (.inr ⟨h2, hy⟩) h
    · exact .inr (.inr (.inr ⟨h1, h2, rfl, rfl, rfl⟩))
/-- what is left of a segment, as a value. -/
abbrev vPart (a1 a2 b1 b2 n d : Int) (o : Bool) (m e : Int) (q : Bool) : AV := .w (.agg [.c (.int .i64 a1), .c (.int .i64 a2), .c (.int .i64 b1), .c (.int .i64 b2), .c (.int .i64 n), .c (.int .i64 d), .c (.bool o), .c (.int .i64 m), .c (.int .i64 e), .c (.bool q)])
abbrev vPaB (a1 a2 b1 b2 : Int) (p : Pa) : AV := vPart a1 a2 b1 b2 p.f.n p.f.d p.f.own p.t.n p.t.d p.t.own
def PaOK (p : Pa) : Prop := BdOK p.f ∧ BdOK p.t
set_option maxRecDepth 100000 in
set_option maxHeartbeats 4000000 in
theorem p_keep' {a1 a2 b1 b2 n d m e u v : Int} {o q w : Bool} {n' d' m' e' : Int} {o' q' : Bool} (hu : -1100000000 ≤ u ∧ u ≤ 1100000000) (hv : -1100000000 ≤ v ∧ v ≤ 1100000000)
    (cs : (0 < v - u ∧ PCall Try.prog 107 [vBd n d o, vBd (-u) (v - u) w] (vBd n' d' o') ∧ m' = m ∧ e' = e ∧ q' = q) ∨ (¬ 0 < v - u ∧ v - u < 0 ∧ PCall Try.prog 108 [vBd m e q, vBd u (-(v - u)) w] (vBd m' e' q') ∧ n' = n ∧ d' = d ∧ o' = o)
      ∨ (¬ 0 < v - u ∧ ¬ v - u < 0 ∧ u < 0 ∧ n' = 1 ∧ d' = 1 ∧ o' = false ∧ m' = 0 ∧ e' = 1 ∧ q' = false) ∨ (¬ 0 < v - u ∧ ¬ v - u < 0 ∧ ¬ u < 0 ∧ u = 0 ∧ w = false ∧ n' = 1 ∧ d' = 1 ∧ o' = false ∧ m' = 0 ∧ e' = 1 ∧ q' = false)
      ∨ (¬ 0 < v - u ∧ ¬ v - u < 0 ∧ ¬ u < 0 ∧ u = 0 ∧ w = true ∧ n' = n ∧ d' = d ∧ o' = o ∧ m' = m ∧ e' = e ∧ q' = q) ∨ (¬ 0 < v - u ∧ ¬ v - u < 0 ∧ ¬ u < 0 ∧ ¬ u = 0 ∧ n' = n ∧ d' = d ∧ o' = o ∧ m' = m ∧ e' = e ∧ q' = q)) :
    PCall Try.prog 100 [vPart a1 a2 b1 b2 n d o m e q, vI u, vI v, vB w] (vPart a1 a2 b1 b2 n' d' o' m' e' q') := by
  rcases cs with ⟨q1, C1, rfl, rfl, rfl⟩ | ⟨q1, q2, C1, rfl, rfl, rfl⟩ | ⟨q1, q2, q3, rfl, rfl, rfl, rfl, rfl, rfl⟩ | ⟨q1, q2, q3, q4, rfl, rfl, rfl, rfl, rfl, rfl, rfl⟩ | ⟨q1, q2, q3, q4, rfl, rfl, rfl, rfl, rfl, rfl, rfl⟩ | ⟨q1, q2, q3, q4, rfl, rfl, rfl, rfl, rfl, rfl⟩
  · refine pcall_body (f := 100) Try.func100 rfl rfl rfl rfl ?_
    (repeat (first | ((with_reducible apply al_q); exact rfl) | ((with_reducible apply al_sub); (iterate 3 exact rfl); (first | exact i64_wrap (by omega) | assumption | rfl); exact rfl) | ((with_reducible apply al_neg); exact rfl; exact rfl; (first | exact i64_wrap (by omega) | assumption | rfl); exact rfl) | (refine al_call2 rfl rfl rfl rfl (by (first | exact C1)) rfl ?_) | ((with_reducible apply awp_seq)) | ((with_reducible apply athen_normal)) | ((with_reducible apply awp_region)) | ((with_reducible apply al_nil)) | ((with_reducible apply awp_ret)) | ((with_reducible apply awp_block)) | ((with_reducible apply ablock_normal)) | ((with_reducible apply awp_cond_1); exact rfl; (first | assumption | exact decide_eq_true (by omega) | (simp only [Bool.not_eq_true', decide_eq_false_iff_not, decide_eq_true_eq, Bool.not_eq_false']; (first | done | omega))))))
    (first | (refine apost_ret rfl (resl_agg rfl rfl rfl resl_nil) ?_) | (refine apost_ret rfl (resl_one rfl rfl rfl resl_nil) ?_))
    exact AV.Le.refl _
  · refine pcall_body (f := 100) Try.func100 rfl rfl rfl rfl ?_
    (repeat (first | ((with_reducible apply al_q); exact rfl) | ((with_reducible apply al_sub); (iterate 3 exact rfl); (first | exact i64_wrap (by omega) | assumption | rfl); exact rfl) | ((with_reducible apply al_neg); exact rfl; exact rfl; (first | exact i64_wrap (by omega) | assumption | rfl); exact rfl) | (refine al_call2 rfl rfl rfl rfl (by (first | exact C1)) rfl ?_) | ((with_reducible apply awp_seq)) | ((with_reducible apply athen_normal)) | ((with_reducible apply awp_region)) | ((with_reducible apply al_nil)) | ((with_reducible apply awp_ret)) | ((with_reducible apply awp_block)) | ((with_reducible apply ablock_normal)) | ((with_reducible apply awp_cond_1); exact rfl; (first | assumption | exact decide_eq_true (by omega) | (simp only [Bool.not_eq_true', decide_eq_false_iff_not, decide_eq_true_eq, Bool.not_eq_false']; (first | done | omega)))) | ((with_reducible apply awp_cond_0); exact rfl; (first | assumption | exact decide_eq_false (by omega) | (simp only [Bool.not_eq_true', decide_eq_false_iff_not, decide_eq_true_eq, Bool.not_eq_false']; (first | done | omega))))))
    (first | (refine apost_ret rfl (resl_agg rfl rfl rfl resl_nil) ?_) | (refine apost_ret rfl (resl_one rfl rfl rfl resl_nil) ?_))
    exact AV.Le.refl _
  all_goals
    refine pcall_body (f := 100) Try.func100 rfl rfl rfl rfl ?_
    (repeat (first | ((with_reducible apply al_q); exact rfl) | ((with_reducible apply al_sub); (iterate 3 exact rfl); (first | exact i64_wrap (by omega) | assumption | rfl); exact rfl) | ((with_reducible apply al_guard_b (c := true)); exact rfl; exact rfl; (first | assumption | exact decide_eq_true (by omega) | (simp only [Bool.not_eq_true', decide_eq_false_iff_not, decide_eq_true_eq, Bool.not_eq_false']; (first | done | omega)))) | ((with_reducible apply al_guard_b (c := false)); exact rfl; exact rfl; (first | assumption | exact decide_eq_false (by omega) | (simp only [Bool.not_eq_true', decide_eq_false_iff_not, decide_eq_true_eq, Bool.not_eq_false']; (first | done | omega)))) | ((with_reducible apply awp_seq)) | ((with_reducible apply athen_normal)) | ((with_reducible apply awp_region)) | ((with_reducible apply al_nil)) | ((with_reducible apply awp_ret)) | ((with_reducible apply awp_skip)) | ((with_reducible apply awp_block)) | ((with_reducible apply ablock_normal)) | ((with_reducible apply awp_cond_t); exact rfl) | ((with_reducible apply awp_cond_f); exact rfl) | ((with_reducible apply awp_cond_1); exact rfl; (first | assumption | exact decide_eq_true (by omega) | (simp only [Bool.not_eq_true', decide_eq_false_iff_not, decide_eq_true_eq, Bool.not_eq_false']; (first | done | omega)))) | ((with_reducible apply awp_cond_0); exact rfl; (first | assumption | exact decide_eq_false (by omega) | (simp only [Bool.not_eq_true', decide_eq_false_iff_not, decide_eq_true_eq, Bool.not_eq_false']; (first | done | omega))))))
    (first | (refine apost_ret rfl (resl_agg rfl rfl rfl resl_nil) ?_) | (refine apost_ret rfl (resl_one rfl rfl rfl resl_nil) ?_))
    exact AV.Le.refl _
theorem la_ok {x y : Bd} (hx : BdOK x) (hy : BdOK y) : BdOK (laB x y) := by unfold laB; split <;> assumption
theorem ea_ok {x y : Bd} (hx : BdOK x) (hy : BdOK y) : BdOK (eaB x y) := by unfold eaB; split <;> assumption
theorem kp_ok {p : Pa} {u v : Int} {w : Bool} (hp : PaOK p) (hu : -900000000 ≤ u ∧ u ≤ 900000000) (hv : -900000000 ≤ v ∧ v ≤ 900000000) : PaOK (kpB p u v w) := by
  unfold kpB
  by_cases h1 : 0 < v - u
  · rw [if_pos h1]; exact ⟨la_ok hp.1 ⟨by simp only; omega, by simp only; omega⟩, hp.2⟩
  · rw [if_neg h1]
    by_cases h2 : v - u < 0
    · rw [if_pos h2]; exact ⟨hp.1, ea_ok hp.2 ⟨by simp only; omega, by simp only; omega⟩⟩
    · rw [if_neg h2]
      split
      · exact ⟨⟨by decide, by decide⟩, ⟨by decide, by decide⟩⟩
      · exact hp
theorem p_keep {a1 a2 b1 b2 u v : Int} {w : Bool} {p : Pa} (hp : PaOK p) (hu : -900000000 ≤ u ∧ u ≤ 900000000) (hv : -900000000 ≤ v ∧ v ≤ 900000000) : PCall Try.prog 100 [vPaB a1 a2 b1 b2 p, vI u, vI v, vB w] (vPaB a1 a2 b1 b2 (kpB p u v w)) := by
  refine p_keep' (by omega) (by omega) ?_
  unfold kpB
  by_cases h1 : 0 < v - u
  · rw [if_pos h1]
    exact .inl ⟨h1, p_later hp.1 (y := ⟨-u, v - u, w⟩) ⟨by simp only; omega, by simp only; omega⟩, rfl, rfl, rfl⟩
  · rw [if_neg h1]
    by_cases h2 : v - u < 0
    · rw [if_pos h2]
      exact .inr (.inl ⟨h1, h2, p_earlier hp.2 (y := ⟨u, -(v - u), w⟩) ⟨by simp only; omega, by simp only; omega⟩, rfl, rfl, rfl⟩)
    · rw [if_neg h2]
      by_cases h3 : u < 0
      · rw [if_pos (.inl h3)]
        exact .inr (.inr (.inl ⟨h1, h2, h3, rfl, rfl, rfl, rfl, rfl, rfl⟩))
      · by_cases h4 : u = 0
        · cases w with
          | false => rw [if_pos (.inr ⟨h4, rfl⟩)]; exact .inr (.inr (.inr (.inl ⟨h1, h2, h3, h4, rfl, rfl, rfl, rfl, rfl, rfl, rfl⟩)))
          | true => rw [if_neg (by simp [h3])]; exact .inr (.inr (.inr (.inr (.inl ⟨h1, h2, h3, h4, rfl, rfl, rfl, rfl, rfl, rfl, rfl⟩))))
        · rw [if_neg (by simp [h3, h4])]
          exact .inr (.inr (.inr (.inr (.inr ⟨h1, h2, h3, h4, rfl, rfl, rfl, rfl, rfl, rfl⟩))))
end Go.Proofs.Ytaennpehlhgggaa

namespace Go.Proofs.Ytaennpehlhgggaa
open Go.RowKit
set_option linter.unusedVariables false
set_option linter.unusedSimpArgs false
instance iPixB_1 : IPart Try.prog 116 4 false 1 := ⟨by kernel_rfl⟩
abbrev vBox (l1 l2 h1 h2 : Int) (o p : Bool) : AV := .w (.agg [.c (.int .i64 l1), .c (.int .i64 l2), .c (.int .i64 h1), .c (.int .i64 h2), .c (.bool o), .c (.bool p)])
/-- a corner's number may be so great. -/
def cb6 (n : Int) : Bool := decide (-536870912 ≤ n) && decide (n ≤ 536870912)
theorem cb6_iff {n : Int} : cb6 n = true ↔ -536870912 ≤ n ∧ n ≤ 536870912 := by unfold cb6; simp
def co6 (x y : Int) : Bool := cb6 x && cb6 y
theorem co6_iff {x y : Int} : co6 x y = true ↔ (-536870912 ≤ x ∧ x ≤ 536870912) ∧ -536870912 ≤ y ∧ y ≤ 536870912 := by unfold co6; rw [Bool.and_eq_true, cb6_iff, cb6_iff]
def kd6 (k : Int) : Bool := decide (0 ≤ k) && decide (k ≤ 2)
set_option maxRecDepth 100000 in
set_option maxHeartbeats 4000000 in
theorem p_cutLeft {a1 a2 b1 b2 l1 l2 h1 h2 n d m e n' d' m' e' : Int} {o p q r q' r' : Bool} (ha : -134217728 ≤ a1 ∧ a1 ≤ 134217728) (hb : -134217728 ≤ b1 ∧ b1 ≤ 134217728) (hl : -536870912 ≤ l1 ∧ l1 ≤ 536870912)
    (C1 : PCall Try.prog 100 [vPart a1 a2 b1 b2 n d q m e r, vI (2 * a1 - l1), vI (2 * b1 - l1), vB o] (vPart a1 a2 b1 b2 n' d' q' m' e' r')) : PCall Try.prog 79 [vBox l1 l2 h1 h2 o p, vPart a1 a2 b1 b2 n d q m e r] (vPart a1 a2 b1 b2 n' d' q' m' e' r') := by
  refine pcall_body (f := 79) Try.func79 rfl rfl rfl rfl ?_
  (repeat (first | ((with_reducible apply al_q); exact rfl) | ((with_reducible apply al_sub); (iterate 3 exact rfl); (first | exact i64_wrap (by omega) | assumption | rfl); exact rfl) | ((with_reducible apply al_mul); (iterate 3 exact rfl); (first | exact i64_wrap (by omega) | assumption | rfl); exact rfl) | (refine al_call4 rfl rfl rfl rfl rfl rfl (by (first | exact C1)) rfl ?_) | ((with_reducible apply awp_seq)) | ((with_reducible apply athen_normal)) | ((with_reducible apply awp_region)) | ((with_reducible apply al_nil)) | ((with_reducible apply awp_ret))))
  (first | (refine apost_ret rfl (resl_agg rfl rfl rfl resl_nil) ?_) | (refine apost_ret rfl (resl_one rfl rfl rfl resl_nil) ?_))
  exact AV.Le.refl _
set_option maxRecDepth 100000 in
set_option maxHeartbeats 4000000 in
theorem p_cutBelow {a1 a2 b1 b2 l1 l2 h1 h2 n d m e n' d' m' e' : Int} {o p q r q' r' : Bool} (ha : -134217728 ≤ a2 ∧ a2 ≤ 134217728) (hb : -134217728 ≤ b2 ∧ b2 ≤ 134217728) (hl : -536870912 ≤ l2 ∧ l2 ≤ 536870912)
    (C1 : PCall Try.prog 100 [vPart a1 a2 b1 b2 n d q m e r, vI (2 * a2 - l2), vI (2 * b2 - l2), vB o] (vPart a1 a2 b1 b2 n' d' q' m' e' r')) : PCall Try.prog 80 [vBox l1 l2 h1 h2 o p, vPart a1 a2 b1 b2 n d q m e r] (vPart a1 a2 b1 b2 n' d' q' m' e' r') := by
  refine pcall_body (f := 80) Try.func80 rfl rfl rfl rfl ?_
  (repeat (first | ((with_reducible apply al_q); exact rfl) | ((with_reducible apply al_sub); (iterate 3 exact rfl); (first | exact i64_wrap (by omega) | assumption | rfl); exact rfl) | ((with_reducible apply al_mul); (iterate 3 exact rfl); (first | exact i64_wrap (by omega) | assumption | rfl); exact rfl) | (refine al_call4 rfl rfl rfl rfl rfl rfl (by (first | exact C1)) rfl ?_) | ((with_reducible apply awp_seq)) | ((with_reducible apply athen_normal)) | ((with_reducible apply awp_region)) | ((with_reducible apply al_nil)) | ((with_reducible apply awp_ret))))
  (first | (refine apost_ret rfl (resl_agg rfl rfl rfl resl_nil) ?_) | (refine apost_ret rfl (resl_one rfl rfl rfl resl_nil) ?_))
  exact AV.Le.refl _
set_option maxRecDepth 100000 in
set_option maxHeartbeats 4000000 in
theorem p_cutRight {a1 a2 b1 b2 l1 l2 h1 h2 n d m e n' d' m' e' : Int} {o p q r q' r' : Bool} (ha : -134217728 ≤ a1 ∧ a1 ≤ 134217728) (hb : -134217728 ≤ b1 ∧ b1 ≤ 134217728) (hl : -536870912 ≤ h1 ∧ h1 ≤ 536870912)
    (C1 : PCall Try.prog 100 [vPart a1 a2 b1 b2 n d q m e r, vI (h1 - 2 * a1), vI (h1 - 2 * b1), vB p] (vPart a1 a2 b1 b2 n' d' q' m' e' r')) : PCall Try.prog 81 [vBox l1 l2 h1 h2 o p, vPart a1 a2 b1 b2 n d q m e r] (vPart a1 a2 b1 b2 n' d' q' m' e' r') := by
  refine pcall_body (f := 81) Try.func81 rfl rfl rfl rfl ?_
  (repeat (first | ((with_reducible apply al_q); exact rfl) | ((with_reducible apply al_sub); (iterate 3 exact rfl); (first | exact i64_wrap (by omega) | assumption | rfl); exact rfl) | ((with_reducible apply al_mul); (iterate 3 exact rfl); (first | exact i64_wrap (by omega) | assumption | rfl); exact rfl) | (refine al_call4 rfl rfl rfl rfl rfl rfl (by (first | exact C1)) rfl ?_) | ((with_reducible apply awp_seq)) | ((with_reducible apply athen_normal)) | ((with_reducible apply awp_region)) | ((with_reducible apply al_nil)) | ((with_reducible apply awp_ret))))
  (first | (refine apost_ret rfl (resl_agg rfl rfl rfl resl_nil) ?_) | (refine apost_ret rfl (resl_one rfl rfl rfl resl_nil) ?_))
  exact AV.Le.refl _
set_option maxRecDepth 100000 in
set_option maxHeartbeats 4000000 in
theorem p_cutAbove {a1 a2 b1 b2 l1 l2 h1 h2 n d m e n' d' m' e' : Int} {o p q r q' r' : Bool} (ha : -134217728 ≤ a2 ∧ a2 ≤ 134217728) (hb : -134217728 ≤ b2 ∧ b2 ≤ 134217728) (hl : -536870912 ≤ h2 ∧ h2 ≤ 536870912)
    (C1 : PCall Try.prog 100 [vPart a1 a2 b1 b2 n d q m e r, vI (h2 - 2 * a2), vI (h2 - 2 * b2), vB p] (vPart a1 a2 b1 b2 n' d' q' m' e' r')) : PCall Try.prog 82 [vBox l1 l2 h1 h2 o p, vPart a1 a2 b1 b2 n d q m e r] (vPart a1 a2 b1 b2 n' d' q' m' e' r') := by
  refine pcall_body (f := 82) Try.func82 rfl rfl rfl rfl ?_
  (repeat (first | ((with_reducible apply al_q); exact rfl) | ((with_reducible apply al_sub); (iterate 3 exact rfl); (first | exact i64_wrap (by omega) | assumption | rfl); exact rfl) | ((with_reducible apply al_mul); (iterate 3 exact rfl); (first | exact i64_wrap (by omega) | assumption | rfl); exact rfl) | (refine al_call4 rfl rfl rfl rfl rfl rfl (by (first | exact C1)) rfl ?_) | ((with_reducible apply awp_seq)) | ((with_reducible apply athen_normal)) | ((with_reducible apply awp_region)) | ((with_reducible apply al_nil)) | ((with_reducible apply awp_ret))))
  (first | (refine apost_ret rfl (resl_agg rfl rfl rfl resl_nil) ?_) | (refine apost_ret rfl (resl_one rfl rfl rfl resl_nil) ?_))
  exact AV.Le.refl _
set_option maxRecDepth 100000 in
set_option maxHeartbeats 4000000 in
theorem p_allOf {a1 a2 b1 b2 : Int} : PCall Try.prog 78 [vP a1 a2, vP b1 b2] (vPaB a1 a2 b1 b2 alB) := by
  refine pcall_body (f := 78) Try.func78 rfl rfl rfl rfl ?_
  (repeat (first | ((with_reducible apply al_q); exact rfl) | ((with_reducible apply awp_seq)) | ((with_reducible apply athen_normal)) | ((with_reducible apply awp_region)) | ((with_reducible apply al_nil)) | ((with_reducible apply awp_ret))))
  (first | (refine apost_ret rfl (resl_agg rfl rfl rfl resl_nil) ?_) | (refine apost_ret rfl (resl_one rfl rfl rfl resl_nil) ?_))
  exact AV.Le.refl _
set_option maxRecDepth 100000 in
set_option maxHeartbeats 4000000 in
theorem p_hasAny' {a1 a2 b1 b2 n d m e c : Int} {o q r : Bool} (C1 : PCall Try.prog 101 [vBd n d o, vBd m e q] (vI c)) (cs : (c < 0 ∧ r = true) ∨ (¬ c < 0 ∧ c = 0 ∧ o = true ∧ r = q) ∨ (¬ c < 0 ∧ c = 0 ∧ o = false ∧ r = false) ∨ (¬ c < 0 ∧ ¬ c = 0 ∧ r = false)) : PCall Try.prog 83 [vPart a1 a2 b1 b2 n d o m e q] (vB r) := by
  rcases cs with ⟨q1, rfl⟩ | ⟨q1, q2, rfl, rfl⟩ | ⟨q1, q2, rfl, rfl⟩ | ⟨q1, q2, rfl⟩
  all_goals
    refine pcall_body (f := 83) Try.func83 rfl rfl rfl rfl ?_
    (repeat (first | ((with_reducible apply al_q); exact rfl) | (refine al_call2 rfl rfl rfl rfl (by (first | exact C1)) rfl ?_) | ((with_reducible apply al_guard_b (c := true)); exact rfl; exact rfl; (first | assumption | exact decide_eq_true (by omega) | (simp only [Bool.not_eq_true', decide_eq_false_iff_not, decide_eq_true_eq, Bool.not_eq_false']; (first | done | omega)))) | ((with_reducible apply al_guard_b (c := false)); exact rfl; exact rfl; (first | assumption | exact decide_eq_false (by omega) | (simp only [Bool.not_eq_true', decide_eq_false_iff_not, decide_eq_true_eq, Bool.not_eq_false']; (first | done | omega)))) | ((with_reducible apply awp_seq)) | ((with_reducible apply athen_normal)) | ((with_reducible apply awp_region)) | ((with_reducible apply al_nil)) | ((with_reducible apply awp_ret))))
    (first | (refine apost_ret rfl (resl_tmp rfl resl_nil) ?_))
    exact AV.Le.refl _
theorem p_hasAny {a1 a2 b1 b2 : Int} {p : Pa} (hp : PaOK p) : PCall Try.prog 83 [vPaB a1 a2 b1 b2 p] (vB (anB p)) := by
  refine p_hasAny' (p_xcompare hp.1 hp.2) ?_
  unfold anB
  by_cases h1 : cmB p.f p.t < 0
  · exact .inl ⟨h1, by rw [decide_eq_true h1]; rfl⟩
  · rw [decide_eq_false h1]
    by_cases h2 : cmB p.f p.t = 0
    · rw [decide_eq_true h2]
      cases h3 : p.f.own with
      | true => exact .inr (.inl ⟨h1, h2, rfl, rfl⟩)
      | false => exact .inr (.inr (.inl ⟨h1, h2, rfl, rfl⟩))
    · exact .inr (.inr (.inr ⟨h1, h2, by rw [decide_eq_false h2]; rfl⟩))
set_option maxRecDepth 100000 in
set_option maxHeartbeats 4000000 in
theorem p_far6 {n : Int} {b : Bool} (hb : cb6 n = b) : PCall Try.prog 99 [vI n] (vB b) := by
  have cs : (-536870912 ≤ n ∧ n ≤ 536870912 ∧ b = true) ∨ (-536870912 ≤ n ∧ ¬ n ≤ 536870912 ∧ b = false) ∨ (¬ -536870912 ≤ n ∧ b = false) := by
    rw [← hb]; unfold cb6
    by_cases h1 : -536870912 ≤ n <;> by_cases h2 : n ≤ 536870912 <;> simp [h1, h2]
  clear hb
  rcases cs with ⟨h1, h2, rfl⟩ | ⟨h1, h2, rfl⟩ | ⟨h1, rfl⟩
  all_goals
    refine pcall_body (f := 99) Try.func99 rfl rfl rfl rfl ?_
    (repeat (first | ((with_reducible apply al_q); exact rfl) | ((with_reducible apply al_guard_b (c := true)); exact rfl; exact rfl; (first | assumption | exact decide_eq_true (by omega) | (simp only [Bool.not_eq_true', decide_eq_false_iff_not, decide_eq_true_eq, Bool.not_eq_false']; (first | done | omega)))) | ((with_reducible apply al_guard_b (c := false)); exact rfl; exact rfl; (first | assumption | exact decide_eq_false (by omega) | (simp only [Bool.not_eq_true', decide_eq_false_iff_not, decide_eq_true_eq, Bool.not_eq_false']; (first | done | omega)))) | ((with_reducible apply awp_seq)) | ((with_reducible apply athen_normal)) | ((with_reducible apply awp_region)) | ((with_reducible apply al_nil)) | ((with_reducible apply awp_ret))))
    (first | (refine apost_ret rfl (resl_tmp rfl resl_nil) ?_))
    first | exact AV.Le.refl _ | exact AV.Le.of_eq (by rw [decide_eq_true h2]; rfl) | exact AV.Le.of_eq (by rw [decide_eq_false h2]; rfl)
set_option maxRecDepth 100000 in
set_option maxHeartbeats 4000000 in
theorem p_isCorner {x y : Int} {b : Bool} (hb : co6 x y = b) : PCall Try.prog 76 [vP x y] (vB b) := by
  have C1 := p_far6 (n := x) rfl
  have C2 := p_far6 (n := y) rfl
  unfold co6 at hb
  cases q1 : cb6 x <;> cases q2 : cb6 y <;> rw [q1] at C1 <;> rw [q2] at C2 <;> rw [q1, q2] at hb <;> subst hb <;> clear q1 q2
  all_goals
    refine pcall_body (f := 76) Try.func76 rfl rfl rfl rfl ?_
    (repeat (first | ((with_reducible apply al_q); exact rfl) | (refine al_call1 rfl rfl rfl (by (first | exact C1 | exact C2)) rfl ?_) | ((with_reducible apply awp_seq)) | ((with_reducible apply athen_normal)) | ((with_reducible apply awp_region)) | ((with_reducible apply al_nil)) | ((with_reducible apply awp_ret))))
    (first | (refine apost_ret rfl (resl_tmp rfl resl_nil) ?_))
    exact AV.Le.refl _
set_option maxRecDepth 100000 in
set_option maxHeartbeats 4000000 in
theorem p_isKind {k : Int} {b : Bool} (hb : kd6 k = b) : PCall Try.prog 77 [vI k] (vB b) := by
  have cs : (k = 0 ∧ b = true) ∨ (¬ k = 0 ∧ k = 1 ∧ b = true) ∨ (¬ k = 0 ∧ ¬ k = 1 ∧ k = 2 ∧ b = true) ∨ (¬ k = 0 ∧ ¬ k = 1 ∧ ¬ k = 2 ∧ b = false) := by
    rw [← hb]; unfold kd6
    by_cases h1 : k = 0
    · exact .inl ⟨h1, by subst h1; rfl⟩
    · by_cases h2 : k = 1
      · exact .inr (.inl ⟨h1, h2, by subst h2; rfl⟩)
      · by_cases h3 : k = 2
        · exact .inr (.inr (.inl ⟨h1, h2, h3, by subst h3; rfl⟩))
        · refine .inr (.inr (.inr ⟨h1, h2, h3, ?_⟩))
          rw [Bool.and_eq_false_iff, decide_eq_false_iff_not, decide_eq_false_iff_not]
          omega
  clear hb
  rcases cs with ⟨h1, rfl⟩ | ⟨h1, h2, rfl⟩ | ⟨h1, h2, h3, rfl⟩ | ⟨h1, h2, h3, rfl⟩
  all_goals
    refine pcall_body (f := 77) Try.func77 rfl rfl rfl rfl ?_
    (repeat (first | ((with_reducible apply al_q); exact rfl) | ((with_reducible apply al_guard_b (c := true)); exact rfl; exact rfl; (first | assumption | exact decide_eq_true (by omega) | (simp only [Bool.not_eq_true', decide_eq_false_iff_not, decide_eq_true_eq, Bool.not_eq_false']; (first | done | omega)))) | ((with_reducible apply al_guard_b (c := false)); exact rfl; exact rfl; (first | assumption | exact decide_eq_false (by omega) | (simp only [Bool.not_eq_true', decide_eq_false_iff_not, decide_eq_true_eq, Bool.not_eq_false']; (first | done | omega)))) | ((with_reducible apply awp_seq)) | ((with_reducible apply athen_normal)) | ((with_reducible apply awp_region)) | ((with_reducible apply al_nil)) | ((with_reducible apply awp_ret))))
    (first | (refine apost_ret rfl (resl_tmp rfl resl_nil) ?_))
    first | exact AV.Le.refl _ | exact AV.Le.of_eq (by rw [decide_eq_true h3]; rfl) | exact AV.Le.of_eq (by rw [decide_eq_false h3]; rfl)
set_option maxRecDepth 100000 in
set_option maxHeartbeats 8000000 in
theorem p_Meets' {a1 a2 b1 b2 l1 l2 h1 h2 k : Int} {o p r : Bool} {n1 d1 m1 e1 n2 d2 m2 e2 n3 d3 m3 e3 n4 d4 m4 e4 : Int} {q1 r1 q2 r2 q3 r3 q4 r4 : Bool} (R1 : PCall Try.prog 75 [vP a1 a2] (vB true)) (R2 : PCall Try.prog 75 [vP b1 b2] (vB true)) (K1 : PCall Try.prog 76 [vP l1 l2] (vB true)) (K2 : PCall Try.prog 76 [vP h1 h2] (vB true)) (K3 : PCall Try.prog 77 [vI k] (vB true))
    (eo : (!decide (k = 2)) = o) (ep : decide (k = 1) = p) (A0 : PCall Try.prog 78 [vP a1 a2, vP b1 b2] (vPart a1 a2 b1 b2 0 1 true 1 1 true))
    (C1 : PCall Try.prog 79 [vBox l1 l2 h1 h2 o p, vPart a1 a2 b1 b2 0 1 true 1 1 true] (vPart a1 a2 b1 b2 n1 d1 q1 m1 e1 r1))
    (C2 : PCall Try.prog 80 [vBox l1 l2 h1 h2 o p, vPart a1 a2 b1 b2 n1 d1 q1 m1 e1 r1] (vPart a1 a2 b1 b2 n2 d2 q2 m2 e2 r2))
    (C3 : PCall Try.prog 81 [vBox l1 l2 h1 h2 o p, vPart a1 a2 b1 b2 n2 d2 q2 m2 e2 r2] (vPart a1 a2 b1 b2 n3 d3 q3 m3 e3 r3))
    (C4 : PCall Try.prog 82 [vBox l1 l2 h1 h2 o p, vPart a1 a2 b1 b2 n3 d3 q3 m3 e3 r3] (vPart a1 a2 b1 b2 n4 d4 q4 m4 e4 r4))
    (H1 : PCall Try.prog 83 [vPart a1 a2 b1 b2 n4 d4 q4 m4 e4 r4] (vB r)) :
    PCall Try.prog 60 [vP a1 a2, vP b1 b2, vP l1 l2, vP h1 h2, vI k] (vB r) := by
  subst eo
  subst ep
  refine pcall_body (f := 60) Try.func60 rfl rfl rfl rfl ?_
  (repeat (first | ((with_reducible apply al_q); exact rfl) | ((with_reducible apply al_mkfnb); (iterate 4 exact rfl)) | (refine al_call1 rfl rfl rfl (by (first | exact R1 | exact R2 | exact K1 | exact K2 | exact K3 | exact A0)) rfl ?_) | (refine al_call2 rfl rfl rfl rfl (by (first | exact R1 | exact R2 | exact K1 | exact K2 | exact K3 | exact A0)) rfl ?_) | ((with_reducible apply awp_seq)) | ((with_reducible apply athen_normal)) | ((with_reducible apply awp_region)) | ((with_reducible apply al_nil)) | ((with_reducible apply awp_skip)) | ((with_reducible apply awp_block)) | ((with_reducible apply awp_cond_f); exact rfl)))
  refine awp_roll 5 ?_
  (repeat (first | ((with_reducible apply al_q); exact rfl) | ((with_reducible apply al_add); (iterate 3 exact rfl); (first | exact i64_wrap (by omega) | assumption | rfl); exact rfl) | ((with_reducible apply al_indexV1); (iterate 3 exact rfl); (first | decide | omega); (first | decide | omega); (first | assumption | rfl); exact rfl) | (refine al_call1 rfl rfl rfl (by (first | exact C1 | exact C2 | exact C3 | exact C4 | exact H1)) rfl ?_) | (refine al_callb (bs := [_]) (args := [_]) rfl rfl rfl rfl (by (first | exact C1 | exact C2 | exact C3 | exact C4 | exact H1)) rfl ?_) | ((with_reducible apply awp_seq)) | ((with_reducible apply athen_normal)) | ((with_reducible apply awp_region)) | ((with_reducible apply al_nil)) | ((with_reducible apply awp_ret)) | ((with_reducible apply awp_skip)) | ((with_reducible apply awp_block)) | ((with_reducible apply ablock_normal)) | ((with_reducible apply ablock_same)) | ((with_reducible apply awp_exit)) | ((with_reducible apply athen_exit)) | ((with_reducible apply roll_succ)) | ((with_reducible apply awp_cond_t); exact rfl) | ((with_reducible apply awp_cond_f); exact rfl)))
  (first | (refine apost_ret rfl (resl_tmp rfl resl_nil) ?_))
  exact AV.Le.refl _
end Go.Proofs.Ytaennpehlhgggaa

namespace Go.Proofs.Ytaennpehlhgggaa
open Go.RowKit
set_option linter.unusedVariables false
set_option linter.unusedSimpArgs false
theorem nb5 {n : Int} (h0 : -9223372036854775808 ≤ n) (h1 : n < 9223372036854775808) : NB 5 n := by unfold NB; omega
set_option maxRecDepth 100000 in
set_option maxHeartbeats 4000000 in
theorem p_r6num {n : Int} (h0 : -9223372036854775808 ≤ n) (h1 : n < 9223372036854775808) : PCall Try.prog 85 [vI n] (nv n) := by
  have C1 := p_rOf h0 h1
  clear h0 h1
  refine pcall_body (f := 85) Try.func85 rfl rfl rfl rfl ?_
  (repeat (first | ((with_reducible apply al_q); exact rfl) | (refine al_call1 rfl rfl rfl (by (first | exact C1)) rfl ?_) | ((with_reducible apply awp_seq)) | ((with_reducible apply athen_normal)) | ((with_reducible apply awp_region)) | ((with_reducible apply al_nil)) | ((with_reducible apply awp_ret))))
  (first | (refine apost_ret rfl (resl_agg rfl rfl rfl resl_nil) ?_) | (refine apost_ret rfl (resl_one rfl rfl rfl resl_nil) ?_))
  exact AV.Le.refl _
set_option maxRecDepth 100000 in
set_option maxHeartbeats 4000000 in
theorem p_r6sum {n d m e : Int} (h1 : NB 100 n) (h2 : NB 100 d) (h3 : NB 100 m) (h4 : NB 100 e) : PCall Try.prog 87 [rfv n d, rfv m e] (rfv (n * e + m * d) (d * e)) := by
  have C1 := p_rMul (n := n) (m := e) (h1.up (by omega)) (h4.up (by omega))
  have C2 := p_rMul (n := m) (m := d) (h3.up (by omega)) (h2.up (by omega))
  have C3 := p_rAdd (n := n * e) (m := m * d) ((h1.mul h4).up (by omega)) ((h3.mul h2).up (by omega))
  have C4 := p_rMul (n := d) (m := e) (h2.up (by omega)) (h4.up (by omega))
  clear h1 h2 h3 h4
  refine pcall_body (f := 87) Try.func87 rfl rfl rfl rfl ?_
  (repeat (first | ((with_reducible apply al_q); exact rfl) | (refine al_call2 rfl rfl rfl rfl (by (first | exact C1 | exact C2 | exact C3 | exact C4)) rfl ?_) | ((with_reducible apply al_nilS); kernel_rfl) | ((with_reducible apply awp_region_draw); kernel_rfl; kernel_rfl; exact rfl) | ((with_reducible apply awp_seq)) | ((with_reducible apply athen_normal)) | ((with_reducible apply awp_region)) | ((with_reducible apply al_nil)) | ((with_reducible apply awp_ret))))
  (first | (refine apost_ret rfl (resl_agg rfl rfl rfl resl_nil) ?_) | (refine apost_ret rfl (resl_one rfl rfl rfl resl_nil) ?_))
  exact AV.Le.refl _
set_option maxRecDepth 100000 in
set_option maxHeartbeats 4000000 in
theorem p_r6on {a b n d : Int} (ha : -134217728 ≤ a ∧ a ≤ 134217728) (hb : -134217728 ≤ b ∧ b ≤ 134217728) (h1 : NB 50 n) (h2 : NB 50 d) : PCall Try.prog 90 [vI a, vI b, rfv n d] (rfv (2 * a * d + n * (2 * (b - a)) * 1) (1 * d)) := by
  have C1 := p_r6num (n := 2 * (b - a)) (by omega) (by omega)
  have C2 := p_r6num (n := 2 * a) (by omega) (by omega)
  have C3 := p_r6num (n := 1) (by omega) (by omega)
  have k1 : NB 5 (2 * (b - a)) := nb5 (by omega) (by omega)
  have k2 : NB 5 (2 * a) := nb5 (by omega) (by omega)
  have k3 : NB 5 (1 : Int) := nb5 (by omega) (by omega)
  have C4 := p_rMul (n := n) (m := 2 * (b - a)) (h1.up (by omega)) (k1.up (by omega))
  have C5 := p_r6sum (n := 2 * a) (d := 1) (m := n * (2 * (b - a))) (e := d) (k2.up (by omega)) (k3.up (by omega)) ((h1.mul k1).up (by omega)) (h2.up (by omega))
  clear h1 h2 k1 k2 k3
  refine pcall_body (f := 90) Try.func90 rfl rfl rfl rfl ?_
  (repeat (first | ((with_reducible apply al_q); exact rfl) | ((with_reducible apply al_sub); (iterate 3 exact rfl); (first | exact i64_wrap (by omega) | assumption | rfl); exact rfl) | ((with_reducible apply al_mul); (iterate 3 exact rfl); (first | exact i64_wrap (by omega) | assumption | rfl); exact rfl) | (refine al_call1 rfl rfl rfl (by (first | exact C1 | exact C2 | exact C3 | exact C4 | exact C5)) rfl ?_) | (refine al_call2 rfl rfl rfl rfl (by (first | exact C1 | exact C2 | exact C3 | exact C4 | exact C5)) rfl ?_) | ((with_reducible apply al_nilS); kernel_rfl) | ((with_reducible apply awp_region_draw); kernel_rfl; kernel_rfl; exact rfl) | ((with_reducible apply awp_seq)) | ((with_reducible apply athen_normal)) | ((with_reducible apply awp_region)) | ((with_reducible apply al_nil)) | ((with_reducible apply awp_ret))))
  (first | (refine apost_ret rfl (resl_agg rfl rfl rfl resl_nil) ?_) | (refine apost_ret rfl (resl_one rfl rfl rfl resl_nil) ?_))
  exact AV.Le.refl _
/-- is a number (twice, as a fraction) from low to high? -/
def wiB (x y low high kind : Int) : Bool := (decide (icmp (low * y) (x * 1) < 0) || (decide (icmp (low * y) (x * 1) = 0) && !decide (kind = 2))) && (decide (icmp (x * 1) (high * y) < 0) || (decide (icmp (x * 1) (high * y) = 0) && decide (kind = 1)))
set_option maxRecDepth 100000 in
set_option maxHeartbeats 8000000 in
theorem p_r6within' {x y low high kind c1 c2 : Int} {r : Bool} (C1 : PCall Try.prog 85 [vI low] (nv low)) (C2 : PCall Try.prog 85 [vI high] (nv high)) (C3 : PCall Try.prog 85 [vI 1] (nv 1))
    (D1 : PCall Try.prog 104 [rfv low 1, rfv x y] (vI c1)) (D2 : PCall Try.prog 104 [rfv x y, rfv high 1] (vI c2))
    (cs : ((c1 < 0 ∨ (¬ c1 < 0 ∧ c1 = 0 ∧ ¬ kind = 2)) ∧ ((c2 < 0 ∧ r = true) ∨ (¬ c2 < 0 ∧ c2 = 0 ∧ kind = 1 ∧ r = true) ∨ (¬ c2 < 0 ∧ c2 = 0 ∧ ¬ kind = 1 ∧ r = false) ∨ (¬ c2 < 0 ∧ ¬ c2 = 0 ∧ r = false))) ∨ (¬ c1 < 0 ∧ c1 = 0 ∧ kind = 2 ∧ r = false) ∨ (¬ c1 < 0 ∧ ¬ c1 = 0 ∧ r = false)) : PCall Try.prog 89 [rfv x y, vI low, vI high, vI kind] (vB r) := by
  rcases cs with ⟨q1 | ⟨q1, q2, q3⟩, ⟨g1, rfl⟩ | ⟨g1, g2, g3, rfl⟩ | ⟨g1, g2, g3, rfl⟩ | ⟨g1, g2, rfl⟩⟩ | ⟨q1, q2, q3, rfl⟩ | ⟨q1, q2, rfl⟩
  all_goals
    try (have q4 : (!decide (kind = 2)) = true := by simp [q3])
    try (have q4 : (!decide (kind = 2)) = false := by simp [q3])
    try (have g4 := decide_eq_true g3)
    try (have g4 := decide_eq_false g3)
    refine pcall_body (f := 89) Try.func89 rfl rfl rfl rfl ?_
    (repeat (first | ((with_reducible apply al_q); exact rfl) | (refine al_call1 rfl rfl rfl (by (first | exact C1 | exact C2 | exact C3 | exact D1 | exact D2)) rfl ?_) | (refine al_call2 rfl rfl rfl rfl (by (first | exact C1 | exact C2 | exact C3 | exact D1 | exact D2)) rfl ?_) | ((with_reducible apply al_guard_b (c := true)); exact rfl; exact rfl; (first | assumption | exact decide_eq_true (by omega) | (simp only [Bool.not_eq_true', decide_eq_false_iff_not, decide_eq_true_eq, Bool.not_eq_false']; (first | done | omega)))) | ((with_reducible apply al_guard_b (c := false)); exact rfl; exact rfl; (first | assumption | exact decide_eq_false (by omega) | (simp only [Bool.not_eq_true', decide_eq_false_iff_not, decide_eq_true_eq, Bool.not_eq_false']; (first | done | omega)))) | ((with_reducible apply al_nilS); kernel_rfl) | ((with_reducible apply awp_region_draw); kernel_rfl; kernel_rfl; exact rfl) | ((with_reducible apply awp_seq)) | ((with_reducible apply athen_normal)) | ((with_reducible apply awp_region)) | ((with_reducible apply al_nil)) | ((with_reducible apply awp_ret))))
    (first | (refine apost_ret rfl (resl_tmp rfl resl_nil) ?_))
    first | exact AV.Le.refl _ | exact AV.Le.of_eq (by rw [g4]; rfl)
theorem p_r6within {x y low high kind : Int} (hl : -536870912 ≤ low ∧ low ≤ 536870912) (hh : -536870912 ≤ high ∧ high ≤ 536870912) (h1 : NB 150 x) (h2 : NB 150 y) : PCall Try.prog 89 [rfv x y, vI low, vI high, vI kind] (vB (wiB x y low high kind)) := by
  have k1 : NB 5 low := nb5 (by omega) (by omega)
  have k2 : NB 5 high := nb5 (by omega) (by omega)
  have k3 : NB 5 (1 : Int) := nb5 (by omega) (by omega)
  refine p_r6within' (p_r6num (by omega) (by omega)) (p_r6num (by omega) (by omega)) (p_r6num (by omega) (by omega)) (p_r2Cmp (k1.up (by omega)) (k3.up (by omega)) (h1.up (by omega)) (h2.up (by omega))) (p_r2Cmp (h1.up (by omega)) (h2.up (by omega)) (k2.up (by omega)) (k3.up (by omega))) ?_
  unfold wiB
  generalize icmp (low * y) (x * 1) = c1
  generalize icmp (x * 1) (high * y) = c2
  by_cases q1 : c1 < 0 <;> by_cases q2 : c1 = 0 <;> by_cases q3 : kind = 2 <;> by_cases g1 : c2 < 0 <;> by_cases g2 : c2 = 0 <;> by_cases g3 : kind = 1 <;> simp [q1, q2, q3, g1, g2, g3] <;> omega
set_option maxRecDepth 100000 in
set_option maxHeartbeats 4000000 in
theorem p_r6right {x y : Int} {b : Bool} (hb : co6 x y = b) : PCall Try.prog 84 [vP x y] (vB b) := by
  have cs : (x ≤ 536870912 ∧ -536870912 ≤ x ∧ y ≤ 536870912 ∧ -536870912 ≤ y ∧ b = true) ∨ (x ≤ 536870912 ∧ -536870912 ≤ x ∧ y ≤ 536870912 ∧ ¬ -536870912 ≤ y ∧ b = false) ∨ (x ≤ 536870912 ∧ -536870912 ≤ x ∧ ¬ y ≤ 536870912 ∧ b = false) ∨ (x ≤ 536870912 ∧ ¬ -536870912 ≤ x ∧ b = false) ∨ (¬ x ≤ 536870912 ∧ b = false) := by
    rw [← hb]; unfold co6 cb6
    by_cases q1 : x ≤ 536870912 <;> by_cases q2 : y ≤ 536870912 <;> by_cases q3 : -536870912 ≤ x <;> by_cases q4 : -536870912 ≤ y <;> simp [q1, q2, q3, q4]
  clear hb
  rcases cs with ⟨q1, q2, q3, q4, rfl⟩ | ⟨q1, q2, q3, q4, rfl⟩ | ⟨q1, q2, q3, rfl⟩ | ⟨q1, q2, rfl⟩ | ⟨q1, rfl⟩
  all_goals
    refine pcall_body (f := 84) Try.func84 rfl rfl rfl rfl ?_
    (repeat (first | ((with_reducible apply al_q); exact rfl) | ((with_reducible apply al_guard_b (c := true)); exact rfl; exact rfl; (first | assumption | exact decide_eq_true (by omega) | (simp only [Bool.not_eq_true', decide_eq_false_iff_not, decide_eq_true_eq, Bool.not_eq_false']; (first | done | omega)))) | ((with_reducible apply al_guard_b (c := false)); exact rfl; exact rfl; (first | assumption | exact decide_eq_false (by omega) | (simp only [Bool.not_eq_true', decide_eq_false_iff_not, decide_eq_true_eq, Bool.not_eq_false']; (first | done | omega)))) | ((with_reducible apply awp_seq)) | ((with_reducible apply athen_normal)) | ((with_reducible apply awp_region)) | ((with_reducible apply al_nil)) | ((with_reducible apply awp_ret))))
    (first | (refine apost_ret rfl (resl_tmp rfl resl_nil) ?_))
    first | exact AV.Le.refl _ | exact AV.Le.of_eq (by rw [decide_eq_true q4]; rfl) | exact AV.Le.of_eq (by rw [decide_eq_false q4]; rfl)
/-- the cells of fractions. -/
def frC : List (Int × Int) → List AC
  | [] => []
  | (n, d) :: l => .c (.bool (decide (n < 0))) :: .p (NumP n) :: .c (.bool (decide (d < 0))) :: .p (NumP d) :: frC l
theorem frC_length : ∀ (l : List (Int × Int)), (frC l).length = l.length * 4
  | [] => rfl
  | (n, d) :: l => by simp [frC, frC_length l]; omega
theorem frC_append : ∀ (l k : List (Int × Int)), frC l ++ frC k = frC (l ++ k)
  | [], k => rfl
  | (n, d) :: l, k => by simp [frC, frC_append l k]
theorem frC_closed : ∀ (l : List (Int × Int)), (frC l).all AC.closedB = true
  | [] => rfl
  | (n, d) :: l => by simp only [frC, List.all_cons, frC_closed l]; rfl
theorem frC_at : ∀ {l : List (Int × Int)} {i : Nat} {n d : Int}, l[i]? = some (n, d) → ((frC l).drop (i * 4)).take 4 = [.c (.bool (decide (n < 0))), .p (NumP n), .c (.bool (decide (d < 0))), .p (NumP d)]
  | [], i, n, d, h => by simp at h
  | (m, e) :: l, 0, n, d, h => by simp at h; obtain ⟨rfl, rfl⟩ := h; rfl
  | (m, e) :: l, i + 1, n, d, h => by
    have := frC_at (l := l) (i := i) (n := n) (d := d) (by simpa using h)
    rw [← this]
    rw [show (i + 1) * 4 = i * 4 + 4 by omega, ← List.drop_drop]
    simp only [frC]
    congr 1
    rw [List.drop_drop, Nat.add_comm, ← List.drop_drop]
    rfl
abbrev vFs (l : List (Int × Int)) : AV := vS 4 l.length (frC l)
/-- how far on the way a number is as great as a limit. -/
def waV (a b lim : Int) : List (Int × Int) :=
  let n := lim - 2 * a
  let d := 2 * (b - a)
  let n' := if d < 0 then -n else n
  let d' := if d < 0 then -d else d
  if d' = 0 ∨ n' < 0 ∨ d' < n' then [] else [(n', d')]
theorem nil_leP (z : Nat) : AV.Le (vC (.slice none 0 0)) (vS z 0 []) := fun U ρ W v ⟨h, _⟩ => by
  subst h
  exact ⟨⟨none, 0, rfl, Nat.le_refl _, by simp, fun h => absurd h (by omega)⟩, fun b ⟨c', a', q, hn, hb⟩ => by cases q⟩
set_option maxRecDepth 100000 in
set_option maxHeartbeats 8000000 in
theorem p_r6ways {a b lim : Int} (ha : -134217728 ≤ a ∧ a ≤ 134217728) (hb : -134217728 ≤ b ∧ b ≤ 134217728) (hl : -536870912 ≤ lim ∧ lim ≤ 536870912) : PCall Try.prog 86 [vI a, vI b, vI lim] (vFs (waV a b lim)) := by
  unfold waV
  obtain ⟨n, hn⟩ : ∃ n, lim - 2 * a = n := ⟨_, rfl⟩
  obtain ⟨d, hd⟩ : ∃ d, 2 * (b - a) = d := ⟨_, rfl⟩
  simp only [hn, hd]
  have bn : -1000000000 ≤ n ∧ n ≤ 1000000000 := by omega
  have bd : -1000000000 ≤ d ∧ d ≤ 1000000000 := by omega
  have w1 : IntKind.i64.wrap (lim - 2 * a) = n := by rw [hn]; exact i64_wrap (by omega)
  have w2 : IntKind.i64.wrap (2 * (b - a)) = d := by rw [hd]; exact i64_wrap (by omega)
  have w3 : IntKind.i64.wrap (2 * a) = 2 * a := i64_wrap (by omega)
  have w4 : IntKind.i64.wrap (b - a) = b - a := i64_wrap (by omega)
  clear ha hb hl hn hd
  by_cases q : d < 0
  · rw [if_pos q, if_pos q]
    have N1 := p_r6num (n := -n) (by omega) (by omega)
    have N2 := p_r6num (n := -d) (by omega) (by omega)
    by_cases q1 : -d = 0
    · omega
    · by_cases q2 : -n < 0
      · rw [if_pos (by omega)]
        refine pcall_body (f := 86) Try.func86 rfl rfl rfl rfl ?_
        (repeat (first | ((with_reducible apply al_q); exact rfl) | ((with_reducible apply al_sub); (iterate 3 exact rfl); (first | exact i64_wrap (by omega) | assumption | rfl); exact rfl) | ((with_reducible apply al_mul); (iterate 3 exact rfl); (first | exact i64_wrap (by omega) | assumption | rfl); exact rfl) | ((with_reducible apply al_neg); exact rfl; exact rfl; (first | exact i64_wrap (by omega) | assumption | rfl); exact rfl) | ((with_reducible apply al_guard_b (c := true)); exact rfl; exact rfl; (first | assumption | exact decide_eq_true (by omega) | (simp only [Bool.not_eq_true', decide_eq_false_iff_not, decide_eq_true_eq, Bool.not_eq_false']; (first | done | omega)))) | ((with_reducible apply al_guard_b (c := false)); exact rfl; exact rfl; (first | assumption | exact decide_eq_false (by omega) | (simp only [Bool.not_eq_true', decide_eq_false_iff_not, decide_eq_true_eq, Bool.not_eq_false']; (first | done | omega)))) | ((with_reducible apply awp_seq)) | ((with_reducible apply athen_normal)) | ((with_reducible apply awp_region)) | ((with_reducible apply al_nil)) | ((with_reducible apply awp_ret)) | ((with_reducible apply athen_ret)) | ((with_reducible apply awp_cond_t); exact rfl) | ((with_reducible apply awp_cond_1); exact rfl; (first | assumption | exact decide_eq_true (by omega) | (simp only [Bool.not_eq_true', decide_eq_false_iff_not, decide_eq_true_eq, Bool.not_eq_false']; (first | done | omega))))))
        (first | (refine apost_ret rfl (resl_tmp rfl resl_nil) ?_))
        exact nil_leP 4
      · by_cases q3 : -d < -n
        · rw [if_pos (by omega)]
          refine pcall_body (f := 86) Try.func86 rfl rfl rfl rfl ?_
          (repeat (first | ((with_reducible apply al_q); exact rfl) | ((with_reducible apply al_sub); (iterate 3 exact rfl); (first | exact i64_wrap (by omega) | assumption | rfl); exact rfl) | ((with_reducible apply al_mul); (iterate 3 exact rfl); (first | exact i64_wrap (by omega) | assumption | rfl); exact rfl) | ((with_reducible apply al_neg); exact rfl; exact rfl; (first | exact i64_wrap (by omega) | assumption | rfl); exact rfl) | ((with_reducible apply al_guard_b (c := false)); exact rfl; exact rfl; (first | assumption | exact decide_eq_false (by omega) | (simp only [Bool.not_eq_true', decide_eq_false_iff_not, decide_eq_true_eq, Bool.not_eq_false']; (first | done | omega)))) | ((with_reducible apply awp_seq)) | ((with_reducible apply athen_normal)) | ((with_reducible apply awp_region)) | ((with_reducible apply al_nil)) | ((with_reducible apply awp_ret)) | ((with_reducible apply athen_ret)) | ((with_reducible apply awp_cond_1); exact rfl; (first | assumption | exact decide_eq_true (by omega) | (simp only [Bool.not_eq_true', decide_eq_false_iff_not, decide_eq_true_eq, Bool.not_eq_false']; (first | done | omega))))))
          (first | (refine apost_ret rfl (resl_tmp rfl resl_nil) ?_))
          exact nil_leP 4
        · rw [if_neg (by omega)]
          refine pcall_body (f := 86) Try.func86 rfl rfl rfl rfl ?_
          (repeat (first | ((with_reducible apply al_q); exact rfl) | ((with_reducible apply al_sub); (iterate 3 exact rfl); (first | exact i64_wrap (by omega) | assumption | rfl); exact rfl) | ((with_reducible apply al_mul); (iterate 3 exact rfl); (first | exact i64_wrap (by omega) | assumption | rfl); exact rfl) | ((with_reducible apply al_neg); exact rfl; exact rfl; (first | exact i64_wrap (by omega) | assumption | rfl); exact rfl) | ((with_reducible apply al_bslice); (iterate 10 exact rfl)) | (refine al_call1 rfl rfl rfl (by (first | exact N1 | exact N2)) rfl ?_) | ((with_reducible apply al_guard_b (c := false)); exact rfl; exact rfl; (first | assumption | exact decide_eq_false (by omega) | (simp only [Bool.not_eq_true', decide_eq_false_iff_not, decide_eq_true_eq, Bool.not_eq_false']; (first | done | omega)))) | ((with_reducible apply awp_seq)) | ((with_reducible apply athen_normal)) | ((with_reducible apply awp_region)) | ((with_reducible apply al_nil)) | ((with_reducible apply awp_ret)) | ((with_reducible apply awp_skip)) | ((with_reducible apply awp_cond_1); exact rfl; (first | assumption | exact decide_eq_true (by omega) | (simp only [Bool.not_eq_true', decide_eq_false_iff_not, decide_eq_true_eq, Bool.not_eq_false']; (first | done | omega)))) | ((with_reducible apply awp_cond_0); exact rfl; (first | assumption | exact decide_eq_false (by omega) | (simp only [Bool.not_eq_true', decide_eq_false_iff_not, decide_eq_true_eq, Bool.not_eq_false']; (first | done | omega))))))
          (first | (refine apost_ret rfl (resl_tmp rfl resl_nil) ?_))
          exact AV.Le.refl _
  · rw [if_neg q, if_neg q]
    have N1 := p_r6num (n := n) (by omega) (by omega)
    have N2 := p_r6num (n := d) (by omega) (by omega)
    by_cases q1 : d = 0
    · rw [if_pos (by omega)]
      refine pcall_body (f := 86) Try.func86 rfl rfl rfl rfl ?_
      (repeat (first | ((with_reducible apply al_q); exact rfl) | ((with_reducible apply al_sub); (iterate 3 exact rfl); (first | exact i64_wrap (by omega) | assumption | rfl); exact rfl) | ((with_reducible apply al_mul); (iterate 3 exact rfl); (first | exact i64_wrap (by omega) | assumption | rfl); exact rfl) | ((with_reducible apply al_guard_b (c := true)); exact rfl; exact rfl; (first | assumption | exact decide_eq_true (by omega) | (simp only [Bool.not_eq_true', decide_eq_false_iff_not, decide_eq_true_eq, Bool.not_eq_false']; (first | done | omega)))) | ((with_reducible apply awp_seq)) | ((with_reducible apply athen_normal)) | ((with_reducible apply awp_region)) | ((with_reducible apply al_nil)) | ((with_reducible apply awp_ret)) | ((with_reducible apply awp_skip)) | ((with_reducible apply athen_ret)) | ((with_reducible apply awp_cond_t); exact rfl) | ((with_reducible apply awp_cond_0); exact rfl; (first | assumption | exact decide_eq_false (by omega) | (simp only [Bool.not_eq_true', decide_eq_false_iff_not, decide_eq_true_eq, Bool.not_eq_false']; (first | done | omega))))))
      (first | (refine apost_ret rfl (resl_tmp rfl resl_nil) ?_))
      exact nil_leP 4
    · by_cases q2 : n < 0
      · rw [if_pos (by omega)]
        refine pcall_body (f := 86) Try.func86 rfl rfl rfl rfl ?_
        (repeat (first | ((with_reducible apply al_q); exact rfl) | ((with_reducible apply al_sub); (iterate 3 exact rfl); (first | exact i64_wrap (by omega) | assumption | rfl); exact rfl) | ((with_reducible apply al_mul); (iterate 3 exact rfl); (first | exact i64_wrap (by omega) | assumption | rfl); exact rfl) | ((with_reducible apply al_guard_b (c := true)); exact rfl; exact rfl; (first | assumption | exact decide_eq_true (by omega) | (simp only [Bool.not_eq_true', decide_eq_false_iff_not, decide_eq_true_eq, Bool.not_eq_false']; (first | done | omega)))) | ((with_reducible apply al_guard_b (c := false)); exact rfl; exact rfl; (first | assumption | exact decide_eq_false (by omega) | (simp only [Bool.not_eq_true', decide_eq_false_iff_not, decide_eq_true_eq, Bool.not_eq_false']; (first | done | omega)))) | ((with_reducible apply awp_seq)) | ((with_reducible apply athen_normal)) | ((with_reducible apply awp_region)) | ((with_reducible apply al_nil)) | ((with_reducible apply awp_ret)) | ((with_reducible apply awp_skip)) | ((with_reducible apply athen_ret)) | ((with_reducible apply awp_cond_t); exact rfl) | ((with_reducible apply awp_cond_0); exact rfl; (first | assumption | exact decide_eq_false (by omega) | (simp only [Bool.not_eq_true', decide_eq_false_iff_not, decide_eq_true_eq, Bool.not_eq_false']; (first | done | omega))))))
        (first | (refine apost_ret rfl (resl_tmp rfl resl_nil) ?_))
        exact nil_leP 4
      · by_cases q3 : d < n
        · rw [if_pos (by omega)]
          refine pcall_body (f := 86) Try.func86 rfl rfl rfl rfl ?_
          (repeat (first | ((with_reducible apply al_q); exact rfl) | ((with_reducible apply al_sub); (iterate 3 exact rfl); (first | exact i64_wrap (by omega) | assumption | rfl); exact rfl) | ((with_reducible apply al_mul); (iterate 3 exact rfl); (first | exact i64_wrap (by omega) | assumption | rfl); exact rfl) | ((with_reducible apply al_guard_b (c := false)); exact rfl; exact rfl; (first | assumption | exact decide_eq_false (by omega) | (simp only [Bool.not_eq_true', decide_eq_false_iff_not, decide_eq_true_eq, Bool.not_eq_false']; (first | done | omega)))) | ((with_reducible apply awp_seq)) | ((with_reducible apply athen_normal)) | ((with_reducible apply awp_region)) | ((with_reducible apply al_nil)) | ((with_reducible apply awp_ret)) | ((with_reducible apply awp_skip)) | ((with_reducible apply athen_ret)) | ((with_reducible apply awp_cond_1); exact rfl; (first | assumption | exact decide_eq_true (by omega) | (simp only [Bool.not_eq_true', decide_eq_false_iff_not, decide_eq_true_eq, Bool.not_eq_false']; (first | done | omega)))) | ((with_reducible apply awp_cond_0); exact rfl; (first | assumption | exact decide_eq_false (by omega) | (simp only [Bool.not_eq_true', decide_eq_false_iff_not, decide_eq_true_eq, Bool.not_eq_false']; (first | done | omega))))))
          (first | (refine apost_ret rfl (resl_tmp rfl resl_nil) ?_))
          exact nil_leP 4
        · rw [if_neg (by omega)]
          refine pcall_body (f := 86) Try.func86 rfl rfl rfl rfl ?_
          (repeat (first | ((with_reducible apply al_q); exact rfl) | ((with_reducible apply al_sub); (iterate 3 exact rfl); (first | exact i64_wrap (by omega) | assumption | rfl); exact rfl) | ((with_reducible apply al_mul); (iterate 3 exact rfl); (first | exact i64_wrap (by omega) | assumption | rfl); exact rfl) | ((with_reducible apply al_bslice); (iterate 10 exact rfl)) | (refine al_call1 rfl rfl rfl (by (first | exact N1 | exact N2)) rfl ?_) | ((with_reducible apply al_guard_b (c := false)); exact rfl; exact rfl; (first | assumption | exact decide_eq_false (by omega) | (simp only [Bool.not_eq_true', decide_eq_false_iff_not, decide_eq_true_eq, Bool.not_eq_false']; (first | done | omega)))) | ((with_reducible apply awp_seq)) | ((with_reducible apply athen_normal)) | ((with_reducible apply awp_region)) | ((with_reducible apply al_nil)) | ((with_reducible apply awp_ret)) | ((with_reducible apply awp_skip)) | ((with_reducible apply awp_cond_0); exact rfl; (first | assumption | exact decide_eq_false (by omega) | (simp only [Bool.not_eq_true', decide_eq_false_iff_not, decide_eq_true_eq, Bool.not_eq_false']; (first | done | omega))))))
          (first | (refine apost_ret rfl (resl_tmp rfl resl_nil) ?_))
          exact AV.Le.refl _
end Go.Proofs.Ytaennpehlhgggaa

namespace Go.Proofs.Ytaennpehlhgggaa
open Go.RowKit
set_option linter.unusedVariables false
set_option linter.unusedSimpArgs false
instance iPixS_1 : RowTy Try.prog 119 118 4 64 := ⟨by kernel_rfl⟩
/-- the middle of two fractions, as it is written. -/
def midP (p q : Int × Int) : Int × Int := (p.1 * q.2 + q.1 * p.2, p.2 * q.2 + p.2 * q.2)
def atP (L : List (Int × Int)) (i : Nat) : Int × Int := L.getD i (0, 1)
def rwMid (L : List (Int × Int)) (i k : Nat) : List (Int × Int) := (List.range k).map fun j => midP (atP L i) (atP L j)
def midsN (L : List (Int × Int)) (i : Nat) : List (Int × Int) := (List.range i).flatMap fun j => rwMid L j j
theorem rwMid_succ (L : List (Int × Int)) (i k : Nat) : rwMid L i (k + 1) = rwMid L i k ++ [midP (atP L i) (atP L k)] := by
  unfold rwMid; rw [List.range_succ, List.map_append]; rfl
theorem midsN_succ (L : List (Int × Int)) (i : Nat) : midsN L (i + 1) = midsN L i ++ rwMid L i i := by
  unfold midsN; rw [List.range_succ, List.flatMap_append]; simp
theorem rwMid_length (L : List (Int × Int)) (i k : Nat) : (rwMid L i k).length = k := by simp [rwMid]
theorem midsN_length (L : List (Int × Int)) : ∀ (i : Nat), i ≤ 10 → (midsN L i).length ≤ 10 * i
  | 0, _ => by simp [midsN]
  | i + 1, h => by rw [midsN_succ, List.length_append, rwMid_length]; have := midsN_length L i (by omega); omega
abbrev ptM (a1 a2 b1 b2 l1 l2 h1 h2 : Int) : List (Nat × List AC) := [(5, [.c (.int .i64 a1), .c (.int .i64 a2)]), (6, [.c (.int .i64 b1), .c (.int .i64 b2)]), (7, [.c (.int .i64 l1), .c (.int .i64 l2)]), (8, [.c (.int .i64 h1), .c (.int .i64 h2)])]
abbrev frRow (v : Value) (C : List (Int × Int)) : HRow := ⟨118, 4, v, C.length, frC C⟩
def MeO (L : List (Int × Int)) (N a1 a2 b1 b2 l1 l2 h1 h2 kind : Int) (m : Nat) (R : Rws) (ts : List (Nat × AV)) (ms : List (Nat × List AC)) : Prop :=
  ∃ (i : Nat) (v : Value) (j : Int), i ≤ L.length ∧ m = L.length - i ∧ j = i ∧ R = row1 0 (frRow v (L ++ midsN L i))
    ∧ ts = [(4, vI kind), (5, vO 5 0), (6, vO 6 0), (7, vO 7 0), (8, vO 8 0), (11, vC v), (12, vI N), (13, vI j)] ∧ ms = ptM a1 a2 b1 b2 l1 l2 h1 h2
def MeN (L : List (Int × Int)) (N a1 a2 b1 b2 l1 l2 h1 h2 kind : Int) (i : Nat) (ji : Int) (m : Nat) (R : Rws) (ts : List (Nat × AV)) (ms : List (Nat × List AC)) : Prop :=
  ∃ (k : Nat) (v : Value) (j : Int), k ≤ i ∧ m = i - k ∧ j = k ∧ R = row1 0 (frRow v (L ++ midsN L i ++ rwMid L i k))
    ∧ ts = [(4, vI kind), (5, vO 5 0), (6, vO 6 0), (7, vO 7 0), (8, vO 8 0), (11, vC v), (12, vI N), (13, vI ji), (14, vI j)] ∧ ms = ptM a1 a2 b1 b2 l1 l2 h1 h2
def MeF (F : List (Int × Int)) (g : Int × Int → Bool) (a1 a2 b1 b2 l1 l2 h1 h2 kind : Int) (m : Nat) (ts : List (Nat × AV)) (ms : List (Nat × List AC)) : Prop :=
  ∃ (i : Nat) (j : Int), i ≤ F.length ∧ m = F.length - i ∧ j = i ∧ (F.take i).any g = false
    ∧ ts = [(4, vI kind), (5, vO 5 0), (6, vO 6 0), (7, vO 7 0), (8, vO 8 0), (11, vFs F), (16, vI j)] ∧ ms = ptM a1 a2 b1 b2 l1 l2 h1 h2
theorem frC_fact {C : List (Int × Int)} {i : Nat} {j : Int} {p : Int × Int} (hj : j = i) (h : C[i]? = some p) : j.toNat * 4 + 4 ≤ (frC C).length ∧ ((frC C).drop (j.toNat * 4)).take 4 = [.c (.bool (decide (p.1 < 0))), .p (NumP p.1), .c (.bool (decide (p.2 < 0))), .p (NumP p.2)] := by
  subst hj
  obtain ⟨n, d⟩ := p
  have hlt : i < C.length := (List.getElem?_eq_some_iff.1 h).1
  rw [Int.toNat_natCast]
  exact ⟨by rw [frC_length]; omega, frC_at h⟩
theorem atP_get {L : List (Int × Int)} {i : Nat} (h : i < L.length) (M : List (Int × Int)) : (L ++ M)[i]? = some (atP L i) := by
  rw [List.getElem?_append_left h]
  unfold atP
  simp [h]
set_option maxRecDepth 100000 in
set_option maxHeartbeats 16000000 in
theorem p_r6Meets' {a1 a2 b1 b2 l1 l2 h1 h2 kind : Int} {w1 w2 w3 w4 L F : List (Int × Int)} {g : Int × Int → Bool} {res : Bool} (R1 : PCall Try.prog 21 [vP a1 a2] (vB true)) (R2 : PCall Try.prog 21 [vP b1 b2] (vB true)) (R3 : PCall Try.prog 84 [vP l1 l2] (vB true)) (R4 : PCall Try.prog 84 [vP h1 h2] (vB true)) (k0 : ¬ kind < 0) (k1 : ¬ 2 < kind)
    (N0 : PCall Try.prog 85 [vI 0] (nv 0)) (N1 : PCall Try.prog 85 [vI 1] (nv 1))
    (W1 : PCall Try.prog 86 [vI a1, vI b1, vI l1] (vFs w1)) (W2 : PCall Try.prog 86 [vI a1, vI b1, vI h1] (vFs w2)) (W3 : PCall Try.prog 86 [vI a2, vI b2, vI l2] (vFs w3)) (W4 : PCall Try.prog 86 [vI a2, vI b2, vI h2] (vFs w4))
    (lw : w1.length ≤ 1 ∧ w2.length ≤ 1 ∧ w3.length ≤ 1 ∧ w4.length ≤ 1) (eL : L = [(0, 1), (1, 1)] ++ w1 ++ w2 ++ w3 ++ w4) (eF : F = L ++ midsN L L.length)
    (S : ∀ i k, i < L.length → k < i → PCall Try.prog 87 [rfv (atP L i).1 (atP L i).2, rfv (atP L k).1 (atP L k).2] (rfv ((atP L i).1 * (atP L k).2 + (atP L k).1 * (atP L i).2) ((atP L i).2 * (atP L k).2)) ∧ PCall Try.prog 88 [nv ((atP L i).2 * (atP L k).2), nv ((atP L i).2 * (atP L k).2)] (nv ((atP L i).2 * (atP L k).2 + (atP L i).2 * (atP L k).2)))
    (G : ∀ p ∈ F, ∃ X1 Y1 X2 Y2 g1 g2, PCall Try.prog 90 [vI a1, vI b1, rfv p.1 p.2] (rfv X1 Y1) ∧ PCall Try.prog 89 [rfv X1 Y1, vI l1, vI h1, vI kind] (vB g1) ∧ PCall Try.prog 90 [vI a2, vI b2, rfv p.1 p.2] (rfv X2 Y2) ∧ PCall Try.prog 89 [rfv X2 Y2, vI l2, vI h2, vI kind] (vB g2) ∧ g p = (g1 && g2))
    (hres : F.any g = res) : PCall Try.prog 61 [vP a1 a2, vP b1 b2, vP l1 l2, vP h1 h2, vI kind] (vB res) := by
  have nL : L.length = 2 + w1.length + w2.length + w3.length + w4.length := by rw [eL]; simp; omega
  have cL : frC L = [.c (.bool (decide ((0 : Int) < 0))), .p (NumP 0), .c (.bool (decide ((1 : Int) < 0))), .p (NumP 1), .c (.bool (decide ((1 : Int) < 0))), .p (NumP 1), .c (.bool (decide ((1 : Int) < 0))), .p (NumP 1)] ++ frC w1 ++ frC w2 ++ frC w3 ++ frC w4 := by
    rw [eL, ← frC_append, ← frC_append, ← frC_append, ← frC_append]; rfl
  have x1 : maxLen = 9223372036854775807 := rfl
  refine pcall_body (f := 61) Try.func61 rfl rfl rfl rfl ?_
  refine awp_rows ?_
  (repeat (first | ((with_reducible apply rwp_seq)) | ((with_reducible apply rthen_normal)) | ((with_reducible apply rwp_region)) | ((with_reducible apply hs_nil)) | ((with_reducible apply rwp_skip)) | ((with_reducible apply rwp_cond_0); exact rfl; (first | assumption | exact decide_eq_false (by omega) | (simp only [Bool.not_eq_true', decide_eq_false_iff_not, decide_eq_true_eq, Bool.not_eq_false']; (first | done | omega)) | exact rfl)) | ((with_reducible apply hs_c); exact rfl; (repeat (first | ((with_reducible apply al_q); exact rfl) | (refine al_call1 rfl rfl rfl (by (first | exact R1 | exact R2 | exact R3 | exact R4 | exact N0 | exact N1)) rfl ?_) | ((with_reducible apply al_guard_b (c := false)); exact rfl; exact rfl; (first | assumption | exact decide_eq_false (by omega) | (simp only [Bool.not_eq_true', decide_eq_false_iff_not, decide_eq_true_eq, Bool.not_eq_false']; (first | done | omega)))))); (with_reducible apply al_nil))))
  refine hs_new 0 rfl rfl rfl rfl rfl rfl rfl rfl ?h3 rfl rfl rfl (fun v1 hv1 => ?_)
  case h3 => decide
  (repeat (first | ((with_reducible apply rwp_draw (id := 4) [0,1,2,3,4,5,6,7,9,10,11,12,13,14,8,15,16,17]); kernel_rfl; kernel_rfl; exact rfl) | ((with_reducible apply rwp_seq)) | ((with_reducible apply rthen_normal)) | ((with_reducible apply hs_nil)) | ((with_reducible apply hs_c); exact rfl; (repeat (first | ((with_reducible apply al_q); exact rfl) | (refine al_call3 rfl rfl rfl rfl rfl (by (first | exact W1)) rfl ?_))); (with_reducible apply al_nil))))
  refine hs_app 0 rfl rfl rfl rfl (.inr ?q0) ?q1 ?q2 (frC_closed _) rfl (fun v2 hv2 => ?_)
  case q0 => show 0 < 2; omega
  case q1 => show 2 + w1.length ≤ maxLen; omega
  case q2 => show (2 + w1.length) * 64 ≤ 140737488355328; omega
  (repeat (first | ((with_reducible apply hs_c); exact rfl; (repeat (first | (refine al_call3 rfl rfl rfl rfl rfl (by (first | exact W2)) rfl ?_))); (with_reducible apply al_nil))))
  refine hs_app 0 rfl rfl rfl rfl (.inr ?q0) ?q1 ?q2 (frC_closed _) rfl (fun v3 hv3 => ?_)
  case q0 => show 0 < 2 + w1.length; omega
  case q1 => show 2 + w1.length + w2.length ≤ maxLen; omega
  case q2 => show (2 + w1.length + w2.length) * 64 ≤ 140737488355328; omega
  (repeat (first | ((with_reducible apply hs_nilS); kernel_rfl) | ((with_reducible apply rwp_draw (id := 5) [0,1,2,3,4,5,6,7,9,10,11,12,13,14,8,15,16,17]); kernel_rfl; kernel_rfl; exact rfl) | ((with_reducible apply rwp_seq)) | ((with_reducible apply rthen_normal)) | ((with_reducible apply hs_c); exact rfl; (repeat (first | ((with_reducible apply al_q); exact rfl) | (refine al_call3 rfl rfl rfl rfl rfl (by (first | exact W3)) rfl ?_))); (with_reducible apply al_nil))))
  refine hs_app 0 rfl rfl rfl rfl (.inr ?q0) ?q1 ?q2 (frC_closed _) rfl (fun v4 hv4 => ?_)
  case q0 => show 0 < 2 + w1.length + w2.length; omega
  case q1 => show 2 + w1.length + w2.length + w3.length ≤ maxLen; omega
  case q2 => show (2 + w1.length + w2.length + w3.length) * 64 ≤ 140737488355328; omega
  (repeat (first | ((with_reducible apply hs_c); exact rfl; (repeat (first | (refine al_call3 rfl rfl rfl rfl rfl (by (first | exact W4)) rfl ?_))); (with_reducible apply al_nil))))
  refine hs_app 0 rfl rfl rfl rfl (.inr ?q0) ?q1 ?q2 (frC_closed _) rfl (fun v5 hv5 => ?_)
  case q0 => show 0 < 2 + w1.length + w2.length + w3.length; omega
  case q1 => show 2 + w1.length + w2.length + w3.length + w4.length ≤ maxLen; omega
  case q2 => show (2 + w1.length + w2.length + w3.length + w4.length) * 64 ≤ 140737488355328; omega
  (repeat (first | ((with_reducible apply hs_nilS); kernel_rfl) | ((with_reducible apply rwp_seq)) | ((with_reducible apply rthen_normal)) | ((with_reducible apply rwp_region)) | ((with_reducible apply hs_nil)) | ((with_reducible apply rwp_block)) | ((with_reducible apply hs_c); exact rfl; (repeat (first | ((with_reducible apply al_q); exact rfl))); (with_reducible apply al_nil)) | ((with_reducible apply hs_len 0); (iterate 4 exact rfl); kernel_rfl; exact rfl)))
  clear R1 R2 R3 R4 N0 N1 W1 W2 W3 W4
  have hN : ((2 + w1.length + w2.length + w3.length + w4.length : Nat) : Int) = (L.length : Int) := by rw [nL]
  have b6 : L.length ≤ 6 := by omega
  have e0 : frRow v5 (L ++ midsN L 0) = ⟨118, 4, v5, 2 + w1.length + w2.length + w3.length + w4.length, [.c (.bool (decide ((0 : Int) < 0))), .p (NumP 0), .c (.bool (decide ((1 : Int) < 0))), .p (NumP 1), .c (.bool (decide ((1 : Int) < 0))), .p (NumP 1), .c (.bool (decide ((1 : Int) < 0))), .p (NumP 1)] ++ frC w1 ++ frC w2 ++ frC w3 ++ frC w4⟩ := by
    unfold frRow; rw [← cL, ← nL]; simp [midsN]
  refine rwp_loopL 154 (MeO L ((2 + w1.length + w2.length + w3.length + w4.length : Nat) : Int) a1 a2 b1 b2 l1 l2 h1 h2 kind) L.length (row1 0 (frRow v5 (L ++ midsN L 0))) _ _ ⟨0, v5, 0, Nat.zero_le _, rfl, rfl, rfl, rfl, rfl⟩ ?hl rfl ⟨rfl, rfl, rfl, rfl, rfl, rfl, rfl, rfl, trivial⟩ ⟨rfl, rfl, rfl, rfl, trivial⟩ rfl ?_
  case hl => rw [e0]; exact row1_le _ _ _
  clear e0 hv1 hv2 hv3 hv4 hv5 cL eL lw
  generalize ((2 + w1.length + w2.length + w3.length + w4.length : Nat) : Int) = N at *
  clear nL
  rintro m R ts ms ⟨i, v, j, hi, rfl, hj, rfl, rfl, rfl⟩ hok
  clear hok
  by_cases hq : i < L.length
  · have q' : j < N := by omega
    clear G hres
    (repeat (first | ((with_reducible apply rwp_seq)) | ((with_reducible apply rthen_normal)) | ((with_reducible apply rwp_region)) | ((with_reducible apply hs_nil)) | ((with_reducible apply rwp_skip)) | ((with_reducible apply rwp_block)) | ((with_reducible apply rwp_cond_1); exact rfl; (first | assumption | exact decide_eq_true (by omega) | (simp only [Bool.not_eq_true', decide_eq_false_iff_not, decide_eq_true_eq, Bool.not_eq_false']; (first | done | omega)) | exact rfl)) | ((with_reducible apply hs_c); exact rfl; (repeat (first | ((with_reducible apply al_q); exact rfl))); (with_reducible apply al_nil))))
    refine rwp_loopL 154 (MeN L N a1 a2 b1 b2 l1 l2 h1 h2 kind i j) i (row1 0 (frRow v (L ++ midsN L i ++ rwMid L i 0))) _ _ ⟨0, v, 0, Nat.zero_le _, rfl, rfl, rfl, rfl, rfl⟩ ?hl rfl ⟨rfl, rfl, rfl, rfl, rfl, rfl, rfl, rfl, rfl, trivial⟩ ⟨rfl, rfl, rfl, rfl, trivial⟩ rfl ?_
    case hl => rw [show rwMid L i 0 = [] by rfl, List.append_nil]; exact RLe.refl _
    rintro m R ts ms ⟨k, v', j', hk, rfl, hj', rfl, rfl, rfl⟩ hok
    clear hok
    by_cases hq2 : k < i
    · have q2 : j' < j := by omega
      have g1 : (L ++ midsN L i ++ rwMid L i k)[i]? = some (atP L i) := by rw [List.append_assoc]; exact atP_get hq _
      have g2 : (L ++ midsN L i ++ rwMid L i k)[k]? = some (atP L k) := by rw [List.append_assoc]; exact atP_get (by omega) _
      have Z1 := frC_fact hj g1
      have Z2 := frC_fact hj' g2
      have ln : (L ++ midsN L i ++ rwMid L i k).length ≤ 200 ∧ i < (L ++ midsN L i ++ rwMid L i k).length := by
        rw [List.length_append, List.length_append, rwMid_length]
        have := midsN_length L i (by omega)
        omega
      have e3 : ∀ v'', frRow v'' (L ++ midsN L i ++ rwMid L i (k + 1)) = ⟨118, 4, v'', (L ++ midsN L i ++ rwMid L i k).length + 1, frC (L ++ midsN L i ++ rwMid L i k) ++ frC [midP (atP L i) (atP L k)]⟩ := fun v'' => by
        unfold frRow
        rw [rwMid_succ, ← List.append_assoc, frC_append, List.length_append]
        rfl
      obtain ⟨S1, S2⟩ := S i k hq hq2
      clear S g1 g2
      unfold midP at e3
      generalize L ++ midsN L i ++ rwMid L i k = C at *
      generalize atP L i = p1 at *
      generalize atP L k = p2 at *
      obtain ⟨n1, d1⟩ := p1
      obtain ⟨n2, d2⟩ := p2
      simp only at S1 S2 Z1 Z2 e3
      have f0 : 0 < C.length := by omega
      have f1 : 0 ≤ j ∧ 0 ≤ j' := by omega
      have f2 : j < (C.length : Int) := by omega
      have f3 : j' < (C.length : Int) := by omega
      (repeat (first | ((with_reducible apply hs_nilS); kernel_rfl) | ((with_reducible apply rwp_draw (id := 13) [9,0,1,2,3,4,5,6,7,8,10]); kernel_rfl; kernel_rfl; exact rfl) | ((with_reducible apply rwp_draw (id := 14) [0,1,2,3,4,5,6,7,8,9,10,11]); kernel_rfl; kernel_rfl; exact rfl) | ((with_reducible apply rwp_seq)) | ((with_reducible apply rthen_normal)) | ((with_reducible apply rwp_region)) | ((with_reducible apply hs_nil)) | ((with_reducible apply rwp_skip)) | ((with_reducible apply rwp_block)) | ((with_reducible apply rwp_cond_1); exact rfl; (first | assumption | exact decide_eq_true (by omega) | (simp only [Bool.not_eq_true', decide_eq_false_iff_not, decide_eq_true_eq, Bool.not_eq_false']; (first | done | omega)) | exact rfl)) | ((with_reducible apply hs_c); exact rfl; (repeat (first | ((with_reducible apply al_q); exact rfl) | ((with_reducible apply al_bslice); (iterate 10 exact rfl)) | (refine al_call2 rfl rfl rfl rfl (by (first | exact S1 | exact S2)) rfl ?_))); (with_reducible apply al_nil)) | ((with_reducible apply hs_idx 0); (iterate 4 exact rfl); (first | omega); (first | assumption | omega); exact rfl; kernel_rfl; exact rfl) | ((with_reducible apply hs_loadN 0); (iterate 3 exact rfl); (first | assumption | omega); assumption; exact rfl; kernel_rfl; exact rfl)))
      refine hs_app 0 rfl rfl rfl rfl (.inr ?q0) ?q1 ?q2 rfl rfl (fun v'' hv'' => ?_)
      case q0 => exact f0
      case q1 => show C.length + 1 ≤ maxLen; omega
      case q2 => show (C.length + 1) * 64 ≤ 140737488355328; omega
      (repeat (first | ((with_reducible apply hs_nilS); kernel_rfl) | ((with_reducible apply rthen_normal)) | ((with_reducible apply rwp_region)) | ((with_reducible apply hs_nil)) | ((with_reducible apply rblock_normal)) | ((with_reducible apply hs_c); exact rfl; (repeat (first | ((with_reducible apply al_q); exact rfl) | ((with_reducible apply al_add); (iterate 3 exact rfl); (first | exact i64_wrap (by omega) | assumption | rfl); exact rfl))); (with_reducible apply al_nil))))
      exact ⟨i - (k + 1), row1 0 (frRow v'' (L ++ midsN L i ++ rwMid L i (k + 1))), _, _, by omega, ⟨k + 1, v'', j' + 1, by omega, rfl, by omega, rfl, rfl, rfl⟩, by rw [e3]; exact row1_le _ _ _, rfl, ⟨rfl, rfl, rfl, rfl, rfl, rfl, rfl, rfl, rfl, trivial⟩, ⟨rfl, rfl, rfl, rfl, trivial⟩, rfl⟩
    · have q2 : ¬ j' < j := by omega
      have hki : k = i := by omega
      subst hki
      clear S
      (repeat (first | ((with_reducible apply rwp_seq)) | ((with_reducible apply rthen_normal)) | ((with_reducible apply rwp_region)) | ((with_reducible apply hs_nil)) | ((with_reducible apply rblock_normal)) | ((with_reducible apply rblock_same)) | ((with_reducible apply rwp_exit)) | ((with_reducible apply rthen_exit)) | ((with_reducible apply rwp_cond_0); exact rfl; (first | assumption | exact decide_eq_false (by omega) | (simp only [Bool.not_eq_true', decide_eq_false_iff_not, decide_eq_true_eq, Bool.not_eq_false']; (first | done | omega)) | exact rfl)) | ((with_reducible apply hs_c); exact rfl; (repeat (first | ((with_reducible apply al_q); exact rfl) | ((with_reducible apply al_add); (iterate 3 exact rfl); (first | exact i64_wrap (by omega) | assumption | rfl); exact rfl))); (with_reducible apply al_nil))))
      exact ⟨L.length - (k + 1), row1 0 (frRow v' (L ++ midsN L (k + 1))), _, _, by omega, ⟨k + 1, v', j + 1, by omega, rfl, by omega, rfl, rfl, rfl⟩, by rw [midsN_succ, ← List.append_assoc]; exact RLe.refl _, rfl, ⟨rfl, rfl, rfl, rfl, rfl, rfl, rfl, rfl, trivial⟩, ⟨rfl, rfl, rfl, rfl, trivial⟩, rfl⟩
  · have q' : ¬ j < N := by omega
    have hi' : i = L.length := by omega
    subst hi'
    have lF : F.length ≤ 100 := by
      have := midsN_length L L.length (by omega)
      rw [eF, List.length_append]; omega
    rw [← eF]
    clear S eF
    (repeat (first | ((with_reducible apply rwp_seq)) | ((with_reducible apply rthen_normal)) | ((with_reducible apply rwp_region)) | ((with_reducible apply hs_nil)) | ((with_reducible apply rwp_block)) | ((with_reducible apply rblock_same)) | ((with_reducible apply rwp_exit)) | ((with_reducible apply rthen_exit)) | ((with_reducible apply rwp_cond_0); exact rfl; (first | assumption | exact decide_eq_false (by omega) | (simp only [Bool.not_eq_true', decide_eq_false_iff_not, decide_eq_true_eq, Bool.not_eq_false']; (first | done | omega)) | exact rfl)) | ((with_reducible apply hs_c); exact rfl; (repeat (first | ((with_reducible apply al_q); exact rfl))); (with_reducible apply al_nil))))
    refine rwp_cool 0 11 (frRow v F) rfl rfl ?_
    refine rwp_awp ?_
    refine awp_loopL 154 (MeF F g a1 a2 b1 b2 l1 l2 h1 h2 kind) F.length _ _ ⟨0, 0, Nat.zero_le _, rfl, rfl, by simp, rfl, rfl⟩ rfl ⟨rfl, rfl, rfl, rfl, rfl, rfl, rfl, trivial⟩ ⟨rfl, rfl, rfl, rfl, trivial⟩ rfl ?_
    rintro m ts ms ⟨i, ji, hi, rfl, hji, hno, rfl, rfl⟩ hok
    clear hok
    by_cases hq3 : i < F.length
    · have q3 : ji < (F.length : Int) := by omega
      have q4 : 0 ≤ ji := by omega
      obtain ⟨p, hp⟩ : ∃ p, F[i]? = some p := ⟨_, List.getElem?_eq_getElem hq3⟩
      have Z := (frC_fact hji hp).2
      obtain ⟨X1, Y1, X2, Y2, c1, c2, O1, I1, O2, I2, hg⟩ := G p (List.mem_of_getElem? hp)
      have ht : F.take (i + 1) = F.take i ++ [p] := by rw [List.take_add_one, hp]; rfl
      have hg' : g p = true → F.any g = true := fun h => List.any_eq_true.2 ⟨p, List.mem_of_getElem? hp, h⟩
      clear G hp
      obtain ⟨n, d⟩ := p
      simp only at O1 O2 Z
      cases c1 with
      | false =>
        have hn : (F.take (i + 1)).any g = false := by rw [ht, List.any_append, hno]; simp [hg]
        clear hres hg' ht hg
        (repeat (first | ((with_reducible apply al_q); exact rfl) | ((with_reducible apply al_loadPN); (iterate 5 exact rfl)) | ((with_reducible apply al_idxS); (iterate 3 exact rfl); (first | decide | omega); (first | decide | omega); (first | assumption | rfl); exact rfl) | ((with_reducible apply al_add); (iterate 3 exact rfl); (first | exact i64_wrap (by omega) | assumption | rfl); exact rfl) | ((with_reducible apply al_len); (iterate 3 exact rfl)) | (refine al_call3 rfl rfl rfl rfl rfl (by (first | exact O1 | exact I1)) rfl ?_) | (refine al_call4 rfl rfl rfl rfl rfl rfl (by (first | exact O1 | exact I1)) rfl ?_) | ((with_reducible apply al_nilS); kernel_rfl) | ((with_reducible apply awp_region_draw); kernel_rfl; kernel_rfl; exact rfl) | ((with_reducible apply awp_seq)) | ((with_reducible apply athen_normal)) | ((with_reducible apply awp_region)) | ((with_reducible apply al_nil)) | ((with_reducible apply awp_skip)) | ((with_reducible apply awp_block)) | ((with_reducible apply ablock_normal)) | ((with_reducible apply awp_cond_f); exact rfl) | ((with_reducible apply awp_cond_1); exact rfl; (first | assumption | exact decide_eq_true (by omega) | (simp only [Bool.not_eq_true', decide_eq_false_iff_not, decide_eq_true_eq, Bool.not_eq_false']; (first | done | omega))))))
        exact ⟨F.length - (i + 1), _, _, by omega, ⟨i + 1, ji + 1, by omega, rfl, by omega, hn, rfl, rfl⟩, rfl, ⟨rfl, rfl, rfl, rfl, rfl, rfl, rfl, trivial⟩, ⟨rfl, rfl, rfl, rfl, trivial⟩, rfl⟩
      | true =>
        cases c2 with
        | false =>
          have hn : (F.take (i + 1)).any g = false := by rw [ht, List.any_append, hno]; simp [hg]
          clear hres hg' ht hg
          (repeat (first | ((with_reducible apply al_q); exact rfl) | ((with_reducible apply al_loadPN); (iterate 5 exact rfl)) | ((with_reducible apply al_idxS); (iterate 3 exact rfl); (first | decide | omega); (first | decide | omega); (first | assumption | rfl); exact rfl) | ((with_reducible apply al_add); (iterate 3 exact rfl); (first | exact i64_wrap (by omega) | assumption | rfl); exact rfl) | ((with_reducible apply al_len); (iterate 3 exact rfl)) | (refine al_call3 rfl rfl rfl rfl rfl (by (first | exact O1 | exact I1 | exact O2 | exact I2)) rfl ?_) | (refine al_call4 rfl rfl rfl rfl rfl rfl (by (first | exact O1 | exact I1 | exact O2 | exact I2)) rfl ?_) | ((with_reducible apply al_nilS); kernel_rfl) | ((with_reducible apply awp_region_draw); kernel_rfl; kernel_rfl; exact rfl) | ((with_reducible apply awp_seq)) | ((with_reducible apply athen_normal)) | ((with_reducible apply awp_region)) | ((with_reducible apply al_nil)) | ((with_reducible apply awp_skip)) | ((with_reducible apply awp_block)) | ((with_reducible apply ablock_normal)) | ((with_reducible apply awp_cond_f); exact rfl) | ((with_reducible apply awp_cond_1); exact rfl; (first | assumption | exact decide_eq_true (by omega) | (simp only [Bool.not_eq_true', decide_eq_false_iff_not, decide_eq_true_eq, Bool.not_eq_false']; (first | done | omega))))))
          exact ⟨F.length - (i + 1), _, _, by omega, ⟨i + 1, ji + 1, by omega, rfl, by omega, hn, rfl, rfl⟩, rfl, ⟨rfl, rfl, rfl, rfl, rfl, rfl, rfl, trivial⟩, ⟨rfl, rfl, rfl, rfl, trivial⟩, rfl⟩
        | true =>
          have hr : res = true := by rw [← hres]; exact hg' (by rw [hg]; rfl)
          clear hres hg' ht hg
          subst hr
          (repeat (first | ((with_reducible apply al_q); exact rfl) | ((with_reducible apply al_loadPN); (iterate 5 exact rfl)) | ((with_reducible apply al_idxS); (iterate 3 exact rfl); (first | decide | omega); (first | decide | omega); (first | assumption | rfl); exact rfl) | ((with_reducible apply al_len); (iterate 3 exact rfl)) | (refine al_call3 rfl rfl rfl rfl rfl (by (first | exact O1 | exact I1 | exact O2 | exact I2)) rfl ?_) | (refine al_call4 rfl rfl rfl rfl rfl rfl (by (first | exact O1 | exact I1 | exact O2 | exact I2)) rfl ?_) | ((with_reducible apply al_nilS); kernel_rfl) | ((with_reducible apply awp_region_draw); kernel_rfl; kernel_rfl; exact rfl) | ((with_reducible apply awp_seq)) | ((with_reducible apply athen_normal)) | ((with_reducible apply awp_region)) | ((with_reducible apply al_nil)) | ((with_reducible apply awp_ret)) | ((with_reducible apply awp_skip)) | ((with_reducible apply athen_ret)) | ((with_reducible apply awp_block)) | ((with_reducible apply ablock_ret)) | ((with_reducible apply awp_cond_t); exact rfl) | ((with_reducible apply awp_cond_1); exact rfl; (first | assumption | exact decide_eq_true (by omega) | (simp only [Bool.not_eq_true', decide_eq_false_iff_not, decide_eq_true_eq, Bool.not_eq_false']; (first | done | omega))))))
          (repeat (first | ((with_reducible apply rthen_ret)) | ((with_reducible apply rblock_ret))))
          (first | (refine apost_ret rfl (resl_tmp rfl resl_nil) ?_))
          exact AV.Le.refl _
    · have q3 : ¬ ji < (F.length : Int) := by omega
      have hr : res = false := by
        rw [← hres, ← hno, List.take_of_length_le (by omega)]
      clear hres G
      subst hr
      (repeat (first | ((with_reducible apply al_q); exact rfl) | ((with_reducible apply al_len); (iterate 3 exact rfl)) | ((with_reducible apply awp_seq)) | ((with_reducible apply athen_normal)) | ((with_reducible apply awp_region)) | ((with_reducible apply al_nil)) | ((with_reducible apply awp_exit)) | ((with_reducible apply athen_exit)) | ((with_reducible apply awp_cond_0); exact rfl; (first | assumption | exact decide_eq_false (by omega) | (simp only [Bool.not_eq_true', decide_eq_false_iff_not, decide_eq_true_eq, Bool.not_eq_false']; (first | done | omega))))))
      (repeat (first | ((with_reducible apply rwp_seq)) | ((with_reducible apply rthen_normal)) | ((with_reducible apply rwp_region)) | ((with_reducible apply hs_nil)) | ((with_reducible apply rwp_ret)) | ((with_reducible apply rblock_same)) | ((with_reducible apply hs_c); exact rfl; (repeat (first | ((with_reducible apply al_q); exact rfl))); (with_reducible apply al_nil))))
      (first | (refine apost_ret rfl (resl_tmp rfl resl_nil) ?_))
      exact AV.Le.refl _
end Go.Proofs.Ytaennpehlhgggaa

namespace Go.Proofs.Ytaennpehlhgggaa
open Go.RowKit
set_option linter.unusedVariables false
set_option linter.unusedSimpArgs false
/-- what Meets answers. -/
def cutV (a1 a2 b1 b2 l1 l2 h1 h2 k : Int) : Pa := cut4 (2 * a1 - l1) (2 * b1 - l1) (2 * a2 - l2) (2 * b2 - l2) (h1 - 2 * a1) (h1 - 2 * b1) (h2 - 2 * a2) (h2 - 2 * b2) (!decide (k = 2)) (decide (k = 1))
def meR (a1 a2 b1 b2 l1 l2 h1 h2 k : Int) : Bool := rB5 a1 a2 && rB5 b1 b2 && co6 l1 l2 && co6 h1 h2 && kd6 k
def meB (a1 a2 b1 b2 l1 l2 h1 h2 k : Int) : Bool := meR a1 a2 b1 b2 l1 l2 h1 h2 k && anB (cutV a1 a2 b1 b2 l1 l2 h1 h2 k)
set_option maxRecDepth 100000 in
set_option maxHeartbeats 8000000 in
theorem p_Meets_no {a1 a2 b1 b2 l1 l2 h1 h2 k : Int} {r1 r2 r3 r4 r5 : Bool} (R1 : PCall Try.prog 75 [vP a1 a2] (vB r1)) (R2 : PCall Try.prog 75 [vP b1 b2] (vB r2)) (K1 : PCall Try.prog 76 [vP l1 l2] (vB r3)) (K2 : PCall Try.prog 76 [vP h1 h2] (vB r4)) (K3 : PCall Try.prog 77 [vI k] (vB r5)) (h : (r1 && r2 && r3 && r4 && r5) = false) :
    PCall Try.prog 60 [vP a1 a2, vP b1 b2, vP l1 l2, vP h1 h2, vI k] (vB false) := by
  have cs : r1 = false ∨ (r1 = true ∧ r2 = false) ∨ (r1 = true ∧ r2 = true ∧ r3 = false) ∨ (r1 = true ∧ r2 = true ∧ r3 = true ∧ r4 = false) ∨ (r1 = true ∧ r2 = true ∧ r3 = true ∧ r4 = true ∧ r5 = false) := by
    cases r1 <;> cases r2 <;> cases r3 <;> cases r4 <;> cases r5 <;> simp_all
  clear h
  rcases cs with rfl | ⟨rfl, rfl⟩ | ⟨rfl, rfl, rfl⟩ | ⟨rfl, rfl, rfl, rfl⟩ | ⟨rfl, rfl, rfl, rfl, rfl⟩
  all_goals
    refine pcall_body (f := 60) Try.func60 rfl rfl rfl rfl ?_
    (repeat (first | ((with_reducible apply al_q); exact rfl) | (refine al_call1 rfl rfl rfl (by (first | exact R1 | exact R2 | exact K1 | exact K2 | exact K3)) rfl ?_) | ((with_reducible apply awp_seq)) | ((with_reducible apply athen_normal)) | ((with_reducible apply awp_region)) | ((with_reducible apply al_nil)) | ((with_reducible apply awp_ret)) | ((with_reducible apply athen_ret)) | ((with_reducible apply awp_cond_t); exact rfl)))
    (first | (refine apost_ret rfl (resl_tmp rfl resl_nil) ?_))
    exact AV.Le.refl _
theorem alB_ok : PaOK alB := ⟨⟨by decide, by decide⟩, ⟨by decide, by decide⟩⟩
theorem p_Meets {a1 a2 b1 b2 l1 l2 h1 h2 k : Int} : PCall Try.prog 60 [vP a1 a2, vP b1 b2, vP l1 l2, vP h1 h2, vI k] (vB (meB a1 a2 b1 b2 l1 l2 h1 h2 k)) := by
  unfold meB
  cases hr : meR a1 a2 b1 b2 l1 l2 h1 h2 k with
  | false => exact p_Meets_no (p_cRight rfl) (p_cRight rfl) (p_isCorner rfl) (p_isCorner rfl) (p_isKind rfl) hr
  | true =>
    rw [Bool.true_and]
    unfold meR at hr
    simp only [Bool.and_eq_true] at hr
    obtain ⟨⟨⟨⟨ra, rb⟩, rl⟩, rh⟩, rk⟩ := hr
    have ia := rB5_iff.1 ra
    have ib := rB5_iff.1 rb
    have il := co6_iff.1 rl
    have ih := co6_iff.1 rh
    unfold cutV cut4
    have o1 := kp_ok (u := 2 * a1 - l1) (v := 2 * b1 - l1) (w := !decide (k = 2)) alB_ok (by omega) (by omega)
    have o2 := kp_ok (u := 2 * a2 - l2) (v := 2 * b2 - l2) (w := !decide (k = 2)) o1 (by omega) (by omega)
    have o3 := kp_ok (u := h1 - 2 * a1) (v := h1 - 2 * b1) (w := decide (k = 1)) o2 (by omega) (by omega)
    have o4 := kp_ok (u := h2 - 2 * a2) (v := h2 - 2 * b2) (w := decide (k = 1)) o3 (by omega) (by omega)
    exact p_Meets' (p_cRight ra) (p_cRight rb) (p_isCorner rl) (p_isCorner rh) (p_isKind rk) rfl rfl p_allOf (p_cutLeft ia.1 ib.1 il.1 (p_keep alB_ok (by omega) (by omega))) (p_cutBelow ia.2 ib.2 il.2 (p_keep o1 (by omega) (by omega))) (p_cutRight ia.1 ib.1 ih.1 (p_keep o2 (by omega) (by omega))) (p_cutAbove ia.2 ib.2 ih.2 (p_keep o3 (by omega) (by omega))) (p_hasAny o4)
set_option maxRecDepth 100000 in
set_option maxHeartbeats 8000000 in
theorem p_Hits_no {a1 a2 b1 b2 x y k : Int} {r1 r2 : Bool} (G1 : PCall Try.prog 57 [vI k] (vB r1)) (G2 : PCall Try.prog 58 [vP x y, vI k] (vB r2)) (h : (r1 && r2) = false) : PCall Try.prog 43 [vP a1 a2, vP b1 b2, vP x y, vI k] (vB false) := by
  have cs : r1 = false ∨ (r1 = true ∧ r2 = false) := by cases r1 <;> cases r2 <;> simp_all
  clear h
  rcases cs with rfl | ⟨rfl, rfl⟩
  all_goals
    refine pcall_body (f := 43) Try.func43 rfl rfl rfl rfl ?_
    (repeat (first | ((with_reducible apply al_q); exact rfl) | (refine al_call1 rfl rfl rfl (by (first | exact G1 | exact G2)) rfl ?_) | (refine al_call2 rfl rfl rfl rfl (by (first | exact G1 | exact G2)) rfl ?_) | ((with_reducible apply awp_seq)) | ((with_reducible apply athen_normal)) | ((with_reducible apply awp_region)) | ((with_reducible apply al_nil)) | ((with_reducible apply awp_ret)) | ((with_reducible apply athen_ret)) | ((with_reducible apply awp_cond_t); exact rfl)))
    (first | (refine apost_ret rfl (resl_tmp rfl resl_nil) ?_))
    exact AV.Le.refl _
set_option maxRecDepth 100000 in
set_option maxHeartbeats 8000000 in
theorem p_Hits_yes {a1 a2 b1 b2 x y k l1 l2 h1 h2 : Int} {r : Bool} (G1 : PCall Try.prog 57 [vI k] (vB true)) (G2 : PCall Try.prog 58 [vP x y, vI k] (vB true)) (G3 : PCall Try.prog 59 [vP x y, vI k] (.tup [.agg [.c (.int .i64 l1), .c (.int .i64 l2)], .agg [.c (.int .i64 h1), .c (.int .i64 h2)]])) (M : PCall Try.prog 60 [vP a1 a2, vP b1 b2, vP l1 l2, vP h1 h2, vI 0] (vB r)) : PCall Try.prog 43 [vP a1 a2, vP b1 b2, vP x y, vI k] (vB r) := by
  refine pcall_body (f := 43) Try.func43 rfl rfl rfl rfl ?_
  (repeat (first | ((with_reducible apply al_q); exact rfl) | (refine al_call1 rfl rfl rfl (by (first | exact G1 | exact G2 | exact G3 | exact M)) rfl ?_) | (refine al_call2 rfl rfl rfl rfl (by (first | exact G1 | exact G2 | exact G3 | exact M)) rfl ?_) | (refine al_call5 rfl rfl rfl rfl rfl rfl rfl (by (first | exact G1 | exact G2 | exact G3 | exact M)) rfl ?_) | ((with_reducible apply awp_seq)) | ((with_reducible apply athen_normal)) | ((with_reducible apply awp_region)) | ((with_reducible apply al_nil)) | ((with_reducible apply awp_ret)) | ((with_reducible apply awp_skip)) | ((with_reducible apply awp_cond_f); exact rfl)))
  (first | (refine apost_ret rfl (resl_tmp rfl resl_nil) ?_))
  exact AV.Le.refl _
/-- what Hits answers. -/
def hiB (a1 a2 b1 b2 x y k : Int) : Bool := decide (0 ≤ k) && decide (k ≤ 28) && inB k.toNat x y && meB a1 a2 b1 b2 (2 * (2 ^ k.toNat * x) - 2 ^ k.toNat) (2 * (2 ^ k.toNat * y) - 2 ^ k.toNat) (2 * (2 ^ k.toNat * x) + 2 ^ k.toNat) (2 * (2 ^ k.toNat * y) + 2 ^ k.toNat) 0
theorem isR_toNat {k : Int} (h : (decide (0 ≤ k) && decide (k ≤ 28)) = true) : IsR k k.toNat := by
  simp only [Bool.and_eq_true, decide_eq_true_eq] at h
  unfold IsR
  omega
theorem p_Hits {a1 a2 b1 b2 x y k : Int} : PCall Try.prog 43 [vP a1 a2, vP b1 b2, vP x y, vI k] (vB (hiB a1 a2 b1 b2 x y k)) := by
  unfold hiB
  have G1 := p_gRight (k := k)
  cases hk : (decide (0 ≤ k) && decide (k ≤ 28)) with
  | false =>
    rw [hk] at G1
    obtain ⟨r, hr⟩ := isR_ex k
    exact p_Hits_no G1 (p_In hr rfl) rfl
  | true =>
    rw [hk] at G1
    have hr := isR_toNat hk
    cases hi : inB k.toNat x y with
    | false => exact p_Hits_no G1 (p_In hr hi) rfl
    | true => exact p_Hits_yes G1 (p_In hr hi) (p_Sides hr hi) p_Meets
/-- what Near answers. -/
def neB (a1 a2 b1 b2 p1 p2 f : Int) : Bool := rB5 p1 p2 && !decide (f < 0) && !decide (268435456 < f) && meB a1 a2 b1 b2 (2 * p1 - f) (2 * p2 - f) (2 * p1 + f) (2 * p2 + f) 1
end Go.Proofs.Ytaennpehlhgggaa

namespace Go.Proofs.Ytaennpehlhgggaa
set_option linter.unusedVariables false
def MetB (a1 a2 b1 b2 l1 l2 h1 h2 k : Int) : Prop := Met (2 * a1 - l1) (2 * b1 - l1) (2 * a2 - l2) (2 * b2 - l2) (h1 - 2 * a1) (h1 - 2 * b1) (h2 - 2 * a2) (h2 - 2 * b2) (!decide (k = 2)) (decide (k = 1))
theorem meB_iff {a1 a2 b1 b2 l1 l2 h1 h2 k : Int} : meB a1 a2 b1 b2 l1 l2 h1 h2 k = true ↔ meR a1 a2 b1 b2 l1 l2 h1 h2 k = true ∧ MetB a1 a2 b1 b2 l1 l2 h1 h2 k := by
  unfold meB cutV MetB
  rw [Bool.and_eq_true, cut4_any]
theorem meR_iff {a1 a2 b1 b2 l1 l2 h1 h2 k : Int} : meR a1 a2 b1 b2 l1 l2 h1 h2 k = true ↔ rB5 a1 a2 = true ∧ rB5 b1 b2 = true ∧ co6 l1 l2 = true ∧ co6 h1 h2 = true ∧ kd6 k = true := by
  unfold meR
  simp only [Bool.and_eq_true, and_assoc]
theorem hol_turn {u v n d : Int} {o : Bool} (h : Hol u v o n d) : Hol v u o (d - n) d := by
  unfold Hol at *
  have e : v * (d - (d - n)) + u * (d - n) = u * (d - n) + v * n := by grind
  rw [e]; exact h
theorem met_turn' {u1 v1 u2 v2 u3 v3 u4 v4 : Int} {o p : Bool} (h : Met u1 v1 u2 v2 u3 v3 u4 v4 o p) : Met v1 u1 v2 u2 v3 u3 v4 u4 o p := by
  obtain ⟨n, d, hd, hn, g1, g2, g3, g4⟩ := h
  exact ⟨d - n, d, hd, by omega, hol_turn g1, hol_turn g2, hol_turn g3, hol_turn g4⟩
theorem meB_turn (a1 a2 b1 b2 l1 l2 h1 h2 k : Int) : meB b1 b2 a1 a2 l1 l2 h1 h2 k = meB a1 a2 b1 b2 l1 l2 h1 h2 k := by
  rw [Bool.eq_iff_iff, meB_iff, meB_iff, meR_iff, meR_iff]
  unfold MetB
  exact ⟨fun ⟨⟨r1, r2, r3⟩, h⟩ => ⟨⟨r2, r1, r3⟩, met_turn' h⟩, fun ⟨⟨r1, r2, r3⟩, h⟩ => ⟨⟨r2, r1, r3⟩, met_turn' h⟩⟩
/-- between. -/
theorem hol_no {u v n d : Int} {o : Bool} (hd : 0 < d) (hn : 0 ≤ n ∧ n ≤ d) (hu : u < 0 ∨ (u ≤ 0 ∧ o = false)) (hv : v < 0 ∨ (v ≤ 0 ∧ o = false)) : ¬ Hol u v o n d := by
  unfold Hol
  have a1 : u * (d - n) ≤ 0 := Int.mul_nonpos_of_nonpos_of_nonneg (by omega) (by omega)
  have a2 : v * n ≤ 0 := Int.mul_nonpos_of_nonpos_of_nonneg (by omega) (by omega)
  rintro (h | ⟨ho, h⟩)
  · omega
  · have hu' : u < 0 := by rcases hu with h | ⟨_, h⟩; exact h; rw [h] at ho; cases ho
    have hv' : v < 0 := by rcases hv with h | ⟨_, h⟩; exact h; rw [h] at ho; cases ho
    by_cases h0 : n = 0
    · subst h0
      have := Int.mul_neg_of_neg_of_pos hu' (by omega : 0 < d - 0)
      omega
    · have := Int.mul_neg_of_neg_of_pos hv' (by omega : 0 < n)
      omega
theorem met_sides {u1 v1 u2 v2 u3 v3 u4 v4 : Int} (h : Met u1 v1 u2 v2 u3 v3 u4 v4 true false) : (0 ≤ u1 ∨ 0 ≤ v1) ∧ (0 ≤ u2 ∨ 0 ≤ v2) ∧ (0 < u3 ∨ 0 < v3) ∧ (0 < u4 ∨ 0 < v4) := by
  obtain ⟨n, d, hd, hn, g1, g2, g3, g4⟩ := h
  refine ⟨Classical.byContradiction fun k => ?_, Classical.byContradiction fun k => ?_, Classical.byContradiction fun k => ?_, Classical.byContradiction fun k => ?_⟩
  · exact hol_no hd hn (.inl (by omega)) (.inl (by omega)) g1
  · exact hol_no hd hn (.inl (by omega)) (.inl (by omega)) g2
  · exact hol_no hd hn (.inr ⟨by omega, rfl⟩) (.inr ⟨by omega, rfl⟩) g3
  · exact hol_no hd hn (.inr ⟨by omega, rfl⟩) (.inr ⟨by omega, rfl⟩) g4
end Go.Proofs.Ytaennpehlhgggaa

namespace Go.Proofs.Ytaennpehlhgggaa
open Go.RowKit
set_option linter.unusedVariables false
set_option linter.unusedSimpArgs false
def basL (a1 a2 b1 b2 l1 l2 h1 h2 : Int) : List (Int × Int) := [(0, 1), (1, 1)] ++ waV a1 b1 l1 ++ waV a1 b1 h1 ++ waV a2 b2 l2 ++ waV a2 b2 h2
def allF (a1 a2 b1 b2 l1 l2 h1 h2 : Int) : List (Int × Int) := basL a1 a2 b1 b2 l1 l2 h1 h2 ++ midsN (basL a1 a2 b1 b2 l1 l2 h1 h2) (basL a1 a2 b1 b2 l1 l2 h1 h2).length
def gooF (a1 a2 b1 b2 l1 l2 h1 h2 kind : Int) (p : Int × Int) : Bool := wiB (2 * a1 * p.2 + p.1 * (2 * (b1 - a1)) * 1) (1 * p.2) l1 h1 kind && wiB (2 * a2 * p.2 + p.1 * (2 * (b2 - a2)) * 1) (1 * p.2) l2 h2 kind
theorem waV_cases (a b lim : Int) : (2 * (b - a) < 0 ∧ waV a b lim = if -(2 * (b - a)) = 0 ∨ -(lim - 2 * a) < 0 ∨ -(2 * (b - a)) < -(lim - 2 * a) then [] else [(-(lim - 2 * a), -(2 * (b - a)))]) ∨ (¬ 2 * (b - a) < 0 ∧ waV a b lim = if 2 * (b - a) = 0 ∨ lim - 2 * a < 0 ∨ 2 * (b - a) < lim - 2 * a then [] else [(lim - 2 * a, 2 * (b - a))]) := by
  unfold waV
  by_cases q : 2 * (b - a) < 0
  · exact .inl ⟨q, by simp only [if_pos q]⟩
  · exact .inr ⟨q, by simp only [if_neg q]⟩
theorem waV_length (a b lim : Int) : (waV a b lim).length ≤ 1 := by
  rcases waV_cases a b lim with ⟨_, e⟩ | ⟨_, e⟩ <;> rw [e] <;> split <;> simp
theorem waV_mem {a b lim : Int} {p : Int × Int} (h : p ∈ waV a b lim) : 0 < p.2 ∧ 0 ≤ p.1 ∧ p.1 ≤ p.2 := by
  rcases waV_cases a b lim with ⟨q, e⟩ | ⟨q, e⟩ <;> rw [e] at h <;> split at h
  · simp at h
  · rw [List.mem_singleton.1 h]; simp only; omega
  · simp at h
  · rw [List.mem_singleton.1 h]; simp only; omega
/-- how far a place can be: its numbers. -/
def Goo (p : Int × Int) : Prop := 0 < p.2 ∧ 0 ≤ p.1 ∧ p.1 ≤ p.2
theorem basL_goo {a1 a2 b1 b2 l1 l2 h1 h2 : Int} {p : Int × Int} (h : p ∈ basL a1 a2 b1 b2 l1 l2 h1 h2) : Goo p := by
  unfold basL at h
  simp only [List.mem_append, List.mem_cons, List.not_mem_nil, or_false] at h
  rcases h with (((h | h) | h) | h) | h
  · rcases h with rfl | rfl <;> (unfold Goo; simp)
  · exact waV_mem h
  · exact waV_mem h
  · exact waV_mem h
  · exact waV_mem h
theorem waV_small {a b lim : Int} (ha : -134217728 ≤ a ∧ a ≤ 134217728) (hb : -134217728 ≤ b ∧ b ≤ 134217728) {p : Int × Int} (h : p ∈ waV a b lim) : p.2 ≤ 536870912 := by
  rcases waV_cases a b lim with ⟨q, e⟩ | ⟨q, e⟩ <;> rw [e] at h <;> split at h
  · simp at h
  · rw [List.mem_singleton.1 h]; simp only; omega
  · simp at h
  · rw [List.mem_singleton.1 h]; simp only; omega
theorem basL_small {a1 a2 b1 b2 l1 l2 h1 h2 : Int} (ha : rB5 a1 a2 = true) (hb : rB5 b1 b2 = true) {p : Int × Int} (h : p ∈ basL a1 a2 b1 b2 l1 l2 h1 h2) : p.2 ≤ 536870912 := by
  rw [rB5_iff] at ha hb
  unfold basL at h
  simp only [List.mem_append, List.mem_cons, List.not_mem_nil, or_false] at h
  rcases h with (((h | h) | h) | h) | h
  · rcases h with rfl | rfl <;> simp
  · exact waV_small ha.1 hb.1 h
  · exact waV_small ha.1 hb.1 h
  · exact waV_small ha.2 hb.2 h
  · exact waV_small ha.2 hb.2 h
theorem basL_nb {a1 a2 b1 b2 l1 l2 h1 h2 : Int} (ha : rB5 a1 a2 = true) (hb : rB5 b1 b2 = true) {p : Int × Int} (h : p ∈ basL a1 a2 b1 b2 l1 l2 h1 h2) : NB 5 p.1 ∧ NB 5 p.2 := by
  obtain ⟨q1, q2, q3⟩ := basL_goo h
  have := basL_small ha hb h
  exact ⟨nb5 (by omega) (by omega), nb5 (by omega) (by omega)⟩
theorem atP_mem {L : List (Int × Int)} {i : Nat} (h : i < L.length) : atP L i ∈ L := by
  have := atP_get h []
  rw [List.append_nil] at this
  exact List.mem_of_getElem? this
theorem mids_mem {L : List (Int × Int)} {n : Nat} {p : Int × Int} : p ∈ midsN L n ↔ ∃ i j, i < n ∧ j < i ∧ p = midP (atP L i) (atP L j) := by
  unfold midsN rwMid
  simp only [List.mem_flatMap, List.mem_range, List.mem_map]
  constructor
  · rintro ⟨i, hi, j, hj, rfl⟩; exact ⟨i, j, hi, hj, rfl⟩
  · rintro ⟨i, j, hi, hj, rfl⟩; exact ⟨i, hi, j, hj, rfl⟩
theorem midP_goo {p q : Int × Int} (h : Goo p) (k : Goo q) : Goo (midP p q) := by
  obtain ⟨h1, h2, h3⟩ := h
  obtain ⟨k1, k2, k3⟩ := k
  unfold midP Goo
  simp only
  have m := Int.mul_pos h1 k1
  have m1 := Int.mul_nonneg h2 (Int.le_of_lt k1)
  have m2 := Int.mul_nonneg k2 (Int.le_of_lt h1)
  have m3 : p.1 * q.2 ≤ p.2 * q.2 := Int.mul_le_mul_of_nonneg_right h3 (Int.le_of_lt k1)
  have m4 : q.1 * p.2 ≤ q.2 * p.2 := Int.mul_le_mul_of_nonneg_right k3 (Int.le_of_lt h1)
  rw [Int.mul_comm q.2] at m4
  omega
theorem allF_cases {a1 a2 b1 b2 l1 l2 h1 h2 : Int} {p : Int × Int} (h : p ∈ allF a1 a2 b1 b2 l1 l2 h1 h2) : p ∈ basL a1 a2 b1 b2 l1 l2 h1 h2 ∨ ∃ q r, q ∈ basL a1 a2 b1 b2 l1 l2 h1 h2 ∧ r ∈ basL a1 a2 b1 b2 l1 l2 h1 h2 ∧ p = midP q r := by
  unfold allF at h
  rcases List.mem_append.1 h with h | h
  · exact .inl h
  · obtain ⟨i, j, hi, hj, rfl⟩ := mids_mem.1 h
    exact .inr ⟨_, _, atP_mem hi, atP_mem (by omega), rfl⟩
theorem allF_goo {a1 a2 b1 b2 l1 l2 h1 h2 : Int} {p : Int × Int} (h : p ∈ allF a1 a2 b1 b2 l1 l2 h1 h2) : Goo p := by
  rcases allF_cases h with h | ⟨q, r, hq, hr, rfl⟩
  · exact basL_goo h
  · exact midP_goo (basL_goo hq) (basL_goo hr)
theorem allF_nb {a1 a2 b1 b2 l1 l2 h1 h2 : Int} (ha : rB5 a1 a2 = true) (hb : rB5 b1 b2 = true) {p : Int × Int} (h : p ∈ allF a1 a2 b1 b2 l1 l2 h1 h2) : NB 11 p.1 ∧ NB 11 p.2 := by
  rcases allF_cases h with h | ⟨q, r, hq, hr, rfl⟩
  · obtain ⟨n1, n2⟩ := basL_nb ha hb h
    exact ⟨n1.up (by omega), n2.up (by omega)⟩
  · obtain ⟨n1, n2⟩ := basL_nb ha hb hq
    obtain ⟨m1, m2⟩ := basL_nb ha hb hr
    exact ⟨(n1.mul m2).add (m1.mul n2), (n2.mul m2).add (n2.mul m2)⟩
/-- a place is good just if it is within all four sides. -/
theorem wiB_iff {a b l h k : Int} {p : Int × Int} : wiB (2 * a * p.2 + p.1 * (2 * (b - a)) * 1) (1 * p.2) l h k = true ↔ Hol (2 * a - l) (2 * b - l) (!decide (k = 2)) p.1 p.2 ∧ Hol (h - 2 * a) (h - 2 * b) (decide (k = 1)) p.1 p.2 := by
  obtain ⟨n, d⟩ := p
  unfold wiB Hol
  simp only [Bool.and_eq_true, Bool.or_eq_true, decide_eq_true_eq]
  rw [ic_lt, ic_eq, ic_lt, ic_eq]
  have e1 : (2 * a - l) * (d - n) + (2 * b - l) * n = (2 * a * d + n * (2 * (b - a)) * 1) * 1 - l * (1 * d) := by grind
  have e2 : (h - 2 * a) * (d - n) + (h - 2 * b) * n = h * (1 * d) - (2 * a * d + n * (2 * (b - a)) * 1) * 1 := by grind
  rw [e1, e2]
  generalize (2 * a * d + n * (2 * (b - a)) * 1) * 1 = X
  generalize l * (1 * d) = Y
  generalize h * (1 * d) = Z
  constructor
  · rintro ⟨k1, k2⟩
    refine ⟨?_, ?_⟩
    · rcases k1 with k1 | ⟨k1, k3⟩
      · exact .inl (by omega)
      · exact .inr ⟨k3, by omega⟩
    · rcases k2 with k2 | ⟨k2, k3⟩
      · exact .inl (by omega)
      · exact .inr ⟨k3, by omega⟩
  · rintro ⟨k1, k2⟩
    refine ⟨?_, ?_⟩
    · rcases k1 with k1 | ⟨k3, k1⟩
      · exact .inl (by omega)
      · exact .inr ⟨by omega, k3⟩
    · rcases k2 with k2 | ⟨k3, k2⟩
      · exact .inl (by omega)
      · exact .inr ⟨by omega, k3⟩
theorem gooF_iff {a1 a2 b1 b2 l1 l2 h1 h2 k : Int} {p : Int × Int} (hp : Goo p) : gooF a1 a2 b1 b2 l1 l2 h1 h2 k p = true ↔ InP (cutV a1 a2 b1 b2 l1 l2 h1 h2 k) p.1 p.2 := by
  unfold gooF cutV
  rw [Bool.and_eq_true, wiB_iff, wiB_iff, cut4_in hp.1]
  constructor
  · rintro ⟨⟨g1, g2⟩, g3, g4⟩; exact ⟨hp.2, g1, g3, g2, g4⟩
  · rintro ⟨_, g1, g3, g2, g4⟩; exact ⟨⟨g1, g2⟩, g3, g4⟩
/-- where bounds come from. -/
def Cnd (u v n d : Int) : Prop := (0 < v - u ∧ n = -u ∧ d = v - u) ∨ (v - u < 0 ∧ n = u ∧ d = -(v - u))
theorem kp_from {S : Int → Int → Prop} {p : Pa} {u v : Int} {o : Bool} (h0 : S 0 1) (h1 : S 1 1) (hc : ∀ n d, Cnd u v n d → S n d) (hf : S p.f.n p.f.d) (ht : S p.t.n p.t.d) : S (kpB p u v o).f.n (kpB p u v o).f.d ∧ S (kpB p u v o).t.n (kpB p u v o).t.d := by
  unfold kpB
  by_cases q1 : 0 < v - u
  · rw [if_pos q1]
    refine ⟨?_, ht⟩
    rcases la_cases p.f ⟨-u, v - u, o⟩ with ⟨e, _⟩ | ⟨e, _⟩ <;> simp only [e]
    · exact hf
    · exact hc _ _ (.inl ⟨q1, rfl, rfl⟩)
  · rw [if_neg q1]
    by_cases q2 : v - u < 0
    · rw [if_pos q2]
      refine ⟨hf, ?_⟩
      rcases ea_cases p.t ⟨u, -(v - u), o⟩ with ⟨e, _⟩ | ⟨e, _⟩ <;> simp only [e]
      · exact ht
      · exact hc _ _ (.inr ⟨q2, rfl, rfl⟩)
    · rw [if_neg q2]
      split
      · exact ⟨h1, h0⟩
      · exact ⟨hf, ht⟩
theorem kp_ends {p : Pa} {u v : Int} {o : Bool} (df : 0 < p.f.d) (dt : 0 < p.t.d) (hf : 0 ≤ p.f.n) (ht : p.t.n ≤ p.t.d) : 0 ≤ (kpB p u v o).f.n ∧ (kpB p u v o).t.n ≤ (kpB p u v o).t.d := by
  unfold kpB
  by_cases q1 : 0 < v - u
  · rw [if_pos q1]
    refine ⟨?_, ht⟩
    rcases la_cases p.f ⟨-u, v - u, o⟩ with ⟨e, _⟩ | ⟨e, h⟩ <;> simp only [e]
    · exact hf
    · have hle : p.f.n * (v - u) ≤ -u * p.f.d := by
        rcases cm_tri p.f ⟨-u, v - u, o⟩ with ⟨t, _⟩ | ⟨t, _⟩ | ⟨_, c⟩
        · simp only at t; omega
        · simp only at t; omega
        · exact absurd (.inl c) h
      have m := Int.mul_nonneg hf (by omega : 0 ≤ v - u)
      have : 0 * p.f.d ≤ -u * p.f.d := by omega
      exact le_mul this df
  · rw [if_neg q1]
    by_cases q2 : v - u < 0
    · rw [if_pos q2]
      refine ⟨hf, ?_⟩
      rcases ea_cases p.t ⟨u, -(v - u), o⟩ with ⟨e, _⟩ | ⟨e, h⟩ <;> simp only [e]
      · exact ht
      · have hle : u * p.t.d ≤ p.t.n * -(v - u) := by
          rcases cm_tri p.t ⟨u, -(v - u), o⟩ with ⟨_, c⟩ | ⟨t, _⟩ | ⟨t, _⟩
          · exact absurd (.inl c) h
          · simp only at t; omega
          · simp only at t; omega
        have m : p.t.n * -(v - u) ≤ p.t.d * -(v - u) := Int.mul_le_mul_of_nonneg_right ht (by omega)
        have : u * p.t.d ≤ -(v - u) * p.t.d := by rw [Int.mul_comm (-(v - u))]; omega
        exact le_mul this dt
    · rw [if_neg q2]
      split
      · exact ⟨by decide, by decide⟩
      · exact ⟨hf, ht⟩
theorem cnd_low {a b l n d : Int} (h : Cnd (2 * a - l) (2 * b - l) n d) (h0 : 0 ≤ n) (h1 : n ≤ d) : (n, d) ∈ waV a b l := by
  unfold Cnd at h
  rcases waV_cases a b l with ⟨q, e⟩ | ⟨q, e⟩ <;> rw [e] <;> split
  · exfalso; omega
  · rw [List.mem_singleton, Prod.mk.injEq]; omega
  · exfalso; omega
  · rw [List.mem_singleton, Prod.mk.injEq]; omega
theorem cnd_high {a b l n d : Int} (h : Cnd (l - 2 * a) (l - 2 * b) n d) (h0 : 0 ≤ n) (h1 : n ≤ d) : (n, d) ∈ waV a b l := by
  unfold Cnd at h
  rcases waV_cases a b l with ⟨q, e⟩ | ⟨q, e⟩ <;> rw [e] <;> split
  · exfalso; omega
  · rw [List.mem_singleton, Prod.mk.injEq]; omega
  · exfalso; omega
  · rw [List.mem_singleton, Prod.mk.injEq]; omega
theorem cutV_ends (a1 a2 b1 b2 l1 l2 h1 h2 k : Int) (h : (cutV a1 a2 b1 b2 l1 l2 h1 h2 k).f.n * (cutV a1 a2 b1 b2 l1 l2 h1 h2 k).t.d ≤ (cutV a1 a2 b1 b2 l1 l2 h1 h2 k).t.n * (cutV a1 a2 b1 b2 l1 l2 h1 h2 k).f.d) :
    ((cutV a1 a2 b1 b2 l1 l2 h1 h2 k).f.n, (cutV a1 a2 b1 b2 l1 l2 h1 h2 k).f.d) ∈ basL a1 a2 b1 b2 l1 l2 h1 h2 ∧ ((cutV a1 a2 b1 b2 l1 l2 h1 h2 k).t.n, (cutV a1 a2 b1 b2 l1 l2 h1 h2 k).t.d) ∈ basL a1 a2 b1 b2 l1 l2 h1 h2 := by
  have hd : 0 < (cutV a1 a2 b1 b2 l1 l2 h1 h2 k).f.d ∧ 0 < (cutV a1 a2 b1 b2 l1 l2 h1 h2 k).t.d := cut4_d ..
  have key : ∀ n d, ((n = 0 ∧ d = 1) ∨ (n = 1 ∧ d = 1) ∨ Cnd (2 * a1 - l1) (2 * b1 - l1) n d ∨ Cnd (2 * a2 - l2) (2 * b2 - l2) n d ∨ Cnd (h1 - 2 * a1) (h1 - 2 * b1) n d ∨ Cnd (h2 - 2 * a2) (h2 - 2 * b2) n d) → 0 ≤ n → n ≤ d → (n, d) ∈ basL a1 a2 b1 b2 l1 l2 h1 h2 := by
    intro n d hs q0 q1
    unfold basL
    simp only [List.mem_append, List.mem_cons, List.not_mem_nil, or_false, Prod.mk.injEq]
    rcases hs with hs | hs | hs | hs | hs | hs
    · exact .inl (.inl (.inl (.inl (.inl hs))))
    · exact .inl (.inl (.inl (.inl (.inr hs))))
    · exact .inl (.inl (.inl (.inr (cnd_low hs q0 q1))))
    · exact .inl (.inr (cnd_low hs q0 q1))
    · exact .inl (.inl (.inr (cnd_high hs q0 q1)))
    · exact .inr (cnd_high hs q0 q1)
  generalize hS : (fun n d : Int => ((n = 0 ∧ d = 1) ∨ (n = 1 ∧ d = 1) ∨ Cnd (2 * a1 - l1) (2 * b1 - l1) n d ∨ Cnd (2 * a2 - l2) (2 * b2 - l2) n d ∨ Cnd (h1 - 2 * a1) (h1 - 2 * b1) n d ∨ Cnd (h2 - 2 * a2) (h2 - 2 * b2) n d)) = S
  have s0 : S 0 1 := by rw [← hS]; exact .inl ⟨rfl, rfl⟩
  have s1 : S 1 1 := by rw [← hS]; exact .inr (.inl ⟨rfl, rfl⟩)
  have c1 : ∀ n d, Cnd (2 * a1 - l1) (2 * b1 - l1) n d → S n d := fun n d h => by rw [← hS]; exact .inr (.inr (.inl h))
  have c2 : ∀ n d, Cnd (2 * a2 - l2) (2 * b2 - l2) n d → S n d := fun n d h => by rw [← hS]; exact .inr (.inr (.inr (.inl h)))
  have c3 : ∀ n d, Cnd (h1 - 2 * a1) (h1 - 2 * b1) n d → S n d := fun n d h => by rw [← hS]; exact .inr (.inr (.inr (.inr (.inl h))))
  have c4 : ∀ n d, Cnd (h2 - 2 * a2) (h2 - 2 * b2) n d → S n d := fun n d h => by rw [← hS]; exact .inr (.inr (.inr (.inr (.inr h))))
  have key' : ∀ n d, S n d → 0 ≤ n → n ≤ d → (n, d) ∈ basL a1 a2 b1 b2 l1 l2 h1 h2 := fun n d h => key n d (by rw [← hS] at h; exact h)
  have hs : S (cutV a1 a2 b1 b2 l1 l2 h1 h2 k).f.n (cutV a1 a2 b1 b2 l1 l2 h1 h2 k).f.d ∧ S (cutV a1 a2 b1 b2 l1 l2 h1 h2 k).t.n (cutV a1 a2 b1 b2 l1 l2 h1 h2 k).t.d := by
    unfold cutV cut4
    have k1 := kp_from (p := alB) (u := 2 * a1 - l1) (v := 2 * b1 - l1) (o := !decide (k = 2)) s0 s1 c1 s0 s1
    have k2 := kp_from (u := 2 * a2 - l2) (v := 2 * b2 - l2) (o := !decide (k = 2)) s0 s1 c2 k1.1 k1.2
    have k3 := kp_from (u := h1 - 2 * a1) (v := h1 - 2 * b1) (o := decide (k = 1)) s0 s1 c3 k2.1 k2.2
    exact kp_from s0 s1 c4 k3.1 k3.2
  have he : 0 ≤ (cutV a1 a2 b1 b2 l1 l2 h1 h2 k).f.n ∧ (cutV a1 a2 b1 b2 l1 l2 h1 h2 k).t.n ≤ (cutV a1 a2 b1 b2 l1 l2 h1 h2 k).t.d := by
    unfold cutV cut4
    have d1 := kp_d (p := alB) (u := 2 * a1 - l1) (v := 2 * b1 - l1) (own := !decide (k = 2)) (by decide) (by decide)
    have d2 := kp_d (u := 2 * a2 - l2) (v := 2 * b2 - l2) (own := !decide (k = 2)) d1.1 d1.2
    have d3 := kp_d (u := h1 - 2 * a1) (v := h1 - 2 * b1) (own := decide (k = 1)) d2.1 d2.2
    have k1 := kp_ends (p := alB) (u := 2 * a1 - l1) (v := 2 * b1 - l1) (o := !decide (k = 2)) (by decide) (by decide) (by decide) (by decide)
    have k2 := kp_ends (u := 2 * a2 - l2) (v := 2 * b2 - l2) (o := !decide (k = 2)) d1.1 d1.2 k1.1 k1.2
    have k3 := kp_ends (u := h1 - 2 * a1) (v := h1 - 2 * b1) (o := decide (k = 1)) d2.1 d2.2 k2.1 k2.2
    exact kp_ends d3.1 d3.2 k3.1 k3.2
  generalize cutV a1 a2 b1 b2 l1 l2 h1 h2 k = p at *
  clear hS s0 s1 c1 c2 c3 c4 key
  have m1 : p.t.n * p.f.d ≤ p.t.d * p.f.d := Int.mul_le_mul_of_nonneg_right he.2 (by omega)
  have m2 := Int.mul_nonneg he.1 (by omega : 0 ≤ p.t.d)
  refine ⟨key' _ _ hs.1 he.1 ?_, key' _ _ hs.2 ?_ he.2⟩
  · have : p.f.n * p.t.d ≤ p.f.d * p.t.d := by rw [Int.mul_comm p.f.d]; omega
    exact le_mul this hd.2
  · have : 0 * p.f.d ≤ p.t.n * p.f.d := by omega
    exact le_mul this hd.1
theorem allF_any (a1 a2 b1 b2 l1 l2 h1 h2 k : Int) : (allF a1 a2 b1 b2 l1 l2 h1 h2).any (gooF a1 a2 b1 b2 l1 l2 h1 h2 k) = anB (cutV a1 a2 b1 b2 l1 l2 h1 h2 k) := by
  have hd : 0 < (cutV a1 a2 b1 b2 l1 l2 h1 h2 k).f.d ∧ 0 < (cutV a1 a2 b1 b2 l1 l2 h1 h2 k).t.d := cut4_d ..
  rw [Bool.eq_iff_iff, List.any_eq_true]
  constructor
  · rintro ⟨p, hp, hg⟩
    rw [an_iff hd.1 hd.2]
    have hG := allF_goo hp
    exact ⟨p.1, p.2, hG.1, (gooF_iff hG).1 hg⟩
  · intro ha
    have ha' := ha
    unfold anB at ha
    simp only [Bool.or_eq_true, Bool.and_eq_true, decide_eq_true_eq] at ha
    rcases cm_tri (cutV a1 a2 b1 b2 l1 l2 h1 h2 k).f (cutV a1 a2 b1 b2 l1 l2 h1 h2 k).t with ⟨t, c⟩ | ⟨t, c⟩ | ⟨t, c⟩
    · obtain ⟨m1, m2⟩ := cutV_ends a1 a2 b1 b2 l1 l2 h1 h2 k (by omega)
      have hin := (mid_in hd.1 hd.2 t).2
      obtain ⟨i, hi⟩ := List.getElem?_of_mem m1
      obtain ⟨j, hj⟩ := List.getElem?_of_mem m2
      have li := (List.getElem?_eq_some_iff.1 hi).1
      have lj := (List.getElem?_eq_some_iff.1 hj).1
      have ei : atP (basL a1 a2 b1 b2 l1 l2 h1 h2) i = ((cutV a1 a2 b1 b2 l1 l2 h1 h2 k).f.n, (cutV a1 a2 b1 b2 l1 l2 h1 h2 k).f.d) := by
        have := atP_get li []
        rw [List.append_nil, hi] at this
        exact (Option.some.inj this).symm
      have ej : atP (basL a1 a2 b1 b2 l1 l2 h1 h2) j = ((cutV a1 a2 b1 b2 l1 l2 h1 h2 k).t.n, (cutV a1 a2 b1 b2 l1 l2 h1 h2 k).t.d) := by
        have := atP_get lj []
        rw [List.append_nil, hj] at this
        exact (Option.some.inj this).symm
      rcases Nat.lt_trichotomy i j with hij | hij | hij
      · have hm : midP (atP (basL a1 a2 b1 b2 l1 l2 h1 h2) j) (atP (basL a1 a2 b1 b2 l1 l2 h1 h2) i) ∈ allF a1 a2 b1 b2 l1 l2 h1 h2 := List.mem_append_right _ (mids_mem.2 ⟨j, i, lj, hij, rfl⟩)
        refine ⟨_, hm, (gooF_iff (allF_goo hm)).2 ?_⟩
        rw [ei, ej]
        unfold midP
        simp only
        unfold midN midD at hin
        rw [Int.add_comm, Int.mul_comm (cutV a1 a2 b1 b2 l1 l2 h1 h2 k).t.d]
        exact hin
      · exfalso
        subst hij
        rw [ei] at ej
        simp only [Prod.mk.injEq] at ej
        rw [← ej.1, ← ej.2] at t
        omega
      · have hm : midP (atP (basL a1 a2 b1 b2 l1 l2 h1 h2) i) (atP (basL a1 a2 b1 b2 l1 l2 h1 h2) j) ∈ allF a1 a2 b1 b2 l1 l2 h1 h2 := List.mem_append_right _ (mids_mem.2 ⟨i, j, li, hij, rfl⟩)
        refine ⟨_, hm, (gooF_iff (allF_goo hm)).2 ?_⟩
        rw [ei, ej]
        exact hin
    · obtain ⟨m1, m2⟩ := cutV_ends a1 a2 b1 b2 l1 l2 h1 h2 k (by omega)
      rcases ha with ha | ⟨⟨_, o1⟩, o2⟩
      · omega
      · have hm : ((cutV a1 a2 b1 b2 l1 l2 h1 h2 k).f.n, (cutV a1 a2 b1 b2 l1 l2 h1 h2 k).f.d) ∈ allF a1 a2 b1 b2 l1 l2 h1 h2 := List.mem_append_left _ m1
        exact ⟨_, hm, (gooF_iff (allF_goo hm)).2 ⟨.inr ⟨o1, rfl⟩, .inr ⟨o2, t⟩⟩⟩
    · rcases ha with ha | ⟨⟨ha, _⟩, _⟩ <;> omega
set_option maxRecDepth 100000 in
set_option maxHeartbeats 8000000 in
theorem p_r6Meets_no {a1 a2 b1 b2 l1 l2 h1 h2 k : Int} {r1 r2 r3 r4 : Bool} (R1 : PCall Try.prog 21 [vP a1 a2] (vB r1)) (R2 : PCall Try.prog 21 [vP b1 b2] (vB r2)) (K1 : PCall Try.prog 84 [vP l1 l2] (vB r3)) (K2 : PCall Try.prog 84 [vP h1 h2] (vB r4))
    (cs : r1 = false ∨ (r1 = true ∧ r2 = false) ∨ (r1 = true ∧ r2 = true ∧ r3 = false) ∨ (r1 = true ∧ r2 = true ∧ r3 = true ∧ r4 = false) ∨ (r1 = true ∧ r2 = true ∧ r3 = true ∧ r4 = true ∧ k < 0) ∨ (r1 = true ∧ r2 = true ∧ r3 = true ∧ r4 = true ∧ ¬ k < 0 ∧ 2 < k)) :
    PCall Try.prog 61 [vP a1 a2, vP b1 b2, vP l1 l2, vP h1 h2, vI k] (vB false) := by
  rcases cs with rfl | ⟨rfl, rfl⟩ | ⟨rfl, rfl, rfl⟩ | ⟨rfl, rfl, rfl, rfl⟩ | ⟨rfl, rfl, rfl, rfl, q1⟩ | ⟨rfl, rfl, rfl, rfl, q1, q2⟩
  all_goals
    refine pcall_body (f := 61) Try.func61 rfl rfl rfl rfl ?_
    (repeat (first | ((with_reducible apply al_q); exact rfl) | (refine al_call1 rfl rfl rfl (by (first | exact R1 | exact R2 | exact K1 | exact K2)) rfl ?_) | ((with_reducible apply al_guard_b (c := true)); exact rfl; exact rfl; (first | assumption | exact decide_eq_true (by omega) | (simp only [Bool.not_eq_true', decide_eq_false_iff_not, decide_eq_true_eq, Bool.not_eq_false']; (first | done | omega)))) | ((with_reducible apply al_guard_b (c := false)); exact rfl; exact rfl; (first | assumption | exact decide_eq_false (by omega) | (simp only [Bool.not_eq_true', decide_eq_false_iff_not, decide_eq_true_eq, Bool.not_eq_false']; (first | done | omega)))) | ((with_reducible apply awp_seq)) | ((with_reducible apply athen_normal)) | ((with_reducible apply awp_region)) | ((with_reducible apply al_nil)) | ((with_reducible apply awp_ret)) | ((with_reducible apply athen_ret)) | ((with_reducible apply awp_cond_t); exact rfl) | ((with_reducible apply awp_cond_1); exact rfl; (first | assumption | exact decide_eq_true (by omega) | (simp only [Bool.not_eq_true', decide_eq_false_iff_not, decide_eq_true_eq, Bool.not_eq_false']; (first | done | omega))))))
    (first | (refine apost_ret rfl (resl_tmp rfl resl_nil) ?_))
    exact AV.Le.refl _
theorem p_r6Meets {a1 a2 b1 b2 l1 l2 h1 h2 k : Int} : PCall Try.prog 61 [vP a1 a2, vP b1 b2, vP l1 l2, vP h1 h2, vI k] (vB (meB a1 a2 b1 b2 l1 l2 h1 h2 k)) := by
  unfold meB
  cases hr : meR a1 a2 b1 b2 l1 l2 h1 h2 k with
  | false =>
    refine p_r6Meets_no (p_r5Right rfl) (p_r5Right rfl) (p_r6right rfl) (p_r6right rfl) ?_
    unfold meR kd6 at hr
    cases q1 : rB5 a1 a2 with
    | false => exact .inl rfl
    | true =>
      cases q2 : rB5 b1 b2 with
      | false => exact .inr (.inl ⟨rfl, rfl⟩)
      | true =>
        cases q3 : co6 l1 l2 with
        | false => exact .inr (.inr (.inl ⟨rfl, rfl, rfl⟩))
        | true =>
          cases q4 : co6 h1 h2 with
          | false => exact .inr (.inr (.inr (.inl ⟨rfl, rfl, rfl, rfl⟩)))
          | true =>
            rw [q1, q2, q3, q4] at hr
            simp only [Bool.and_true, Bool.true_and, Bool.and_eq_false_iff, decide_eq_false_iff_not] at hr
            by_cases q5 : k < 0
            · exact .inr (.inr (.inr (.inr (.inl ⟨rfl, rfl, rfl, rfl, q5⟩))))
            · exact .inr (.inr (.inr (.inr (.inr ⟨rfl, rfl, rfl, rfl, q5, by omega⟩))))
  | true =>
    rw [Bool.true_and]
    rw [meR_iff] at hr
    obtain ⟨ra, rb, rl, rh, rk⟩ := hr
    have ia := rB5_iff.1 ra
    have ib := rB5_iff.1 rb
    have il := co6_iff.1 rl
    have ih := co6_iff.1 rh
    unfold kd6 at rk
    simp only [Bool.and_eq_true, decide_eq_true_eq] at rk
    refine p_r6Meets' (L := basL a1 a2 b1 b2 l1 l2 h1 h2) (F := allF a1 a2 b1 b2 l1 l2 h1 h2) (g := gooF a1 a2 b1 b2 l1 l2 h1 h2 k) (p_r5Right ra) (p_r5Right rb) (p_r6right rl) (p_r6right rh) (by omega) (by omega) (p_r6num (by omega) (by omega)) (p_r6num (by omega) (by omega))
      (p_r6ways ia.1 ib.1 il.1) (p_r6ways ia.1 ib.1 ih.1) (p_r6ways ia.2 ib.2 il.2) (p_r6ways ia.2 ib.2 ih.2) ⟨waV_length _ _ _, waV_length _ _ _, waV_length _ _ _, waV_length _ _ _⟩ rfl rfl (fun i j hi hj => ?_) (fun p hp => ?_) (allF_any ..)
    · obtain ⟨n1, n2⟩ := basL_nb ra rb (atP_mem hi)
      obtain ⟨m1, m2⟩ := basL_nb ra rb (atP_mem (Nat.lt_trans hj hi))
      exact ⟨p_r6sum (n1.up (by omega)) (n2.up (by omega)) (m1.up (by omega)) (m2.up (by omega)), p_rAdd ((n2.mul m2).up (by omega)) ((n2.mul m2).up (by omega))⟩
    · obtain ⟨n1, n2⟩ := allF_nb ra rb hp
      have t1 : NB 5 (1 : Int) := nb5 (by omega) (by omega)
      have x1 : NB 5 (2 * (b1 - a1)) := nb5 (by omega) (by omega)
      have x2 : NB 5 (2 * (b2 - a2)) := nb5 (by omega) (by omega)
      have y1 : NB 5 (2 * a1) := nb5 (by omega) (by omega)
      have y2 : NB 5 (2 * a2) := nb5 (by omega) (by omega)
      have z1 : NB 21 (2 * a1 * p.2) := (y1.mul n2).up (by omega)
      have z2 : NB 21 (p.1 * (2 * (b1 - a1)) * 1) := ((n1.mul x1).mul t1).up (by omega)
      have z3 : NB 21 (2 * a2 * p.2) := (y2.mul n2).up (by omega)
      have z4 : NB 21 (p.1 * (2 * (b2 - a2)) * 1) := ((n1.mul x2).mul t1).up (by omega)
      have z5 : NB 16 (1 * p.2) := (t1.mul n2).up (by omega)
      have u1 := z1.add z2
      have u2 := z3.add z4
      exact ⟨_, _, _, _, _, _, p_r6on ia.1 ib.1 (n1.up (by omega)) (n2.up (by omega)), p_r6within il.1 ih.1 (u1.up (by omega)) (z5.up (by omega)), p_r6on ia.2 ib.2 (n1.up (by omega)) (n2.up (by omega)), p_r6within il.2 ih.2 (u2.up (by omega)) (z5.up (by omega)), rfl⟩
end Go.Proofs.Ytaennpehlhgggaa

namespace Go.Proofs.Ytaennpehlhgggaa
open Go.ChangeShapes Go.WideShapes Go.ChangeAt Go.RowKit Go.Joins
set_option linter.unusedVariables false
set_option linter.unusedSimpArgs false
theorem own3 : ownKnob Try.prog.godebug = none := by kernel_rfl
/-- a type of plain values. -/
def flatB (P : Program) : Nat → TypeId → Bool
  | 0, _ => false
  | d + 1, t => match P.underlying t with
    | some .bool | some (.int _) | some .string => true
    | some (.struct fs) => fs.toList.all fun f => flatB P d f.type
    | some (.array _ e) => flatB P d e
    | _ => false
theorem mapM_flat {α β : Type} {f g : α → Option (β × List MemPlace)} : ∀ (l : List α) (xs : List (β × List MemPlace)), l.mapM f = some xs → (∀ a ∈ l, ∀ x, f a = some x → x.2 = [] ∧ g a = some (x.1, [])) → xs.flatMap (·.2) = [] ∧ l.mapM g = some xs
  | [], xs, h, _ => by cases h; exact ⟨rfl, rfl⟩
  | a :: l, xs, h, hk => by
    rw [List.mapM_cons] at h
    cases ha : f a with
    | none => rw [ha] at h; cases h
    | some b =>
      rw [ha] at h
      cases hl : l.mapM f with
      | none => rw [hl] at h; cases h
      | some bs =>
        rw [hl] at h
        cases h
        obtain ⟨h1, h2⟩ := hk a (by simp) b ha
        obtain ⟨h3, h4⟩ := mapM_flat l bs hl fun a' ha' => hk a' (by simp [ha'])
        refine ⟨by simp [h1]; intro a' b' hab; have := List.flatMap_eq_nil_iff.1 h3 _ hab; exact this, ?_⟩
        rw [List.mapM_cons, h2, h4]
        obtain ⟨b1, b2⟩ := b
        simp only at h1
        subst h1
        rfl
section
variable {H : Type} {enc : TypeId × Value → H} {P : Program}
theorem flat_trod : ∀ (d : Nat) (t : TypeId), flatB P d t = true → ∀ (fuel : Nat) (w : World) (base : Nat) (sp : Nat → Bool) (held : Bool) (cs : List Value) (x : DataW H × List MemPlace), DataW.trod enc P w base sp held fuel t cs = some x →
    x.2 = [] ∧ ∀ (w' : World) (base' : Nat) (sp' : Nat → Bool) (held' : Bool), DataW.trod enc P w' base' sp' held' fuel t cs = some (x.1, [])
  | 0, _, h, _, _, _, _, _, _, _, _ => by cases h
  | d + 1, t, hf, 0, _, _, _, _, _, _, h => by simp [DataW.trod] at h
  | d + 1, t, hf, fuel + 1, w, base, sp, held, cs, x, h => by
    have ih := fun t' (ht' : flatB P d t' = true) => flat_trod d t' ht' fuel
    rw [DataW.trod_step] at h
    simp only [DataW.trod_step]
    unfold flatB at hf
    unfold DataW.trodStep at h ⊢
    cases hu : P.underlying t with
    | none => rw [hu] at hf; cases hf
    | some D =>
      rw [hu] at hf h
      cases D with
      | bool =>
        match cs, h with
        | [.bool b], h => cases h; exact ⟨rfl, fun _ _ _ _ => rfl⟩
      | int k =>
        match cs, h with
        | [.int k' n], h =>
          simp only at h ⊢
          split at h
          · rename_i hc; cases h; exact ⟨rfl, fun _ _ _ _ => by rw [if_pos hc]⟩
          · cases h
      | string =>
        match cs, h with
        | [.string s], h =>
          simp only at h ⊢
          split at h
          · rename_i hc; cases h; exact ⟨rfl, fun _ _ _ _ => by rw [if_pos hc]⟩
          · cases h
      | struct fs =>
        simp only at h ⊢ hf
        split at h
        · rename_i hc
          simp only [Option.map_eq_some_iff] at h
          obtain ⟨xs, hx, rfl⟩ := h
          have hall := List.all_eq_true.1 hf
          refine ⟨?_, fun w' base' sp' held' => ?_⟩
          · exact (mapM_flat (g := fun f => DataW.trod enc P w base sp held fuel f.type ((cs.drop f.offset).take (P.cellsOf f.type))) _ _ hx fun f hf' y hy => ⟨(ih f.type (hall f hf') w base sp held _ y hy).1, (ih f.type (hall f hf') w base sp held _ y hy).2 w base sp held⟩).1
          · have := mapM_flat (g := fun f => DataW.trod enc P w' base' sp' held' fuel f.type ((cs.drop f.offset).take (P.cellsOf f.type))) _ _ hx fun f hf' y hy => ⟨(ih f.type (hall f hf') w base sp held _ y hy).1, (ih f.type (hall f hf') w base sp held _ y hy).2 w' base' sp' held'⟩
            rw [if_pos hc, this.2]
            simp only [Option.map_some, this.1]
        · cases h
      | array n e =>
        simp only at h ⊢ hf
        split at h
        · rename_i hc
          simp only [Option.map_eq_some_iff] at h
          obtain ⟨xs, hx, rfl⟩ := h
          refine ⟨?_, fun w' base' sp' held' => ?_⟩
          · exact (mapM_flat (g := fun i => DataW.trod enc P w base sp held fuel e ((cs.drop (i * P.cellsOf e)).take (P.cellsOf e))) _ _ hx fun f _ y hy => ⟨(ih e hf w base sp held _ y hy).1, (ih e hf w base sp held _ y hy).2 w base sp held⟩).1
          · have := mapM_flat (g := fun i => DataW.trod enc P w' base' sp' held' fuel e ((cs.drop (i * P.cellsOf e)).take (P.cellsOf e))) _ _ hx fun f _ y hy => ⟨(ih e hf w base sp held _ y hy).1, (ih e hf w base sp held _ y hy).2 w' base' sp' held'⟩
            rw [if_pos hc, this.2]
            simp only [Option.map_some, this.1]
        · cases h
      | _ => cases hf
theorem flat_arg {d : Nat} {t : TypeId} (hf : flatB P d t = true) {w : World} {base : Nat} {sp : Nat → Bool} {held : Bool} {v : Value} {D : DataW H} {p : List MemPlace} (h : DataW.Trod enc P w base sp held t v D p) :
    p = [] ∧ ∀ (w' : World) (base' : Nat) (sp' : Nat → Bool) (held' : Bool), DataW.Trod enc P w' base' sp' held' t v D [] := by
  obtain ⟨fuel, h⟩ := h
  obtain ⟨h1, h2⟩ := flat_trod d t hf fuel w base sp held _ _ h
  exact ⟨h1, fun w' base' sp' held' => ⟨fuel, h2 w' base' sp' held'⟩⟩
end
section
variable {P : Program} {W : World} {r : Reach} {b : Nat} {t : TypeId} {v : Value}
theorem okw_int {k : IntKind} (hu : P.underlying t = some (.int k)) (h : Cell.okWide P W r b t v) : ∃ n, v = .int k n ∧ k.min ≤ n ∧ n ≤ k.max := by
  unfold Cell.okWide Cell.ok at h
  rw [hu] at h
  cases v <;> simp only at h
  rename_i k' n
  obtain ⟨rfl, h⟩ := h
  exact ⟨n, rfl, by simpa [IntKind.has] using h⟩
theorem okw_one {D : TypeDesc} (hu : P.underlying t = some D) (hs : ∀ fs, D ≠ .struct fs) (ha : ∀ n e, D ≠ .array n e) (h : Value.okWide P W r b t v) : Cell.okWide P W r b t v := by
  unfold Value.okWide at h
  rw [hu] at h
  cases D <;> first | exact h | exact absurd rfl (hs _) | exact absurd rfl (ha _ _)
def aggB (P : Program) (t : TypeId) (n : Nat) (ts : List TypeId) : Bool :=
  (match P.underlying t with | some (.struct _) | some (.array _ _) => true | _ => false) && (P.cellsOf t == n) && (P.cellTypes P.depth t == some ts) && (ts.length == n) && (0 < n)
theorem okw_agg {n : Nat} {ts : List TypeId} (hB : aggB P t n ts = true) (h : Value.okWide P W r b t v) : ∃ cs : List Value, v = .agg cs.toArray ∧ cs.length = n ∧ ∀ (i : Nat) (u : TypeId) (c : Value), ts[i]? = some u → cs[i]? = some c → Cell.okWide P W r b u c := by
  unfold aggB at hB
  simp only [Bool.and_eq_true, beq_iff_eq, decide_eq_true_eq] at hB
  obtain ⟨⟨⟨⟨h1, h2⟩, h3⟩, h4⟩, h5⟩ := hB
  have key : ∃ cs : Array Value, v = .agg cs ∧ cs.size = P.cellsOf t ∧ Row.okWide P W r b t cs := by
    unfold Value.okWide at h
    split at h
    · exact h
    · exact h
    · exfalso
      split at h1
      · rename_i hu; rename_i h6 _ _ ; exact absurd hu (by simp_all)
      · simp_all
      · cases h1
  obtain ⟨cs, rfl, hs, ts', e1, _, hc⟩ := key
  rw [h3] at e1
  cases e1
  refine ⟨cs.toList, by simp, by simp [hs, h2], fun i u c hu hc' => ?_⟩
  have hlt : i < ts.length := (List.getElem?_eq_some_iff.1 hu).1
  obtain ⟨u', q1, q2⟩ := hc i c (by simpa using hc')
  rw [Nat.mod_eq_of_lt hlt, hu] at q1
  cases q1
  exact q2
end
theorem list4 {α : Type} {cs : List α} (h : cs.length = 4) : ∃ a b c d, cs = [a, b, c, d] := by match cs, h with | [a, b, c, d], _ => exact ⟨a, b, c, d, rfl⟩
end Go.Proofs.Ytaennpehlhgggaa

namespace Go.Proofs.Ytaennpehlhgggaa
open Go.RowKit
set_option linter.unusedVariables false
set_option linter.unusedSimpArgs false
/-- two points; a box. -/
abbrev v2 (a1 a2 b1 b2 : Int) : AV := .w (.agg [.c (.int .i64 a1), .c (.int .i64 a2), .c (.int .i64 b1), .c (.int .i64 b2)])
end Go.Proofs.Ytaennpehlhgggaa

namespace Go.Proofs.Ytaennpehlhgggaa
open Go.RowKit
set_option linter.unusedVariables false
set_option linter.unusedSimpArgs false
/-- what holds ahead of each round of Size's loop. -/
def SzI (k : Int) (r : Nat) (m : Nat) (ts : List (Nat × AV)) (ms : List (Nat × List AC)) : Prop :=
  ∃ (i : Nat) (v j : Int), i ≤ r ∧ m = r - i ∧ v = 2 ^ i ∧ j = i ∧ ms = [] ∧ ts = [(0, vI k), (3, vI v), (4, vI j)]
theorem pow28i {i r : Nat} (h : i ≤ r) (hr : r ≤ 28) : (0 : Int) < 2 ^ i ∧ (2 : Int) ^ i ≤ 268435456 := by
  have := pow28 (r := i) (by omega)
  omega
set_option maxRecDepth 100000 in
set_option maxHeartbeats 4000000 in
theorem p_Size {k : Int} {r : Nat} (h : IsR k r) : PCall Try.prog 55 [vI k] (vI (2 ^ r)) := by
  have C1 := p_Rung h
  have hr := h.1
  clear h
  refine pcall_body (f := 55) Try.func55 rfl rfl rfl rfl ?_
  (repeat (first | ((with_reducible apply al_q); exact rfl) | ((with_reducible apply awp_seq)) | ((with_reducible apply athen_normal)) | ((with_reducible apply awp_region)) | ((with_reducible apply al_nil)) | ((with_reducible apply awp_block))))
  refine awp_loopL 14 (SzI k r) r _ [] ⟨0, 1, 0, Nat.zero_le _, rfl, rfl, rfl, rfl, rfl⟩ rfl ⟨rfl, rfl, rfl, trivial⟩ trivial rfl ?_
  rintro m ts ms ⟨i, v, j, hi, rfl, hv, hj, rfl, rfl⟩ hok
  clear hok
  by_cases q : i < r
  · have q' : j < r := by omega
    have e2 : 2 * v = 2 ^ (i + 1) := by rw [hv, Int.pow_succ, Int.mul_comm]
    obtain ⟨b0, b1⟩ := pow28i hi hr
    rw [← hv] at b0 b1
    have hj' : (0 : Int) ≤ j ∧ j ≤ 28 := by omega
    clear hv
    (repeat (first | ((with_reducible apply al_q); exact rfl) | ((with_reducible apply al_add); (iterate 3 exact rfl); (first | exact i64_wrap (by omega) | assumption | rfl); exact rfl) | ((with_reducible apply al_mul); (iterate 3 exact rfl); (first | exact i64_wrap (by omega) | assumption | rfl); exact rfl) | (refine al_call1 rfl rfl rfl (by (first | exact C1)) rfl ?_) | ((with_reducible apply awp_seq)) | ((with_reducible apply athen_normal)) | ((with_reducible apply awp_region)) | ((with_reducible apply al_nil)) | ((with_reducible apply awp_skip)) | ((with_reducible apply awp_block)) | ((with_reducible apply ablock_normal)) | ((with_reducible apply awp_cond_1); exact rfl; (first | assumption | exact decide_eq_true (by omega) | (simp only [Bool.not_eq_true', decide_eq_false_iff_not, decide_eq_true_eq, Bool.not_eq_false']; (first | done | omega))))))
    exact ⟨r - (i + 1), _, [], by omega, ⟨i + 1, 2 * v, j + 1, by omega, rfl, e2, by omega, rfl, rfl⟩, rfl, ⟨rfl, rfl, rfl, trivial⟩, trivial, rfl⟩
  · have q' : ¬ j < r := by omega
    have e : i = r := by omega
    rw [e] at hv
    clear hi q e
    (repeat (first | ((with_reducible apply al_q); exact rfl) | (refine al_call1 rfl rfl rfl (by (first | exact C1)) rfl ?_) | ((with_reducible apply awp_seq)) | ((with_reducible apply athen_normal)) | ((with_reducible apply awp_region)) | ((with_reducible apply al_nil)) | ((with_reducible apply awp_ret)) | ((with_reducible apply ablock_same)) | ((with_reducible apply awp_exit)) | ((with_reducible apply athen_exit)) | ((with_reducible apply awp_cond_0); exact rfl; (first | assumption | exact decide_eq_false (by omega) | (simp only [Bool.not_eq_true', decide_eq_false_iff_not, decide_eq_true_eq, Bool.not_eq_false']; (first | done | omega))))))
    (first | (refine apost_ret rfl (resl_tmp rfl resl_nil) ?_))
    exact AV.Le.of_eq (by rw [hv]; rfl)
theorem gsn_spec {P v : Int} (hP : 0 < P) : 2 * ((2 * v + P) / (2 * P) * P) ≤ 2 * v + P ∧ 2 * v + P < 2 * ((2 * v + P) / (2 * P) * P) + 2 * P := by
  have h1 := Int.mul_ediv_add_emod (2 * v + P) (2 * P)
  have h2 := Int.emod_nonneg (2 * v + P) (show 2 * P ≠ 0 by omega)
  have h3 := Int.emod_lt_of_pos (2 * v + P) (show 0 < 2 * P by omega)
  have e : 2 * P * ((2 * v + P) / (2 * P)) = 2 * ((2 * v + P) / (2 * P) * P) := by rw [Int.mul_assoc, Int.mul_comm P]
  omega
end Go.Proofs.Ytaennpehlhgggaa

namespace Go.Proofs.Ytaennpehlhgggaa
open Go.RowKit
set_option linter.unusedVariables false
set_option linter.unusedSimpArgs false
abbrev v3 (k x y : Int) : AV := .w (.agg [.c (.int .i64 k), .c (.int .i64 x), .c (.int .i64 y)])
end Go.Proofs.Ytaennpehlhgggaa

namespace Go.Proofs.Ytaennpehlhgggaa
open Go.RowKit
set_option linter.unusedVariables false
set_option linter.unusedSimpArgs false
instance iPixF_1 : IPart Try.prog 52 2 true 2 := ⟨by kernel_rfl⟩
def MvI (a1 a2 b1 b2 q1 q2 k x y S X Y : Int) (r1 r2 r3 r4 : Bool) (m : Nat) (ts : List (Nat × AV)) (ms : List (Nat × List AC)) : Prop :=
  ∃ (i : Int) (t1 t2 t3 t4 : Int), ((m = 2 ∧ i = 0 ∧ t1 = 0 ∧ t2 = 0 ∧ t3 = 0 ∧ t4 = 0) ∨ (m = 1 ∧ i = 1 ∧ t1 = a1 + X ∧ t2 = a2 + Y ∧ t3 = 0 ∧ t4 = 0 ∧ r1 = true ∧ r2 = true) ∨ (m = 0 ∧ i = 2 ∧ t1 = a1 + X ∧ t2 = a2 + Y ∧ t3 = b1 + X ∧ t4 = b2 + Y ∧ r1 = true ∧ r2 = true ∧ r3 = true ∧ r4 = true))
    ∧ ts = [(3, vO 3 0), (4, vO 4 0), (7, vI k), (8, vI x), (9, vI y), (10, vI S), (11, vO 11 0), (50, v2 a1 a2 b1 b2), (51, vI i)]
    ∧ ms = [(3, [.c (.int .i64 a1), .c (.int .i64 a2), .c (.int .i64 b1), .c (.int .i64 b2)]), (4, [.c (.int .i64 q1), .c (.int .i64 q2)]), (11, [.c (.int .i64 t1), .c (.int .i64 t2), .c (.int .i64 t3), .c (.int .i64 t4)])]
end Go.Proofs.Ytaennpehlhgggaa

namespace Go.Proofs.Ytaennpehlhgggaa
open Go.RowKit
set_option linter.unusedVariables false
set_option linter.unusedSimpArgs false
theorem gsn_up {P v q : Int} (hP : 0 < P) (h : 0 ≤ 2 * v - (2 * (P * q) - P)) : q ≤ (2 * v + P) / (2 * P) := by
  obtain ⟨h1, h2⟩ := gsn_spec (v := v) hP
  generalize (2 * v + P) / (2 * P) = A at *
  have : P * q < P * (A + 1) := by rw [Int.mul_add, Int.mul_comm P A]; omega
  have := Int.lt_of_mul_lt_mul_left this (by omega)
  omega
theorem gsn_dn {P v q : Int} (hP : 0 < P) (h : 0 < 2 * (P * q) + P - 2 * v) : (2 * v + P) / (2 * P) ≤ q := by
  obtain ⟨h1, h2⟩ := gsn_spec (v := v) hP
  generalize (2 * v + P) / (2 * P) = A at *
  have : P * A < P * (q + 1) := by rw [Int.mul_add, Int.mul_comm P A]; omega
  have := Int.lt_of_mul_lt_mul_left this (by omega)
  omega
theorem hiB_iff {a1 a2 b1 b2 q1 q2 : Int} {r : Nat} (hr : r ≤ 28) : hiB a1 a2 b1 b2 q1 q2 r = true ↔ inB r q1 q2 = true ∧ meB a1 a2 b1 b2 (2 * (2 ^ r * q1) - 2 ^ r) (2 * (2 ^ r * q2) - 2 ^ r) (2 * (2 ^ r * q1) + 2 ^ r) (2 * (2 ^ r * q2) + 2 ^ r) 0 = true := by
  unfold hiB
  have g1 : decide ((0 : Int) ≤ (r : Int)) = true := decide_eq_true (by omega)
  have g2 : decide ((r : Int) ≤ 28) = true := decide_eq_true (by omega)
  rw [g1, g2, Int.toNat_natCast, Bool.and_self, Bool.true_and, Bool.and_eq_true]
theorem hiB_between {a1 a2 b1 b2 q1 q2 : Int} {r : Nat} (hr : r ≤ 28) (h : hiB a1 a2 b1 b2 q1 q2 r = true) : ((if gsn b1 r < gsn a1 r then gsn b1 r else gsn a1 r) ≤ q1 ∧ q1 ≤ (if gsn b1 r > gsn a1 r then gsn b1 r else gsn a1 r)) ∧ (if gsn b2 r < gsn a2 r then gsn b2 r else gsn a2 r) ≤ q2 ∧ q2 ≤ (if gsn b2 r > gsn a2 r then gsn b2 r else gsn a2 r) := by
  rw [hiB_iff hr, meB_iff] at h
  obtain ⟨_, _, h⟩ := h
  have hP : (0 : Int) < 2 ^ r := by have := pow28 hr; omega
  obtain ⟨s1, s2, s3, s4⟩ := met_sides h
  have u1 : q1 ≤ gsn a1 r ∨ q1 ≤ gsn b1 r := s1.elim (fun k => .inl (gsn_up hP k)) fun k => .inr (gsn_up hP k)
  have u2 : q2 ≤ gsn a2 r ∨ q2 ≤ gsn b2 r := s2.elim (fun k => .inl (gsn_up hP k)) fun k => .inr (gsn_up hP k)
  have u3 : gsn a1 r ≤ q1 ∨ gsn b1 r ≤ q1 := s3.elim (fun k => .inl (gsn_dn hP k)) fun k => .inr (gsn_dn hP k)
  have u4 : gsn a2 r ≤ q2 ∨ gsn b2 r ≤ q2 := s4.elim (fun k => .inl (gsn_dn hP k)) fun k => .inr (gsn_dn hP k)
  refine ⟨⟨?_, ?_⟩, ?_, ?_⟩ <;> split <;> omega
theorem hiB_turn {a1 a2 b1 b2 q1 q2 k : Int} : hiB b1 b2 a1 a2 q1 q2 k = hiB a1 a2 b1 b2 q1 q2 k := by unfold hiB; rw [meB_turn]
end Go.Proofs.Ytaennpehlhgggaa

namespace Go.Proofs.Ytaennpehlhgggaa
open Go.RowKit
set_option linter.unusedVariables false
set_option linter.unusedSimpArgs false
abbrev vAdd9 (r : Int) (l : List Px) (b : Bool) (e : Int) : AV := .tup [.agg [.c (.int .i64 r), .p (SlP 2 l.length (itC l))], .one (.c (.bool b)), .one (.c (.int .i64 e))]
set_option maxRecDepth 100000 in
set_option maxHeartbeats 8000000 in
theorem p_Add9_had {r : Int} {l : List Px} (hl : l.length ≤ 100000) {x y : Int} (h : 0 ≤ numI l x y) : PCall Try.prog 13 [vSet9 r l, vP x y] (vAdd9 r l false 0) := by
  have C1 := p_Num9 (r := r) hl (x := x) (y := y)
  have h' : numI l x y ≥ 0 := h
  generalize numI l x y = k at *
  refine pcall_body (f := 13) Try.func13 rfl rfl rfl rfl ?_
  (repeat (first | ((with_reducible apply al_q); exact rfl) | (refine al_call2 rfl rfl rfl rfl (by (first | exact C1)) rfl ?_) | ((with_reducible apply awp_seq)) | ((with_reducible apply athen_normal)) | ((with_reducible apply awp_region)) | ((with_reducible apply al_nil)) | ((with_reducible apply awp_ret)) | ((with_reducible apply athen_ret)) | ((with_reducible apply awp_cond_1); exact rfl; (first | assumption | exact decide_eq_true (by omega) | (simp only [Bool.not_eq_true', decide_eq_false_iff_not, decide_eq_true_eq, Bool.not_eq_false']; (first | done | omega))))))
  (first | (refine apost_ret rfl (resl_agg rfl rfl rfl (resl_tmp rfl (resl_tmp rfl resl_nil))) ?_) | (refine apost_ret rfl (resl_one rfl rfl rfl (resl_tmp rfl (resl_tmp rfl resl_nil))) ?_))
  exact AV.Le.refl _
set_option maxRecDepth 100000 in
set_option maxHeartbeats 8000000 in
theorem p_Add9_full {r : Int} {l : List Px} (hl : l.length ≤ 100000) {x y : Int} (h : ¬ 0 ≤ numI l x y) (hr : r ≤ (l.length : Int)) : PCall Try.prog 13 [vSet9 r l, vP x y] (vAdd9 r l false 90) := by
  have C1 := p_Num9 (r := r) hl (x := x) (y := y)
  have h' : ¬ numI l x y ≥ 0 := h
  have hr' : (l.length : Int) ≥ r := hr
  generalize numI l x y = k at *
  refine pcall_body (f := 13) Try.func13 rfl rfl rfl rfl ?_
  (repeat (first | ((with_reducible apply al_q); exact rfl) | ((with_reducible apply al_len); (iterate 3 exact rfl)) | (refine al_call2 rfl rfl rfl rfl (by (first | exact C1)) rfl ?_) | ((with_reducible apply awp_seq)) | ((with_reducible apply athen_normal)) | ((with_reducible apply awp_region)) | ((with_reducible apply al_nil)) | ((with_reducible apply awp_ret)) | ((with_reducible apply awp_skip)) | ((with_reducible apply athen_ret)) | ((with_reducible apply awp_cond_1); exact rfl; (first | assumption | exact decide_eq_true (by omega) | (simp only [Bool.not_eq_true', decide_eq_false_iff_not, decide_eq_true_eq, Bool.not_eq_false']; (first | done | omega)))) | ((with_reducible apply awp_cond_0); exact rfl; (first | assumption | exact decide_eq_false (by omega) | (simp only [Bool.not_eq_true', decide_eq_false_iff_not, decide_eq_true_eq, Bool.not_eq_false']; (first | done | omega))))))
  (first | (refine apost_ret rfl (resl_agg rfl rfl rfl (resl_tmp rfl (resl_tmp rfl resl_nil))) ?_) | (refine apost_ret rfl (resl_one rfl rfl rfl (resl_tmp rfl (resl_tmp rfl resl_nil))) ?_))
  exact AV.Le.refl _
set_option maxRecDepth 100000 in
set_option maxHeartbeats 8000000 in
theorem p_Add9_new {r : Int} {l : List Px} (hl : l.length ≤ 100000) {x y : Int} (h : ¬ 0 ≤ numI l x y) (hr : ¬ r ≤ (l.length : Int)) : PCall Try.prog 13 [vSet9 r l, vP x y] (vAdd9 r (l ++ [(x, y)]) true 0) := by
  have C1 := p_Num9 (r := r) hl (x := x) (y := y)
  have h' : ¬ numI l x y ≥ 0 := h
  have hr' : ¬ (l.length : Int) ≥ r := hr
  have e1 : (l ++ [(x, y)]).length = l.length + 1 := by rw [List.length_append]; rfl
  generalize numI l x y = k at *
  unfold vAdd9
  rw [e1, ← itC_one9]
  refine pcall_body (f := 13) Try.func13 rfl rfl rfl rfl ?_
  refine awp_rows ?_
  (repeat (first | ((with_reducible apply rwp_drawH (id := 5) [1,2,4,5,0,3,6,7,8] [3000024]); kernel_rfl; kernel_rfl; exact rfl) | ((with_reducible apply rwp_seq)) | ((with_reducible apply rthen_normal)) | ((with_reducible apply rwp_region)) | ((with_reducible apply hs_nil)) | ((with_reducible apply rwp_skip)) | ((with_reducible apply rwp_cond_0); exact rfl; (first | assumption | exact decide_eq_false (by omega) | (simp only [Bool.not_eq_true', decide_eq_false_iff_not, decide_eq_true_eq, Bool.not_eq_false']; (first | done | omega)) | exact rfl)) | ((with_reducible apply hs_c); exact rfl; (repeat (first | ((with_reducible apply al_q); exact rfl) | ((with_reducible apply al_len); (iterate 3 exact rfl)) | ((with_reducible apply al_bslice); (iterate 10 exact rfl)) | (refine al_call2 rfl rfl rfl rfl (by (first | exact C1)) rfl ?_))); (with_reducible apply al_nil))))
  refine hs_new0 0 rfl rfl rfl rfl rfl (fun v hv => ?_)
  skip
  refine hs_app0 0 rfl rfl rfl rfl ?q1 ?q2 (itC_closed _) rfl (fun v1 hv1 => ?_)
  case q1 => exact le_maxLen (by show 0 + l.length ≤ 1000000; omega)
  case q2 => show (0 + l.length) * 16 ≤ 140737488355328; omega
  skip
  refine hs_app0 0 rfl rfl rfl rfl ?q1 ?q2 rfl rfl (fun v2 hv2 => ?_)
  case q1 => exact le_maxLen (by show 0 + l.length + 1 ≤ 1000000; omega)
  case q2 => show (0 + l.length + 1) * 16 ≤ 140737488355328; omega
  (repeat (first | ((with_reducible apply hs_nilS); kernel_rfl) | ((with_reducible apply rthen_normal)) | ((with_reducible apply hs_c); exact rfl; (repeat (first | ((with_reducible apply al_q); exact rfl))); (with_reducible apply al_nil))))
  refine rwp_coolm 0 25 2 1 _ rfl rfl rfl rfl ?_
  (repeat (first | ((with_reducible apply rwp_seq)) | ((with_reducible apply rthen_normal)) | ((with_reducible apply rwp_region)) | ((with_reducible apply hs_nil)) | ((with_reducible apply rwp_ret)) | ((with_reducible apply hs_c); exact rfl; (repeat (first | ((with_reducible apply al_q); exact rfl))); (with_reducible apply al_nil))))
  (first | (refine apost_ret rfl (resl_agg rfl rfl rfl (resl_tmp rfl (resl_tmp rfl resl_nil))) ?_) | (refine apost_ret rfl (resl_one rfl rfl rfl (resl_tmp rfl (resl_tmp rfl resl_nil))) ?_))
  exact AV.Le.of_eq (by rw [Nat.zero_add]; rfl)
section
variable {P : Program} {ops : Array Oper} {s : AS} {d ty : Nat} {pos : String} {after : Array Edge} {guard : Option (Nat × Bool)} {K : AS → Prop} {rest : List Oper}
end
set_option maxRecDepth 100000 in
set_option maxHeartbeats 8000000 in
theorem p_Hits9_no {a1 a2 b1 b2 q1 q2 k r : Int} {i : Bool} (G1 : PCall Try.prog 28 [vI k] (vI r)) (I1 : PCall Try.prog 30 [vP q1 q2, vI k] (vB i)) (cs : ¬ k = r ∨ (k = r ∧ i = false)) : PCall Try.prog 44 [vP a1 a2, vP b1 b2, vP q1 q2, vI k] (vB false) := by
  rcases cs with c1 | ⟨c1, rfl⟩
  · have e : (!decide (k = r)) = true := by simp [c1]
    refine pcall_body (f := 44) Try.func44 rfl rfl rfl rfl ?_
    (repeat (first | ((with_reducible apply al_q); exact rfl) | (refine al_call1 rfl rfl rfl (by (first | exact G1 | exact I1)) rfl ?_) | ((with_reducible apply al_guard_b (c := true)); exact rfl; exact rfl; (first | assumption | exact decide_eq_true (by omega) | (simp only [Bool.not_eq_true', decide_eq_false_iff_not, decide_eq_true_eq, Bool.not_eq_false']; (first | done | omega)))) | ((with_reducible apply awp_seq)) | ((with_reducible apply athen_normal)) | ((with_reducible apply awp_region)) | ((with_reducible apply al_nil)) | ((with_reducible apply awp_ret)) | ((with_reducible apply athen_ret)) | ((with_reducible apply awp_cond_t); exact rfl)))
    (first | (refine apost_ret rfl (resl_tmp rfl resl_nil) ?_))
    exact AV.Le.refl _
  · have e : (!decide (k = r)) = false := by simp [c1]
    refine pcall_body (f := 44) Try.func44 rfl rfl rfl rfl ?_
    (repeat (first | ((with_reducible apply al_q); exact rfl) | (refine al_call1 rfl rfl rfl (by (first | exact G1 | exact I1)) rfl ?_) | (refine al_call2 rfl rfl rfl rfl (by (first | exact G1 | exact I1)) rfl ?_) | ((with_reducible apply al_guard_b (c := false)); exact rfl; exact rfl; (first | assumption | exact decide_eq_false (by omega) | (simp only [Bool.not_eq_true', decide_eq_false_iff_not, decide_eq_true_eq, Bool.not_eq_false']; (first | done | omega)))) | ((with_reducible apply awp_seq)) | ((with_reducible apply athen_normal)) | ((with_reducible apply awp_region)) | ((with_reducible apply al_nil)) | ((with_reducible apply awp_ret)) | ((with_reducible apply athen_ret)) | ((with_reducible apply awp_cond_t); exact rfl)))
    (first | (refine apost_ret rfl (resl_tmp rfl resl_nil) ?_))
    exact AV.Le.refl _
set_option maxRecDepth 100000 in
set_option maxHeartbeats 8000000 in
theorem p_Hits9_yes {a1 a2 b1 b2 q1 q2 k S X Y : Int} {u : Bool} (G1 : PCall Try.prog 28 [vI k] (vI k)) (I1 : PCall Try.prog 30 [vP q1 q2, vI k] (vB true)) (Z : PCall Try.prog 55 [vI k] (vI S))
    (bS : 0 ≤ S ∧ S ≤ 300000000) (bX : -1000000000 ≤ X ∧ X ≤ 1000000000) (bY : -1000000000 ≤ Y ∧ Y ≤ 1000000000) (wX : IntKind.i64.wrap (2 * S * q1) = X) (wY : IntKind.i64.wrap (2 * S * q2) = Y)
    (M : PCall Try.prog 61 [vP a1 a2, vP b1 b2, vP (X - S) (Y - S), vP (X - S + 2 * S) (Y - S + 2 * S), vI 0] (vB u)) : PCall Try.prog 44 [vP a1 a2, vP b1 b2, vP q1 q2, vI k] (vB u) := by
  have e : (!decide (k = k)) = false := by simp
  refine pcall_body (f := 44) Try.func44 rfl rfl rfl rfl ?_
  (repeat (first | ((with_reducible apply al_q); exact rfl) | ((with_reducible apply al_add); (iterate 3 exact rfl); (first | exact i64_wrap (by omega) | assumption | rfl); exact rfl) | ((with_reducible apply al_sub); (iterate 3 exact rfl); (first | exact i64_wrap (by omega) | assumption | rfl); exact rfl) | ((with_reducible apply al_mul); (iterate 3 exact rfl); (first | exact i64_wrap (by omega) | assumption | rfl); exact rfl) | (refine al_call1 rfl rfl rfl (by (first | exact G1 | exact I1 | exact Z | exact M)) rfl ?_) | (refine al_call2 rfl rfl rfl rfl (by (first | exact G1 | exact I1 | exact Z | exact M)) rfl ?_) | (refine al_call5 rfl rfl rfl rfl rfl rfl rfl (by (first | exact G1 | exact I1 | exact Z | exact M)) rfl ?_) | ((with_reducible apply al_guard_b (c := false)); exact rfl; exact rfl; (first | assumption | exact decide_eq_false (by omega) | (simp only [Bool.not_eq_true', decide_eq_false_iff_not, decide_eq_true_eq, Bool.not_eq_false']; (first | done | omega)))) | ((with_reducible apply awp_seq)) | ((with_reducible apply athen_normal)) | ((with_reducible apply awp_region)) | ((with_reducible apply al_nil)) | ((with_reducible apply awp_ret)) | ((with_reducible apply awp_skip)) | ((with_reducible apply awp_cond_f); exact rfl)))
  (first | (refine apost_ret rfl (resl_tmp rfl resl_nil) ?_))
  exact AV.Le.refl _
theorem p_Hits9 {a1 a2 b1 b2 q1 q2 k : Int} (hk : -9223372036854775808 ≤ k ∧ k ≤ 9223372036854775807) (hx : -9223372036854775808 ≤ q1 ∧ q1 ≤ 9223372036854775807) (hy : -9223372036854775808 ≤ q2 ∧ q2 ≤ 9223372036854775807) : PCall Try.prog 44 [vP a1 a2, vP b1 b2, vP q1 q2, vI k] (vB (hiB a1 a2 b1 b2 q1 q2 k)) := by
  obtain ⟨r, hr⟩ := isR_ex k
  have G1 := p_Rung hr
  have I1 := p_r3In (x := q1) (y := q2) hr (by omega) (by omega) (by omega) (by omega) rfl
  by_cases c1 : k = r
  · subst c1
    have hr28 : r ≤ 28 := hr.1
    cases hi : inB r q1 q2 with
    | false =>
      rw [hi] at I1
      rw [show hiB a1 a2 b1 b2 q1 q2 r = false by
        cases h : hiB a1 a2 b1 b2 q1 q2 r with
        | false => rfl
        | true => rw [hiB_iff hr28, hi] at h; cases h.1]
      exact p_Hits9_no G1 I1 (.inr ⟨rfl, rfl⟩)
    | true =>
      rw [hi] at I1
      have p28 := pow28 hr28
      have j := (inB_mul r q1 q2).1 hi
      have M := p_r6Meets (a1 := a1) (a2 := a2) (b1 := b1) (b2 := b2) (l1 := 2 * (2 ^ r * q1) - 2 ^ r) (l2 := 2 * (2 ^ r * q2) - 2 ^ r) (h1 := 2 * (2 ^ r * q1) + 2 ^ r) (h2 := 2 * (2 ^ r * q2) + 2 ^ r) (k := 0)
      have e1 : hiB a1 a2 b1 b2 q1 q2 r = meB a1 a2 b1 b2 (2 * (2 ^ r * q1) - 2 ^ r) (2 * (2 ^ r * q2) - 2 ^ r) (2 * (2 ^ r * q1) + 2 ^ r) (2 * (2 ^ r * q2) + 2 ^ r) 0 := by
        rw [Bool.eq_iff_iff, hiB_iff hr28]
        exact ⟨fun h => h.2, fun h => ⟨hi, h⟩⟩
      rw [e1]
      have Z := p_Size hr
      have e2 : (2 : Int) * 2 ^ r * q1 = 2 * (2 ^ r * q1) := Int.mul_assoc _ _ _
      have e3 : (2 : Int) * 2 ^ r * q2 = 2 * (2 ^ r * q2) := Int.mul_assoc _ _ _
      refine p_Hits9_yes (X := 2 * (2 ^ r * q1)) (Y := 2 * (2 ^ r * q2)) G1 I1 Z (by omega) (by omega) (by omega) (by rw [e2]; exact i64_wrap (by omega)) (by rw [e3]; exact i64_wrap (by omega)) ?_
      rw [show 2 * (2 ^ r * q1) - 2 ^ r + 2 * 2 ^ r = 2 * (2 ^ r * q1) + 2 ^ r by omega, show 2 * (2 ^ r * q2) - 2 ^ r + 2 * 2 ^ r = 2 * (2 ^ r * q2) + 2 ^ r by omega]
      exact M
  · have : hiB a1 a2 b1 b2 q1 q2 k = false := by
      unfold hiB
      have : (decide (0 ≤ k) && decide (k ≤ 28)) = false := by
        rw [Bool.and_eq_false_iff, decide_eq_false_iff_not, decide_eq_false_iff_not]
        unfold IsR at hr
        omega
      rw [this]; rfl
    rw [this]
    exact p_Hits9_no G1 I1 (.inl c1)
end Go.Proofs.Ytaennpehlhgggaa

namespace Go.Proofs.Ytaennpehlhgggaa
open Go.RowKit
set_option linter.unusedVariables false
set_option linter.unusedSimpArgs false
theorem nilS2_le : vNilS.Le (vIt []) := nilS_le 2
/-- whose numbers are numbers. -/
def InI (p : Px) : Prop := (-9223372036854775808 ≤ p.1 ∧ p.1 ≤ 9223372036854775807) ∧ -9223372036854775808 ≤ p.2 ∧ p.2 ≤ 9223372036854775807
/-- is it near? -/
def nearF (a1 a2 b1 b2 : Int) (r : Nat) (p : Px) : Bool := btw9 p.1 (gsn a1 r) (gsn b1 r) && btw9 p.2 (gsn a2 r) (gsn b2 r)
def metF (a1 a2 b1 b2 k : Int) (p : Px) : Bool := hiB a1 a2 b1 b2 p.1 p.2 k
def NR9I (rm : Int) (L : List Px) (a1 a2 b1 b2 k : Int) (f : Px → Bool) (n : Nat) (R : Rws) (ts : List (Nat × AV)) (ms : List (Nat × List AC)) : Prop :=
  ∃ (i : Nat) (ii : Int), i ≤ L.length ∧ n = L.length - i ∧ ii = i ∧ R = noRows ∧ ms = [(4, [.c (.int .i64 rm), .p (SlP 2 L.length (itC L))]), (5, mPx a1 a2), (6, mPx b1 b2)] ∧ ts = [(3, vI k), (4, vOw 4), (5, vOw 5), (6, vOw 6), (9, vIt (sortI (decide (b1 < a1)) (decide (b2 < a2)) f (L.take i))), (10, vI ii)]
set_option maxRecDepth 100000 in
set_option maxHeartbeats 8000000 in
theorem p_Met9 {rm : Int} {L : List Px} (hl : L.length ≤ 50000) {a1 a2 b1 b2 k : Int} (hk : -9223372036854775808 ≤ k ∧ k ≤ 9223372036854775807) (hL : ∀ p ∈ L, InI p) : PCall Try.prog 26 [vSet9 rm L, vP a1 a2, vP b1 b2, vI k] (vIt (sortI (decide (b1 < a1)) (decide (b2 < a2)) (metF a1 a2 b1 b2 k) L)) := by
  refine pcall_body (f := 26) Try.func26 rfl rfl rfl rfl ?_
  refine awp_rows ?_
  (repeat (first | ((with_reducible apply rwp_seq)) | ((with_reducible apply rthen_normal)) | ((with_reducible apply rwp_region)) | ((with_reducible apply hs_nil)) | ((with_reducible apply rwp_block)) | ((with_reducible apply hs_c); exact rfl; (repeat (first | ((with_reducible apply al_q); exact rfl))); (with_reducible apply al_nil))))
  refine rwp_tell 9 rfl nilS2_le rfl ?_
  refine rwp_loopL 45 (NR9I rm L a1 a2 b1 b2 k (metF a1 a2 b1 b2 k)) L.length noRows _ [(4, [.c (.int .i64 rm), .p (SlP 2 L.length (itC L))]), (5, mPx a1 a2), (6, mPx b1 b2)] ⟨0, 0, Nat.zero_le _, rfl, rfl, rfl, rfl, rfl⟩ (RLe.refl _) rfl ⟨rfl, rfl, rfl, rfl, rfl, rfl, trivial⟩ ⟨rfl, rfl, rfl, trivial⟩ rfl ?_
  rintro n R ts ms ⟨i, ii, hi, rfl, hii, rfl, rfl, rfl⟩ hok
  clear hok
  by_cases hq : i < L.length
  · have q2 : ii < (L.length : Int) := by omega
    have q3 : 0 ≤ ii := by omega
    obtain ⟨x, y, g1⟩ : ∃ x y, L[i]? = some (x, y) := ⟨_, _, List.getElem?_eq_getElem hq⟩
    obtain ⟨hx, hy⟩ := hL _ (List.mem_of_getElem? g1)
    have C1 := p_Hits9 (a1 := a1) (a2 := a2) (b1 := b1) (b2 := b2) (q1 := x) (q2 := y) hk hx hy
    have E1 := itC_xy hii g1
    have ht : L.take (i + 1) = L.take i ++ [(x, y)] := by
      rw [List.take_succ_eq_append_getElem hq, (List.getElem?_eq_some_iff.1 g1).2]
    have hs := sortI_app (decide (b1 < a1)) (decide (b2 < a2)) (metF a1 a2 b1 b2 k) (L.take i) (x, y)
    rw [← ht] at hs
    have hsl := sortI_len (decide (b1 < a1)) (decide (b2 < a2)) (metF a1 a2 b1 b2 k) (L.take i)
    have htl : (L.take i).length ≤ i := by rw [List.length_take]; omega
    have hf : metF a1 a2 b1 b2 k (x, y) = hiB a1 a2 b1 b2 x y k := rfl
    rw [hf] at hs
    generalize hS : sortI (decide (b1 < a1)) (decide (b2 < a2)) (metF a1 a2 b1 b2 k) (L.take i) = S at *
    have C3 := p_put9 (l := S) (by omega) (x := x) (y := y) (fx := decide (b1 < a1)) (fy := decide (b2 < a2))
    clear hS hf g1 ht hL hx hy hk
    cases h1 : hiB a1 a2 b1 b2 x y k with
    | false =>
      rw [h1] at C1
      rw [h1, if_neg (by decide)] at hs
      clear h1
      (repeat (first | ((with_reducible apply hs_nilS); kernel_rfl) | ((with_reducible apply rwp_draw (id := 5) [0,1,2,3,4,5,6,7,8]); kernel_rfl; kernel_rfl; exact rfl) | ((with_reducible apply rwp_seq)) | ((with_reducible apply rthen_normal)) | ((with_reducible apply rwp_region)) | ((with_reducible apply hs_nil)) | ((with_reducible apply rwp_skip)) | ((with_reducible apply rwp_block)) | ((with_reducible apply rblock_normal)) | ((with_reducible apply rwp_cond_1); exact rfl; (first | assumption | exact decide_eq_true (by omega) | (simp only [Bool.not_eq_true', decide_eq_false_iff_not, decide_eq_true_eq, Bool.not_eq_false']; (first | done | omega)) | exact rfl)) | ((with_reducible apply rwp_cond_0); exact rfl; (first | assumption | exact decide_eq_false (by omega) | (simp only [Bool.not_eq_true', decide_eq_false_iff_not, decide_eq_true_eq, Bool.not_eq_false']; (first | done | omega)) | exact rfl)) | ((with_reducible apply hs_c); exact rfl; (repeat (first | ((with_reducible apply al_q); exact rfl) | ((with_reducible apply al_loadPN); (iterate 5 exact rfl)) | ((with_reducible apply al_idxS); (iterate 3 exact rfl); (first | decide | omega); (first | decide | omega); (first | assumption | rfl); exact rfl) | ((with_reducible apply al_add); (iterate 3 exact rfl); (first | exact i64_wrap (by omega) | assumption | rfl); exact rfl) | ((with_reducible apply al_len); (iterate 3 exact rfl)) | (refine al_call4 rfl rfl rfl rfl rfl rfl (by (first | exact C1)) rfl ?_))); (with_reducible apply al_nil))))
      exact ⟨L.length - (i + 1), noRows, _, [(4, [.c (.int .i64 rm), .p (SlP 2 L.length (itC L))]), (5, mPx a1 a2), (6, mPx b1 b2)], by omega, ⟨i + 1, ii + 1, by omega, rfl, by omega, rfl, rfl, rfl⟩, RLe.refl _, rfl, ⟨rfl, rfl, rfl, rfl, by rw [hs]; rfl, rfl, trivial⟩, ⟨rfl, rfl, rfl, trivial⟩, rfl⟩
    | true =>
      rw [h1] at C1
      rw [h1, if_pos rfl] at hs
      clear h1
      (repeat (first | ((with_reducible apply hs_nilS); kernel_rfl) | ((with_reducible apply rwp_draw (id := 5) [0,1,2,3,4,5,6,7,8]); kernel_rfl; kernel_rfl; exact rfl) | ((with_reducible apply rwp_draw (id := 6) [0,1,2,3,4,5,6,7,8,9,10,11,12,13,14,15,16,17]); kernel_rfl; kernel_rfl; exact rfl) | ((with_reducible apply rwp_seq)) | ((with_reducible apply rthen_normal)) | ((with_reducible apply rwp_region)) | ((with_reducible apply hs_nil)) | ((with_reducible apply rwp_skip)) | ((with_reducible apply rwp_block)) | ((with_reducible apply rblock_normal)) | ((with_reducible apply rwp_cond_1); exact rfl; (first | assumption | exact decide_eq_true (by omega) | (simp only [Bool.not_eq_true', decide_eq_false_iff_not, decide_eq_true_eq, Bool.not_eq_false']; (first | done | omega)) | exact rfl)) | ((with_reducible apply hs_c); exact rfl; (repeat (first | ((with_reducible apply al_q); exact rfl) | ((with_reducible apply al_loadPN); (iterate 5 exact rfl)) | ((with_reducible apply al_idxS); (iterate 3 exact rfl); (first | decide | omega); (first | decide | omega); (first | assumption | rfl); exact rfl) | ((with_reducible apply al_add); (iterate 3 exact rfl); (first | exact i64_wrap (by omega) | assumption | rfl); exact rfl) | ((with_reducible apply al_len); (iterate 3 exact rfl)) | (refine al_call4 rfl rfl rfl rfl rfl rfl (by (first | exact C1 | exact C3)) rfl ?_))); (with_reducible apply al_nil))))
      exact ⟨L.length - (i + 1), noRows, _, [(4, [.c (.int .i64 rm), .p (SlP 2 L.length (itC L))]), (5, mPx a1 a2), (6, mPx b1 b2)], by omega, ⟨i + 1, ii + 1, by omega, rfl, by omega, rfl, rfl, rfl⟩, RLe.refl _, rfl, ⟨rfl, rfl, rfl, rfl, by rw [hs]; rfl, rfl, trivial⟩, ⟨rfl, rfl, rfl, trivial⟩, rfl⟩
  · have q2 : ¬ ii < (L.length : Int) := by omega
    have e0 : L.take i = L := List.take_of_length_le (by omega)
    rw [e0]
    clear hL
    (repeat (first | ((with_reducible apply rwp_seq)) | ((with_reducible apply rthen_normal)) | ((with_reducible apply rwp_region)) | ((with_reducible apply hs_nil)) | ((with_reducible apply rwp_ret)) | ((with_reducible apply rblock_same)) | ((with_reducible apply rwp_exit)) | ((with_reducible apply rthen_exit)) | ((with_reducible apply rwp_cond_0); exact rfl; (first | assumption | exact decide_eq_false (by omega) | (simp only [Bool.not_eq_true', decide_eq_false_iff_not, decide_eq_true_eq, Bool.not_eq_false']; (first | done | omega)) | exact rfl)) | ((with_reducible apply hs_c); exact rfl; (repeat (first | ((with_reducible apply al_q); exact rfl) | ((with_reducible apply al_len); (iterate 3 exact rfl)))); (with_reducible apply al_nil))))
    (first | (refine apost_ret rfl (resl_tmp rfl resl_nil) ?_))
    exact AV.Le.refl _
def OldI (l : List Px) (n : Nat) (R : Rws) (ts : List (Nat × AV)) (ms : List (Nat × List AC)) : Prop :=
  ∃ (k : Nat) (v : Value) (ki : Int), k ≤ l.length ∧ n = l.length - k ∧ ki = k ∧ R = row1 0 (p9Row v (l.take k)) ∧ ms = [] ∧ ts = [(3, vC v), (6, vIt l), (7, vI l.length), (8, vI ki)]
set_option maxRecDepth 100000 in
set_option maxHeartbeats 8000000 in
theorem p_Olds {l : List Px} (hl : l.length ≤ 50000) : PCall Try.prog 19 [vIt l] (vIt l) := by
  refine pcall_body (f := 19) Try.func19 rfl rfl rfl rfl ?_
  refine awp_rows ?_
  refine rwp_nil 0 36 2 rfl ?_
  (repeat (first | ((with_reducible apply rwp_seq)) | ((with_reducible apply rthen_normal)) | ((with_reducible apply rwp_region)) | ((with_reducible apply hs_nil)) | ((with_reducible apply rwp_block)) | ((with_reducible apply hs_c); exact rfl; (repeat (first | ((with_reducible apply al_q); exact rfl) | ((with_reducible apply al_len); (iterate 3 exact rfl)))); (with_reducible apply al_nil))))
  refine rwp_loopL 18 (OldI l) l.length (row1 0 (p9Row (.slice none 0 0) [])) _ [] ⟨0, .slice none 0 0, 0, Nat.zero_le _, rfl, rfl, rfl, rfl, rfl⟩ (row1_le _ _ _) rfl ⟨rfl, rfl, rfl, rfl, trivial⟩ trivial rfl ?_
  rintro n R ts ms ⟨k, v, ki, hk, rfl, hki, rfl, rfl, rfl⟩ hok
  clear hok
  have htl : (l.take k).length ≤ k := by rw [List.length_take]; omega
  by_cases hq : k < l.length
  · have q2 : ki < (l.length : Int) := by omega
    have q3 : 0 ≤ ki := by omega
    obtain ⟨x, y, g1⟩ : ∃ x y, l[k]? = some (x, y) := ⟨_, _, List.getElem?_eq_getElem hq⟩
    have E1 := itC_xy hki g1
    have ht : l.take (k + 1) = l.take k ++ [(x, y)] := by
      rw [List.take_succ_eq_append_getElem hq, (List.getElem?_eq_some_iff.1 g1).2]
    (repeat (first | ((with_reducible apply rwp_seq)) | ((with_reducible apply rthen_normal)) | ((with_reducible apply rwp_region)) | ((with_reducible apply hs_nil)) | ((with_reducible apply rwp_skip)) | ((with_reducible apply rwp_block)) | ((with_reducible apply rwp_cond_1); exact rfl; (first | assumption | exact decide_eq_true (by omega) | (simp only [Bool.not_eq_true', decide_eq_false_iff_not, decide_eq_true_eq, Bool.not_eq_false']; (first | done | omega)) | exact rfl)) | ((with_reducible apply hs_c); exact rfl; (repeat (first | ((with_reducible apply al_q); exact rfl) | ((with_reducible apply al_loadPN); (iterate 5 exact rfl)) | ((with_reducible apply al_idxS); (iterate 3 exact rfl); (first | decide | omega); (first | decide | omega); (first | assumption | rfl); exact rfl) | ((with_reducible apply al_bslice); (iterate 10 exact rfl)))); (with_reducible apply al_nil))))
    refine hs_app0 0 rfl rfl rfl rfl ?q1 ?q2 rfl rfl (fun v' hv' => ?_)
    case q1 => exact le_maxLen (by show (l.take k).length + 1 ≤ 1000000; omega)
    case q2 => show ((l.take k).length + 1) * 16 ≤ 140737488355328; omega
    (repeat (first | ((with_reducible apply rthen_normal)) | ((with_reducible apply rwp_region)) | ((with_reducible apply hs_nil)) | ((with_reducible apply rblock_normal)) | ((with_reducible apply hs_c); exact rfl; (repeat (first | ((with_reducible apply al_q); exact rfl) | ((with_reducible apply al_add); (iterate 3 exact rfl); (first | exact i64_wrap (by omega) | assumption | rfl); exact rfl))); (with_reducible apply al_nil))))
    refine ⟨l.length - (k + 1), row1 0 (p9Row v' (l.take (k + 1))), _, [], by omega, ⟨k + 1, v', ki + 1, by omega, rfl, by omega, rfl, rfl, rfl⟩, ?_, rfl, ⟨rfl, rfl, rfl, rfl, trivial⟩, trivial, rfl⟩
    rw [ht, p9Row_one]; exact row1_le _ _ _
  · have q2 : ¬ ki < (l.length : Int) := by omega
    have e0 : l.take k = l := List.take_of_length_le (by omega)
    rw [e0]
    refine rwp_cool 0 3 (p9Row v l) rfl rfl ?_
    (repeat (first | ((with_reducible apply rwp_seq)) | ((with_reducible apply rthen_normal)) | ((with_reducible apply rwp_region)) | ((with_reducible apply hs_nil)) | ((with_reducible apply rwp_ret)) | ((with_reducible apply rblock_same)) | ((with_reducible apply rwp_exit)) | ((with_reducible apply rthen_exit)) | ((with_reducible apply rwp_cond_0); exact rfl; (first | assumption | exact decide_eq_false (by omega) | (simp only [Bool.not_eq_true', decide_eq_false_iff_not, decide_eq_true_eq, Bool.not_eq_false']; (first | done | omega)) | exact rfl)) | ((with_reducible apply hs_c); exact rfl; (repeat (first | ((with_reducible apply al_q); exact rfl))); (with_reducible apply al_nil))))
    (first | (refine apost_ret rfl (resl_tmp rfl resl_nil) ?_))
    exact AV.Le.refl _
def Sm9I (l : List Px) (n : Nat) (ts : List (Nat × AV)) (ms : List (Nat × List AC)) : Prop :=
  ∃ (k : Nat) (ki : Int), k ≤ l.length ∧ n = l.length - k ∧ ki = k ∧ ms = [] ∧ ts = [(0, vIt l), (1, vIt l), (5, vI 0), (19, vI l.length), (20, vI ki)]
set_option maxRecDepth 100000 in
set_option maxHeartbeats 8000000 in
theorem p_Same9 {l : List Px} (hl : l.length ≤ 50000) : PCall Try.prog 18 [vIt l, vIt l] (vI 0) := by
  have h1 : (!decide ((l.length : Int) = (l.length : Int))) = false := by simp
  refine pcall_body (f := 18) Try.func18 rfl rfl rfl rfl ?_
  (repeat (first | ((with_reducible apply al_q); exact rfl) | ((with_reducible apply al_len); (iterate 3 exact rfl)) | ((with_reducible apply awp_seq)) | ((with_reducible apply athen_normal)) | ((with_reducible apply awp_region)) | ((with_reducible apply al_nil)) | ((with_reducible apply awp_skip)) | ((with_reducible apply awp_block)) | ((with_reducible apply awp_cond_0); exact rfl; (first | assumption | exact decide_eq_false (by omega) | (simp only [Bool.not_eq_true', decide_eq_false_iff_not, decide_eq_true_eq, Bool.not_eq_false']; (first | done | omega))))))
  refine awp_loopL 36 (Sm9I l) l.length _ [] ⟨0, 0, Nat.zero_le _, rfl, rfl, rfl, rfl⟩ rfl ⟨rfl, rfl, rfl, rfl, rfl, trivial⟩ trivial rfl ?_
  rintro n ts ms ⟨k, ki, hk, rfl, hki, rfl, rfl⟩ hok
  clear hok
  by_cases hq : k < l.length
  · have q2 : ki < (l.length : Int) := by omega
    have q3 : 0 ≤ ki := by omega
    obtain ⟨x, y, g1⟩ : ∃ x y, l[k]? = some (x, y) := ⟨_, _, List.getElem?_eq_getElem hq⟩
    have E1 := itC_xy hki g1
    have he : (!eqP x y x y) = false := by rw [eqP_iff.2 ⟨rfl, rfl⟩]; rfl
    (repeat (first | ((with_reducible apply al_q); exact rfl) | ((with_reducible apply al_loadPN); (iterate 5 exact rfl)) | ((with_reducible apply al_idxS); (iterate 3 exact rfl); (first | decide | omega); (first | decide | omega); (first | assumption | rfl); exact rfl) | ((with_reducible apply al_neqP); (iterate 4 exact rfl)) | ((with_reducible apply al_add); (iterate 3 exact rfl); (first | exact i64_wrap (by omega) | assumption | rfl); exact rfl) | ((with_reducible apply al_nilS); kernel_rfl) | ((with_reducible apply awp_region_draw); kernel_rfl; kernel_rfl; exact rfl) | ((with_reducible apply awp_seq)) | ((with_reducible apply athen_normal)) | ((with_reducible apply awp_region)) | ((with_reducible apply al_nil)) | ((with_reducible apply awp_skip)) | ((with_reducible apply awp_block)) | ((with_reducible apply ablock_normal)) | ((with_reducible apply awp_cond_1); exact rfl; (first | assumption | exact decide_eq_true (by omega) | (simp only [Bool.not_eq_true', decide_eq_false_iff_not, decide_eq_true_eq, Bool.not_eq_false']; (first | done | omega)))) | ((with_reducible apply awp_cond_0); exact rfl; (first | assumption | exact decide_eq_false (by omega) | (simp only [Bool.not_eq_true', decide_eq_false_iff_not, decide_eq_true_eq, Bool.not_eq_false']; (first | done | omega))))))
    exact ⟨l.length - (k + 1), _, [], by omega, ⟨k + 1, ki + 1, by omega, rfl, by omega, rfl, rfl⟩, rfl, ⟨rfl, rfl, rfl, rfl, rfl, trivial⟩, trivial, rfl⟩
  · have q2 : ¬ ki < (l.length : Int) := by omega
    (repeat (first | ((with_reducible apply al_q); exact rfl) | ((with_reducible apply awp_seq)) | ((with_reducible apply athen_normal)) | ((with_reducible apply awp_region)) | ((with_reducible apply al_nil)) | ((with_reducible apply awp_ret)) | ((with_reducible apply ablock_same)) | ((with_reducible apply awp_exit)) | ((with_reducible apply athen_exit)) | ((with_reducible apply awp_cond_0); exact rfl; (first | assumption | exact decide_eq_false (by omega) | (simp only [Bool.not_eq_true', decide_eq_false_iff_not, decide_eq_true_eq, Bool.not_eq_false']; (first | done | omega))))))
    (first | (refine apost_ret rfl (resl_tmp rfl resl_nil) ?_))
    exact AV.Le.refl _
end Go.Proofs.Ytaennpehlhgggaa

