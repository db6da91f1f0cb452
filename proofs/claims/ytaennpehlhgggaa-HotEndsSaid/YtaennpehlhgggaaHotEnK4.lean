/-
  My own texts, without what this claim does not need. My own text.
-/
import Derived.Test.YtaennpehlhgggaaProg
import Derived.ProofKit
import Derived.OpenShut
import Derived.Deep.DeepHandedRow
import Derived.Lib.LaidTab
import Derived.Lib.SmallJoins
import Derived.Laws.BytesArg
import Derived.Test.YtaennpehlhgggaaHotEnK3
namespace Go.Proofs.Ytaennpehlhgggaa
open Go.RowKit
set_option linter.unusedVariables false
set_option linter.unusedSimpArgs false
abbrev p9Row (v : Value) (l : List (Int × Int)) : HRow := ⟨36, 2, v, l.length, itC l⟩
instance iHotA_1 : RowTy Try.prog 26 36 2 16 := ⟨by kernel_rfl⟩
theorem itC_one9 (l : List (Int × Int)) (x y : Int) : itC l ++ [.c (.int .i64 x), .c (.int .i64 y)] = itC (l ++ [(x, y)]) := by rw [itC_append]; rfl
/-- a set of the document's. -/
abbrev vSet9 (r : Int) (l : List Px) : AV := .w (.agg [.c (.int .i64 r), .p (SlP 2 l.length (itC l))])
def room9 (n : Int) : Int := if n < 1 then 1 else if 1024 < n then 1024 else n
theorem nilW_le (r : Int) : (AV.w (.agg [.c (.int .i64 r), .c (.slice none 0 0)])).Le (vSet9 r []) := fun U ρ W v h => by
  obtain ⟨vs, rfl, hl, h⟩ := h
  refine ⟨vs, rfl, hl, fun i x u hx hu => ?_⟩
  match i with
  | 0 => cases hx; exact h 0 _ u rfl hu
  | 1 =>
    cases hx
    obtain ⟨rfl, _⟩ := h 1 _ u rfl hu
    exact ⟨⟨none, 0, rfl, Nat.le_refl _, by simp [itC], fun h => absurd h (Nat.lt_irrefl _)⟩, fun b ⟨c, a, q, hn, _⟩ => absurd hn (Nat.lt_irrefl _)⟩
  | i + 2 => simp at hx
set_option maxRecDepth 100000 in
set_option maxHeartbeats 4000000 in
theorem p_New9 {n : Int} : PCall Try.prog 11 [vI n] (vSet9 (room9 n) []) := by
  by_cases h1 : n < 1
  · have e : room9 n = 1 := by unfold room9; rw [if_pos h1]
    rw [e]
    refine pcall_body (f := 11) Try.func11 rfl rfl rfl rfl ?_
    (repeat (first | ((with_reducible apply al_q); exact rfl) | ((with_reducible apply awp_seq)) | ((with_reducible apply athen_normal)) | ((with_reducible apply awp_region)) | ((with_reducible apply al_nil)) | ((with_reducible apply awp_ret)) | ((with_reducible apply awp_skip)) | ((with_reducible apply awp_cond_f); exact rfl) | ((with_reducible apply awp_cond_1); exact rfl; (first | assumption | exact decide_eq_true (by omega) | (simp only [Bool.not_eq_true', decide_eq_false_iff_not, decide_eq_true_eq, Bool.not_eq_false']; (first | done | omega))))))
    (first | (refine apost_ret rfl (resl_agg rfl rfl rfl resl_nil) ?_) | (refine apost_ret rfl (resl_one rfl rfl rfl resl_nil) ?_))
    exact nilW_le 1
  · by_cases h2 : 1024 < n
    · have e : room9 n = 1024 := by unfold room9; rw [if_neg h1, if_pos h2]
      have h2' : n > 1024 := h2
      rw [e]
      refine pcall_body (f := 11) Try.func11 rfl rfl rfl rfl ?_
      (repeat (first | ((with_reducible apply al_q); exact rfl) | ((with_reducible apply awp_seq)) | ((with_reducible apply athen_normal)) | ((with_reducible apply awp_region)) | ((with_reducible apply al_nil)) | ((with_reducible apply awp_ret)) | ((with_reducible apply awp_skip)) | ((with_reducible apply awp_cond_1); exact rfl; (first | assumption | exact decide_eq_true (by omega) | (simp only [Bool.not_eq_true', decide_eq_false_iff_not, decide_eq_true_eq, Bool.not_eq_false']; (first | done | omega)))) | ((with_reducible apply awp_cond_0); exact rfl; (first | assumption | exact decide_eq_false (by omega) | (simp only [Bool.not_eq_true', decide_eq_false_iff_not, decide_eq_true_eq, Bool.not_eq_false']; (first | done | omega))))))
      (first | (refine apost_ret rfl (resl_agg rfl rfl rfl resl_nil) ?_) | (refine apost_ret rfl (resl_one rfl rfl rfl resl_nil) ?_))
      exact nilW_le 1024
    · have e : room9 n = n := by unfold room9; rw [if_neg h1, if_neg h2]
      have h2' : ¬ n > 1024 := h2
      rw [e]
      refine pcall_body (f := 11) Try.func11 rfl rfl rfl rfl ?_
      (repeat (first | ((with_reducible apply al_q); exact rfl) | ((with_reducible apply awp_seq)) | ((with_reducible apply athen_normal)) | ((with_reducible apply awp_region)) | ((with_reducible apply al_nil)) | ((with_reducible apply awp_ret)) | ((with_reducible apply awp_skip)) | ((with_reducible apply awp_cond_0); exact rfl; (first | assumption | exact decide_eq_false (by omega) | (simp only [Bool.not_eq_true', decide_eq_false_iff_not, decide_eq_true_eq, Bool.not_eq_false']; (first | done | omega))))))
      (first | (refine apost_ret rfl (resl_agg rfl rfl rfl resl_nil) ?_) | (refine apost_ret rfl (resl_one rfl rfl rfl resl_nil) ?_))
      exact nilW_le n
def btw9 (n a b : Int) : Bool := (decide (a ≤ n) && decide (n ≤ b)) || (decide (b ≤ n) && decide (n ≤ a))
/-- where a pixel stands; -1: nowhere. -/
def numI (l : List Px) (x y : Int) : Int := match l.findIdx? fun e => decide (e.1 = x) && decide (e.2 = y) with
  | some k => k
  | none => -1
def mSet9 (r : Int) (l : List Px) : List AC := [.c (.int .i64 r), .p (SlP 2 l.length (itC l))]
def N9I (r : Int) (l : List Px) (x y : Int) (n : Nat) (ts : List (Nat × AV)) (ms : List (Nat × List AC)) : Prop :=
  ∃ (k : Nat) (ki : Int), k ≤ l.length ∧ n = l.length - k ∧ ki = k ∧ (∀ j e, j < k → l[j]? = some e → ¬ (e.1 = x ∧ e.2 = y)) ∧ ms = [(2, [.c (.int .i64 r), .p (SlP 2 l.length (itC l))]), (3, mPx x y)] ∧ ts = [(2, vOw 2), (3, vOw 3), (5, vI ki)]
set_option maxRecDepth 100000 in
set_option maxHeartbeats 8000000 in
theorem p_Num9 {r : Int} {l : List Px} (hl : l.length ≤ 100000) {x y : Int} : PCall Try.prog 16 [vSet9 r l, vP x y] (vI (numI l x y)) := by
  refine pcall_body (f := 16) Try.func16 rfl rfl rfl rfl ?_
  (repeat (first | ((with_reducible apply al_q); exact rfl) | ((with_reducible apply awp_seq)) | ((with_reducible apply athen_normal)) | ((with_reducible apply awp_region)) | ((with_reducible apply al_nil)) | ((with_reducible apply awp_block))))
  refine awp_loopL 21 (N9I r l x y) l.length _ [(2, [.c (.int .i64 r), .p (SlP 2 l.length (itC l))]), (3, mPx x y)] ⟨0, 0, Nat.zero_le _, rfl, rfl, fun j e hj => absurd hj (Nat.not_lt_zero _), rfl, rfl⟩ rfl ⟨rfl, rfl, rfl, trivial⟩ ⟨rfl, rfl, trivial⟩ rfl ?_
  rintro n ts ms ⟨k, ki, hk, rfl, hki, hp, rfl, rfl⟩ hok
  clear hok
  by_cases q : k < l.length
  · have q' : ki < (l.length : Int) := by omega
    have q2 : 0 ≤ ki := by omega
    obtain ⟨a, b, g1⟩ : ∃ a b, l[k]? = some (a, b) := ⟨_, _, List.getElem?_eq_getElem q⟩
    have E1 := itC_xy hki g1
    cases hq : eqP a b x y with
    | true =>
      have he := eqP_iff.1 hq
      have hr : numI l x y = ki := by
        have : l.findIdx? (fun e => decide (e.1 = x) && decide (e.2 = y)) = some k := by
          rw [List.findIdx?_eq_some_iff_getElem]
          refine ⟨q, ?_, fun j hj => ?_⟩
          · have : l[k] = (a, b) := (List.getElem?_eq_some_iff.1 g1).2
            rw [this]; simp [he.1, he.2]
          · have := hp j _ hj (List.getElem?_eq_getElem (Nat.lt_trans hj q))
            simp only [Bool.and_eq_true, decide_eq_true_eq]; exact this
        unfold numI; rw [this]; exact hki.symm
      clear hp hki
      (repeat (first | ((with_reducible apply al_q); exact rfl) | ((with_reducible apply al_loadPN); (iterate 5 exact rfl)) | ((with_reducible apply al_idxS); (iterate 3 exact rfl); (first | decide | omega); (first | decide | omega); (first | assumption | rfl); exact rfl) | ((with_reducible apply al_eqP); (iterate 4 exact rfl)) | ((with_reducible apply al_len); (iterate 3 exact rfl)) | ((with_reducible apply al_nilS); kernel_rfl) | ((with_reducible apply awp_region_draw); kernel_rfl; kernel_rfl; exact rfl) | ((with_reducible apply awp_seq)) | ((with_reducible apply athen_normal)) | ((with_reducible apply awp_region)) | ((with_reducible apply al_nil)) | ((with_reducible apply awp_ret)) | ((with_reducible apply awp_skip)) | ((with_reducible apply athen_ret)) | ((with_reducible apply awp_block)) | ((with_reducible apply ablock_ret)) | ((with_reducible apply awp_cond_1); exact rfl; (first | assumption | exact decide_eq_true (by omega) | (simp only [Bool.not_eq_true', decide_eq_false_iff_not, decide_eq_true_eq, Bool.not_eq_false']; (first | done | omega))))))
      (first | (refine apost_ret rfl (resl_tmp rfl resl_nil) ?_))
      exact AV.Le.of_eq (by rw [hr]; rfl)
    | false =>
      have hp' : ∀ j e, j < k + 1 → l[j]? = some e → ¬ (e.1 = x ∧ e.2 = y) := fun j e hj he => by
        by_cases h : j = k
        · subst h
          rw [g1] at he
          cases he
          intro hh
          rw [eqP_iff.2 hh] at hq
          cases hq
        · exact hp j e (by omega) he
      clear hp
      (repeat (first | ((with_reducible apply al_q); exact rfl) | ((with_reducible apply al_loadPN); (iterate 5 exact rfl)) | ((with_reducible apply al_idxS); (iterate 3 exact rfl); (first | decide | omega); (first | decide | omega); (first | assumption | rfl); exact rfl) | ((with_reducible apply al_eqP); (iterate 4 exact rfl)) | ((with_reducible apply al_add); (iterate 3 exact rfl); (first | exact i64_wrap (by omega) | assumption | rfl); exact rfl) | ((with_reducible apply al_len); (iterate 3 exact rfl)) | ((with_reducible apply al_nilS); kernel_rfl) | ((with_reducible apply awp_region_draw); kernel_rfl; kernel_rfl; exact rfl) | ((with_reducible apply awp_seq)) | ((with_reducible apply athen_normal)) | ((with_reducible apply awp_region)) | ((with_reducible apply al_nil)) | ((with_reducible apply awp_skip)) | ((with_reducible apply awp_block)) | ((with_reducible apply ablock_normal)) | ((with_reducible apply awp_cond_1); exact rfl; (first | assumption | exact decide_eq_true (by omega) | (simp only [Bool.not_eq_true', decide_eq_false_iff_not, decide_eq_true_eq, Bool.not_eq_false']; (first | done | omega)))) | ((with_reducible apply awp_cond_0); exact rfl; (first | assumption | exact decide_eq_false (by omega) | (simp only [Bool.not_eq_true', decide_eq_false_iff_not, decide_eq_true_eq, Bool.not_eq_false']; (first | done | omega))))))
      exact ⟨l.length - (k + 1), _, [(2, [.c (.int .i64 r), .p (SlP 2 l.length (itC l))]), (3, mPx x y)], by omega, ⟨k + 1, ki + 1, by omega, rfl, by omega, hp', rfl, rfl⟩, rfl, ⟨rfl, rfl, rfl, trivial⟩, ⟨rfl, rfl, trivial⟩, rfl⟩
  · have q' : ¬ ki < (l.length : Int) := by omega
    have hr : numI l x y = -1 := by
      have : l.findIdx? (fun e => decide (e.1 = x) && decide (e.2 = y)) = none := by
        rw [List.findIdx?_eq_none_iff]
        intro e he
        obtain ⟨j, hj⟩ := List.getElem?_of_mem he
        have h1 := (List.getElem?_eq_some_iff.1 hj).1
        have := hp j e (by omega) hj
        cases hh : (decide (e.1 = x) && decide (e.2 = y)) with
        | false => rfl
        | true => simp only [Bool.and_eq_true, decide_eq_true_eq] at hh; exact absurd hh this
      unfold numI; rw [this]
    clear hp
    (repeat (first | ((with_reducible apply al_q); exact rfl) | ((with_reducible apply al_len); (iterate 3 exact rfl)) | ((with_reducible apply awp_seq)) | ((with_reducible apply athen_normal)) | ((with_reducible apply awp_region)) | ((with_reducible apply al_nil)) | ((with_reducible apply awp_ret)) | ((with_reducible apply ablock_same)) | ((with_reducible apply awp_exit)) | ((with_reducible apply athen_exit)) | ((with_reducible apply awp_cond_0); exact rfl; (first | assumption | exact decide_eq_false (by omega) | (simp only [Bool.not_eq_true', decide_eq_false_iff_not, decide_eq_true_eq, Bool.not_eq_false']; (first | done | omega))))))
    (first | (refine apost_ret rfl (resl_tmp rfl resl_nil) ?_))
    exact AV.Le.of_eq (by rw [hr]; rfl)
/-- what holds ahead of each round of put's loop: those that were taken, and the new one, if it stands already. -/
def P9I (l : List Px) (x y : Int) (fx fy : Bool) (n : Nat) (R : Rws) (ts : List (Nat × AV)) (ms : List (Nat × List AC)) : Prop :=
  ∃ (k : Nat) (v : Value) (ki : Int) (out : List Px) (dn : Bool), k ≤ l.length ∧ n = l.length - k ∧ ki = k ∧ dn = (l.take k).any (ahP fx fy (x, y)) ∧ out = (if dn then insQ fx fy (x, y) (l.take k) else l.take k) ∧ R = row1 0 (p9Row v out) ∧ ms = [(5, mPx x y)] ∧ ts = [(0, vIt l), (2, vB fx), (3, vB fy), (5, vOw 5), (9, vC v), (10, vB dn), (11, vI ki)]
end Go.Proofs.Ytaennpehlhgggaa

namespace Go.Proofs.Ytaennpehlhgggaa
open Go.RowKit
set_option linter.unusedVariables false
set_option linter.unusedSimpArgs false
/-- a function that is handed a row by its slice. -/
def RCall (P : Program) (f : FuncId) (args : List AV) (r : HRow) (post : AV → HRow → Prop) : Prop :=
  ∀ i, HCall P f args noMem (row1 i r) fun v m' R' => ∃ r', m' = noMem ∧ R' = row1 i r' ∧ post v r'
/-- and that leaves it as it is, and makes another one. -/
def RCall2 (P : Program) (f : FuncId) (args : List AV) (r : HRow) (post : AV → HRow → Prop) : Prop :=
  ∀ i j, i ≠ j → HCall P f args noMem (row1 i r) fun v m' R' => ∃ q, m' = noMem ∧ R' = upd (row1 i r) j q ∧ post v q
theorem renId {args : List AV} (ha : args.all AV.closedB = true) : args.map (AV.ren fun j => j) = args := by
  rw [List.all_eq_true] at ha
  conv => rhs; rw [← List.map_id args]
  exact List.map_congr_left fun x hx => ren_closedV (ha x hx)
theorem rcall_of {P : Program} {f : FuncId} {args : List AV} {r : HRow} {post : AV → HRow → Prop} (ha : args.all AV.closedB = true) (hp : ∀ v r', post v r' → v.closedB = true)
    (h : HCall P f args noMem (row1 0 r) fun v m' R' => ∃ r', m' = noMem ∧ R' = row1 0 r' ∧ post v r') : RCall P f args r post := by
  intro i
  have h1 := h.ren (π := fun j => j) (σ := swp 0 i) (τ := swp 0 i) (fun _ => rfl) (swp_swp _ _) (swp_swp _ _)
  rw [renId ha, show Mem.ren (fun j => j) noMem = noMem from rfl, row1_ren] at h1
  refine ⟨fun U ρ W vs hH hown hvs => (h1.call U ρ W vs hH hown hvs).mono ?_⟩
  rintro e W' ⟨v, r1, m', R', ρ', U', q0, ⟨r2, m2, R2, ⟨r', rfl, rfl, hq⟩, rfl, rfl, rfl⟩, q⟩
  rw [show Mem.ren (fun j => j) noMem = noMem from rfl, row1_ren, ren_closedV (hp _ _ hq)] at q
  exact ⟨v, r2, noMem, row1 i r', ρ', U', q0, ⟨r', rfl, rfl, hq⟩, q⟩
/-- the end of such a function. -/
theorem hfin_r1 {P : Program} {fn : Func} {l : List ResultVar} {xs : List AW} {R : Rws} {s : AS} {r r' : HRow} {post : AV → HRow → Prop} (hr : fn.results = l.toArray) (h : l.map (resOf P s) = xs.map some) (hi : R 0 = some r') (hx : (packed xs).closedB = true)
    (hp : post (packed xs) r') : hfin P fn noMem (row1 0 r) (fun v m' R' => ∃ r', m' = noMem ∧ R' = row1 0 r' ∧ post v r') R s := by
  refine ⟨xs, packed xs, noMem, row1 0 r', by rw [hr]; exact h, .refl _, ⟨r', rfl, rfl, hp⟩, fun k c h => (by cases h), fun i q h => ?_, fun j hj => absurd hj (AV.closed_of hx j), fun k c x j h => (by cases h), fun k c h => (by cases h), fun i q h => ?_⟩
  · obtain ⟨rfl, rfl⟩ := row1_iff h; exact hi
  · obtain ⟨rfl, rfl⟩ := row1_iff h; exact ⟨r', by unfold row1; exact upd_same _ _ _⟩
section
variable {P : Program} {R : Rws} {s : AS} {ops : Array Oper} {dr : Option (List Nat)} {ty : Nat} {pos : String} {after : Array Edge} {guard : Option (Nat × Bool)} {K : Rws → AS → Prop} {rest : List Oper}
theorem over_noMem (s : AS) : s.over noMem = s := by
  show ({ s with mem := ovr (fun _ => none) s.mem } : AS) = s
  rw [ovr_none]
/-- such a call in a walk. -/
theorem hs_r1 (i : Nat) {dst : Option Nat} {f : FuncId} {g : Operand} {ts : Array TypeId} {l : List Operand} {args : List AV} {r : HRow} {post : AV → HRow → Prop} [E : Enters P f] (hw : want ops ⟨dst, .call ⟨.value g, l.toArray, ts⟩, ty, pos, after, guard⟩ s = some true) (hm : hotM dr ⟨dst, .call ⟨.value g, l.toArray, ts⟩, ty, pos, after, guard⟩ = true)
    (hg : s.look g = some (vC (.func (.func f) #[] #[]))) (ha : l.map s.look = args.map some) (hp : RCall P f args r post) (hi : R i = some r) (hac : args.all AV.closedB = true) (hd : dstB dst s.n = true)
    (h : ∀ v r', post v r' → hList P ops dr K rest (upd R i r') (s.put dst v)) : hList P ops dr K (⟨dst, .call ⟨.value g, l.toArray, ts⟩, ty, pos, after, guard⟩ :: rest) R s := by
  refine hs_h hw hm hg ha (hp i) (fun x hx j hj => absurd hj (AV.closed_of (List.all_eq_true.1 hac x hx) j)) (fun k' cs' h' => by cases h') (fun i' r' h' => ?_) (fun k' cs' x j h' hx hj => by cases h') hd ?_
  · obtain ⟨rfl, rfl⟩ := row1_iff h'; exact hi
  · rintro v m' R' ⟨r', rfl, rfl, hq⟩
    refine ⟨fun k' c h' => (by cases h'), ?_⟩
    rw [show ovr (row1 i r') R = upd R i r' from ovr_upd R i r', over_noMem]
    exact h v r' hq
theorem hs_r2 (i j : Nat) (hij : i ≠ j) {dst : Option Nat} {f : FuncId} {g : Operand} {ts : Array TypeId} {l : List Operand} {args : List AV} {r : HRow} {post : AV → HRow → Prop} [E : Enters P f] (hw : want ops ⟨dst, .call ⟨.value g, l.toArray, ts⟩, ty, pos, after, guard⟩ s = some true) (hm : hotM dr ⟨dst, .call ⟨.value g, l.toArray, ts⟩, ty, pos, after, guard⟩ = true)
    (hg : s.look g = some (vC (.func (.func f) #[] #[]))) (ha : l.map s.look = args.map some) (hp : RCall2 P f args r post) (hi : R i = some r) (hac : args.all AV.closedB = true) (hd : dstB dst s.n = true)
    (h : ∀ v q, post v q → hList P ops dr K rest (upd R j q) (s.put dst v)) : hList P ops dr K (⟨dst, .call ⟨.value g, l.toArray, ts⟩, ty, pos, after, guard⟩ :: rest) R s := by
  refine hs_h hw hm hg ha (hp i j hij) (fun x hx j hj => absurd hj (AV.closed_of (List.all_eq_true.1 hac x hx) j)) (fun k' cs' h' => by cases h') (fun i' r' h' => ?_) (fun k' cs' x j h' hx hj => by cases h') hd ?_
  · obtain ⟨rfl, rfl⟩ := row1_iff h'; exact hi
  · rintro v m' R' ⟨q, rfl, rfl, hq⟩
    refine ⟨fun k' c h' => (by cases h'), ?_⟩
    have e1 : ovr (upd (row1 i r) j q) R = upd R j q := by
      funext x
      unfold row1
      by_cases e : x = j
      · subst e; rw [upd_same]; exact ovr_l (upd_same _ _ _)
      · by_cases e2 : x = i
        · subst e2; rw [upd_ne _ _ e, hi]; exact ovr_l (by rw [upd_ne _ _ e, upd_same])
        · rw [upd_ne _ _ e]; exact ovr_r (by rw [upd_ne _ _ e, upd_ne _ _ e2]; rfl)
    rw [e1, over_noMem]
    exact h v q hq
/-- the address of a field of a row's thing. -/
theorem hs_fld {x : Operand} {t f fo off : Nat} {r : HRow} (i : Nat) [S : FldOf P t f fo] {d : Nat} (hi : R i = some r) (hw : want ops ⟨some d, .fieldAddr t x f, ty, pos, after, guard⟩ s = some true) (hx : s.look x = some (vC (rowPtr r.v off))) (hn : 0 < r.n) (hr : rdD ops dr (some d) = true) (hd : Nat.blt d s.n = true) (h : hList P ops dr K rest R (s.put (some d) (vC (rowPtr r.v (off + fo))))) : hList P ops dr K (⟨some d, .fieldAddr t x f, ty, pos, after, guard⟩ :: rest) R s :=
  hs_read hw (.fld i r off t f fo x hi hn rfl hx S.h) rfl hr hd h
/-- a slice of a row from a thing on, its length, its things. -/
theorem hs_slL {x y : Operand} {t z lo d : Nat} {r : HRow} (i : Nat) [S : SliOf P t z] (hi : R i = some r) (hw : want ops ⟨some d, .slice t x (some y) none none, ty, pos, after, guard⟩ s = some true) (hx : s.look x = some (vC r.v)) (hy : s.look y = some (vC (.int .i64 lo))) (hz : z = r.sz) (hsz : Nat.blt 0 r.sz = true) (h1 : lo ≤ r.n) (hone : (rowSl r.v r.sz lo r.n).oneCell' = true) (hr : rdD ops dr (some d) = true) (hd : Nat.blt d s.n = true) (h : hList P ops dr K rest R (s.put (some d) (vC (rowSl r.v r.sz lo r.n)))) : hList P ops dr K (⟨some d, .slice t x (some y) none none, ty, pos, after, guard⟩ :: rest) R s := by
  subst hz
  exact hs_read hw (.sl i r t lo r.n x (some y) none hi (by simpa [Nat.blt_eq] using hsz) rfl hx (.inr ⟨y, rfl, hy⟩) (.inl ⟨rfl, rfl⟩) h1 (Nat.le_refl _) S.h) rfl hr hd h
theorem hs_lenS {x : Operand} {t z lo hi d : Nat} {r : HRow} (i : Nat) [S : SliOf P t z] (hi' : R i = some r) (hw : want ops ⟨some d, .call ⟨.builtin .len, #[x], #[t]⟩, ty, pos, after, guard⟩ s = some true) (hx : s.look x = some (vC (rowSl r.v r.sz lo hi))) (hsz : Nat.blt 0 r.sz = true) (hr : rdD ops dr (some d) = true) (hd : Nat.blt d s.n = true) (h : hList P ops dr K rest R (s.put (some d) (vI ((hi - lo : Nat) : Int)))) : hList P ops dr K (⟨some d, .call ⟨.builtin .len, #[x], #[t]⟩, ty, pos, after, guard⟩ :: rest) R s :=
  hs_read hw (.lenS i r t z lo hi x hi' (by simpa [Nat.blt_eq] using hsz) rfl hx S.h) rfl hr hd h
theorem hs_idxS {x y : Operand} {t z lo hi d : Nat} {r : HRow} {ik : IntKind} {j : Int} (i : Nat) [S : SliOf P t z] (hi' : R i = some r) (hw : want ops ⟨some d, .indexAddr t x y, ty, pos, after, guard⟩ s = some true) (hx : s.look x = some (vC (rowSl r.v r.sz lo hi))) (hy : s.look y = some (vC (.int ik j))) (hz : z = r.sz) (h0 : 0 ≤ j) (h1 : j < ((hi - lo : Nat) : Int)) (h2 : hi ≤ r.n) (hr : rdD ops dr (some d) = true) (hd : Nat.blt d s.n = true) (h : hList P ops dr K rest R (s.put (some d) (vC (rowPtr r.v ((lo + j.toNat) * r.sz))))) : hList P ops dr K (⟨some d, .indexAddr t x y, ty, pos, after, guard⟩ :: rest) R s := by
  subst hz
  exact hs_read hw (.idxS i r t lo hi x y ik j hi' rfl hx hy h0 h1 h2 S.h) rfl hr hd h
def rowTwo (r q : HRow) : Rws := fun i => if i = 0 then some r else if i = 1 then some q else none
theorem rowTwo_le {R : Rws} {r q : HRow} (h0 : R 0 = some r) (h1 : R 1 = some q) : RLe (rowTwo r q) R := by
  intro i p h
  unfold rowTwo at h
  by_cases e0 : i = 0
  · subst e0; simp at h; subst h; exact h0
  · by_cases e1 : i = 1
    · subst e1; simp at h; subst h; exact h1
    · simp [e0, e1] at h
end
/-- of a world: what becomes of the row that was handed in. -/
structure RowTo (W W' : World) (r r' : HRow) (U : Nat → Prop) : Prop where
  grown : W.grownBy W' r.v.ownBlock
  row : ∃ xs, W'.ownsRow 0 r'.e r'.sz r'.v r'.n xs ∧ RpL U id W r'.ys xs
  cl : ∀ y ∈ r'.ys, y.closedB = true
  blk : ∀ g, r'.v.ownBlock = some g → r.v.ownBlock = some g ∨ W.heap.size ≤ g
theorem RpL.toId {U : Nat → Prop} {ρ ρ' : Nat → Nat} {W : World} {xs : List AC} {vs : List Value} (hc : ∀ y ∈ xs, y.closedB = true) (h : RpL U ρ W xs vs) : RpL U ρ' W xs vs := h.closed_map hc fun b hb _ => ⟨hb, rfl⟩
theorem RpVs.toId {U : Nat → Prop} {ρ : Nat → Nat} {W : World} {args : List AV} {vs : List Value} (hc : args.all AV.closedB = true) (h : RpVs U ρ W args vs) : RpVs U id W args vs :=
  ⟨h.1, fun i x v hx hv => Rel.id_of_closed (AV.closed_of (List.all_eq_true.1 hc x (List.mem_of_getElem? hx))) (h.2 i x v hx hv)⟩
theorem kept_free {U : Nat → Prop} {W W' : World} {row : Option Nat} (hg : W.grownBy W' row) (hr : ∀ g, row = some g → ¬ U g) : ∀ b, U b → b < W.heap.size → (U b ∧ b < W.heap.size) ∧ W'.heap[b]? = W.heap[b]? := fun b hb hl =>
  ⟨⟨hb, hl⟩, hg.block b hl fun e => hr b e.symm hb⟩
theorem rcall_world {P : Program} {f : FuncId} {args : List AV} {r : HRow} {post : AV → HRow → Prop} (hac : args.all AV.closedB = true) (hsz : 0 < r.sz) (hps : ∀ rv r', post rv r' → 0 < r'.sz)
    (h : ∀ (U : Nat → Prop) (W : World) (vs : List Value) (xs : List Value), W.ownsRow 0 r.e r.sz r.v r.n xs → RpL U id W r.ys xs → (∀ y ∈ r.ys, y.closedB = true) → (∀ g, r.v.ownBlock = some g → ¬ U g) → RpVs U id W args vs →
      Calls P f vs.toArray W fun e W' => ∃ v rv r', e = .returned v ∧ post rv r' ∧ RowTo W W' r r' U ∧ RpV U id W rv v ∧ rv.closedB = true) : RCall P f args r post := by
  intro i
  refine ⟨fun U ρ W vs hH hown hvs => ?_⟩
  obtain ⟨hok0, hcl, hnu0⟩ := hH.rows i r (by unfold row1; exact upd_same _ _ _)
  obtain ⟨xs, ho, hl⟩ := hok0.row hsz
  have hnu := fun g hg => hnu0 g (.inl hg)
  refine (h U W vs xs ho (hl.toId hcl) hcl (fun g hg => (hnu g hg).1) (hvs.toId hac)).mono ?_
  rintro e W' ⟨v, rv, r', rfl, hp, ⟨hgr, ⟨ys, ho', hl'⟩, hcl', hblk⟩, hrv, hrc⟩
  have kf := kept_free hgr fun g hg => (hnu g hg).1
  have hat : ∀ b, HotAt ρ noMem (row1 i r) b ↔ r.v.ownBlock = some b := fun b => by
    constructor
    · rintro (⟨k, cs, hk, _⟩ | ⟨j, q, hj, hg⟩)
      · cases hk
      · obtain ⟨rfl, rfl⟩ := row1_iff hj; exact HRow.own_row hg hsz
    · intro hg; exact .inr ⟨i, r, by unfold row1; exact upd_same _ _ _, .inl hg⟩
  refine ⟨v, rv, noMem, row1 i r', ρ, fun b => U b ∧ b < W.heap.size, rfl, ⟨r', rfl, rfl, hp⟩, ⟨fun k cs hk => (by cases hk), fun k cs x j hk => (by cases hk), fun k k' cs cs' hk => (by cases hk), fun j q hj => ?_, fun j k q q' hj hk hjk => ?_⟩, ?_, fun j hj => absurd hj (AV.closed_of hrc j), fun k cs hk => (by cases hk), fun j q hj => ?_, fun b hb => .inl hb.1, ?_, ⟨hgr.os, hgr.tape, hgr.output, hgr.size, fun b hb => hgr.block b hb.1 fun e => hb.2 ((hat b).2 e.symm)⟩⟩
  · obtain ⟨rfl, rfl⟩ := row1_iff hj
    refine ⟨.inl ⟨hps _ _ hp, ys, ho', hl'.closed_map hcl' kf⟩, hcl', fun g hg => ⟨fun hu => ?_, fun k cs hk => (by cases hk)⟩⟩
    rcases hblk g (HRow.own_row hg (hps _ _ hp)) with q | q
    · exact (hnu g q).1 hu.1
    · omega
  · obtain ⟨rfl, _⟩ := row1_iff hj
    obtain ⟨rfl, _⟩ := row1_iff hk
    exact absurd rfl hjk
  · exact hrv.map kf fun j hj => absurd hj (AV.closed_of hrc j)
  · obtain ⟨rfl, rfl⟩ := row1_iff hj
    exact ⟨r', by unfold row1; exact upd_same _ _ _⟩
  · rintro b (⟨k, cs, hk, _⟩ | ⟨j, q, hj, hg⟩)
    · cases hk
    · obtain ⟨rfl, rfl⟩ := row1_iff hj
      rcases hblk b (HRow.own_row hg (hps _ _ hp)) with z | z
      · exact .inl ((hat b).2 z)
      · exact .inr z
/-- of a world: another row is made. -/
structure RowNew (W W' : World) (q : HRow) (U : Nat → Prop) : Prop where
  grown : W.grownBy W' none
  row : ∃ xs, W'.ownsRow 0 q.e q.sz q.v q.n xs ∧ RpL U id W q.ys xs
  cl : ∀ y ∈ q.ys, y.closedB = true
  blk : ∀ g, q.v.ownBlock = some g → W.heap.size ≤ g
theorem rcall2_world {P : Program} {f : FuncId} {args : List AV} {r : HRow} {post : AV → HRow → Prop} (hac : args.all AV.closedB = true) (hsz : 0 < r.sz) (hps : ∀ rv q, post rv q → 0 < q.sz)
    (h : ∀ (U : Nat → Prop) (W : World) (vs : List Value) (xs : List Value), W.ownsRow 0 r.e r.sz r.v r.n xs → RpL U id W r.ys xs → (∀ y ∈ r.ys, y.closedB = true) → RpVs U id W args vs →
      Calls P f vs.toArray W fun e W' => ∃ v rv q, e = .returned v ∧ post rv q ∧ RowNew W W' q U ∧ RpV U id W rv v ∧ rv.closedB = true) : RCall2 P f args r post := by
  intro i j hij
  refine ⟨fun U ρ W vs hH hown hvs => ?_⟩
  have hi : row1 i r i = some r := by unfold row1; exact upd_same _ _ _
  obtain ⟨hok0, hcl, hnu⟩ := hH.rows i r hi
  obtain ⟨xs, ho, hl⟩ := hok0.row hsz
  refine (h U W vs xs ho (hl.toId hcl) hcl (hvs.toId hac)).mono ?_
  rintro e W' ⟨v, rv, q, rfl, hp, ⟨hgr, ⟨ys, ho', hl'⟩, hcl', hblk⟩, hrv, hrc⟩
  have kf := kept_free (U := U) hgr fun g hg => by cases hg
  have two : ∀ {k : Nat} {p : HRow}, upd (row1 i r) j q k = some p → (k = j ∧ p = q) ∨ (k = i ∧ p = r) := fun {k p} h => by
    by_cases e : k = j
    · subst e; rw [upd_same] at h; cases h; exact .inl ⟨rfl, rfl⟩
    · rw [upd_ne _ _ e] at h; exact .inr (row1_iff h)
  have rl : ∀ g, r.own g → g < W.heap.size := fun g hg => hok0.lt hg
  have hqs := hps _ _ hp
  have hblk := fun g (hg : q.own g) => hblk g (HRow.own_row hg hqs)
  refine ⟨v, rv, noMem, upd (row1 i r) j q, ρ, fun b => U b ∧ b < W.heap.size, rfl, ⟨q, rfl, rfl, hp⟩, ⟨fun k cs hk => (by cases hk), fun k cs x j hk => (by cases hk), fun k k' cs cs' hk => (by cases hk), fun k p hk => ?_, fun k k' p p' hk hk' hne => ?_⟩, ?_, fun j hj => absurd hj (AV.closed_of hrc j), fun k cs hk => (by cases hk), fun k p hk => ?_, fun b hb => .inl hb.1, ?_, ⟨hgr.os, hgr.tape, hgr.output, hgr.size, fun b hb => hgr.block b hb.1 fun e => by cases e⟩⟩
  · rcases two hk with ⟨rfl, rfl⟩ | ⟨rfl, rfl⟩
    · exact ⟨.inl ⟨hqs, ys, ho', hl'.closed_map hcl' kf⟩, hcl', fun g hg => ⟨fun hu => by have := hblk g hg; omega, fun k cs hk => (by cases hk)⟩⟩
    · exact ⟨hok0.kept hcl (fun g hg => hgr.block g (rl g hg) fun e => (by cases e)) hgr.size kf, hcl, fun g hg => ⟨fun hu => (hnu g hg).1 hu.1, fun k cs hk => (by cases hk)⟩⟩
  · intro g hg hg'
    rcases two hk with ⟨rfl, rfl⟩ | ⟨rfl, rfl⟩
    · rcases two hk' with ⟨rfl, rfl⟩ | ⟨rfl, rfl⟩
      · exact hne rfl
      · have := hblk g hg; have := rl g hg'; omega
    · rcases two hk' with ⟨rfl, rfl⟩ | ⟨rfl, rfl⟩
      · have := hblk g hg'; have := rl g hg; omega
      · exact hne rfl
  · exact hrv.map kf fun j hj => absurd hj (AV.closed_of hrc j)
  · obtain ⟨rfl, rfl⟩ := row1_iff hk
    exact ⟨p, by rw [upd_ne _ _ hij]; exact hi⟩
  · rintro b (⟨k, cs, hk, _⟩ | ⟨k, p, hk, hg⟩)
    · cases hk
    · rcases two hk with ⟨rfl, rfl⟩ | ⟨rfl, rfl⟩
      · exact .inr (hblk b hg)
      · exact .inl (.inr ⟨_, _, hi, hg⟩)
/-- another thing is told of an own block, of which it holds, too. -/
theorem Rel.retellm {B : Base} {A : Nat → Prop} {s : AS} {ρ : Nat → Nat} {a : Act} {w : World} {k : Nat} {cs ds : List AC} (h : Rel B A s ρ a w) (hk : s.mem k = some cs) (hr : ∀ vs, RpL (s.free A ρ) ρ w cs vs → RpL (s.free A ρ) ρ w ds vs) : Rel B A (s.setm k ds) ρ a w := by
  obtain ⟨vs, ty, g1, g2, _⟩ := h.mm k cs hk
  have := h.set hk (hr vs g2)
  rwa [setRow_self w (ρ k) vs.toArray ty (0, 0) g1] at this
/-- a row is given up, and told by what an own block holds, too. -/
theorem rwp_coolm (i d k off : Nat) {P : Program} {R : Rws} {s : AS} {c : Code} {Q : Exit → Rws → AS → Prop} {cs : List AC} (r : HRow) (hi : R i = some r) (hd : s.tmps d = some (vC r.v)) (hk : s.mem k = some cs) (hc : cs[off]? = some (.c r.v)) (h : RWp P c Q (fun j => if j = i then none else R j) ((s.put (some d) (vS r.sz r.n r.ys)).setm k (cs.set off (.p (SlP r.sz r.n r.ys))))) (hsz : 0 < r.sz := by first | decide | exact Nat.zero_lt_succ _) : RWp P c Q R s := by
  rintro ok B0 A0 a w ⟨A, ρ, hR⟩
  have hdn : d < s.n := by
    obtain ⟨v, h1, _⟩ := hR.rel.tm d _ hd
    rw [← hR.rel.size]
    exact (Array.getElem?_eq_some_iff.1 h1).1
  obtain ⟨A', hR4⟩ := hR.cool i d r hi hsz hd hdn
  obtain ⟨v, v1, v2⟩ := hR.rel.tm d _ hd
  obtain ⟨v', w1, w2⟩ := hR4.rel.tm d _ (upd_same _ _ _)
  rw [v1] at w1
  cases w1
  obtain ⟨rfl, _⟩ := v2
  have hk4 : (s.put (some d) (vS r.sz r.n r.ys)).mem k = some cs := hk
  have hR5 := hR4.next (hR4.rel.retellm (ds := cs.set off (.p (SlP r.sz r.n r.ys))) hk4 fun vs hv => ⟨by rw [List.length_set]; exact hv.1, fun j x u hx hu => by
    rw [List.getElem?_set] at hx
    by_cases e : off = j
    · subst e
      rw [if_pos rfl] at hx
      split at hx
      · cases hx
        obtain ⟨rfl, _⟩ := hv.2 off _ u hc hu
        exact w2
      · cases hx
    · rw [if_neg e] at hx
      exact hv.2 j x u hx hu⟩)
  have ok4 : (s.put (some d) (vS r.sz r.n r.ys)).Ok := ok.put fun j hj => absurd hj (noownp _ j)
  refine h (ok4.setm fun x hx j hj => ?_) B0 A0 a w ⟨A', ρ, hR5⟩
  rcases List.mem_or_eq_of_mem_set hx with hx | rfl
  · exact ok4.mm k cs x j hk4 hx hj
  · cases hj
end Go.Proofs.Ytaennpehlhgggaa

namespace Go.Proofs.Ytaennpehlhgggaa
open Go.RowKit
set_option linter.unusedVariables false
set_option linter.unusedSimpArgs false
/-- is a number not too far? -/
def fB (n : Int) : Bool := decide (-536870912 ≤ n) && decide (n ≤ 536870912)
def rB (x y : Int) : Bool := fB x && fB y
/-- the product of three points. -/
def cr (o1 o2 a1 a2 b1 b2 : Int) : Int := (a1 - o1) * (b2 - o2) - (a2 - o2) * (b1 - o1)
/-- the product, or 0, if a point is not right. -/
def crV (o1 o2 a1 a2 b1 b2 : Int) : Int := if (rB o1 o2 && rB a1 a2 && rB b1 b2) = true then cr o1 o2 a1 a2 b1 b2 else 0
/-- the sign of a number. -/
def sgn4 (n : Int) : Int := if n < 0 then -1 else if 0 < n then 1 else 0
/-! boxes -/
abbrev imin (a b : Int) : Int := if b < a then b else a
abbrev imax (a b : Int) : Int := if b > a then b else a
def hB (l1 l2 h1 h2 p1 p2 : Int) : Bool := decide (l1 ≤ p1) && decide (p1 ≤ h1) && decide (l2 ≤ p2) && decide (p2 ≤ h2)
/-- is p on the segment from a to b? -/
def onB (p1 p2 a1 a2 b1 b2 : Int) : Bool := rB p1 p2 && rB a1 a2 && rB b1 b2 && hB (imin a1 b1) (imin a2 b2) (imax a1 b1) (imax a2 b2) p1 p2 && decide (cr a1 a2 b1 b2 p1 p2 = 0)
end Go.Proofs.Ytaennpehlhgggaa

namespace Go.Proofs.Ytaennpehlhgggaa
set_option linter.unusedVariables false
/-- is a point right in layer 5? -/
def rB5 (x y : Int) : Bool := decide (x ≤ 134217728) && decide (y ≤ 134217728) && decide (-134217728 ≤ x) && decide (-134217728 ≤ y)
theorem rB5_iff {x y : Int} : rB5 x y = true ↔ (-134217728 ≤ x ∧ x ≤ 134217728) ∧ -134217728 ≤ y ∧ y ≤ 134217728 := by
  unfold rB5
  simp only [Bool.and_eq_true, decide_eq_true_eq]
  omega
/-- the first point is no greater than the second. -/
def lx (a1 a2 b1 b2 : Int) : Prop := a1 < b1 ∨ (a1 = b1 ∧ a2 ≤ b2)
instance (a1 a2 b1 b2 : Int) : Decidable (lx a1 a2 b1 b2) := by unfold lx; exact inferInstance
theorem lx.trans {a1 a2 b1 b2 c1 c2 : Int} (h : lx a1 a2 b1 b2) (k : lx b1 b2 c1 c2) : lx a1 a2 c1 c2 := by unfold lx at *; omega
/-- p is on the segment from s to t, s no greater than t. -/
def inBox (p1 p2 a1 a2 b1 b2 : Int) : Prop := imin a1 b1 ≤ p1 ∧ p1 ≤ imax a1 b1 ∧ imin a2 b2 ≤ p2 ∧ p2 ≤ imax a2 b2
/-- p is on the segment from s to t. -/
def On (p1 p2 s1 s2 t1 t2 : Int) : Prop := cr s1 s2 t1 t2 p1 p2 = 0 ∧ inBox p1 p2 s1 s2 t1 t2
/-- how two directions turn. -/
def par (s1 s2 s3 s4 t1 t2 t3 t4 : Int) : Int := (s3 - s1) * (t4 - t2) - (s4 - s2) * (t3 - t1)
/-- is n over d between two numbers? -/
def bw (n d a b : Int) : Prop := imin a b * d ≤ n ∧ n ≤ imax a b * d
/-! what two segments have in common -/
structure Mt where
  k : Int
  n : Int
  d : Int
  m : Int
  e : Int
  p1 : Int
  p2 : Int
  q1 : Int
  q2 : Int
def noM : Mt := ⟨0, 0, 0, 0, 0, 0, 0, 0, 0⟩
def plM (n d m e : Int) : Mt := ⟨1, n, d, m, e, 0, 0, 0, 0⟩
def alM (p1 p2 q1 q2 : Int) : Mt := ⟨2, 0, 0, 0, 0, p1, p2, q1, q2⟩
def nr1 (n d : Int) : Int := if d < 0 then -n else n
def nr2 (d : Int) : Int := if d < 0 then -d else d
/-- the lines' numbers. -/
def nX (a1 a2 b1 b2 c1 c2 d1 d2 : Int) : Int := ((b2 - a2) * a1 + (a1 - b1) * a2) * (c1 - d1) - (a1 - b1) * ((d2 - c2) * c1 + (c1 - d1) * c2)
def nY (a1 a2 b1 b2 c1 c2 d1 d2 : Int) : Int := (b2 - a2) * ((d2 - c2) * c1 + (c1 - d1) * c2) - ((b2 - a2) * a1 + (a1 - b1) * a2) * (d2 - c2)
def wD (a1 a2 b1 b2 c1 c2 d1 d2 : Int) : Int := (b2 - a2) * (c1 - d1) - (a1 - b1) * (d2 - c2)
section
variable (a1 a2 b1 b2 c1 c2 d1 d2 : Int)
end
/-- two lines of other directions meet within both segments. -/
def four (a1 a2 b1 b2 c1 c2 d1 d2 x y d : Int) : Prop := bw x d a1 b1 ∧ bw y d a2 b2 ∧ bw x d c1 d1 ∧ bw y d c2 d2
instance (n d a b : Int) : Decidable (bw n d a b) := by unfold bw; exact inferInstance
instance (a1 a2 b1 b2 c1 c2 d1 d2 x y d : Int) : Decidable (four a1 a2 b1 b2 c1 c2 d1 d2 x y d) := by unfold four; exact inferInstance
def meetW (a1 a2 b1 b2 c1 c2 d1 d2 x y d : Int) : Mt := if four a1 a2 b1 b2 c1 c2 d1 d2 x y d then plM x d y d else noM
def meetN (a1 a2 b1 b2 c1 c2 d1 d2 : Int) : Mt :=
  meetW a1 a2 b1 b2 c1 c2 d1 d2 (nr1 (nX a1 a2 b1 b2 c1 c2 d1 d2) (wD a1 a2 b1 b2 c1 c2 d1 d2)) (nr1 (nY a1 a2 b1 b2 c1 c2 d1 d2) (wD a1 a2 b1 b2 c1 c2 d1 d2)) (nr2 (wD a1 a2 b1 b2 c1 c2 d1 d2))
/-- both above 0, or both below. -/
def same (m n : Int) : Prop := (0 < m ∧ 0 < n) ∨ (m < 0 ∧ n < 0)
instance (m n : Int) : Decidable (same m n) := by unfold same; exact inferInstance
/-! the lesser, and the greater, of two points -/
def lo1 (a1 a2 b1 b2 : Int) : Int := if lx a1 a2 b1 b2 then a1 else b1
def lo2 (a1 a2 b1 b2 : Int) : Int := if lx a1 a2 b1 b2 then a2 else b2
def hi1 (a1 a2 b1 b2 : Int) : Int := if lx a1 a2 b1 b2 then b1 else a1
def hi2 (a1 a2 b1 b2 : Int) : Int := if lx a1 a2 b1 b2 then b2 else a2
theorem on_comm {p1 p2 a1 a2 b1 b2 : Int} : On p1 p2 b1 b2 a1 a2 ↔ On p1 p2 a1 a2 b1 b2 := by
  unfold On inBox
  have e : cr b1 b2 a1 a2 p1 p2 = - cr a1 a2 b1 b2 p1 p2 := by unfold cr; grind
  have m : ∀ x y : Int, imin x y = imin y x := fun x y => by unfold imin; split <;> split <;> omega
  have n : ∀ x y : Int, imax x y = imax y x := fun x y => by unfold imax; split <;> split <;> omega
  rw [e, m a1, m a2, n a1, n a2]
  constructor <;> rintro ⟨h, k⟩ <;> exact ⟨by omega, k⟩
instance (p1 p2 a1 a2 b1 b2 : Int) : Decidable (inBox p1 p2 a1 a2 b1 b2) := by unfold inBox; exact inferInstance
instance (p1 p2 a1 a2 b1 b2 : Int) : Decidable (On p1 p2 a1 a2 b1 b2) := by unfold On; exact inferInstance
def inlP (f1 f2 g1 g2 : Int) : Mt := if f1 = g1 ∧ f2 = g2 then plM f1 1 f2 1 else alM f1 f2 g1 g2
def inl (s1 s2 s3 s4 t1 t2 t3 t4 : Int) : Mt :=
  if On (hi1 s1 s2 t1 t2) (hi2 s1 s2 t1 t2) s1 s2 s3 s4 ∧ On (hi1 s1 s2 t1 t2) (hi2 s1 s2 t1 t2) t1 t2 t3 t4 then inlP (hi1 s1 s2 t1 t2) (hi2 s1 s2 t1 t2) (lo1 s3 s4 t3 t4) (lo2 s3 s4 t3 t4) else noM
def ok5 (x y : Int) : Bool := decide (x ≤ 134217728) && decide (y ≤ 134217728) && decide (-134217728 ≤ x) && decide (-134217728 ≤ y)
/-- the sorted segments in one line. -/
def inlS (a1 a2 b1 b2 c1 c2 d1 d2 : Int) : Mt := inl (lo1 a1 a2 b1 b2) (lo2 a1 a2 b1 b2) (hi1 a1 a2 b1 b2) (hi2 a1 a2 b1 b2) (lo1 c1 c2 d1 d2) (lo2 c1 c2 d1 d2) (hi1 c1 c2 d1 d2) (hi2 c1 c2 d1 d2)
/-- what two segments of right points have in common. -/
def meetV (a1 a2 b1 b2 c1 c2 d1 d2 : Int) : Mt := if wD a1 a2 b1 b2 c1 c2 d1 d2 = 0 then inlS a1 a2 b1 b2 c1 c2 d1 d2 else meetN a1 a2 b1 b2 c1 c2 d1 d2
/-- by the ends' sides: s, t in order. -/
def meetS (s1 s2 s3 s4 t1 t2 t3 t4 A B C D : Int) : Mt :=
  if A = B then inl s1 s2 s3 s4 t1 t2 t3 t4
  else if same A B ∨ same C D then noM
  else plM (nr1 (t3 * A - t1 * B) (A - B)) (nr2 (A - B)) (nr1 (t4 * A - t2 * B) (A - B)) (nr2 (A - B))
/-! the least, and the greatest, of a row -/
def lt' (a b : Int × Int) : Prop := a.1 < b.1 ∨ (a.1 = b.1 ∧ a.2 < b.2)
instance (a b : Int × Int) : Decidable (lt' a b) := by unfold lt'; exact inferInstance
def lea (a b : Int × Int) : Int × Int := if lt' a b then a else b
def mos (a b : Int × Int) : Int × Int := if lea a b = a then b else a
/-- the ends that are on both segments. -/
def ends (a1 a2 b1 b2 c1 c2 d1 d2 : Int) : List (Int × Int) := [(a1, a2), (b1, b2), (c1, c2), (d1, d2)].filter fun p => decide (On p.1 p.2 a1 a2 b1 b2) && decide (On p.1 p.2 c1 c2 d1 d2)
def rowM : List (Int × Int) → Mt
  | [] => noM
  | x :: l => inlP (l.foldl lea x).1 (l.foldl lea x).2 (l.foldl mos x).1 (l.foldl mos x).2
end Go.Proofs.Ytaennpehlhgggaa

namespace Go.Proofs.Ytaennpehlhgggaa
open Go.RowKit
set_option linter.unusedVariables false
set_option linter.unusedSimpArgs false
set_option maxRecDepth 100000 in
set_option maxHeartbeats 4000000 in
theorem p_r5Right {x y : Int} {b : Bool} (hb : rB5 x y = b) : PCall Try.prog 21 [vP x y] (vB b) := by
  have cs : (x ≤ 134217728 ∧ y ≤ 134217728 ∧ -134217728 ≤ x ∧ -134217728 ≤ y ∧ b = true) ∨ (x ≤ 134217728 ∧ y ≤ 134217728 ∧ -134217728 ≤ x ∧ ¬ -134217728 ≤ y ∧ b = false) ∨ (x ≤ 134217728 ∧ y ≤ 134217728 ∧ ¬ -134217728 ≤ x ∧ b = false) ∨ (x ≤ 134217728 ∧ ¬ y ≤ 134217728 ∧ b = false) ∨ (¬ x ≤ 134217728 ∧ b = false) := by
    rw [← hb]; unfold rB5
    by_cases q1 : x ≤ 134217728 <;> by_cases q2 : y ≤ 134217728 <;> by_cases q3 : -134217728 ≤ x <;> by_cases q4 : -134217728 ≤ y <;> simp [q1, q2, q3, q4]
  clear hb
  rcases cs with ⟨q1, q2, q3, q4, rfl⟩ | ⟨q1, q2, q3, q4, rfl⟩ | ⟨q1, q2, q3, rfl⟩ | ⟨q1, q2, rfl⟩ | ⟨q1, rfl⟩
  all_goals
    refine pcall_body (f := 21) Try.func21 rfl rfl rfl rfl ?_
    (repeat (first | ((with_reducible apply al_q); exact rfl) | ((with_reducible apply al_guard_b (c := true)); exact rfl; exact rfl; (first | assumption | exact decide_eq_true (by omega) | (simp only [Bool.not_eq_true', decide_eq_false_iff_not, decide_eq_true_eq, Bool.not_eq_false']; (first | done | omega)))) | ((with_reducible apply al_guard_b (c := false)); exact rfl; exact rfl; (first | assumption | exact decide_eq_false (by omega) | (simp only [Bool.not_eq_true', decide_eq_false_iff_not, decide_eq_true_eq, Bool.not_eq_false']; (first | done | omega)))) | ((with_reducible apply awp_seq)) | ((with_reducible apply athen_normal)) | ((with_reducible apply awp_region)) | ((with_reducible apply al_nil)) | ((with_reducible apply awp_ret))))
    (first | (refine apost_ret rfl (resl_tmp rfl resl_nil) ?_))
    first | exact AV.Le.refl _ | exact AV.Le.of_eq (by rw [decide_eq_true q4]; rfl) | exact AV.Le.of_eq (by rw [decide_eq_false q4]; rfl)
theorem NB.i64 {n : Int} (h0 : -9223372036854775808 ≤ n) (h1 : n < 9223372036854775808) : NB 5 n := by unfold NB; omega
end Go.Proofs.Ytaennpehlhgggaa

namespace Go.Proofs.Ytaennpehlhgggaa
set_option linter.unusedVariables false
/-- a place on the way: n over d, left itself or not. -/
structure Bd where
  n : Int
  d : Int
  own : Bool
structure Pa where
  f : Bd
  t : Bd
def cmB (x y : Bd) : Int := icmp (x.n * y.d) (y.n * x.d)
def laB (x y : Bd) : Bd := if 0 < cmB x y ∨ (cmB x y = 0 ∧ y.own = true) then x else y
def eaB (x y : Bd) : Bd := if cmB x y < 0 ∨ (cmB x y = 0 ∧ y.own = true) then x else y
def kpB (p : Pa) (u v : Int) (own : Bool) : Pa :=
  if 0 < v - u then ⟨laB p.f ⟨-u, v - u, own⟩, p.t⟩
  else if v - u < 0 then ⟨p.f, eaB p.t ⟨u, -(v - u), own⟩⟩
  else if u < 0 ∨ (u = 0 ∧ own = false) then ⟨⟨1, 1, false⟩, ⟨0, 1, false⟩⟩ else p
def anB (p : Pa) : Bool := decide (cmB p.f p.t < 0) || (decide (cmB p.f p.t = 0) && p.f.own && p.t.own)
def alB : Pa := ⟨⟨0, 1, true⟩, ⟨1, 1, true⟩⟩
theorem ic_lt (x y : Int) : icmp x y < 0 ↔ x < y := by unfold icmp; split <;> (try split) <;> omega
theorem ic_gt (x y : Int) : 0 < icmp x y ↔ y < x := by unfold icmp; split <;> (try split) <;> omega
theorem ic_eq (x y : Int) : icmp x y = 0 ↔ x = y := by unfold icmp; split <;> (try split) <;> omega
/-- is n over d not ahead of a bound; not behind it? -/
def Aft (x : Bd) (n d : Int) : Prop := x.n * d < n * x.d ∨ (x.own = true ∧ x.n * d = n * x.d)
def Bef (y : Bd) (n d : Int) : Prop := n * y.d < y.n * d ∨ (y.own = true ∧ n * y.d = y.n * d)
def InP (p : Pa) (n d : Int) : Prop := Aft p.f n d ∧ Bef p.t n d
theorem mul_lt {a b c : Int} (h : a < b) (hc : 0 < c) : a * c < b * c := Int.mul_lt_mul_of_pos_right h hc
theorem lt_mul {a b c : Int} (h : a * c < b * c) (hc : 0 < c) : a < b := Int.lt_of_mul_lt_mul_right h (by omega)
theorem eq_mul {a b c : Int} (h : a * c = b * c) (hc : 0 < c) : a = b := Int.eq_of_mul_eq_mul_right (by omega) h
/-- fractions: no greater, no greater. -/
theorem fr_ll {a b c d e f : Int} (hb : 0 < b) (hd : 0 < d) (hf : 0 < f) (h : a * d < c * b) (k : c * f < e * d) : a * f < e * b := by
  have h1 := mul_lt h hf
  have h2 := mul_lt k hb
  refine lt_mul (c := d) ?_ hd
  have e1 : a * d * f = a * f * d := by grind
  have e2 : c * b * f = c * f * b := by grind
  have e3 : e * d * b = e * b * d := by grind
  omega
theorem fr_el {a b c d e f : Int} (hb : 0 < b) (hd : 0 < d) (hf : 0 < f) (h : a * d = c * b) (k : c * f < e * d) : a * f < e * b := by
  have h2 := mul_lt k hb
  refine lt_mul (c := d) ?_ hd
  have e1 : a * d * f = a * f * d := by grind
  have e2 : c * b * f = c * f * b := by grind
  have e3 : e * d * b = e * b * d := by grind
  have h1 : a * d * f = c * b * f := by rw [h]
  omega
theorem fr_le {a b c d e f : Int} (hb : 0 < b) (hd : 0 < d) (hf : 0 < f) (h : a * d < c * b) (k : c * f = e * d) : a * f < e * b := by
  have h1 := mul_lt h hf
  refine lt_mul (c := d) ?_ hd
  have e1 : a * d * f = a * f * d := by grind
  have e2 : c * b * f = c * f * b := by grind
  have e3 : e * d * b = e * b * d := by grind
  have h2 : c * f * b = e * d * b := by rw [k]
  omega
theorem fr_ee {a b c d e f : Int} (hb : 0 < b) (hd : 0 < d) (hf : 0 < f) (h : a * d = c * b) (k : c * f = e * d) : a * f = e * b := by
  refine eq_mul (c := d) ?_ hd
  have e1 : a * d * f = a * f * d := by grind
  have e2 : c * b * f = c * f * b := by grind
  have e3 : e * d * b = e * b * d := by grind
  have h1 : a * d * f = c * b * f := by rw [h]
  have h2 : c * f * b = e * d * b := by rw [k]
  omega
theorem cm_tri (x y : Bd) : (x.n * y.d < y.n * x.d ∧ cmB x y < 0) ∨ (x.n * y.d = y.n * x.d ∧ cmB x y = 0) ∨ (y.n * x.d < x.n * y.d ∧ 0 < cmB x y) := by
  have h1 := ic_lt (x.n * y.d) (y.n * x.d)
  have h2 := ic_gt (x.n * y.d) (y.n * x.d)
  have h3 := ic_eq (x.n * y.d) (y.n * x.d)
  unfold cmB
  omega
theorem la_cases (x y : Bd) : (laB x y = x ∧ (0 < cmB x y ∨ (cmB x y = 0 ∧ y.own = true))) ∨ (laB x y = y ∧ ¬ (0 < cmB x y ∨ (cmB x y = 0 ∧ y.own = true))) := by
  unfold laB
  split
  · rename_i h; exact .inl ⟨rfl, h⟩
  · rename_i h; exact .inr ⟨rfl, h⟩
theorem ea_cases (x y : Bd) : (eaB x y = x ∧ (cmB x y < 0 ∨ (cmB x y = 0 ∧ y.own = true))) ∨ (eaB x y = y ∧ ¬ (cmB x y < 0 ∨ (cmB x y = 0 ∧ y.own = true))) := by
  unfold eaB
  split
  · rename_i h; exact .inl ⟨rfl, h⟩
  · rename_i h; exact .inr ⟨rfl, h⟩
theorem aft_la {x y : Bd} {n d : Int} (hx : 0 < x.d) (hy : 0 < y.d) (hd : 0 < d) : Aft (laB x y) n d ↔ Aft x n d ∧ Aft y n d := by
  unfold Aft
  rcases la_cases x y with ⟨e, h⟩ | ⟨e, h⟩ <;> rw [e] <;> rcases cm_tri x y with ⟨t, c⟩ | ⟨t, c⟩ | ⟨t, c⟩
  · omega
  · have ho : y.own = true := by rcases h with h | ⟨_, h⟩ <;> first | exact h | (exfalso; omega)
    refine ⟨fun k => ⟨k, ?_⟩, fun k => k.1⟩
    rcases k with k | ⟨_, k⟩
    · exact .inl (fr_el hy hx hd t.symm k)
    · exact .inr ⟨ho, fr_ee hy hx hd t.symm k⟩
  · refine ⟨fun k => ⟨k, ?_⟩, fun k => k.1⟩
    rcases k with k | ⟨_, k⟩
    · exact .inl (fr_ll hy hx hd t k)
    · exact .inl (fr_le hy hx hd t k)
  · refine ⟨fun k => ⟨?_, k⟩, fun k => k.2⟩
    rcases k with k | ⟨_, k⟩
    · exact .inl (fr_ll hx hy hd t k)
    · exact .inl (fr_le hx hy hd t k)
  · refine ⟨fun k => ⟨?_, k⟩, fun k => k.2⟩
    have ho : ¬ y.own = true := fun q => h (.inr ⟨c, q⟩)
    rcases k with k | ⟨q, k⟩
    · exact .inl (fr_el hx hy hd t k)
    · exact absurd q ho
  · omega
theorem bef_ea {x y : Bd} {n d : Int} (hx : 0 < x.d) (hy : 0 < y.d) (hd : 0 < d) : Bef (eaB x y) n d ↔ Bef x n d ∧ Bef y n d := by
  unfold Bef
  rcases ea_cases x y with ⟨e, h⟩ | ⟨e, h⟩ <;> rw [e] <;> rcases cm_tri x y with ⟨t, c⟩ | ⟨t, c⟩ | ⟨t, c⟩
  · refine ⟨fun k => ⟨k, ?_⟩, fun k => k.1⟩
    rcases k with k | ⟨_, k⟩
    · exact .inl (fr_ll hd hx hy k t)
    · exact .inl (fr_el hd hx hy k t)
  · have ho : y.own = true := by rcases h with h | ⟨_, h⟩ <;> first | exact h | (exfalso; omega)
    refine ⟨fun k => ⟨k, ?_⟩, fun k => k.1⟩
    rcases k with k | ⟨_, k⟩
    · exact .inl (fr_le hd hx hy k t)
    · exact .inr ⟨ho, fr_ee hd hx hy k t⟩
  · omega
  · omega
  · refine ⟨fun k => ⟨?_, k⟩, fun k => k.2⟩
    have ho : ¬ y.own = true := fun q => h (.inr ⟨c, q⟩)
    rcases k with k | ⟨q, k⟩
    · exact .inl (fr_le hd hy hx k t.symm)
    · exact absurd q ho
  · refine ⟨fun k => ⟨?_, k⟩, fun k => k.2⟩
    rcases k with k | ⟨_, k⟩
    · exact .inl (fr_ll hd hy hx k t)
    · exact .inl (fr_el hd hy hx k t)
/-- what goes evenly from u to v is above 0 at n over d, or is 0 there, if that is own. -/
def Hol (u v : Int) (own : Bool) (n d : Int) : Prop := 0 < u * (d - n) + v * n ∨ (own = true ∧ u * (d - n) + v * n = 0)
theorem kp_in {p : Pa} {u v n d : Int} {own : Bool} (hf : 0 < p.f.d) (ht : 0 < p.t.d) (hd : 0 < d) : InP (kpB p u v own) n d ↔ InP p n d ∧ Hol u v own n d := by
  have e0 : u * (d - n) + v * n = (v - u) * n + u * d := by grind
  unfold kpB
  by_cases h1 : 0 < v - u
  · rw [if_pos h1]
    unfold InP
    rw [aft_la hf h1 hd]
    have : Aft ⟨-u, v - u, own⟩ n d ↔ Hol u v own n d := by
      unfold Aft Hol
      simp only
      have e1 : -u * d = -(u * d) := by grind
      have e2 : n * (v - u) = (v - u) * n := by grind
      rw [e0, e1, e2]
      constructor
      · rintro (k | ⟨k, l⟩)
        · exact .inl (by omega)
        · exact .inr ⟨k, by omega⟩
      · rintro (k | ⟨k, l⟩)
        · exact .inl (by omega)
        · exact .inr ⟨k, by omega⟩
    rw [this]
    constructor
    · rintro ⟨⟨a, b⟩, c⟩; exact ⟨⟨a, c⟩, b⟩
    · rintro ⟨⟨a, c⟩, b⟩; exact ⟨⟨a, b⟩, c⟩
  · rw [if_neg h1]
    by_cases h2 : v - u < 0
    · rw [if_pos h2]
      unfold InP
      have hq : (0 : Int) < -(v - u) := by omega
      rw [bef_ea ht hq hd]
      have : Bef ⟨u, -(v - u), own⟩ n d ↔ Hol u v own n d := by
        unfold Bef Hol
        simp only
        have e2 : n * -(v - u) = -((v - u) * n) := by grind
        rw [e0, e2]
        constructor
        · rintro (k | ⟨k, l⟩)
          · exact .inl (by omega)
          · exact .inr ⟨k, by omega⟩
        · rintro (k | ⟨k, l⟩)
          · exact .inl (by omega)
          · exact .inr ⟨k, by omega⟩
      rw [this]
      constructor
      · rintro ⟨a, b, c⟩; exact ⟨⟨a, b⟩, c⟩
      · rintro ⟨⟨a, b⟩, c⟩; exact ⟨a, b, c⟩
    · rw [if_neg h2]
      have e3 : v - u = 0 := by omega
      have e4 : u * (d - n) + v * n = u * d := by rw [e0, e3]; omega
      by_cases h3 : u < 0 ∨ (u = 0 ∧ own = false)
      · rw [if_pos h3]
        have hno : ¬ Hol u v own n d := by
          unfold Hol
          rw [e4]
          rcases h3 with h3 | ⟨rfl, rfl⟩
          · have := mul_lt h3 hd
            omega
          · simp
        refine ⟨fun k => absurd k ?_, fun k => absurd k.2 hno⟩
        unfold InP Aft Bef
        simp
        omega
      · rw [if_neg h3]
        have hyes : Hol u v own n d := by
          unfold Hol
          rw [e4]
          by_cases h4 : u = 0
          · subst h4
            right
            refine ⟨?_, by simp⟩
            cases own with
            | true => rfl
            | false => exact absurd (.inr ⟨rfl, rfl⟩) h3
          · left
            have : 0 < u := by omega
            have := mul_lt this hd
            omega
        exact ⟨fun k => ⟨k, hyes⟩, fun k => k.1⟩
theorem la_d {x y : Bd} (hx : 0 < x.d) (hy : 0 < y.d) : 0 < (laB x y).d := by unfold laB; split <;> assumption
theorem ea_d {x y : Bd} (hx : 0 < x.d) (hy : 0 < y.d) : 0 < (eaB x y).d := by unfold eaB; split <;> assumption
theorem kp_d {p : Pa} {u v : Int} {own : Bool} (hf : 0 < p.f.d) (ht : 0 < p.t.d) : 0 < (kpB p u v own).f.d ∧ 0 < (kpB p u v own).t.d := by
  unfold kpB
  by_cases h1 : 0 < v - u
  · rw [if_pos h1]; exact ⟨la_d hf h1, ht⟩
  · rw [if_neg h1]
    by_cases h2 : v - u < 0
    · rw [if_pos h2]; exact ⟨hf, ea_d ht (by simp only; omega)⟩
    · rw [if_neg h2]
      split
      · exact ⟨by decide, by decide⟩
      · exact ⟨hf, ht⟩
/-- the middle of two. -/
def midN (x y : Bd) : Int := x.n * y.d + y.n * x.d
def midD (x y : Bd) : Int := x.d * y.d + x.d * y.d
theorem mid_in {p : Pa} (hf : 0 < p.f.d) (ht : 0 < p.t.d) (h : p.f.n * p.t.d < p.t.n * p.f.d) : 0 < midD p.f p.t ∧ InP p (midN p.f p.t) (midD p.f p.t) := by
  unfold midN midD InP Aft Bef
  have hm : 0 < p.f.d * p.t.d := Int.mul_pos hf ht
  refine ⟨by omega, .inl ?_, .inl ?_⟩
  · have := mul_lt h hf
    grind
  · have := mul_lt h ht
    grind
theorem an_iff {p : Pa} (hf : 0 < p.f.d) (ht : 0 < p.t.d) : anB p = true ↔ ∃ n d, 0 < d ∧ InP p n d := by
  unfold anB
  simp only [Bool.or_eq_true, Bool.and_eq_true, decide_eq_true_eq]
  constructor
  · intro h
    rcases cm_tri p.f p.t with ⟨t, c⟩ | ⟨t, c⟩ | ⟨t, c⟩
    · obtain ⟨h1, h2⟩ := mid_in hf ht t
      exact ⟨_, _, h1, h2⟩
    · rcases h with h | ⟨⟨_, h1⟩, h2⟩
      · omega
      · exact ⟨p.f.n, p.f.d, hf, .inr ⟨h1, rfl⟩, .inr ⟨h2, t⟩⟩
    · rcases h with h | ⟨⟨h, _⟩, _⟩ <;> omega
  · rintro ⟨n, d, hd, h1, h2⟩
    rcases cm_tri p.f p.t with ⟨t, c⟩ | ⟨t, c⟩ | ⟨t, c⟩
    · exact .inl c
    · right
      refine ⟨⟨c, ?_⟩, ?_⟩
      · rcases h1 with h1 | ⟨h1, _⟩
        · exfalso
          rcases h2 with h2 | ⟨_, h2⟩
          · have := fr_ll hf hd ht h1 h2; omega
          · have := fr_le hf hd ht h1 h2; omega
        · exact h1
      · rcases h2 with h2 | ⟨h2, _⟩
        · exfalso
          rcases h1 with h1 | ⟨_, h1⟩
          · have := fr_ll hf hd ht h1 h2; omega
          · have := fr_el hf hd ht h1 h2; omega
        · exact h2
    · exfalso
      rcases h1 with h1 | ⟨_, h1⟩ <;> rcases h2 with h2 | ⟨_, h2⟩
      · have := fr_ll hf hd ht h1 h2; omega
      · have := fr_le hf hd ht h1 h2; omega
      · have := fr_el hf hd ht h1 h2; omega
      · have := fr_ee hf hd ht h1 h2; omega
/-- the four cuts. -/
def cut4 (u1 v1 u2 v2 u3 v3 u4 v4 : Int) (o p : Bool) : Pa := kpB (kpB (kpB (kpB alB u1 v1 o) u2 v2 o) u3 v3 p) u4 v4 p
theorem cut4_d (u1 v1 u2 v2 u3 v3 u4 v4 : Int) (o p : Bool) : 0 < (cut4 u1 v1 u2 v2 u3 v3 u4 v4 o p).f.d ∧ 0 < (cut4 u1 v1 u2 v2 u3 v3 u4 v4 o p).t.d := by
  unfold cut4
  have h1 := kp_d (p := alB) (u := u1) (v := v1) (own := o) (by decide) (by decide)
  have h2 := kp_d (u := u2) (v := v2) (own := o) h1.1 h1.2
  have h3 := kp_d (u := u3) (v := v3) (own := p) h2.1 h2.2
  exact kp_d (u := u4) (v := v4) (own := p) h3.1 h3.2
theorem al_in {n d : Int} (hd : 0 < d) : InP alB n d ↔ 0 ≤ n ∧ n ≤ d := by
  unfold InP Aft Bef alB
  simp
  omega
theorem cut4_in {u1 v1 u2 v2 u3 v3 u4 v4 n d : Int} {o p : Bool} (hd : 0 < d) : InP (cut4 u1 v1 u2 v2 u3 v3 u4 v4 o p) n d ↔ (0 ≤ n ∧ n ≤ d) ∧ Hol u1 v1 o n d ∧ Hol u2 v2 o n d ∧ Hol u3 v3 p n d ∧ Hol u4 v4 p n d := by
  unfold cut4
  have h1 := kp_d (p := alB) (u := u1) (v := v1) (own := o) (by decide) (by decide)
  have h2 := kp_d (u := u2) (v := v2) (own := o) h1.1 h1.2
  have h3 := kp_d (u := u3) (v := v3) (own := p) h2.1 h2.2
  rw [kp_in h3.1 h3.2 hd, kp_in h2.1 h2.2 hd, kp_in h1.1 h1.2 hd, kp_in (by decide) (by decide) hd, al_in hd]
  simp only [and_assoc]
/-- the segment has a place in the box. -/
def Met (u1 v1 u2 v2 u3 v3 u4 v4 : Int) (o p : Bool) : Prop := ∃ n d, 0 < d ∧ (0 ≤ n ∧ n ≤ d) ∧ Hol u1 v1 o n d ∧ Hol u2 v2 o n d ∧ Hol u3 v3 p n d ∧ Hol u4 v4 p n d
theorem cut4_any (u1 v1 u2 v2 u3 v3 u4 v4 : Int) (o p : Bool) : anB (cut4 u1 v1 u2 v2 u3 v3 u4 v4 o p) = true ↔ Met u1 v1 u2 v2 u3 v3 u4 v4 o p := by
  obtain ⟨h1, h2⟩ := cut4_d u1 v1 u2 v2 u3 v3 u4 v4 o p
  rw [an_iff h1 h2]
  constructor
  · rintro ⟨n, d, hd, h⟩; exact ⟨n, d, hd, (cut4_in hd).1 h⟩
  · rintro ⟨n, d, hd, h⟩; exact ⟨n, d, hd, (cut4_in hd).2 h⟩
end Go.Proofs.Ytaennpehlhgggaa

namespace Go.Proofs.Ytaennpehlhgggaa
open Go.RowKit
set_option linter.unusedVariables false
set_option linter.unusedSimpArgs false
def fB5 (n : Int) : Bool := decide (-134217728 ≤ n) && decide (n ≤ 134217728)
set_option maxRecDepth 100000 in
set_option maxHeartbeats 4000000 in
theorem p_far5 {n : Int} {b : Bool} (hb : fB5 n = b) : PCall Try.prog 98 [vI n] (vB b) := by
  have cs : (-134217728 ≤ n ∧ n ≤ 134217728 ∧ b = true) ∨ (-134217728 ≤ n ∧ ¬ n ≤ 134217728 ∧ b = false) ∨ (¬ -134217728 ≤ n ∧ b = false) := by
    rw [← hb]; unfold fB5
    by_cases h1 : -134217728 ≤ n <;> by_cases h2 : n ≤ 134217728 <;> simp [h1, h2]
  clear hb
  rcases cs with ⟨h1, h2, rfl⟩ | ⟨h1, h2, rfl⟩ | ⟨h1, rfl⟩
  all_goals
    refine pcall_body (f := 98) Try.func98 rfl rfl rfl rfl ?_
    (repeat (first | ((with_reducible apply al_q); exact rfl) | ((with_reducible apply al_guard_b (c := true)); exact rfl; exact rfl; (first | assumption | exact decide_eq_true (by omega) | (simp only [Bool.not_eq_true', decide_eq_false_iff_not, decide_eq_true_eq, Bool.not_eq_false']; (first | done | omega)))) | ((with_reducible apply al_guard_b (c := false)); exact rfl; exact rfl; (first | assumption | exact decide_eq_false (by omega) | (simp only [Bool.not_eq_true', decide_eq_false_iff_not, decide_eq_true_eq, Bool.not_eq_false']; (first | done | omega)))) | ((with_reducible apply awp_seq)) | ((with_reducible apply athen_normal)) | ((with_reducible apply awp_region)) | ((with_reducible apply al_nil)) | ((with_reducible apply awp_ret))))
    (first | (refine apost_ret rfl (resl_tmp rfl resl_nil) ?_))
    first | exact AV.Le.refl _ | exact AV.Le.of_eq (by rw [decide_eq_true h2]; rfl) | exact AV.Le.of_eq (by rw [decide_eq_false h2]; rfl)
theorem rB5_f (x y : Int) : rB5 x y = (fB5 x && fB5 y) := by
  unfold rB5 fB5
  rw [Bool.eq_iff_iff]
  simp only [Bool.and_eq_true, decide_eq_true_eq]
  omega
set_option maxRecDepth 100000 in
set_option maxHeartbeats 4000000 in
theorem p_cRight {x y : Int} {b : Bool} (hb : rB5 x y = b) : PCall Try.prog 75 [vP x y] (vB b) := by
  have C1 := p_far5 (n := x) rfl
  have C2 := p_far5 (n := y) rfl
  rw [rB5_f] at hb
  cases q1 : fB5 x <;> cases q2 : fB5 y <;> rw [q1] at C1 <;> rw [q2] at C2 <;> rw [q1, q2] at hb <;> subst hb <;> clear q1 q2
  all_goals
    refine pcall_body (f := 75) Try.func75 rfl rfl rfl rfl ?_
    (repeat (first | ((with_reducible apply al_q); exact rfl) | (refine al_call1 rfl rfl rfl (by (first | exact C1 | exact C2)) rfl ?_) | ((with_reducible apply awp_seq)) | ((with_reducible apply athen_normal)) | ((with_reducible apply awp_region)) | ((with_reducible apply al_nil)) | ((with_reducible apply awp_ret))))
    (first | (refine apost_ret rfl (resl_tmp rfl resl_nil) ?_))
    exact AV.Le.refl _
end Go.Proofs.Ytaennpehlhgggaa

namespace Go.Proofs.Ytaennpehlhgggaa
open Go.RowKit
set_option linter.unusedVariables false
set_option linter.unusedSimpArgs false
theorem p_Compare {n m : Int} : PCall Try.prog 95 [vI n, vI m] (vI (icmp n m)) :=
  pcall_ev [.int .i64 n, .int .i64 m] (.int .i64 (icmp n m)) rfl rfl rfl rfl rfl fun W => Compare_any n m W
/-- a bound, as a value. -/
abbrev vBd (n d : Int) (o : Bool) : AV := .w (.agg [.c (.int .i64 n), .c (.int .i64 d), .c (.bool o)])
abbrev vBdB (x : Bd) : AV := vBd x.n x.d x.own
/-- numbers small enough for products. -/
def BdOK (x : Bd) : Prop := (-2000000000 ≤ x.n ∧ x.n ≤ 2000000000) ∧ 0 < x.d ∧ x.d ≤ 2000000000
theorem mul_bd2 {x y : Int} (h1 : -2000000000 ≤ x) (h2 : x ≤ 2000000000) (h3 : 0 ≤ y) (h4 : y ≤ 2000000000) : -4000000000000000000 ≤ x * y ∧ x * y ≤ 4000000000000000000 := by
  have a1 : x * y ≤ 2000000000 * y := Int.mul_le_mul_of_nonneg_right h2 h3
  have a2 : -2000000000 * y ≤ x * y := Int.mul_le_mul_of_nonneg_right h1 h3
  omega
theorem bd_wrap {x y : Bd} (hx : BdOK x) (hy : BdOK y) : IntKind.i64.wrap (x.n * y.d) = x.n * y.d := by
  obtain ⟨⟨a1, a2⟩, a3, a4⟩ := hx
  obtain ⟨⟨b1, b2⟩, b3, b4⟩ := hy
  have := mul_bd2 a1 a2 (by omega : (0 : Int) ≤ y.d) b4
  exact i64_wrap (by omega)
set_option maxRecDepth 100000 in
set_option maxHeartbeats 4000000 in
theorem p_xcompare' {n d m e c : Int} {o q : Bool} (C1 : PCall Try.prog 95 [vI (n * e), vI (m * d)] (vI c)) (w1 : IntKind.i64.wrap (n * e) = n * e) (w2 : IntKind.i64.wrap (m * d) = m * d) : PCall Try.prog 101 [vBd n d o, vBd m e q] (vI c) := by
  refine pcall_body (f := 101) Try.func101 rfl rfl rfl rfl ?_
  (repeat (first | ((with_reducible apply al_q); exact rfl) | ((with_reducible apply al_mul); (iterate 3 exact rfl); (first | exact i64_wrap (by omega) | assumption | rfl); exact rfl) | (refine al_call2 rfl rfl rfl rfl (by (first | exact C1)) rfl ?_) | ((with_reducible apply awp_seq)) | ((with_reducible apply athen_normal)) | ((with_reducible apply awp_region)) | ((with_reducible apply al_nil)) | ((with_reducible apply awp_ret))))
  (first | (refine apost_ret rfl (resl_tmp rfl resl_nil) ?_))
  exact AV.Le.refl _
theorem p_xcompare {x y : Bd} (hx : BdOK x) (hy : BdOK y) : PCall Try.prog 101 [vBdB x, vBdB y] (vI (cmB x y)) :=
  p_xcompare' p_Compare (bd_wrap hx hy) (bd_wrap hy hx)
set_option maxRecDepth 100000 in
set_option maxHeartbeats 4000000 in
theorem p_later' {n d m e c : Int} {o q : Bool} {r1 r2 : Int} {r3 : Bool} (C1 : PCall Try.prog 101 [vBd n d o, vBd m e q] (vI c)) (cs : (0 < c ∧ r1 = n ∧ r2 = d ∧ r3 = o) ∨ (¬ 0 < c ∧ c = 0 ∧ q = true ∧ r1 = n ∧ r2 = d ∧ r3 = o) ∨ (¬ 0 < c ∧ c = 0 ∧ q = false ∧ r1 = m ∧ r2 = e ∧ r3 = q) ∨ (¬ 0 < c ∧ ¬ c = 0 ∧ r1 = m ∧ r2 = e ∧ r3 = q)) : PCall Try.prog 107 [vBd n d o, vBd m e q] (vBd r1 r2 r3) := by
  rcases cs with ⟨q1, rfl, rfl, rfl⟩ | ⟨q1, q2, rfl, rfl, rfl, rfl⟩ | ⟨q1, q2, rfl, rfl, rfl, rfl⟩ | ⟨q1, q2, rfl, rfl, rfl⟩
  all_goals
    refine pcall_body (f := 107) Try.func107 rfl rfl rfl rfl ?_
    (repeat (first | ((with_reducible apply al_q); exact rfl) | (refine al_call2 rfl rfl rfl rfl (by (first | exact C1)) rfl ?_) | ((with_reducible apply al_guard_b (c := true)); exact rfl; exact rfl; (first | assumption | exact decide_eq_true (by omega) | (simp only [Bool.not_eq_true', decide_eq_false_iff_not, decide_eq_true_eq, Bool.not_eq_false']; (first | done | omega)))) | ((with_reducible apply al_guard_b (c := false)); exact rfl; exact rfl; (first | assumption | exact decide_eq_false (by omega) | (simp only [Bool.not_eq_true', decide_eq_false_iff_not, decide_eq_true_eq, Bool.not_eq_false']; (first | done | omega)))) | ((with_reducible apply awp_seq)) | ((with_reducible apply athen_normal)) | ((with_reducible apply awp_region)) | ((with_reducible apply al_nil)) | ((with_reducible apply awp_ret)) | ((with_reducible apply awp_skip)) | ((with_reducible apply athen_ret)) | ((with_reducible apply awp_cond_t); exact rfl) | ((with_reducible apply awp_cond_f); exact rfl)))
    (first | (refine apost_ret rfl (resl_agg rfl rfl rfl resl_nil) ?_) | (refine apost_ret rfl (resl_one rfl rfl rfl resl_nil) ?_))
    exact AV.Le.refl _
theorem p_later {x y : Bd} (hx : BdOK x) (hy : BdOK y) : PCall Try.prog 107 [vBdB x, vBdB y] (vBdB (laB x y)) := by
  refine p_later' (p_xcompare hx hy) ?_
  rcases la_cases x y with ⟨e, h⟩ | ⟨e, h⟩ <;> rw [e]
  · by_cases h1 : 0 < cmB x y
    · exact .inl ⟨h1, rfl, rfl, rfl⟩
    · rcases h with h | ⟨h, k⟩
      · exact absurd h h1
      · exact .inr (.inl ⟨h1, h, k, rfl, rfl, rfl⟩)
  · have h1 : ¬ 0 < cmB x y := fun k => h (.inl k)
    by_cases h2 : cmB x y = 0
    · refine .inr (.inr (.inl ⟨h1, h2, ?_, rfl, rfl, rfl⟩))
      cases hy : y.own with
      | false => rfl
      | true => exact absurd (.inr ⟨h2, hy⟩) h
    · exact .inr (.inr (.inr ⟨h1, h2, rfl, rfl, rfl⟩))
set_option maxRecDepth 100000 in
set_option maxHeartbeats 4000000 in
theorem p_earlier' {n d m e c : Int} {o q : Bool} {r1 r2 : Int} {r3 : Bool} (C1 : PCall Try.prog 101 [vBd n d o, vBd m e q] (vI c)) (cs : (c < 0 ∧ r1 = n ∧ r2 = d ∧ r3 = o) ∨ (¬ c < 0 ∧ c = 0 ∧ q = true ∧ r1 = n ∧ r2 = d ∧ r3 = o) ∨ (¬ c < 0 ∧ c = 0 ∧ q = false ∧ r1 = m ∧ r2 = e ∧ r3 = q) ∨ (¬ c < 0 ∧ ¬ c = 0 ∧ r1 = m ∧ r2 = e ∧ r3 = q)) : PCall Try.prog 108 [vBd n d o, vBd m e q] (vBd r1 r2 r3) := by
  rcases cs with ⟨q1, rfl, rfl, rfl⟩ | ⟨q1, q2, rfl, rfl, rfl, rfl⟩ | ⟨q1, q2, rfl, rfl, rfl, rfl⟩ | ⟨q1, q2, rfl, rfl, rfl⟩
  all_goals
    refine pcall_body (f := 108) Try.func108 rfl rfl rfl rfl ?_
    (repeat (first | ((with_reducible apply al_q); exact rfl) | (refine al_call2 rfl rfl rfl rfl (by (first | exact C1)) rfl ?_) | ((with_reducible apply al_guard_b (c := true)); exact rfl; exact rfl; (first | assumption | exact decide_eq_true (by omega) | (simp only [Bool.not_eq_true', decide_eq_false_iff_not, decide_eq_true_eq, Bool.not_eq_false']; (first | done | omega)))) | ((with_reducible apply al_guard_b (c := false)); exact rfl; exact rfl; (first | assumption | exact decide_eq_false (by omega) | (simp only [Bool.not_eq_true', decide_eq_false_iff_not, decide_eq_true_eq, Bool.not_eq_false']; (first | done | omega)))) | ((with_reducible apply awp_seq)) | ((with_reducible apply athen_normal)) | ((with_reducible apply awp_region)) | ((with_reducible apply al_nil)) | ((with_reducible apply awp_ret)) | ((with_reducible apply awp_skip)) | ((with_reducible apply athen_ret)) | ((with_reducible apply awp_cond_t); exact rfl) | ((with_reducible apply awp_cond_f); exact rfl)))
    (first | (refine apost_ret rfl (resl_agg rfl rfl rfl resl_nil) ?_) | (refine apost_ret rfl (resl_one rfl rfl rfl resl_nil) ?_))
    exact AV.Le.refl _
theorem p_earlier {x y : Bd} (hx : BdOK x) (hy : BdOK y) : PCall Try.prog 108 [vBdB x, vBdB y] (vBdB (eaB x y)) := by
  refine p_earlier' (p_xcompare hx hy) ?_
  rcases ea_cases x y with ⟨e, h⟩ | ⟨e, h⟩ <;> rw [e]
  · by_cases h1 : cmB x y < 0
    · exact .inl ⟨h1, rfl, rfl, rfl⟩
    · rcases h with h | ⟨h, k⟩
      · exact absurd h h1
      · exact .inr (.inl ⟨h1, h, k, rfl, rfl, rfl⟩)
  · have h1 : ¬ cmB x y < 0 := fun k => h (.inl k)
    by_cases h2 : cmB x y = 0
    · refine .inr (.inr (.inl ⟨h1, h2, ?_, rfl, rfl, rfl⟩))
      cases hy : y.own with
      | false => rfl
      | true => exact absurd (.inr ⟨h2, hy⟩) h
    · exact .inr (.inr (.inr ⟨h1, h2, rfl, rfl, rfl⟩))
/-- what is left of a segment, as a value. -/
abbrev vPart (a1 a2 b1 b2 n d : Int) (o : Bool) (m e : Int) (q : Bool) : AV := .w (.agg [.c (.int .i64 a1), .c (.int .i64 a2), .c (.int .i64 b1), .c (.int .i64 b2), .c (.int .i64 n), .c (.int .i64 d), .c (.bool o), .c (.int .i64 m), .c (.int .i64 e), .c (.bool q)])
abbrev vPaB (a1 a2 b1 b2 : Int) (p : Pa) : AV := vPart a1 a2 b1 b2 p.f.n p.f.d p.f.own p.t.n p.t.d p.t.own
def PaOK (p : Pa) : Prop := BdOK p.f ∧ BdOK p.t
set_option maxRecDepth 100000 in
set_option maxHeartbeats 4000000 in
theorem p_keep' {a1 a2 b1 b2 n d m e u v : Int} {o q w : Bool} {n' d' m' e' : Int} {o' q' : Bool} (hu : -1100000000 ≤ u ∧ u ≤ 1100000000) (hv : -1100000000 ≤ v ∧ v ≤ 1100000000)
    (cs : (0 < v - u ∧ PCall Try.prog 107 [vBd n d o, vBd (-u) (v - u) w] (vBd n' d' o') ∧ m' = m ∧ e' = e ∧ q' = q) ∨ (¬ 0 < v - u ∧ v - u < 0 ∧ PCall Try.prog 108 [vBd m e q, vBd u (-(v - u)) w] (vBd m' e' q') ∧ n' = n ∧ d' = d ∧ o' = o)
      ∨ (¬ 0 < v - u ∧ ¬ v - u < 0 ∧ u < 0 ∧ n' = 1 ∧ d' = 1 ∧ o' = false ∧ m' = 0 ∧ e' = 1 ∧ q' = false) ∨ (¬ 0 < v - u ∧ ¬ v - u < 0 ∧ ¬ u < 0 ∧ u = 0 ∧ w = false ∧ n' = 1 ∧ d' = 1 ∧ o' = false ∧ m' = 0 ∧ e' = 1 ∧ q' = false)
      ∨ (¬ 0 < v - u ∧ ¬ v - u < 0 ∧ ¬ u < 0 ∧ u = 0 ∧ w = true ∧ n' = n ∧ d' = d ∧ o' = o ∧ m' = m ∧ e' = e ∧ q' = q) ∨ (¬ 0 < v - u ∧ ¬ v - u < 0 ∧ ¬ u < 0 ∧ ¬ u = 0 ∧ n' = n ∧ d' = d ∧ o' = o ∧ m' = m ∧ e' = e ∧ q' = q)) :
    PCall Try.prog 100 [vPart a1 a2 b1 b2 n d o m e q, vI u, vI v, vB w] (vPart a1 a2 b1 b2 n' d' o' m' e' q') := by
  rcases cs with ⟨q1, C1, rfl, rfl, rfl⟩ | ⟨q1, q2, C1, rfl, rfl, rfl⟩ | ⟨q1, q2, q3, rfl, rfl, rfl, rfl, rfl, rfl⟩ | ⟨q1, q2, q3, q4, rfl, rfl, rfl, rfl, rfl, rfl, rfl⟩ | ⟨q1, q2, q3, q4, rfl, rfl, rfl, rfl, rfl, rfl, rfl⟩ | ⟨q1, q2, q3, q4, rfl, rfl, rfl, rfl, rfl, rfl⟩
  · refine pcall_body (f := 100) Try.func100 rfl rfl rfl rfl ?_
    (repeat (first | ((with_reducible apply al_q); exact rfl) | ((with_reducible apply al_sub); (iterate 3 exact rfl); (first | exact i64_wrap (by omega) | assumption | rfl); exact rfl) | ((with_reducible apply al_neg); exact rfl; exact rfl; (first | exact i64_wrap (by omega) | assumption | rfl); exact rfl) | (refine al_call2 rfl rfl rfl rfl (by (first | exact C1)) rfl ?_) | ((with_reducible apply awp_seq)) | ((with_reducible apply athen_normal)) | ((with_reducible apply awp_region)) | ((with_reducible apply al_nil)) | ((with_reducible apply awp_ret)) | ((with_reducible apply awp_block)) | ((with_reducible apply ablock_normal)) | ((with_reducible apply awp_cond_1); exact rfl; (first | assumption | exact decide_eq_true (by omega) | (simp only [Bool.not_eq_true', decide_eq_false_iff_not, decide_eq_true_eq, Bool.not_eq_false']; (first | done | omega))))))
    (first | (refine apost_ret rfl (resl_agg rfl rfl rfl resl_nil) ?_) | (refine apost_ret rfl (resl_one rfl rfl rfl resl_nil) ?_))
    exact AV.Le.refl _
  · refine pcall_body (f := 100) Try.func100 rfl rfl rfl rfl ?_
    (repeat (first | ((with_reducible apply al_q); exact rfl) | ((with_reducible apply al_sub); (iterate 3 exact rfl); (first | exact i64_wrap (by omega) | assumption | rfl); exact rfl) | ((with_reducible apply al_neg); exact rfl; exact rfl; (first | exact i64_wrap (by omega) | assumption | rfl); exact rfl) | (refine al_call2 rfl rfl rfl rfl (by (first | exact C1)) rfl ?_) | ((with_reducible apply awp_seq)) | ((with_reducible apply athen_normal)) | ((with_reducible apply awp_region)) | ((with_reducible apply al_nil)) | ((with_reducible apply awp_ret)) | ((with_reducible apply awp_block)) | ((with_reducible apply ablock_normal)) | ((with_reducible apply awp_cond_1); exact rfl; (first | assumption | exact decide_eq_true (by omega) | (simp only [Bool.not_eq_true', decide_eq_false_iff_not, decide_eq_true_eq, Bool.not_eq_false']; (first | done | omega)))) | ((with_reducible apply awp_cond_0); exact rfl; (first | assumption | exact decide_eq_false (by omega) | (simp only [Bool.not_eq_true', decide_eq_false_iff_not, decide_eq_true_eq, Bool.not_eq_false']; (first | done | omega))))))
    (first | (refine apost_ret rfl (resl_agg rfl rfl rfl resl_nil) ?_) | (refine apost_ret rfl (resl_one rfl rfl rfl resl_nil) ?_))
    exact AV.Le.refl _
  all_goals
    refine pcall_body (f := 100) Try.func100 rfl rfl rfl rfl ?_
    (repeat (first | ((with_reducible apply al_q); exact rfl) | ((with_reducible apply al_sub); (iterate 3 exact rfl); (first | exact i64_wrap (by omega) | assumption | rfl); exact rfl) | ((with_reducible apply al_guard_b (c := true)); exact rfl; exact rfl; (first | assumption | exact decide_eq_true (by omega) | (simp only [Bool.not_eq_true', decide_eq_false_iff_not, decide_eq_true_eq, Bool.not_eq_false']; (first | done | omega)))) | ((with_reducible apply al_guard_b (c := false)); exact rfl; exact rfl; (first | assumption | exact decide_eq_false (by omega) | (simp only [Bool.not_eq_true', decide_eq_false_iff_not, decide_eq_true_eq, Bool.not_eq_false']; (first | done | omega)))) | ((with_reducible apply awp_seq)) | ((with_reducible apply athen_normal)) | ((with_reducible apply awp_region)) | ((with_reducible apply al_nil)) | ((with_reducible apply awp_ret)) | ((with_reducible apply awp_skip)) | ((with_reducible apply awp_block)) | ((with_reducible apply ablock_normal)) | ((with_reducible apply awp_cond_t); exact rfl) | ((with_reducible apply awp_cond_f); exact rfl) | ((with_reducible apply awp_cond_1); exact rfl; (first | assumption | exact decide_eq_true (by omega) | (simp only [Bool.not_eq_true', decide_eq_false_iff_not, decide_eq_true_eq, Bool.not_eq_false']; (first | done | omega)))) | ((with_reducible apply awp_cond_0); exact rfl; (first | assumption | exact decide_eq_false (by omega) | (simp only [Bool.not_eq_true', decide_eq_false_iff_not, decide_eq_true_eq, Bool.not_eq_false']; (first | done | omega))))))
    (first | (refine apost_ret rfl (resl_agg rfl rfl rfl resl_nil) ?_) | (refine apost_ret rfl (resl_one rfl rfl rfl resl_nil) ?_))
    exact AV.Le.refl _
theorem la_ok {x y : Bd} (hx : BdOK x) (hy : BdOK y) : BdOK (laB x y) := by unfold laB; split <;> assumption
theorem ea_ok {x y : Bd} (hx : BdOK x) (hy : BdOK y) : BdOK (eaB x y) := by unfold eaB; split <;> assumption
theorem kp_ok {p : Pa} {u v : Int} {w : Bool} (hp : PaOK p) (hu : -900000000 ≤ u ∧ u ≤ 900000000) (hv : -900000000 ≤ v ∧ v ≤ 900000000) : PaOK (kpB p u v w) := by
  unfold kpB
  by_cases h1 : 0 < v - u
  · rw [if_pos h1]; exact ⟨la_ok hp.1 ⟨by simp only; omega, by simp only; omega⟩, hp.2⟩
  · rw [if_neg h1]
    by_cases h2 : v - u < 0
    · rw [if_pos h2]; exact ⟨hp.1, ea_ok hp.2 ⟨by simp only; omega, by simp only; omega⟩⟩
    · rw [if_neg h2]
      split
      · exact ⟨⟨by decide, by decide⟩, ⟨by decide, by decide⟩⟩
      · exact hp
theorem p_keep {a1 a2 b1 b2 u v : Int} {w : Bool} {p : Pa} (hp : PaOK p) (hu : -900000000 ≤ u ∧ u ≤ 900000000) (hv : -900000000 ≤ v ∧ v ≤ 900000000) : PCall Try.prog 100 [vPaB a1 a2 b1 b2 p, vI u, vI v, vB w] (vPaB a1 a2 b1 b2 (kpB p u v w)) := by
  refine p_keep' (by omega) (by omega) ?_
  unfold kpB
  by_cases h1 : 0 < v - u
  · rw [if_pos h1]
    exact .inl ⟨h1, p_later hp.1 (y := ⟨-u, v - u, w⟩) ⟨by simp only; omega, by simp only; omega⟩, rfl, rfl, rfl⟩
  · rw [if_neg h1]
    by_cases h2 : v - u < 0
    · rw [if_pos h2]
      exact .inr (.inl ⟨h1, h2, p_earlier hp.2 (y := ⟨u, -(v - u), w⟩) ⟨by simp only; omega, by simp only; omega⟩, rfl, rfl, rfl⟩)
    · rw [if_neg h2]
      by_cases h3 : u < 0
      · rw [if_pos (.inl h3)]
        exact .inr (.inr (.inl ⟨h1, h2, h3, rfl, rfl, rfl, rfl, rfl, rfl⟩))
      · by_cases h4 : u = 0
        · cases w with
          | false => rw [if_pos (.inr ⟨h4, rfl⟩)]; exact .inr (.inr (.inr (.inl ⟨h1, h2, h3, h4, rfl, rfl, rfl, rfl, rfl, rfl, rfl⟩)))
          | true => rw [if_neg (by simp [h3])]; exact .inr (.inr (.inr (.inr (.inl ⟨h1, h2, h3, h4, rfl, rfl, rfl, rfl, rfl, rfl, rfl⟩))))
        · rw [if_neg (by simp [h3, h4])]
          exact .inr (.inr (.inr (.inr (.inr ⟨h1, h2, h3, h4, rfl, rfl, rfl, rfl, rfl, rfl⟩))))
end Go.Proofs.Ytaennpehlhgggaa

namespace Go.Proofs.Ytaennpehlhgggaa
open Go.RowKit
set_option linter.unusedVariables false
set_option linter.unusedSimpArgs false
instance iPixB_1 : IPart Try.prog 116 4 false 1 := ⟨by kernel_rfl⟩
abbrev vBox (l1 l2 h1 h2 : Int) (o p : Bool) : AV := .w (.agg [.c (.int .i64 l1), .c (.int .i64 l2), .c (.int .i64 h1), .c (.int .i64 h2), .c (.bool o), .c (.bool p)])
/-- a corner's number may be so great. -/
def cb6 (n : Int) : Bool := decide (-536870912 ≤ n) && decide (n ≤ 536870912)
theorem cb6_iff {n : Int} : cb6 n = true ↔ -536870912 ≤ n ∧ n ≤ 536870912 := by unfold cb6; simp
def co6 (x y : Int) : Bool := cb6 x && cb6 y
theorem co6_iff {x y : Int} : co6 x y = true ↔ (-536870912 ≤ x ∧ x ≤ 536870912) ∧ -536870912 ≤ y ∧ y ≤ 536870912 := by unfold co6; rw [Bool.and_eq_true, cb6_iff, cb6_iff]
def kd6 (k : Int) : Bool := decide (0 ≤ k) && decide (k ≤ 2)
set_option maxRecDepth 100000 in
set_option maxHeartbeats 4000000 in
theorem p_cutLeft {a1 a2 b1 b2 l1 l2 h1 h2 n d m e n' d' m' e' : Int} {o p q r q' r' : Bool} (ha : -134217728 ≤ a1 ∧ a1 ≤ 134217728) (hb : -134217728 ≤ b1 ∧ b1 ≤ 134217728) (hl : -536870912 ≤ l1 ∧ l1 ≤ 536870912)
    (C1 : PCall Try.prog 100 [vPart a1 a2 b1 b2 n d q m e r, vI (2 * a1 - l1), vI (2 * b1 - l1), vB o] (vPart a1 a2 b1 b2 n' d' q' m' e' r')) : PCall Try.prog 79 [vBox l1 l2 h1 h2 o p, vPart a1 a2 b1 b2 n d q m e r] (vPart a1 a2 b1 b2 n' d' q' m' e' r') := by
  refine pcall_body (f := 79) Try.func79 rfl rfl rfl rfl ?_
  (repeat (first | ((with_reducible apply al_q); exact rfl) | ((with_reducible apply al_sub); (iterate 3 exact rfl); (first | exact i64_wrap (by omega) | assumption | rfl); exact rfl) | ((with_reducible apply al_mul); (iterate 3 exact rfl); (first | exact i64_wrap (by omega) | assumption | rfl); exact rfl) | (refine al_call4 rfl rfl rfl rfl rfl rfl (by (first | exact C1)) rfl ?_) | ((with_reducible apply awp_seq)) | ((with_reducible apply athen_normal)) | ((with_reducible apply awp_region)) | ((with_reducible apply al_nil)) | ((with_reducible apply awp_ret))))
  (first | (refine apost_ret rfl (resl_agg rfl rfl rfl resl_nil) ?_) | (refine apost_ret rfl (resl_one rfl rfl rfl resl_nil) ?_))
  exact AV.Le.refl _
set_option maxRecDepth 100000 in
set_option maxHeartbeats 4000000 in
theorem p_cutBelow {a1 a2 b1 b2 l1 l2 h1 h2 n d m e n' d' m' e' : Int} {o p q r q' r' : Bool} (ha : -134217728 ≤ a2 ∧ a2 ≤ 134217728) (hb : -134217728 ≤ b2 ∧ b2 ≤ 134217728) (hl : -536870912 ≤ l2 ∧ l2 ≤ 536870912)
    (C1 : PCall Try.prog 100 [vPart a1 a2 b1 b2 n d q m e r, vI (2 * a2 - l2), vI (2 * b2 - l2), vB o] (vPart a1 a2 b1 b2 n' d' q' m' e' r')) : PCall Try.prog 80 [vBox l1 l2 h1 h2 o p, vPart a1 a2 b1 b2 n d q m e r] (vPart a1 a2 b1 b2 n' d' q' m' e' r') := by
  refine pcall_body (f := 80) Try.func80 rfl rfl rfl rfl ?_
  (repeat (first | ((with_reducible apply al_q); exact rfl) | ((with_reducible apply al_sub); (iterate 3 exact rfl); (first | exact i64_wrap (by omega) | assumption | rfl); exact rfl) | ((with_reducible apply al_mul); (iterate 3 exact rfl); (first | exact i64_wrap (by omega) | assumption | rfl); exact rfl) | (refine al_call4 rfl rfl rfl rfl rfl rfl (by (first | exact C1)) rfl ?_) | ((with_reducible apply awp_seq)) | ((with_reducible apply athen_normal)) | ((with_reducible apply awp_region)) | ((with_reducible apply al_nil)) | ((with_reducible apply awp_ret))))
  (first | (refine apost_ret rfl (resl_agg rfl rfl rfl resl_nil) ?_) | (refine apost_ret rfl (resl_one rfl rfl rfl resl_nil) ?_))
  exact AV.Le.refl _
set_option maxRecDepth 100000 in
set_option maxHeartbeats 4000000 in
theorem p_cutRight {a1 a2 b1 b2 l1 l2 h1 h2 n d m e n' d' m' e' : Int} {o p q r q' r' : Bool} (ha : -134217728 ≤ a1 ∧ a1 ≤ 134217728) (hb : -134217728 ≤ b1 ∧ b1 ≤ 134217728) (hl : -536870912 ≤ h1 ∧ h1 ≤ 536870912)
    (C1 : PCall Try.prog 100 [vPart a1 a2 b1 b2 n d q m e r, vI (h1 - 2 * a1), vI (h1 - 2 * b1), vB p] (vPart a1 a2 b1 b2 n' d' q' m' e' r')) : PCall Try.prog 81 [vBox l1 l2 h1 h2 o p, vPart a1 a2 b1 b2 n d q m e r] (vPart a1 a2 b1 b2 n' d' q' m' e' r') := by
  refine pcall_body (f := 81) Try.func81 rfl rfl rfl rfl ?_
  (repeat (first | ((with_reducible apply al_q); exact rfl) | ((with_reducible apply al_sub); (iterate 3 exact rfl); (first | exact i64_wrap (by omega) | assumption | rfl); exact rfl) | ((with_reducible apply al_mul); (iterate 3 exact rfl); (first | exact i64_wrap (by omega) | assumption | rfl); exact rfl) | (refine al_call4 rfl rfl rfl rfl rfl rfl (by (first | exact C1)) rfl ?_) | ((with_reducible apply awp_seq)) | ((with_reducible apply athen_normal)) | ((with_reducible apply awp_region)) | ((with_reducible apply al_nil)) | ((with_reducible apply awp_ret))))
  (first | (refine apost_ret rfl (resl_agg rfl rfl rfl resl_nil) ?_) | (refine apost_ret rfl (resl_one rfl rfl rfl resl_nil) ?_))
  exact AV.Le.refl _
set_option maxRecDepth 100000 in
set_option maxHeartbeats 4000000 in
theorem p_cutAbove {a1 a2 b1 b2 l1 l2 h1 h2 n d m e n' d' m' e' : Int} {o p q r q' r' : Bool} (ha : -134217728 ≤ a2 ∧ a2 ≤ 134217728) (hb : -134217728 ≤ b2 ∧ b2 ≤ 134217728) (hl : -536870912 ≤ h2 ∧ h2 ≤ 536870912)
    (C1 : PCall Try.prog 100 [vPart a1 a2 b1 b2 n d q m e r, vI (h2 - 2 * a2), vI (h2 - 2 * b2), vB p] (vPart a1 a2 b1 b2 n' d' q' m' e' r')) : PCall Try.prog 82 [vBox l1 l2 h1 h2 o p, vPart a1 a2 b1 b2 n d q m e r] (vPart a1 a2 b1 b2 n' d' q' m' e' r') := by
  refine pcall_body (f := 82) Try.func82 rfl rfl rfl rfl ?_
  (repeat (first | ((with_reducible apply al_q); exact rfl) | ((with_reducible apply al_sub); (iterate 3 exact rfl); (first | exact i64_wrap (by omega) | assumption | rfl); exact rfl) | ((with_reducible apply al_mul); (iterate 3 exact rfl); (first | exact i64_wrap (by omega) | assumption | rfl); exact rfl) | (refine al_call4 rfl rfl rfl rfl rfl rfl (by (first | exact C1)) rfl ?_) | ((with_reducible apply awp_seq)) | ((with_reducible apply athen_normal)) | ((with_reducible apply awp_region)) | ((with_reducible apply al_nil)) | ((with_reducible apply awp_ret))))
  (first | (refine apost_ret rfl (resl_agg rfl rfl rfl resl_nil) ?_) | (refine apost_ret rfl (resl_one rfl rfl rfl resl_nil) ?_))
  exact AV.Le.refl _
set_option maxRecDepth 100000 in
set_option maxHeartbeats 4000000 in
theorem p_allOf {a1 a2 b1 b2 : Int} : PCall Try.prog 78 [vP a1 a2, vP b1 b2] (vPaB a1 a2 b1 b2 alB) := by
  refine pcall_body (f := 78) Try.func78 rfl rfl rfl rfl ?_
  (repeat (first | ((with_reducible apply al_q); exact rfl) | ((with_reducible apply awp_seq)) | ((with_reducible apply athen_normal)) | ((with_reducible apply awp_region)) | ((with_reducible apply al_nil)) | ((with_reducible apply awp_ret))))
  (first | (refine apost_ret rfl (resl_agg rfl rfl rfl resl_nil) ?_) | (refine apost_ret rfl (resl_one rfl rfl rfl resl_nil) ?_))
  exact AV.Le.refl _
set_option maxRecDepth 100000 in
set_option maxHeartbeats 4000000 in
theorem p_hasAny' {a1 a2 b1 b2 n d m e c : Int} {o q r : Bool} (C1 : PCall Try.prog 101 [vBd n d o, vBd m e q] (vI c)) (cs : (c < 0 ∧ r = true) ∨ (¬ c < 0 ∧ c = 0 ∧ o = true ∧ r = q) ∨ (¬ c < 0 ∧ c = 0 ∧ o = false ∧ r = false) ∨ (¬ c < 0 ∧ ¬ c = 0 ∧ r = false)) : PCall Try.prog 83 [vPart a1 a2 b1 b2 n d o m e q] (vB r) := by
  rcases cs with ⟨q1, rfl⟩ | ⟨q1, q2, rfl, rfl⟩ | ⟨q1, q2, rfl, rfl⟩ | ⟨q1, q2, rfl⟩
  all_goals
    refine pcall_body (f := 83) Try.func83 rfl rfl rfl rfl ?_
    (repeat (first | ((with_reducible apply al_q); exact rfl) | (refine al_call2 rfl rfl rfl rfl (by (first | exact C1)) rfl ?_) | ((with_reducible apply al_guard_b (c := true)); exact rfl; exact rfl; (first | assumption | exact decide_eq_true (by omega) | (simp only [Bool.not_eq_true', decide_eq_false_iff_not, decide_eq_true_eq, Bool.not_eq_false']; (first | done | omega)))) | ((with_reducible apply al_guard_b (c := false)); exact rfl; exact rfl; (first | assumption | exact decide_eq_false (by omega) | (simp only [Bool.not_eq_true', decide_eq_false_iff_not, decide_eq_true_eq, Bool.not_eq_false']; (first | done | omega)))) | ((with_reducible apply awp_seq)) | ((with_reducible apply athen_normal)) | ((with_reducible apply awp_region)) | ((with_reducible apply al_nil)) | ((with_reducible apply awp_ret))))
    (first | (refine apost_ret rfl (resl_tmp rfl resl_nil) ?_))
    exact AV.Le.refl _
theorem p_hasAny {a1 a2 b1 b2 : Int} {p : Pa} (hp : PaOK p) : PCall Try.prog 83 [vPaB a1 a2 b1 b2 p] (vB (anB p)) := by
  refine p_hasAny' (p_xcompare hp.1 hp.2) ?_
  unfold anB
  by_cases h1 : cmB p.f p.t < 0
  · exact .inl ⟨h1, by rw [decide_eq_true h1]; rfl⟩
  · rw [decide_eq_false h1]
    by_cases h2 : cmB p.f p.t = 0
    · rw [decide_eq_true h2]
      cases h3 : p.f.own with
      | true => exact .inr (.inl ⟨h1, h2, rfl, rfl⟩)
      | false => exact .inr (.inr (.inl ⟨h1, h2, rfl, rfl⟩))
    · exact .inr (.inr (.inr ⟨h1, h2, by rw [decide_eq_false h2]; rfl⟩))
set_option maxRecDepth 100000 in
set_option maxHeartbeats 4000000 in
theorem p_far6 {n : Int} {b : Bool} (hb : cb6 n = b) : PCall Try.prog 99 [vI n] (vB b) := by
  have cs : (-536870912 ≤ n ∧ n ≤ 536870912 ∧ b = true) ∨ (-536870912 ≤ n ∧ ¬ n ≤ 536870912 ∧ b = false) ∨ (¬ -536870912 ≤ n ∧ b = false) := by
    rw [← hb]; unfold cb6
    by_cases h1 : -536870912 ≤ n <;> by_cases h2 : n ≤ 536870912 <;> simp [h1, h2]
  clear hb
  rcases cs with ⟨h1, h2, rfl⟩ | ⟨h1, h2, rfl⟩ | ⟨h1, rfl⟩
  all_goals
    refine pcall_body (f := 99) Try.func99 rfl rfl rfl rfl ?_
    (repeat (first | ((with_reducible apply al_q); exact rfl) | ((with_reducible apply al_guard_b (c := true)); exact rfl; exact rfl; (first | assumption | exact decide_eq_true (by omega) | (simp only [Bool.not_eq_true', decide_eq_false_iff_not, decide_eq_true_eq, Bool.not_eq_false']; (first | done | omega)))) | ((with_reducible apply al_guard_b (c := false)); exact rfl; exact rfl; (first | assumption | exact decide_eq_false (by omega) | (simp only [Bool.not_eq_true', decide_eq_false_iff_not, decide_eq_true_eq, Bool.not_eq_false']; (first | done | omega)))) | ((with_reducible apply awp_seq)) | ((with_reducible apply athen_normal)) | ((with_reducible apply awp_region)) | ((with_reducible apply al_nil)) | ((with_reducible apply awp_ret))))
    (first | (refine apost_ret rfl (resl_tmp rfl resl_nil) ?_))
    first | exact AV.Le.refl _ | exact AV.Le.of_eq (by rw [decide_eq_true h2]; rfl) | exact AV.Le.of_eq (by rw [decide_eq_false h2]; rfl)
set_option maxRecDepth 100000 in
set_option maxHeartbeats 4000000 in
theorem p_isCorner {x y : Int} {b : Bool} (hb : co6 x y = b) : PCall Try.prog 76 [vP x y] (vB b) := by
  have C1 := p_far6 (n := x) rfl
  have C2 := p_far6 (n := y) rfl
  unfold co6 at hb
  cases q1 : cb6 x <;> cases q2 : cb6 y <;> rw [q1] at C1 <;> rw [q2] at C2 <;> rw [q1, q2] at hb <;> subst hb <;> clear q1 q2
  all_goals
    refine pcall_body (f := 76) Try.func76 rfl rfl rfl rfl ?_
    (repeat (first | ((with_reducible apply al_q); exact rfl) | (refine al_call1 rfl rfl rfl (by (first | exact C1 | exact C2)) rfl ?_) | ((with_reducible apply awp_seq)) | ((with_reducible apply athen_normal)) | ((with_reducible apply awp_region)) | ((with_reducible apply al_nil)) | ((with_reducible apply awp_ret))))
    (first | (refine apost_ret rfl (resl_tmp rfl resl_nil) ?_))
    exact AV.Le.refl _
set_option maxRecDepth 100000 in
set_option maxHeartbeats 4000000 in
theorem p_isKind {k : Int} {b : Bool} (hb : kd6 k = b) : PCall Try.prog 77 [vI k] (vB b) := by
  have cs : (k = 0 ∧ b = true) ∨ (¬ k = 0 ∧ k = 1 ∧ b = true) ∨ (¬ k = 0 ∧ ¬ k = 1 ∧ k = 2 ∧ b = true) ∨ (¬ k = 0 ∧ ¬ k = 1 ∧ ¬ k = 2 ∧ b = false) := by
    rw [← hb]; unfold kd6
    by_cases h1 : k = 0
    · exact .inl ⟨h1, by subst h1; rfl⟩
    · by_cases h2 : k = 1
      · exact .inr (.inl ⟨h1, h2, by subst h2; rfl⟩)
      · by_cases h3 : k = 2
        · exact .inr (.inr (.inl ⟨h1, h2, h3, by subst h3; rfl⟩))
        · refine .inr (.inr (.inr ⟨h1, h2, h3, ?_⟩))
          rw [Bool.and_eq_false_iff, decide_eq_false_iff_not, decide_eq_false_iff_not]
          omega
  clear hb
  rcases cs with ⟨h1, rfl⟩ | ⟨h1, h2, rfl⟩ | ⟨h1, h2, h3, rfl⟩ | ⟨h1, h2, h3, rfl⟩
  all_goals
    refine pcall_body (f := 77) Try.func77 rfl rfl rfl rfl ?_
    (repeat (first | ((with_reducible apply al_q); exact rfl) | ((with_reducible apply al_guard_b (c := true)); exact rfl; exact rfl; (first | assumption | exact decide_eq_true (by omega) | (simp only [Bool.not_eq_true', decide_eq_false_iff_not, decide_eq_true_eq, Bool.not_eq_false']; (first | done | omega)))) | ((with_reducible apply al_guard_b (c := false)); exact rfl; exact rfl; (first | assumption | exact decide_eq_false (by omega) | (simp only [Bool.not_eq_true', decide_eq_false_iff_not, decide_eq_true_eq, Bool.not_eq_false']; (first | done | omega)))) | ((with_reducible apply awp_seq)) | ((with_reducible apply athen_normal)) | ((with_reducible apply awp_region)) | ((with_reducible apply al_nil)) | ((with_reducible apply awp_ret))))
    (first | (refine apost_ret rfl (resl_tmp rfl resl_nil) ?_))
    first | exact AV.Le.refl _ | exact AV.Le.of_eq (by rw [decide_eq_true h3]; rfl) | exact AV.Le.of_eq (by rw [decide_eq_false h3]; rfl)
set_option maxRecDepth 100000 in
set_option maxHeartbeats 8000000 in
theorem p_Meets' {a1 a2 b1 b2 l1 l2 h1 h2 k : Int} {o p r : Bool} {n1 d1 m1 e1 n2 d2 m2 e2 n3 d3 m3 e3 n4 d4 m4 e4 : Int} {q1 r1 q2 r2 q3 r3 q4 r4 : Bool} (R1 : PCall Try.prog 75 [vP a1 a2] (vB true)) (R2 : PCall Try.prog 75 [vP b1 b2] (vB true)) (K1 : PCall Try.prog 76 [vP l1 l2] (vB true)) (K2 : PCall Try.prog 76 [vP h1 h2] (vB true)) (K3 : PCall Try.prog 77 [vI k] (vB true))
    (eo : (!decide (k = 2)) = o) (ep : decide (k = 1) = p) (A0 : PCall Try.prog 78 [vP a1 a2, vP b1 b2] (vPart a1 a2 b1 b2 0 1 true 1 1 true))
    (C1 : PCall Try.prog 79 [vBox l1 l2 h1 h2 o p, vPart a1 a2 b1 b2 0 1 true 1 1 true] (vPart a1 a2 b1 b2 n1 d1 q1 m1 e1 r1))
    (C2 : PCall Try.prog 80 [vBox l1 l2 h1 h2 o p, vPart a1 a2 b1 b2 n1 d1 q1 m1 e1 r1] (vPart a1 a2 b1 b2 n2 d2 q2 m2 e2 r2))
    (C3 : PCall Try.prog 81 [vBox l1 l2 h1 h2 o p, vPart a1 a2 b1 b2 n2 d2 q2 m2 e2 r2] (vPart a1 a2 b1 b2 n3 d3 q3 m3 e3 r3))
    (C4 : PCall Try.prog 82 [vBox l1 l2 h1 h2 o p, vPart a1 a2 b1 b2 n3 d3 q3 m3 e3 r3] (vPart a1 a2 b1 b2 n4 d4 q4 m4 e4 r4))
    (H1 : PCall Try.prog 83 [vPart a1 a2 b1 b2 n4 d4 q4 m4 e4 r4] (vB r)) :
    PCall Try.prog 60 [vP a1 a2, vP b1 b2, vP l1 l2, vP h1 h2, vI k] (vB r) := by
  subst eo
  subst ep
  refine pcall_body (f := 60) Try.func60 rfl rfl rfl rfl ?_
  (repeat (first | ((with_reducible apply al_q); exact rfl) | ((with_reducible apply al_mkfnb); (iterate 4 exact rfl)) | (refine al_call1 rfl rfl rfl (by (first | exact R1 | exact R2 | exact K1 | exact K2 | exact K3 | exact A0)) rfl ?_) | (refine al_call2 rfl rfl rfl rfl (by (first | exact R1 | exact R2 | exact K1 | exact K2 | exact K3 | exact A0)) rfl ?_) | ((with_reducible apply awp_seq)) | ((with_reducible apply athen_normal)) | ((with_reducible apply awp_region)) | ((with_reducible apply al_nil)) | ((with_reducible apply awp_skip)) | ((with_reducible apply awp_block)) | ((with_reducible apply awp_cond_f); exact rfl)))
  refine awp_roll 5 ?_
  (repeat (first | ((with_reducible apply al_q); exact rfl) | ((with_reducible apply al_add); (iterate 3 exact rfl); (first | exact i64_wrap (by omega) | assumption | rfl); exact rfl) | ((with_reducible apply al_indexV1); (iterate 3 exact rfl); (first | decide | omega); (first | decide | omega); (first | assumption | rfl); exact rfl) | (refine al_call1 rfl rfl rfl (by (first | exact C1 | exact C2 | exact C3 | exact C4 | exact H1)) rfl ?_) | (refine al_callb (bs := [_]) (args := [_]) rfl rfl rfl rfl (by (first | exact C1 | exact C2 | exact C3 | exact C4 | exact H1)) rfl ?_) | ((with_reducible apply awp_seq)) | ((with_reducible apply athen_normal)) | ((with_reducible apply awp_region)) | ((with_reducible apply al_nil)) | ((with_reducible apply awp_ret)) | ((with_reducible apply awp_skip)) | ((with_reducible apply awp_block)) | ((with_reducible apply ablock_normal)) | ((with_reducible apply ablock_same)) | ((with_reducible apply awp_exit)) | ((with_reducible apply athen_exit)) | ((with_reducible apply roll_succ)) | ((with_reducible apply awp_cond_t); exact rfl) | ((with_reducible apply awp_cond_f); exact rfl)))
  (first | (refine apost_ret rfl (resl_tmp rfl resl_nil) ?_))
  exact AV.Le.refl _
end Go.Proofs.Ytaennpehlhgggaa

namespace Go.Proofs.Ytaennpehlhgggaa
open Go.RowKit
set_option linter.unusedVariables false
set_option linter.unusedSimpArgs false
/-- is a number (twice, as a fraction) from low to high? -/
def wiB (x y low high kind : Int) : Bool := (decide (icmp (low * y) (x * 1) < 0) || (decide (icmp (low * y) (x * 1) = 0) && !decide (kind = 2))) && (decide (icmp (x * 1) (high * y) < 0) || (decide (icmp (x * 1) (high * y) = 0) && decide (kind = 1)))
/-- the cells of fractions. -/
def frC : List (Int × Int) → List AC
  | [] => []
  | (n, d) :: l => .c (.bool (decide (n < 0))) :: .p (NumP n) :: .c (.bool (decide (d < 0))) :: .p (NumP d) :: frC l
abbrev vFs (l : List (Int × Int)) : AV := vS 4 l.length (frC l)
/-- how far on the way a number is as great as a limit. -/
def waV (a b lim : Int) : List (Int × Int) :=
  let n := lim - 2 * a
  let d := 2 * (b - a)
  let n' := if d < 0 then -n else n
  let d' := if d < 0 then -d else d
  if d' = 0 ∨ n' < 0 ∨ d' < n' then [] else [(n', d')]
end Go.Proofs.Ytaennpehlhgggaa

namespace Go.Proofs.Ytaennpehlhgggaa
open Go.RowKit
set_option linter.unusedVariables false
set_option linter.unusedSimpArgs false
instance iPixS_1 : RowTy Try.prog 119 118 4 64 := ⟨by kernel_rfl⟩
/-- the middle of two fractions, as it is written. -/
def midP (p q : Int × Int) : Int × Int := (p.1 * q.2 + q.1 * p.2, p.2 * q.2 + p.2 * q.2)
def atP (L : List (Int × Int)) (i : Nat) : Int × Int := L.getD i (0, 1)
def rwMid (L : List (Int × Int)) (i k : Nat) : List (Int × Int) := (List.range k).map fun j => midP (atP L i) (atP L j)
def midsN (L : List (Int × Int)) (i : Nat) : List (Int × Int) := (List.range i).flatMap fun j => rwMid L j j
abbrev ptM (a1 a2 b1 b2 l1 l2 h1 h2 : Int) : List (Nat × List AC) := [(5, [.c (.int .i64 a1), .c (.int .i64 a2)]), (6, [.c (.int .i64 b1), .c (.int .i64 b2)]), (7, [.c (.int .i64 l1), .c (.int .i64 l2)]), (8, [.c (.int .i64 h1), .c (.int .i64 h2)])]
abbrev frRow (v : Value) (C : List (Int × Int)) : HRow := ⟨118, 4, v, C.length, frC C⟩
def MeO (L : List (Int × Int)) (N a1 a2 b1 b2 l1 l2 h1 h2 kind : Int) (m : Nat) (R : Rws) (ts : List (Nat × AV)) (ms : List (Nat × List AC)) : Prop :=
  ∃ (i : Nat) (v : Value) (j : Int), i ≤ L.length ∧ m = L.length - i ∧ j = i ∧ R = row1 0 (frRow v (L ++ midsN L i))
    ∧ ts = [(4, vI kind), (5, vO 5 0), (6, vO 6 0), (7, vO 7 0), (8, vO 8 0), (11, vC v), (12, vI N), (13, vI j)] ∧ ms = ptM a1 a2 b1 b2 l1 l2 h1 h2
def MeN (L : List (Int × Int)) (N a1 a2 b1 b2 l1 l2 h1 h2 kind : Int) (i : Nat) (ji : Int) (m : Nat) (R : Rws) (ts : List (Nat × AV)) (ms : List (Nat × List AC)) : Prop :=
  ∃ (k : Nat) (v : Value) (j : Int), k ≤ i ∧ m = i - k ∧ j = k ∧ R = row1 0 (frRow v (L ++ midsN L i ++ rwMid L i k))
    ∧ ts = [(4, vI kind), (5, vO 5 0), (6, vO 6 0), (7, vO 7 0), (8, vO 8 0), (11, vC v), (12, vI N), (13, vI ji), (14, vI j)] ∧ ms = ptM a1 a2 b1 b2 l1 l2 h1 h2
def MeF (F : List (Int × Int)) (g : Int × Int → Bool) (a1 a2 b1 b2 l1 l2 h1 h2 kind : Int) (m : Nat) (ts : List (Nat × AV)) (ms : List (Nat × List AC)) : Prop :=
  ∃ (i : Nat) (j : Int), i ≤ F.length ∧ m = F.length - i ∧ j = i ∧ (F.take i).any g = false
    ∧ ts = [(4, vI kind), (5, vO 5 0), (6, vO 6 0), (7, vO 7 0), (8, vO 8 0), (11, vFs F), (16, vI j)] ∧ ms = ptM a1 a2 b1 b2 l1 l2 h1 h2
end Go.Proofs.Ytaennpehlhgggaa

namespace Go.Proofs.Ytaennpehlhgggaa
open Go.RowKit
set_option linter.unusedVariables false
set_option linter.unusedSimpArgs false
/-- what Meets answers. -/
def cutV (a1 a2 b1 b2 l1 l2 h1 h2 k : Int) : Pa := cut4 (2 * a1 - l1) (2 * b1 - l1) (2 * a2 - l2) (2 * b2 - l2) (h1 - 2 * a1) (h1 - 2 * b1) (h2 - 2 * a2) (h2 - 2 * b2) (!decide (k = 2)) (decide (k = 1))
def meR (a1 a2 b1 b2 l1 l2 h1 h2 k : Int) : Bool := rB5 a1 a2 && rB5 b1 b2 && co6 l1 l2 && co6 h1 h2 && kd6 k
def meB (a1 a2 b1 b2 l1 l2 h1 h2 k : Int) : Bool := meR a1 a2 b1 b2 l1 l2 h1 h2 k && anB (cutV a1 a2 b1 b2 l1 l2 h1 h2 k)
set_option maxRecDepth 100000 in
set_option maxHeartbeats 8000000 in
theorem p_Meets_no {a1 a2 b1 b2 l1 l2 h1 h2 k : Int} {r1 r2 r3 r4 r5 : Bool} (R1 : PCall Try.prog 75 [vP a1 a2] (vB r1)) (R2 : PCall Try.prog 75 [vP b1 b2] (vB r2)) (K1 : PCall Try.prog 76 [vP l1 l2] (vB r3)) (K2 : PCall Try.prog 76 [vP h1 h2] (vB r4)) (K3 : PCall Try.prog 77 [vI k] (vB r5)) (h : (r1 && r2 && r3 && r4 && r5) = false) :
    PCall Try.prog 60 [vP a1 a2, vP b1 b2, vP l1 l2, vP h1 h2, vI k] (vB false) := by
  have cs : r1 = false ∨ (r1 = true ∧ r2 = false) ∨ (r1 = true ∧ r2 = true ∧ r3 = false) ∨ (r1 = true ∧ r2 = true ∧ r3 = true ∧ r4 = false) ∨ (r1 = true ∧ r2 = true ∧ r3 = true ∧ r4 = true ∧ r5 = false) := by
    cases r1 <;> cases r2 <;> cases r3 <;> cases r4 <;> cases r5 <;> simp_all
  clear h
  rcases cs with rfl | ⟨rfl, rfl⟩ | ⟨rfl, rfl, rfl⟩ | ⟨rfl, rfl, rfl, rfl⟩ | ⟨rfl, rfl, rfl, rfl, rfl⟩
  all_goals
    refine pcall_body (f := 60) Try.func60 rfl rfl rfl rfl ?_
    (repeat (first | ((with_reducible apply al_q); exact rfl) | (refine al_call1 rfl rfl rfl (by (first | exact R1 | exact R2 | exact K1 | exact K2 | exact K3)) rfl ?_) | ((with_reducible apply awp_seq)) | ((with_reducible apply athen_normal)) | ((with_reducible apply awp_region)) | ((with_reducible apply al_nil)) | ((with_reducible apply awp_ret)) | ((with_reducible apply athen_ret)) | ((with_reducible apply awp_cond_t); exact rfl)))
    (first | (refine apost_ret rfl (resl_tmp rfl resl_nil) ?_))
    exact AV.Le.refl _
theorem alB_ok : PaOK alB := ⟨⟨by decide, by decide⟩, ⟨by decide, by decide⟩⟩
theorem p_Meets {a1 a2 b1 b2 l1 l2 h1 h2 k : Int} : PCall Try.prog 60 [vP a1 a2, vP b1 b2, vP l1 l2, vP h1 h2, vI k] (vB (meB a1 a2 b1 b2 l1 l2 h1 h2 k)) := by
  unfold meB
  cases hr : meR a1 a2 b1 b2 l1 l2 h1 h2 k with
  | false => exact p_Meets_no (p_cRight rfl) (p_cRight rfl) (p_isCorner rfl) (p_isCorner rfl) (p_isKind rfl) hr
  | true =>
    rw [Bool.true_and]
    unfold meR at hr
    simp only [Bool.and_eq_true] at hr
    obtain ⟨⟨⟨⟨ra, rb⟩, rl⟩, rh⟩, rk⟩ := hr
    have ia := rB5_iff.1 ra
    have ib := rB5_iff.1 rb
    have il := co6_iff.1 rl
    have ih := co6_iff.1 rh
    unfold cutV cut4
    have o1 := kp_ok (u := 2 * a1 - l1) (v := 2 * b1 - l1) (w := !decide (k = 2)) alB_ok (by omega) (by omega)
    have o2 := kp_ok (u := 2 * a2 - l2) (v := 2 * b2 - l2) (w := !decide (k = 2)) o1 (by omega) (by omega)
    have o3 := kp_ok (u := h1 - 2 * a1) (v := h1 - 2 * b1) (w := decide (k = 1)) o2 (by omega) (by omega)
    have o4 := kp_ok (u := h2 - 2 * a2) (v := h2 - 2 * b2) (w := decide (k = 1)) o3 (by omega) (by omega)
    exact p_Meets' (p_cRight ra) (p_cRight rb) (p_isCorner rl) (p_isCorner rh) (p_isKind rk) rfl rfl p_allOf (p_cutLeft ia.1 ib.1 il.1 (p_keep alB_ok (by omega) (by omega))) (p_cutBelow ia.2 ib.2 il.2 (p_keep o1 (by omega) (by omega))) (p_cutRight ia.1 ib.1 ih.1 (p_keep o2 (by omega) (by omega))) (p_cutAbove ia.2 ib.2 ih.2 (p_keep o3 (by omega) (by omega))) (p_hasAny o4)
set_option maxRecDepth 100000 in
set_option maxHeartbeats 8000000 in
theorem p_Hits_no {a1 a2 b1 b2 x y k : Int} {r1 r2 : Bool} (G1 : PCall Try.prog 57 [vI k] (vB r1)) (G2 : PCall Try.prog 58 [vP x y, vI k] (vB r2)) (h : (r1 && r2) = false) : PCall Try.prog 43 [vP a1 a2, vP b1 b2, vP x y, vI k] (vB false) := by
  have cs : r1 = false ∨ (r1 = true ∧ r2 = false) := by cases r1 <;> cases r2 <;> simp_all
  clear h
  rcases cs with rfl | ⟨rfl, rfl⟩
  all_goals
    refine pcall_body (f := 43) Try.func43 rfl rfl rfl rfl ?_
    (repeat (first | ((with_reducible apply al_q); exact rfl) | (refine al_call1 rfl rfl rfl (by (first | exact G1 | exact G2)) rfl ?_) | (refine al_call2 rfl rfl rfl rfl (by (first | exact G1 | exact G2)) rfl ?_) | ((with_reducible apply awp_seq)) | ((with_reducible apply athen_normal)) | ((with_reducible apply awp_region)) | ((with_reducible apply al_nil)) | ((with_reducible apply awp_ret)) | ((with_reducible apply athen_ret)) | ((with_reducible apply awp_cond_t); exact rfl)))
    (first | (refine apost_ret rfl (resl_tmp rfl resl_nil) ?_))
    exact AV.Le.refl _
set_option maxRecDepth 100000 in
set_option maxHeartbeats 8000000 in
theorem p_Hits_yes {a1 a2 b1 b2 x y k l1 l2 h1 h2 : Int} {r : Bool} (G1 : PCall Try.prog 57 [vI k] (vB true)) (G2 : PCall Try.prog 58 [vP x y, vI k] (vB true)) (G3 : PCall Try.prog 59 [vP x y, vI k] (.tup [.agg [.c (.int .i64 l1), .c (.int .i64 l2)], .agg [.c (.int .i64 h1), .c (.int .i64 h2)]])) (M : PCall Try.prog 60 [vP a1 a2, vP b1 b2, vP l1 l2, vP h1 h2, vI 0] (vB r)) : PCall Try.prog 43 [vP a1 a2, vP b1 b2, vP x y, vI k] (vB r) := by
  refine pcall_body (f := 43) Try.func43 rfl rfl rfl rfl ?_
  (repeat (first | ((with_reducible apply al_q); exact rfl) | (refine al_call1 rfl rfl rfl (by (first | exact G1 | exact G2 | exact G3 | exact M)) rfl ?_) | (refine al_call2 rfl rfl rfl rfl (by (first | exact G1 | exact G2 | exact G3 | exact M)) rfl ?_) | (refine al_call5 rfl rfl rfl rfl rfl rfl rfl (by (first | exact G1 | exact G2 | exact G3 | exact M)) rfl ?_) | ((with_reducible apply awp_seq)) | ((with_reducible apply athen_normal)) | ((with_reducible apply awp_region)) | ((with_reducible apply al_nil)) | ((with_reducible apply awp_ret)) | ((with_reducible apply awp_skip)) | ((with_reducible apply awp_cond_f); exact rfl)))
  (first | (refine apost_ret rfl (resl_tmp rfl resl_nil) ?_))
  exact AV.Le.refl _
/-- what Hits answers. -/
def hiB (a1 a2 b1 b2 x y k : Int) : Bool := decide (0 ≤ k) && decide (k ≤ 28) && inB k.toNat x y && meB a1 a2 b1 b2 (2 * (2 ^ k.toNat * x) - 2 ^ k.toNat) (2 * (2 ^ k.toNat * y) - 2 ^ k.toNat) (2 * (2 ^ k.toNat * x) + 2 ^ k.toNat) (2 * (2 ^ k.toNat * y) + 2 ^ k.toNat) 0
theorem isR_toNat {k : Int} (h : (decide (0 ≤ k) && decide (k ≤ 28)) = true) : IsR k k.toNat := by
  simp only [Bool.and_eq_true, decide_eq_true_eq] at h
  unfold IsR
  omega
theorem p_Hits {a1 a2 b1 b2 x y k : Int} : PCall Try.prog 43 [vP a1 a2, vP b1 b2, vP x y, vI k] (vB (hiB a1 a2 b1 b2 x y k)) := by
  unfold hiB
  have G1 := p_gRight (k := k)
  cases hk : (decide (0 ≤ k) && decide (k ≤ 28)) with
  | false =>
    rw [hk] at G1
    obtain ⟨r, hr⟩ := isR_ex k
    exact p_Hits_no G1 (p_In hr rfl) rfl
  | true =>
    rw [hk] at G1
    have hr := isR_toNat hk
    cases hi : inB k.toNat x y with
    | false => exact p_Hits_no G1 (p_In hr hi) rfl
    | true => exact p_Hits_yes G1 (p_In hr hi) (p_Sides hr hi) p_Meets
/-- what Near answers. -/
def neB (a1 a2 b1 b2 p1 p2 f : Int) : Bool := rB5 p1 p2 && !decide (f < 0) && !decide (268435456 < f) && meB a1 a2 b1 b2 (2 * p1 - f) (2 * p2 - f) (2 * p1 + f) (2 * p2 + f) 1
end Go.Proofs.Ytaennpehlhgggaa

namespace Go.Proofs.Ytaennpehlhgggaa
set_option linter.unusedVariables false
def MetB (a1 a2 b1 b2 l1 l2 h1 h2 k : Int) : Prop := Met (2 * a1 - l1) (2 * b1 - l1) (2 * a2 - l2) (2 * b2 - l2) (h1 - 2 * a1) (h1 - 2 * b1) (h2 - 2 * a2) (h2 - 2 * b2) (!decide (k = 2)) (decide (k = 1))
theorem meB_iff {a1 a2 b1 b2 l1 l2 h1 h2 k : Int} : meB a1 a2 b1 b2 l1 l2 h1 h2 k = true ↔ meR a1 a2 b1 b2 l1 l2 h1 h2 k = true ∧ MetB a1 a2 b1 b2 l1 l2 h1 h2 k := by
  unfold meB cutV MetB
  rw [Bool.and_eq_true, cut4_any]
theorem meR_iff {a1 a2 b1 b2 l1 l2 h1 h2 k : Int} : meR a1 a2 b1 b2 l1 l2 h1 h2 k = true ↔ rB5 a1 a2 = true ∧ rB5 b1 b2 = true ∧ co6 l1 l2 = true ∧ co6 h1 h2 = true ∧ kd6 k = true := by
  unfold meR
  simp only [Bool.and_eq_true, and_assoc]
theorem hol_turn {u v n d : Int} {o : Bool} (h : Hol u v o n d) : Hol v u o (d - n) d := by
  unfold Hol at *
  have e : v * (d - (d - n)) + u * (d - n) = u * (d - n) + v * n := by grind
  rw [e]; exact h
theorem met_turn' {u1 v1 u2 v2 u3 v3 u4 v4 : Int} {o p : Bool} (h : Met u1 v1 u2 v2 u3 v3 u4 v4 o p) : Met v1 u1 v2 u2 v3 u3 v4 u4 o p := by
  obtain ⟨n, d, hd, hn, g1, g2, g3, g4⟩ := h
  exact ⟨d - n, d, hd, by omega, hol_turn g1, hol_turn g2, hol_turn g3, hol_turn g4⟩
theorem meB_turn (a1 a2 b1 b2 l1 l2 h1 h2 k : Int) : meB b1 b2 a1 a2 l1 l2 h1 h2 k = meB a1 a2 b1 b2 l1 l2 h1 h2 k := by
  rw [Bool.eq_iff_iff, meB_iff, meB_iff, meR_iff, meR_iff]
  unfold MetB
  exact ⟨fun ⟨⟨r1, r2, r3⟩, h⟩ => ⟨⟨r2, r1, r3⟩, met_turn' h⟩, fun ⟨⟨r1, r2, r3⟩, h⟩ => ⟨⟨r2, r1, r3⟩, met_turn' h⟩⟩
/-- at the ends. -/
theorem met_low {u1 v1 u2 v2 u3 v3 u4 v4 : Int} {o p : Bool} (g1 : 0 < u1 ∨ (o = true ∧ u1 = 0)) (g2 : 0 < u2 ∨ (o = true ∧ u2 = 0)) (g3 : 0 < u3 ∨ (p = true ∧ u3 = 0)) (g4 : 0 < u4 ∨ (p = true ∧ u4 = 0)) : Met u1 v1 u2 v2 u3 v3 u4 v4 o p := by
  refine ⟨0, 1, by omega, by omega, ?_, ?_, ?_, ?_⟩ <;> unfold Hol <;> simpa
/-- between. -/
theorem hol_no {u v n d : Int} {o : Bool} (hd : 0 < d) (hn : 0 ≤ n ∧ n ≤ d) (hu : u < 0 ∨ (u ≤ 0 ∧ o = false)) (hv : v < 0 ∨ (v ≤ 0 ∧ o = false)) : ¬ Hol u v o n d := by
  unfold Hol
  have a1 : u * (d - n) ≤ 0 := Int.mul_nonpos_of_nonpos_of_nonneg (by omega) (by omega)
  have a2 : v * n ≤ 0 := Int.mul_nonpos_of_nonpos_of_nonneg (by omega) (by omega)
  rintro (h | ⟨ho, h⟩)
  · omega
  · have hu' : u < 0 := by rcases hu with h | ⟨_, h⟩; exact h; rw [h] at ho; cases ho
    have hv' : v < 0 := by rcases hv with h | ⟨_, h⟩; exact h; rw [h] at ho; cases ho
    by_cases h0 : n = 0
    · subst h0
      have := Int.mul_neg_of_neg_of_pos hu' (by omega : 0 < d - 0)
      omega
    · have := Int.mul_neg_of_neg_of_pos hv' (by omega : 0 < n)
      omega
theorem met_sides {u1 v1 u2 v2 u3 v3 u4 v4 : Int} (h : Met u1 v1 u2 v2 u3 v3 u4 v4 true false) : (0 ≤ u1 ∨ 0 ≤ v1) ∧ (0 ≤ u2 ∨ 0 ≤ v2) ∧ (0 < u3 ∨ 0 < v3) ∧ (0 < u4 ∨ 0 < v4) := by
  obtain ⟨n, d, hd, hn, g1, g2, g3, g4⟩ := h
  refine ⟨Classical.byContradiction fun k => ?_, Classical.byContradiction fun k => ?_, Classical.byContradiction fun k => ?_, Classical.byContradiction fun k => ?_⟩
  · exact hol_no hd hn (.inl (by omega)) (.inl (by omega)) g1
  · exact hol_no hd hn (.inl (by omega)) (.inl (by omega)) g2
  · exact hol_no hd hn (.inr ⟨by omega, rfl⟩) (.inr ⟨by omega, rfl⟩) g3
  · exact hol_no hd hn (.inr ⟨by omega, rfl⟩) (.inr ⟨by omega, rfl⟩) g4
end Go.Proofs.Ytaennpehlhgggaa

namespace Go.Proofs.Ytaennpehlhgggaa
open Go.RowKit
set_option linter.unusedVariables false
set_option linter.unusedSimpArgs false
def basL (a1 a2 b1 b2 l1 l2 h1 h2 : Int) : List (Int × Int) := [(0, 1), (1, 1)] ++ waV a1 b1 l1 ++ waV a1 b1 h1 ++ waV a2 b2 l2 ++ waV a2 b2 h2
def allF (a1 a2 b1 b2 l1 l2 h1 h2 : Int) : List (Int × Int) := basL a1 a2 b1 b2 l1 l2 h1 h2 ++ midsN (basL a1 a2 b1 b2 l1 l2 h1 h2) (basL a1 a2 b1 b2 l1 l2 h1 h2).length
def gooF (a1 a2 b1 b2 l1 l2 h1 h2 kind : Int) (p : Int × Int) : Bool := wiB (2 * a1 * p.2 + p.1 * (2 * (b1 - a1)) * 1) (1 * p.2) l1 h1 kind && wiB (2 * a2 * p.2 + p.1 * (2 * (b2 - a2)) * 1) (1 * p.2) l2 h2 kind
/-- how far a place can be: its numbers. -/
def Goo (p : Int × Int) : Prop := 0 < p.2 ∧ 0 ≤ p.1 ∧ p.1 ≤ p.2
/-- where bounds come from. -/
def Cnd (u v n d : Int) : Prop := (0 < v - u ∧ n = -u ∧ d = v - u) ∨ (v - u < 0 ∧ n = u ∧ d = -(v - u))
end Go.Proofs.Ytaennpehlhgggaa

namespace Go.Proofs.Ytaennpehlhgggaa
open Go.ChangeShapes Go.WideShapes Go.ChangeAt Go.RowKit Go.Joins
set_option linter.unusedVariables false
set_option linter.unusedSimpArgs false
theorem own3 : ownKnob Try.prog.godebug = none := by kernel_rfl
/-- a type of plain values. -/
def flatB (P : Program) : Nat → TypeId → Bool
  | 0, _ => false
  | d + 1, t => match P.underlying t with
    | some .bool | some (.int _) | some .string => true
    | some (.struct fs) => fs.toList.all fun f => flatB P d f.type
    | some (.array _ e) => flatB P d e
    | _ => false
theorem mapM_flat {α β : Type} {f g : α → Option (β × List MemPlace)} : ∀ (l : List α) (xs : List (β × List MemPlace)), l.mapM f = some xs → (∀ a ∈ l, ∀ x, f a = some x → x.2 = [] ∧ g a = some (x.1, [])) → xs.flatMap (·.2) = [] ∧ l.mapM g = some xs
  | [], xs, h, _ => by cases h; exact ⟨rfl, rfl⟩
  | a :: l, xs, h, hk => by
    rw [List.mapM_cons] at h
    cases ha : f a with
    | none => rw [ha] at h; cases h
    | some b =>
      rw [ha] at h
      cases hl : l.mapM f with
      | none => rw [hl] at h; cases h
      | some bs =>
        rw [hl] at h
        cases h
        obtain ⟨h1, h2⟩ := hk a (by simp) b ha
        obtain ⟨h3, h4⟩ := mapM_flat l bs hl fun a' ha' => hk a' (by simp [ha'])
        refine ⟨by simp [h1]; intro a' b' hab; have := List.flatMap_eq_nil_iff.1 h3 _ hab; exact this, ?_⟩
        rw [List.mapM_cons, h2, h4]
        obtain ⟨b1, b2⟩ := b
        simp only at h1
        subst h1
        rfl
section
variable {H : Type} {enc : TypeId × Value → H} {P : Program}
theorem flat_trod : ∀ (d : Nat) (t : TypeId), flatB P d t = true → ∀ (fuel : Nat) (w : World) (base : Nat) (sp : Nat → Bool) (held : Bool) (cs : List Value) (x : DataW H × List MemPlace), DataW.trod enc P w base sp held fuel t cs = some x →
    x.2 = [] ∧ ∀ (w' : World) (base' : Nat) (sp' : Nat → Bool) (held' : Bool), DataW.trod enc P w' base' sp' held' fuel t cs = some (x.1, [])
  | 0, _, h, _, _, _, _, _, _, _, _ => by cases h
  | d + 1, t, hf, 0, _, _, _, _, _, _, h => by simp [DataW.trod] at h
  | d + 1, t, hf, fuel + 1, w, base, sp, held, cs, x, h => by
    have ih := fun t' (ht' : flatB P d t' = true) => flat_trod d t' ht' fuel
    rw [DataW.trod_step] at h
    simp only [DataW.trod_step]
    unfold flatB at hf
    unfold DataW.trodStep at h ⊢
    cases hu : P.underlying t with
    | none => rw [hu] at hf; cases hf
    | some D =>
      rw [hu] at hf h
      cases D with
      | bool =>
        match cs, h with
        | [.bool b], h => cases h; exact ⟨rfl, fun _ _ _ _ => rfl⟩
      | int k =>
        match cs, h with
        | [.int k' n], h =>
          simp only at h ⊢
          split at h
          · rename_i hc; cases h; exact ⟨rfl, fun _ _ _ _ => by rw [if_pos hc]⟩
          · cases h
      | string =>
        match cs, h with
        | [.string s], h =>
          simp only at h ⊢
          split at h
          · rename_i hc; cases h; exact ⟨rfl, fun _ _ _ _ => by rw [if_pos hc]⟩
          · cases h
      | struct fs =>
        simp only at h ⊢ hf
        split at h
        · rename_i hc
          simp only [Option.map_eq_some_iff] at h
          obtain ⟨xs, hx, rfl⟩ := h
          have hall := List.all_eq_true.1 hf
          refine ⟨?_, fun w' base' sp' held' => ?_⟩
          · exact (mapM_flat (g := fun f => DataW.trod enc P w base sp held fuel f.type ((cs.drop f.offset).take (P.cellsOf f.type))) _ _ hx fun f hf' y hy => ⟨(ih f.type (hall f hf') w base sp held _ y hy).1, (ih f.type (hall f hf') w base sp held _ y hy).2 w base sp held⟩).1
          · have := mapM_flat (g := fun f => DataW.trod enc P w' base' sp' held' fuel f.type ((cs.drop f.offset).take (P.cellsOf f.type))) _ _ hx fun f hf' y hy => ⟨(ih f.type (hall f hf') w base sp held _ y hy).1, (ih f.type (hall f hf') w base sp held _ y hy).2 w' base' sp' held'⟩
            rw [if_pos hc, this.2]
            simp only [Option.map_some, this.1]
        · cases h
      | array n e =>
        simp only at h ⊢ hf
        split at h
        · rename_i hc
          simp only [Option.map_eq_some_iff] at h
          obtain ⟨xs, hx, rfl⟩ := h
          refine ⟨?_, fun w' base' sp' held' => ?_⟩
          · exact (mapM_flat (g := fun i => DataW.trod enc P w base sp held fuel e ((cs.drop (i * P.cellsOf e)).take (P.cellsOf e))) _ _ hx fun f _ y hy => ⟨(ih e hf w base sp held _ y hy).1, (ih e hf w base sp held _ y hy).2 w base sp held⟩).1
          · have := mapM_flat (g := fun i => DataW.trod enc P w' base' sp' held' fuel e ((cs.drop (i * P.cellsOf e)).take (P.cellsOf e))) _ _ hx fun f _ y hy => ⟨(ih e hf w base sp held _ y hy).1, (ih e hf w base sp held _ y hy).2 w' base' sp' held'⟩
            rw [if_pos hc, this.2]
            simp only [Option.map_some, this.1]
        · cases h
      | _ => cases hf
theorem flat_arg {d : Nat} {t : TypeId} (hf : flatB P d t = true) {w : World} {base : Nat} {sp : Nat → Bool} {held : Bool} {v : Value} {D : DataW H} {p : List MemPlace} (h : DataW.Trod enc P w base sp held t v D p) :
    p = [] ∧ ∀ (w' : World) (base' : Nat) (sp' : Nat → Bool) (held' : Bool), DataW.Trod enc P w' base' sp' held' t v D [] := by
  obtain ⟨fuel, h⟩ := h
  obtain ⟨h1, h2⟩ := flat_trod d t hf fuel w base sp held _ _ h
  exact ⟨h1, fun w' base' sp' held' => ⟨fuel, h2 w' base' sp' held'⟩⟩
end
section
variable {P : Program} {W : World} {r : Reach} {b : Nat} {t : TypeId} {v : Value}
theorem okw_int {k : IntKind} (hu : P.underlying t = some (.int k)) (h : Cell.okWide P W r b t v) : ∃ n, v = .int k n ∧ k.min ≤ n ∧ n ≤ k.max := by
  unfold Cell.okWide Cell.ok at h
  rw [hu] at h
  cases v <;> simp only at h
  rename_i k' n
  obtain ⟨rfl, h⟩ := h
  exact ⟨n, rfl, by simpa [IntKind.has] using h⟩
theorem okw_one {D : TypeDesc} (hu : P.underlying t = some D) (hs : ∀ fs, D ≠ .struct fs) (ha : ∀ n e, D ≠ .array n e) (h : Value.okWide P W r b t v) : Cell.okWide P W r b t v := by
  unfold Value.okWide at h
  rw [hu] at h
  cases D <;> first | exact h | exact absurd rfl (hs _) | exact absurd rfl (ha _ _)
def aggB (P : Program) (t : TypeId) (n : Nat) (ts : List TypeId) : Bool :=
  (match P.underlying t with | some (.struct _) | some (.array _ _) => true | _ => false) && (P.cellsOf t == n) && (P.cellTypes P.depth t == some ts) && (ts.length == n) && (0 < n)
theorem okw_agg {n : Nat} {ts : List TypeId} (hB : aggB P t n ts = true) (h : Value.okWide P W r b t v) : ∃ cs : List Value, v = .agg cs.toArray ∧ cs.length = n ∧ ∀ (i : Nat) (u : TypeId) (c : Value), ts[i]? = some u → cs[i]? = some c → Cell.okWide P W r b u c := by
  unfold aggB at hB
  simp only [Bool.and_eq_true, beq_iff_eq, decide_eq_true_eq] at hB
  obtain ⟨⟨⟨⟨h1, h2⟩, h3⟩, h4⟩, h5⟩ := hB
  have key : ∃ cs : Array Value, v = .agg cs ∧ cs.size = P.cellsOf t ∧ Row.okWide P W r b t cs := by
    unfold Value.okWide at h
    split at h
    · exact h
    · exact h
    · exfalso
      split at h1
      · rename_i hu; rename_i h6 _ _ ; exact absurd hu (by simp_all)
      · simp_all
      · cases h1
  obtain ⟨cs, rfl, hs, ts', e1, _, hc⟩ := key
  rw [h3] at e1
  cases e1
  refine ⟨cs.toList, by simp, by simp [hs, h2], fun i u c hu hc' => ?_⟩
  have hlt : i < ts.length := (List.getElem?_eq_some_iff.1 hu).1
  obtain ⟨u', q1, q2⟩ := hc i c (by simpa using hc')
  rw [Nat.mod_eq_of_lt hlt, hu] at q1
  cases q1
  exact q2
end
theorem list4 {α : Type} {cs : List α} (h : cs.length = 4) : ∃ a b c d, cs = [a, b, c, d] := by match cs, h with | [a, b, c, d], _ => exact ⟨a, b, c, d, rfl⟩
end Go.Proofs.Ytaennpehlhgggaa

namespace Go.Proofs.Ytaennpehlhgggaa
open Go.RowKit
set_option linter.unusedVariables false
set_option linter.unusedSimpArgs false
/-- two points; a box. -/
abbrev v2 (a1 a2 b1 b2 : Int) : AV := .w (.agg [.c (.int .i64 a1), .c (.int .i64 a2), .c (.int .i64 b1), .c (.int .i64 b2)])
end Go.Proofs.Ytaennpehlhgggaa

namespace Go.Proofs.Ytaennpehlhgggaa
open Go.RowKit
set_option linter.unusedVariables false
set_option linter.unusedSimpArgs false
/-- what holds ahead of each round of Size's loop. -/
def SzI (k : Int) (r : Nat) (m : Nat) (ts : List (Nat × AV)) (ms : List (Nat × List AC)) : Prop :=
  ∃ (i : Nat) (v j : Int), i ≤ r ∧ m = r - i ∧ v = 2 ^ i ∧ j = i ∧ ms = [] ∧ ts = [(0, vI k), (3, vI v), (4, vI j)]
theorem gsn_spec {P v : Int} (hP : 0 < P) : 2 * ((2 * v + P) / (2 * P) * P) ≤ 2 * v + P ∧ 2 * v + P < 2 * ((2 * v + P) / (2 * P) * P) + 2 * P := by
  have h1 := Int.mul_ediv_add_emod (2 * v + P) (2 * P)
  have h2 := Int.emod_nonneg (2 * v + P) (show 2 * P ≠ 0 by omega)
  have h3 := Int.emod_lt_of_pos (2 * v + P) (show 0 < 2 * P by omega)
  have e : 2 * P * ((2 * v + P) / (2 * P)) = 2 * ((2 * v + P) / (2 * P) * P) := by rw [Int.mul_assoc, Int.mul_comm P]
  omega
theorem abs_mul_le {s P : Int} (hP : 0 < P) : s.natAbs ≤ (s * P).natAbs := by
  rw [Int.natAbs_mul]
  exact Nat.le_mul_of_pos_right _ (by omega)
end Go.Proofs.Ytaennpehlhgggaa

namespace Go.Proofs.Ytaennpehlhgggaa
open Go.RowKit
set_option linter.unusedVariables false
set_option linter.unusedSimpArgs false
abbrev v3 (k x y : Int) : AV := .w (.agg [.c (.int .i64 k), .c (.int .i64 x), .c (.int .i64 y)])
end Go.Proofs.Ytaennpehlhgggaa

namespace Go.Proofs.Ytaennpehlhgggaa
open Go.RowKit
set_option linter.unusedVariables false
set_option linter.unusedSimpArgs false
instance iPixF_1 : IPart Try.prog 52 2 true 2 := ⟨by kernel_rfl⟩
def MvI (a1 a2 b1 b2 q1 q2 k x y S X Y : Int) (r1 r2 r3 r4 : Bool) (m : Nat) (ts : List (Nat × AV)) (ms : List (Nat × List AC)) : Prop :=
  ∃ (i : Int) (t1 t2 t3 t4 : Int), ((m = 2 ∧ i = 0 ∧ t1 = 0 ∧ t2 = 0 ∧ t3 = 0 ∧ t4 = 0) ∨ (m = 1 ∧ i = 1 ∧ t1 = a1 + X ∧ t2 = a2 + Y ∧ t3 = 0 ∧ t4 = 0 ∧ r1 = true ∧ r2 = true) ∨ (m = 0 ∧ i = 2 ∧ t1 = a1 + X ∧ t2 = a2 + Y ∧ t3 = b1 + X ∧ t4 = b2 + Y ∧ r1 = true ∧ r2 = true ∧ r3 = true ∧ r4 = true))
    ∧ ts = [(3, vO 3 0), (4, vO 4 0), (7, vI k), (8, vI x), (9, vI y), (10, vI S), (11, vO 11 0), (50, v2 a1 a2 b1 b2), (51, vI i)]
    ∧ ms = [(3, [.c (.int .i64 a1), .c (.int .i64 a2), .c (.int .i64 b1), .c (.int .i64 b2)]), (4, [.c (.int .i64 q1), .c (.int .i64 q2)]), (11, [.c (.int .i64 t1), .c (.int .i64 t2), .c (.int .i64 t3), .c (.int .i64 t4)])]
end Go.Proofs.Ytaennpehlhgggaa

namespace Go.Proofs.Ytaennpehlhgggaa
open Go.RowKit
set_option linter.unusedVariables false
set_option linter.unusedSimpArgs false
theorem gsn_up {P v q : Int} (hP : 0 < P) (h : 0 ≤ 2 * v - (2 * (P * q) - P)) : q ≤ (2 * v + P) / (2 * P) := by
  obtain ⟨h1, h2⟩ := gsn_spec (v := v) hP
  generalize (2 * v + P) / (2 * P) = A at *
  have : P * q < P * (A + 1) := by rw [Int.mul_add, Int.mul_comm P A]; omega
  have := Int.lt_of_mul_lt_mul_left this (by omega)
  omega
theorem gsn_dn {P v q : Int} (hP : 0 < P) (h : 0 < 2 * (P * q) + P - 2 * v) : (2 * v + P) / (2 * P) ≤ q := by
  obtain ⟨h1, h2⟩ := gsn_spec (v := v) hP
  generalize (2 * v + P) / (2 * P) = A at *
  have : P * A < P * (q + 1) := by rw [Int.mul_add, Int.mul_comm P A]; omega
  have := Int.lt_of_mul_lt_mul_left this (by omega)
  omega
theorem hiB_iff {a1 a2 b1 b2 q1 q2 : Int} {r : Nat} (hr : r ≤ 28) : hiB a1 a2 b1 b2 q1 q2 r = true ↔ inB r q1 q2 = true ∧ meB a1 a2 b1 b2 (2 * (2 ^ r * q1) - 2 ^ r) (2 * (2 ^ r * q2) - 2 ^ r) (2 * (2 ^ r * q1) + 2 ^ r) (2 * (2 ^ r * q2) + 2 ^ r) 0 = true := by
  unfold hiB
  have g1 : decide ((0 : Int) ≤ (r : Int)) = true := decide_eq_true (by omega)
  have g2 : decide ((r : Int) ≤ 28) = true := decide_eq_true (by omega)
  rw [g1, g2, Int.toNat_natCast, Bool.and_self, Bool.true_and, Bool.and_eq_true]
theorem hiB_between {a1 a2 b1 b2 q1 q2 : Int} {r : Nat} (hr : r ≤ 28) (h : hiB a1 a2 b1 b2 q1 q2 r = true) : ((if gsn b1 r < gsn a1 r then gsn b1 r else gsn a1 r) ≤ q1 ∧ q1 ≤ (if gsn b1 r > gsn a1 r then gsn b1 r else gsn a1 r)) ∧ (if gsn b2 r < gsn a2 r then gsn b2 r else gsn a2 r) ≤ q2 ∧ q2 ≤ (if gsn b2 r > gsn a2 r then gsn b2 r else gsn a2 r) := by
  rw [hiB_iff hr, meB_iff] at h
  obtain ⟨_, _, h⟩ := h
  have hP : (0 : Int) < 2 ^ r := by have := pow28 hr; omega
  obtain ⟨s1, s2, s3, s4⟩ := met_sides h
  have u1 : q1 ≤ gsn a1 r ∨ q1 ≤ gsn b1 r := s1.elim (fun k => .inl (gsn_up hP k)) fun k => .inr (gsn_up hP k)
  have u2 : q2 ≤ gsn a2 r ∨ q2 ≤ gsn b2 r := s2.elim (fun k => .inl (gsn_up hP k)) fun k => .inr (gsn_up hP k)
  have u3 : gsn a1 r ≤ q1 ∨ gsn b1 r ≤ q1 := s3.elim (fun k => .inl (gsn_dn hP k)) fun k => .inr (gsn_dn hP k)
  have u4 : gsn a2 r ≤ q2 ∨ gsn b2 r ≤ q2 := s4.elim (fun k => .inl (gsn_dn hP k)) fun k => .inr (gsn_dn hP k)
  refine ⟨⟨?_, ?_⟩, ?_, ?_⟩ <;> split <;> omega
theorem hiB_end {a1 a2 b1 b2 : Int} {r : Nat} (hr : r ≤ 28) (ra : rB5 a1 a2 = true) (rb : rB5 b1 b2 = true) : hiB a1 a2 b1 b2 (gsn a1 r) (gsn a2 r) r = inB r (gsn a1 r) (gsn a2 r) := by
  rw [Bool.eq_iff_iff, hiB_iff hr]
  refine ⟨fun h => h.1, fun h => ⟨h, ?_⟩⟩
  have p28 := pow28 hr
  have hP : (0 : Int) < 2 ^ r := by omega
  have j := (inB_mul r _ _).1 h
  have g1 : 2 * (gsn a1 r * 2 ^ r) ≤ 2 * a1 + 2 ^ r ∧ 2 * a1 + 2 ^ r < 2 * (gsn a1 r * 2 ^ r) + 2 * 2 ^ r := gsn_spec hP
  have g2 : 2 * (gsn a2 r * 2 ^ r) ≤ 2 * a2 + 2 ^ r ∧ 2 * a2 + 2 ^ r < 2 * (gsn a2 r * 2 ^ r) + 2 * 2 ^ r := gsn_spec hP
  rw [Int.mul_comm (gsn a1 r)] at g1
  rw [Int.mul_comm (gsn a2 r)] at g2
  rw [meB_iff, meR_iff]
  generalize (2 : Int) ^ r = P at *
  generalize P * gsn a1 r = c1 at *
  generalize P * gsn a2 r = c2 at *
  refine ⟨⟨ra, rb, by rw [co6_iff]; omega, by rw [co6_iff]; omega, rfl⟩, met_low ?_ ?_ (.inl (by omega)) (.inl (by omega))⟩
  · by_cases h0 : 2 * a1 - (2 * c1 - P) = 0
    · exact .inr ⟨rfl, h0⟩
    · exact .inl (by omega)
  · by_cases h0 : 2 * a2 - (2 * c2 - P) = 0
    · exact .inr ⟨rfl, h0⟩
    · exact .inl (by omega)
theorem hiB_turn {a1 a2 b1 b2 q1 q2 k : Int} : hiB b1 b2 a1 a2 q1 q2 k = hiB a1 a2 b1 b2 q1 q2 k := by unfold hiB; rw [meB_turn]
theorem gsn_small {x : Int} {r : Nat} (hr : r ≤ 28) (x0 : -134217728 ≤ x) (x1 : x ≤ 134217728) : -268435456 ≤ gsn x r ∧ gsn x r ≤ 268435456 := by
  have p28 := pow28 hr
  have hP : (0 : Int) < 2 ^ r := by omega
  have g : 2 * (gsn x r * 2 ^ r) ≤ 2 * x + 2 ^ r ∧ 2 * x + 2 ^ r < 2 * (gsn x r * 2 ^ r) + 2 * 2 ^ r := gsn_spec hP
  have a := abs_mul_le (s := gsn x r) hP
  omega
end Go.Proofs.Ytaennpehlhgggaa

namespace Go.Proofs.Ytaennpehlhgggaa
open Go.RowKit
set_option linter.unusedVariables false
set_option linter.unusedSimpArgs false
abbrev vAdd9 (r : Int) (l : List Px) (b : Bool) (e : Int) : AV := .tup [.agg [.c (.int .i64 r), .p (SlP 2 l.length (itC l))], .one (.c (.bool b)), .one (.c (.int .i64 e))]
set_option maxRecDepth 100000 in
set_option maxHeartbeats 8000000 in
theorem p_Add9_had {r : Int} {l : List Px} (hl : l.length ≤ 100000) {x y : Int} (h : 0 ≤ numI l x y) : PCall Try.prog 13 [vSet9 r l, vP x y] (vAdd9 r l false 0) := by
  have C1 := p_Num9 (r := r) hl (x := x) (y := y)
  have h' : numI l x y ≥ 0 := h
  generalize numI l x y = k at *
  refine pcall_body (f := 13) Try.func13 rfl rfl rfl rfl ?_
  (repeat (first | ((with_reducible apply al_q); exact rfl) | (refine al_call2 rfl rfl rfl rfl (by (first | exact C1)) rfl ?_) | ((with_reducible apply awp_seq)) | ((with_reducible apply athen_normal)) | ((with_reducible apply awp_region)) | ((with_reducible apply al_nil)) | ((with_reducible apply awp_ret)) | ((with_reducible apply athen_ret)) | ((with_reducible apply awp_cond_1); exact rfl; (first | assumption | exact decide_eq_true (by omega) | (simp only [Bool.not_eq_true', decide_eq_false_iff_not, decide_eq_true_eq, Bool.not_eq_false']; (first | done | omega))))))
  (first | (refine apost_ret rfl (resl_agg rfl rfl rfl (resl_tmp rfl (resl_tmp rfl resl_nil))) ?_) | (refine apost_ret rfl (resl_one rfl rfl rfl (resl_tmp rfl (resl_tmp rfl resl_nil))) ?_))
  exact AV.Le.refl _
set_option maxRecDepth 100000 in
set_option maxHeartbeats 8000000 in
theorem p_Add9_full {r : Int} {l : List Px} (hl : l.length ≤ 100000) {x y : Int} (h : ¬ 0 ≤ numI l x y) (hr : r ≤ (l.length : Int)) : PCall Try.prog 13 [vSet9 r l, vP x y] (vAdd9 r l false 90) := by
  have C1 := p_Num9 (r := r) hl (x := x) (y := y)
  have h' : ¬ numI l x y ≥ 0 := h
  have hr' : (l.length : Int) ≥ r := hr
  generalize numI l x y = k at *
  refine pcall_body (f := 13) Try.func13 rfl rfl rfl rfl ?_
  (repeat (first | ((with_reducible apply al_q); exact rfl) | ((with_reducible apply al_len); (iterate 3 exact rfl)) | (refine al_call2 rfl rfl rfl rfl (by (first | exact C1)) rfl ?_) | ((with_reducible apply awp_seq)) | ((with_reducible apply athen_normal)) | ((with_reducible apply awp_region)) | ((with_reducible apply al_nil)) | ((with_reducible apply awp_ret)) | ((with_reducible apply awp_skip)) | ((with_reducible apply athen_ret)) | ((with_reducible apply awp_cond_1); exact rfl; (first | assumption | exact decide_eq_true (by omega) | (simp only [Bool.not_eq_true', decide_eq_false_iff_not, decide_eq_true_eq, Bool.not_eq_false']; (first | done | omega)))) | ((with_reducible apply awp_cond_0); exact rfl; (first | assumption | exact decide_eq_false (by omega) | (simp only [Bool.not_eq_true', decide_eq_false_iff_not, decide_eq_true_eq, Bool.not_eq_false']; (first | done | omega))))))
  (first | (refine apost_ret rfl (resl_agg rfl rfl rfl (resl_tmp rfl (resl_tmp rfl resl_nil))) ?_) | (refine apost_ret rfl (resl_one rfl rfl rfl (resl_tmp rfl (resl_tmp rfl resl_nil))) ?_))
  exact AV.Le.refl _
set_option maxRecDepth 100000 in
set_option maxHeartbeats 8000000 in
theorem p_Add9_new {r : Int} {l : List Px} (hl : l.length ≤ 100000) {x y : Int} (h : ¬ 0 ≤ numI l x y) (hr : ¬ r ≤ (l.length : Int)) : PCall Try.prog 13 [vSet9 r l, vP x y] (vAdd9 r (l ++ [(x, y)]) true 0) := by
  have C1 := p_Num9 (r := r) hl (x := x) (y := y)
  have h' : ¬ numI l x y ≥ 0 := h
  have hr' : ¬ (l.length : Int) ≥ r := hr
  have e1 : (l ++ [(x, y)]).length = l.length + 1 := by rw [List.length_append]; rfl
  generalize numI l x y = k at *
  unfold vAdd9
  rw [e1, ← itC_one9]
  refine pcall_body (f := 13) Try.func13 rfl rfl rfl rfl ?_
  refine awp_rows ?_
  (repeat (first | ((with_reducible apply rwp_drawH (id := 5) [1,2,4,5,0,3,6,7,8] [3000024]); kernel_rfl; kernel_rfl; exact rfl) | ((with_reducible apply rwp_seq)) | ((with_reducible apply rthen_normal)) | ((with_reducible apply rwp_region)) | ((with_reducible apply hs_nil)) | ((with_reducible apply rwp_skip)) | ((with_reducible apply rwp_cond_0); exact rfl; (first | assumption | exact decide_eq_false (by omega) | (simp only [Bool.not_eq_true', decide_eq_false_iff_not, decide_eq_true_eq, Bool.not_eq_false']; (first | done | omega)) | exact rfl)) | ((with_reducible apply hs_c); exact rfl; (repeat (first | ((with_reducible apply al_q); exact rfl) | ((with_reducible apply al_len); (iterate 3 exact rfl)) | ((with_reducible apply al_bslice); (iterate 10 exact rfl)) | (refine al_call2 rfl rfl rfl rfl (by (first | exact C1)) rfl ?_))); (with_reducible apply al_nil))))
  refine hs_new0 0 rfl rfl rfl rfl rfl (fun v hv => ?_)
  skip
  refine hs_app0 0 rfl rfl rfl rfl ?q1 ?q2 (itC_closed _) rfl (fun v1 hv1 => ?_)
  case q1 => exact le_maxLen (by show 0 + l.length ≤ 1000000; omega)
  case q2 => show (0 + l.length) * 16 ≤ 140737488355328; omega
  skip
  refine hs_app0 0 rfl rfl rfl rfl ?q1 ?q2 rfl rfl (fun v2 hv2 => ?_)
  case q1 => exact le_maxLen (by show 0 + l.length + 1 ≤ 1000000; omega)
  case q2 => show (0 + l.length + 1) * 16 ≤ 140737488355328; omega
  (repeat (first | ((with_reducible apply hs_nilS); kernel_rfl) | ((with_reducible apply rthen_normal)) | ((with_reducible apply hs_c); exact rfl; (repeat (first | ((with_reducible apply al_q); exact rfl))); (with_reducible apply al_nil))))
  refine rwp_coolm 0 25 2 1 _ rfl rfl rfl rfl ?_
  (repeat (first | ((with_reducible apply rwp_seq)) | ((with_reducible apply rthen_normal)) | ((with_reducible apply rwp_region)) | ((with_reducible apply hs_nil)) | ((with_reducible apply rwp_ret)) | ((with_reducible apply hs_c); exact rfl; (repeat (first | ((with_reducible apply al_q); exact rfl))); (with_reducible apply al_nil))))
  (first | (refine apost_ret rfl (resl_agg rfl rfl rfl (resl_tmp rfl (resl_tmp rfl resl_nil))) ?_) | (refine apost_ret rfl (resl_one rfl rfl rfl (resl_tmp rfl (resl_tmp rfl resl_nil))) ?_))
  exact AV.Le.of_eq (by rw [Nat.zero_add]; rfl)
section
variable {P : Program} {ops : Array Oper} {s : AS} {d ty : Nat} {pos : String} {after : Array Edge} {guard : Option (Nat × Bool)} {K : AS → Prop} {rest : List Oper}
end
end Go.Proofs.Ytaennpehlhgggaa

namespace Go.Proofs.Ytaennpehlhgggaa
open Go.RowKit
set_option linter.unusedVariables false
set_option linter.unusedSimpArgs false
/-- whose numbers are numbers. -/
def InI (p : Px) : Prop := (-9223372036854775808 ≤ p.1 ∧ p.1 ≤ 9223372036854775807) ∧ -9223372036854775808 ≤ p.2 ∧ p.2 ≤ 9223372036854775807
/-- is it near? -/
def nearF (a1 a2 b1 b2 : Int) (r : Nat) (p : Px) : Bool := btw9 p.1 (gsn a1 r) (gsn b1 r) && btw9 p.2 (gsn a2 r) (gsn b2 r)
def metF (a1 a2 b1 b2 k : Int) (p : Px) : Bool := hiB a1 a2 b1 b2 p.1 p.2 k
def NR9I (rm : Int) (L : List Px) (a1 a2 b1 b2 k : Int) (f : Px → Bool) (n : Nat) (R : Rws) (ts : List (Nat × AV)) (ms : List (Nat × List AC)) : Prop :=
  ∃ (i : Nat) (ii : Int), i ≤ L.length ∧ n = L.length - i ∧ ii = i ∧ R = noRows ∧ ms = [(4, [.c (.int .i64 rm), .p (SlP 2 L.length (itC L))]), (5, mPx a1 a2), (6, mPx b1 b2)] ∧ ts = [(3, vI k), (4, vOw 4), (5, vOw 5), (6, vOw 6), (9, vIt (sortI (decide (b1 < a1)) (decide (b2 < a2)) f (L.take i))), (10, vI ii)]
def OldI (l : List Px) (n : Nat) (R : Rws) (ts : List (Nat × AV)) (ms : List (Nat × List AC)) : Prop :=
  ∃ (k : Nat) (v : Value) (ki : Int), k ≤ l.length ∧ n = l.length - k ∧ ki = k ∧ R = row1 0 (p9Row v (l.take k)) ∧ ms = [] ∧ ts = [(3, vC v), (6, vIt l), (7, vI l.length), (8, vI ki)]
def Sm9I (l : List Px) (n : Nat) (ts : List (Nat × AV)) (ms : List (Nat × List AC)) : Prop :=
  ∃ (k : Nat) (ki : Int), k ≤ l.length ∧ n = l.length - k ∧ ki = k ∧ ms = [] ∧ ts = [(0, vIt l), (1, vIt l), (5, vI 0), (19, vI l.length), (20, vI ki)]
end Go.Proofs.Ytaennpehlhgggaa

namespace Go.Proofs.Ytaennpehlhgggaa
open Go.RowKit
set_option linter.unusedVariables false
set_option linter.unusedSimpArgs false
/-- told by a value, or by a pointer into a block that is held with it. -/
def AC.plainB : AC → Bool
  | .p _ => false
  | _ => true
def plainM (m : Mem) (R : Rws) : Prop := (∀ k cs, m k = some cs → cs.all AC.plainB = true) ∧ ∀ i r, R i = some r → 0 < r.sz ∧ r.ys.all AC.plainB = true
theorem RpL.plain {U U' : Nat → Prop} {ρ : Nat → Nat} {W W' : World} {xs : List AC} {vs : List Value} (h : RpL U ρ W xs vs) (hp : xs.all AC.plainB = true) : RpL U' ρ W' xs vs := by
  refine ⟨h.1, fun i x v hx hv => ?_⟩
  have h1 := h.2 i x v hx hv
  have h2 := List.all_eq_true.1 hp x (List.mem_of_getElem? hx)
  cases x with
  | c u => exact h1
  | own k o => exact h1
  | p S => cases h2
theorem HRow.ok.plain {U U' : Nat → Prop} {ρ : Nat → Nat} {W : World} {r : HRow} (h : r.ok U ρ W) (hs : 0 < r.sz) (hp : r.ys.all AC.plainB = true) : r.ok U' ρ W := by
  obtain ⟨xs, h1, h2⟩ := h.row hs
  exact .inl ⟨hs, xs, h1, h2.plain hp⟩
abbrev ptrO (b off : Nat) : Value := .pointer (some ⟨b, off, none⟩)
abbrev ptrV (b : Nat) : Value := ptrO b 0
abbrev noU : Nat → Prop := fun _ => False
theorem HHeap.lt {U : Nat → Prop} {ρ : Nat → Nat} {W : World} {m : Mem} {R : Rws} (h : HHeap U ρ W m R) {b : Nat} (hb : HotAt ρ m R b) : b < W.heap.size := by
  rcases hb with ⟨k, cs, hk, rfl⟩ | ⟨i, r, hi, hg⟩
  · obtain ⟨vs, ty, h1, _⟩ := h.mm k cs hk
    exact (Array.getElem?_eq_some_iff.1 h1).1
  · exact (h.rows i r hi).1.lt hg
/-- these blocks and rows, as they are, with nothing else that they hang on. -/
def thingSP (ρ : Nat → Nat) (m : Mem) (R : Rws) (k : Nat) : SP where
  holds w v := v = ptrV (ρ k) ∧ HHeap noU ρ w m R ∧ plainM m R
  foot w v b := HotAt ρ m R b
  frame := by
    rintro w w' v ⟨rfl, h, hp⟩ hf
    refine ⟨⟨rfl, ⟨fun j cs hj => ?_, h.mo, h.inj, fun i r hi => ?_, h.apart⟩, hp⟩, fun b hb => hb⟩
    · obtain ⟨vs, ty, h1, h2, h3⟩ := h.mm j cs hj
      exact ⟨vs, ty, by rw [hf _ (.inl ⟨j, cs, hj, rfl⟩)]; exact h1, h2.plain (hp.1 j cs hj), h3⟩
    · obtain ⟨h1, h2, h3⟩ := h.rows i r hi
      obtain ⟨xs, g1, g2⟩ := h1.row (hp.2 i r hi).1
      exact ⟨.inl ⟨(hp.2 i r hi).1, xs, ownsRow_kept g1 fun g q => hf g (.inr ⟨i, r, hi, .inl q⟩), g2.plain (hp.2 i r hi).2⟩, h2, h3⟩
  old := fun w v b ⟨_, h, _⟩ hb => h.lt hb
  cell := fun w v ⟨e, _⟩ => by rw [e]; rfl
/-- such a thing, held beside a state's rows. -/
def obRow (ρ : Nat → Nat) (m : Mem) (R : Rws) (k : Nat) : HRow := ⟨0, 0, ptrV (ρ k), 0, [.p (thingSP ρ m R k)]⟩
theorem obRow_own {ρ : Nat → Nat} {m : Mem} {R : Rws} {k : Nat} {W : World} (h : HHeap noU ρ W m R) (hp : plainM m R) {b : Nat} : (obRow ρ m R k).own b ↔ HotAt ρ m R b := by
  constructor
  · rintro (h1 | ⟨_, S, w, h1, h2, h3⟩)
    · cases h1
    · cases h1; exact h3
  · exact fun h1 => .inr ⟨rfl, thingSP ρ m R k, W, rfl, ⟨rfl, h, hp⟩, h1⟩
theorem obRow_own_of {ρ : Nat → Nat} {m : Mem} {R : Rws} {k : Nat} {b : Nat} (h : (obRow ρ m R k).own b) : HotAt ρ m R b := by
  rcases h with h1 | ⟨_, S, w, h1, h2, h3⟩
  · cases h1
  · cases h1; exact h3
theorem obRow_ok {U : Nat → Prop} {ρ ρ' : Nat → Nat} {m : Mem} {R : Rws} {k : Nat} {W : World} (h : HHeap noU ρ W m R) (hp : plainM m R) : (obRow ρ m R k).ok U ρ' W :=
  .inr ⟨rfl, rfl, rfl, ⟨_, rfl, rfl, h, hp⟩, fun b hb => h.lt (obRow_own_of hb)⟩
theorem obRow_heap {U : Nat → Prop} {ρ ρ' : Nat → Nat} {m : Mem} {R : Rws} {k : Nat} {W : World} (h : (obRow ρ m R k).ok U ρ' W) : HHeap noU ρ W m R ∧ plainM m R := by
  rcases h with ⟨h1, _⟩ | ⟨_, _, _, ⟨S, hS, hh⟩, _⟩
  · cases h1
  · cases hS; exact hh.2
/-- part of what is held, alone. -/
theorem HHeap.sub {U : Nat → Prop} {ρ : Nat → Nat} {W : World} {m m1 : Mem} {R R1 : Rws} (h : HHeap U ρ W m R) (hm : ∀ k cs, m1 k = some cs → m k = some cs) (hr : RLe R1 R) (mo : ∀ k cs x j, m1 k = some cs → x ∈ cs → x.owns j → ∃ cs', m1 j = some cs') : HHeap U ρ W m1 R1 := by
  refine ⟨fun k cs hk => h.mm k cs (hm k cs hk), mo, fun k k' cs cs' hk hk' => h.inj k k' cs cs' (hm k cs hk) (hm k' cs' hk'), fun i r hi => ?_, fun i j r q hi hj => h.apart i j r q (hr i r hi) (hr j q hj)⟩
  obtain ⟨h1, h2, h3⟩ := h.rows i r (hr i r hi)
  exact ⟨h1, h2, fun g hg => ⟨(h3 g hg).1, fun k cs hk => (h3 g hg).2 k cs (hm k cs hk)⟩⟩
theorem HHeap.none {U : Nat → Prop} {ρ : Nat → Nat} {W : World} {m : Mem} {R : Rws} (h : HHeap U ρ W m R) (hp : plainM m R) : HHeap noU ρ W m R := by
  refine ⟨fun k cs hk => ?_, h.mo, h.inj, fun i r hi => ?_, h.apart⟩
  · obtain ⟨vs, ty, h1, h2, _⟩ := h.mm k cs hk
    exact ⟨vs, ty, h1, h2.plain (hp.1 k cs hk), id⟩
  · obtain ⟨h1, h2, h3⟩ := h.rows i r hi
    exact ⟨h1.plain (hp.2 i r hi).1 (hp.2 i r hi).2, h2, fun g hg => ⟨id, (h3 g hg).2⟩⟩
theorem HHeap.more {U : Nat → Prop} {ρ : Nat → Nat} {W : World} {m : Mem} {R : Rws} (h : HHeap noU ρ W m R) (hp : plainM m R) (hU : ∀ b, HotAt ρ m R b → ¬ U b) : HHeap U ρ W m R := by
  refine ⟨fun k cs hk => ?_, h.mo, h.inj, fun i r hi => ?_, h.apart⟩
  · obtain ⟨vs, ty, h1, h2, _⟩ := h.mm k cs hk
    exact ⟨vs, ty, h1, h2.plain (hp.1 k cs hk), hU _ (.inl ⟨k, cs, hk, rfl⟩)⟩
  · obtain ⟨h1, h2, h3⟩ := h.rows i r hi
    exact ⟨h1.plain (hp.2 i r hi).1 (hp.2 i r hi).2, h2, fun g hg => ⟨hU g (.inr ⟨i, r, hi, hg⟩), (h3 g hg).2⟩⟩
theorem HHeap.notU {U : Nat → Prop} {ρ : Nat → Nat} {W : World} {m : Mem} {R : Rws} (h : HHeap U ρ W m R) {b : Nat} (hb : HotAt ρ m R b) : ¬ U b := by
  rcases hb with ⟨k, cs, hk, rfl⟩ | ⟨i, r, hi, hg⟩
  · exact (h.mm k cs hk).choose_spec.choose_spec.2.2
  · exact ((h.rows i r hi).2.2 b hg).1
/-- two parts that have no name in common have no block in common. -/
theorem HHeap.split {U : Nat → Prop} {ρ : Nat → Nat} {W : World} {m m1 m2 : Mem} {R R1 R2 : Rws} (h : HHeap U ρ W m R) (h1 : ∀ k cs, m1 k = some cs → m k = some cs) (h2 : ∀ k cs, m2 k = some cs → m k = some cs) (r1 : RLe R1 R) (r2 : RLe R2 R) (dm : ∀ k cs cs', m1 k = some cs → m2 k = some cs' → False) (dr : ∀ i r q, R1 i = some r → R2 i = some q → False) {b : Nat} (hb : HotAt ρ m1 R1 b) : ¬ HotAt ρ m2 R2 b := by
  rintro (⟨j, ds, hj, e⟩ | ⟨j, q, hj, hq⟩)
  · rcases hb with ⟨k, cs, hk, rfl⟩ | ⟨i, r, hi, hg⟩
    · have := h.inj j k _ _ (h2 j ds hj) (h1 k cs hk) e
      subst this
      exact dm j cs ds hk hj
    · exact ((h.rows i r (r1 i r hi)).2.2 b hg).2 j ds (h2 j ds hj) e
  · rcases hb with ⟨k, cs, hk, rfl⟩ | ⟨i, r, hi, hg⟩
    · exact ((h.rows j q (r2 j q hj)).2.2 _ hq).2 k cs (h1 k cs hk) rfl
    · by_cases e : i = j
      · subst e; exact dr i r q hi hj
      · exact h.apart i j r q (r1 i r hi) (r2 j q hj) e b hg hq
/-- a thing that stands at p, and is what S says. -/
abbrev ob (p : Value) (S : SP) : HRow := ⟨0, 0, p, 0, [.p S]⟩
/-- a method of such a thing. -/
def ThCall (P : Program) (f : FuncId) (args : List AV) (p : Value) (S : SP) (post : AV → SP → Prop) : Prop := ∀ i, HCall P f args noMem (row1 i (ob p S)) fun v m' R' => ∃ S', m' = noMem ∧ R' = row1 i (ob p S') ∧ post v S'
/-- one that makes a row, too. -/
def ThCall2 (P : Program) (f : FuncId) (args : List AV) (p : Value) (S : SP) (post : AV → SP → HRow → Prop) : Prop := ∀ i j, i ≠ j → HCall P f args noMem (row1 i (ob p S)) fun v m' R' => ∃ S' q, m' = noMem ∧ R' = upd (row1 i (ob p S')) j q ∧ 0 < q.sz ∧ post v S' q
/-- one that makes another thing. -/
def ThCall3 (P : Program) (f : FuncId) (args : List AV) (p : Value) (S : SP) (post : SP → Value → SP → Prop) : Prop := ∀ i j, i ≠ j → HCall P f args noMem (row1 i (ob p S)) fun v m' R' => ∃ S' p2 S2, m' = noMem ∧ R' = upd (row1 i (ob p S')) j (ob p2 S2) ∧ v = vC p2 ∧ post S' p2 S2
/-- a function that makes such a thing. -/
def ThNew (P : Program) (f : FuncId) (args : List AV) (post : Value → SP → Prop) : Prop := ∀ i, HCall P f args noMem noRows fun v m' R' => ∃ p S, m' = noMem ∧ R' = row1 i (ob p S) ∧ v = vC p ∧ post p S
theorem ptr_own {U : Nat → Prop} {ρ : Nat → Nat} {W : World} {k off : Nat} {v : Value} (h : v = ptrO (ρ k) off) : RpV U ρ W (.w (.one (.own k off))) v := by subst h; rfl
theorem RpVs.closed {U : Nat → Prop} {ρ ρ' : Nat → Nat} {W : World} {args : List AV} {vs : List Value} (hc : args.all AV.closedB = true) (h : RpVs U ρ W args vs) : RpVs U ρ' W args vs :=
  ⟨h.1, fun i x v hx hv => (h.2 i x v hx hv).map (fun b hb _ => ⟨hb, rfl⟩) fun j hj => absurd hj (AV.closed_of (List.all_eq_true.1 hc x (List.mem_of_getElem? hx)) j)⟩
/-- what is told of a thing's parts, beside those of others: the world's side. Each of the things Ts holds its own names. -/
theorem ob_own {ρ : Nat → Nat} {m : Mem} {R : Rws} {k : Nat} {b : Nat} (h : (ob (ptrV (ρ k)) (thingSP ρ m R k)).own b) : HotAt ρ m R b := obRow_own_of h
/-- a call on a thing's own blocks and rows, seen from without: what comes is told by whatever is made of it (R2), of which each block is one of those that are held then. -/
theorem th_raw {P : Program} {f : FuncId} {args : List AV} {ρ : Nat → Nat} {m : Mem} {R : Rws} {k off : Nat} {Post : AV → Mem → Rws → Prop} {Post2 : AV → Mem → Rws → Prop} (hk : ∃ cs, m k = some cs) (hac : args.all AV.closedB = true) (hc : HCall P f (.w (.one (.own k off)) :: args) m R Post) (i : Nat)
    (hp : ∀ r m1 R1 ρ1 U1 W1 v, Post r m1 R1 → ρ1 k = ρ k → HHeap U1 ρ1 W1 m1 R1 → RpV U1 ρ1 W1 r v → ∃ r2 R2, Post2 r2 noMem R2 ∧ r2.closedB = true ∧ RpV U1 ρ1 W1 r2 v ∧ HHeap U1 ρ1 W1 noMem R2 ∧ (∃ q, R2 i = some q) ∧ ∀ b, HotAt ρ1 noMem R2 b → HotAt ρ1 m1 R1 b) : HCall P f (vC (ptrO (ρ k) off) :: args) noMem (row1 i (ob (ptrV (ρ k)) (thingSP ρ m R k))) Post2 := by
  refine ⟨fun U ρ0 W vs hH hown hvs => ?_⟩
  have hi : row1 i (ob (ptrV (ρ k)) (thingSP ρ m R k)) i = some (ob (ptrV (ρ k)) (thingSP ρ m R k)) := by unfold row1; exact upd_same _ _ _
  obtain ⟨hok, _, hnu⟩ := hH.rows i _ hi
  obtain ⟨hh, hpl⟩ := obRow_heap hok
  have hat : ∀ b, HotAt ρ0 noMem (row1 i (ob (ptrV (ρ k)) (thingSP ρ m R k))) b ↔ HotAt ρ m R b := fun b => by
    constructor
    · rintro (⟨j, cs, hj, _⟩ | ⟨j, q, hj, hg⟩)
      · cases hj
      · obtain ⟨rfl, rfl⟩ := row1_iff hj; exact ob_own hg
    · exact fun h => .inr ⟨i, _, hi, (obRow_own hh hpl).2 h⟩
  have hU : ∀ b, HotAt ρ m R b → ¬ U b := fun b hb => (hnu b ((obRow_own hh hpl).2 hb)).1
  obtain ⟨hlen, hv⟩ := hvs
  match vs, hlen with
  | v0 :: vs, hlen =>
    have hv0 : v0 = ptrO (ρ k) off := (hv 0 _ v0 rfl rfl).1
    have hrest : RpVs U ρ W args vs := RpVs.closed hac ⟨by simpa using hlen, fun j x v hx hv' => hv (j + 1) x v hx hv'⟩
    refine (hc.call U ρ W (v0 :: vs) (hh.more hpl hU) (fun x hx j hj => ?_) ⟨hlen, fun j x v hx hv' => ?_⟩).mono ?_
    · rcases List.mem_cons.1 hx with rfl | hx
      · obtain ⟨y, hy, hj⟩ := hj
        simp [AW.cells] at hy
        subst hy
        cases hj
        exact hk
      · exact absurd hj (AV.closed_of (List.all_eq_true.1 hac x hx) j)
    · match j with
      | 0 => cases hx; cases hv'; exact ptr_own hv0
      | j + 1 => exact hrest.2 j x v hx hv'
    · rintro e W' ⟨v, r, m1, R1, ρ1, U1, rfl, hpost, hH1, hrv, hro, k1, k2, u1, u2, hb⟩
      have hρ : ρ1 k = ρ k := by obtain ⟨cs, h⟩ := hk; exact (k1 k cs h).1
      obtain ⟨r2, R2, q1, q2, q3, q4, q5, q6⟩ := hp r m1 R1 ρ1 U1 W' v hpost hρ hH1 hrv
      refine ⟨v, r2, noMem, R2, ρ1, U1, rfl, q1, q4, q3, fun j hj => absurd hj (AV.closed_of q2 j), fun k cs hk => (by cases hk), fun j q hj => ?_, fun b hb => ?_, fun b hb => ?_, ⟨hb.os, hb.tape, hb.output, hb.size, fun b hf => hb.block b ⟨hf.1, fun hh' => hf.2 ((hat b).2 hh')⟩⟩⟩
      · obtain ⟨rfl, rfl⟩ := row1_iff hj
        exact q5
      · rcases u1 b hb with q | q | q
        · exact .inl q
        · exact .inr (.inl q)
        · exact .inr (.inr ((hat b).2 q))
      · rcases u2 b (q6 b hb) with q | q
        · exact .inl ((hat b).2 q)
        · exact .inr q
theorem ob_rows {U : Nat → Prop} {ρ ρ' : Nat → Nat} {W : World} {m m1 : Mem} {R R1 : Rws} {k : Nat} (h : HHeap U ρ W m R) (hm : ∀ k cs, m1 k = some cs → m k = some cs) (hr : RLe R1 R) (mo : ∀ k cs x j, m1 k = some cs → x ∈ cs → x.owns j → ∃ cs', m1 j = some cs') (hp : plainM m1 R1) :
    (ob (ptrV (ρ k)) (thingSP ρ m1 R1 k)).ok U ρ' W ∧ (∀ y ∈ (ob (ptrV (ρ k)) (thingSP ρ m1 R1 k)).ys, y.closedB = true) ∧ ∀ g, (ob (ptrV (ρ k)) (thingSP ρ m1 R1 k)).own g → ¬ U g ∧ ∀ j cs, noMem j = some cs → ρ' j ≠ g :=
  ⟨obRow_ok ((h.sub hm hr mo).none hp) hp, fun y hy => by simp at hy; subst hy; rfl, fun g hg => ⟨(h.sub hm hr mo).notU (ob_own hg), fun j cs hj => (by cases hj)⟩⟩
/-- what a call on a thing's own blocks and rows tells, told of the thing. -/
theorem th_of {P : Program} {f : FuncId} {args : List AV} {ρ : Nat → Nat} {m : Mem} {R : Rws} {k off : Nat} {Post : AV → Mem → Rws → Prop} {post : AV → SP → Prop} (hk : ∃ cs, m k = some cs) (hac : args.all AV.closedB = true) (hc : HCall P f (.w (.one (.own k off)) :: args) m R Post)
    (hp : ∀ v m1 R1, Post v m1 R1 → v.closedB = true ∧ plainM m1 R1 ∧ ∀ ρ1, ρ1 k = ρ k → post v (thingSP ρ1 m1 R1 k)) : ThCall P f (vC (ptrO (ρ k) off) :: args) (ptrV (ρ k)) (thingSP ρ m R k) post := by
  intro i
  refine th_raw hk hac hc i fun r m1 R1 ρ1 U1 W1 v hpost hρ hH hrv => ?_
  obtain ⟨c1, c2, c3⟩ := hp _ _ _ hpost
  have hb := ob_rows (ρ' := ρ1) (k := k) hH (fun _ _ h => h) (RLe.refl _) hH.mo c2
  refine ⟨r, row1 i (ob (ptrV (ρ k)) (thingSP ρ1 m1 R1 k)), ⟨_, rfl, rfl, c3 ρ1 hρ⟩, c1, hrv, ⟨fun k cs hk => (by cases hk), fun k cs x j hk => (by cases hk), fun k k' cs cs' hk => (by cases hk), fun j q hj => ?_, fun j j' q q' hj hj' hne => ?_⟩, ⟨_, by unfold row1; exact upd_same _ _ _⟩, ?_⟩
  · obtain ⟨rfl, rfl⟩ := row1_iff hj
    rw [← hρ]; exact hb
  · obtain ⟨rfl, _⟩ := row1_iff hj
    obtain ⟨rfl, _⟩ := row1_iff hj'
    exact absurd rfl hne
  · rintro b (⟨j, cs, hj, _⟩ | ⟨j, q, hj, hg⟩)
    · cases hj
    · obtain ⟨rfl, rfl⟩ := row1_iff hj
      rw [← hρ] at hg
      exact ob_own hg
theorem upd_row1 {i j : Nat} {r q : HRow} {x : Nat} {p : HRow} (h : upd (row1 i r) j q x = some p) : (x = j ∧ p = q) ∨ (x = i ∧ p = r) := by
  by_cases e : x = j
  · subst e; rw [upd_same] at h; cases h; exact .inl ⟨rfl, rfl⟩
  · rw [upd_ne _ _ e] at h; exact .inr (row1_iff h)
/-- .. and of a row that is made. -/
theorem th_row {P : Program} {f : FuncId} {args : List AV} {ρ : Nat → Nat} {m : Mem} {R : Rws} {k off : Nat} {Post : AV → Mem → Rws → Prop} {post : AV → SP → HRow → Prop} (hk : ∃ cs, m k = some cs) (hac : args.all AV.closedB = true) (hc : HCall P f (.w (.one (.own k off)) :: args) m R Post)
    (hp : ∀ v m1 R', Post v m1 R' → ∃ R1 n q, v.closedB = true ∧ RLe R1 R' ∧ R1 n = none ∧ R' n = some q ∧ 0 < q.sz ∧ plainM m1 R1 ∧ ∀ ρ1, ρ1 k = ρ k → post v (thingSP ρ1 m1 R1 k) q) : ThCall2 P f (vC (ptrO (ρ k) off) :: args) (ptrV (ρ k)) (thingSP ρ m R k) post := by
  intro i j hij
  refine th_raw hk hac hc i fun r m1 R' ρ1 U1 W1 v hpost hρ hH hrv => ?_
  obtain ⟨R1, n, q, c1, hle, hn, hq, hqz, c2, c3⟩ := hp _ _ _ hpost
  have hb := ob_rows (ρ' := ρ1) (k := k) hH (fun _ _ h => h) hle hH.mo c2
  have hap : ∀ g, (ob (ptrV (ρ1 k)) (thingSP ρ1 m1 R1 k)).own g → ¬ q.own g := fun g hg hg' =>
    hH.split (m1 := m1) (R1 := R1) (m2 := noMem) (R2 := row1 n q) (fun _ _ h => h) (fun _ _ h => by cases h) hle (rle1 hq) (fun _ _ _ _ h => by cases h) (fun x r' q' h1 h2 => by obtain ⟨rfl, rfl⟩ := row1_iff h2; rw [hn] at h1; cases h1) (ob_own hg) (.inr ⟨n, q, by unfold row1; exact upd_same _ _ _, hg'⟩)
  rw [hρ] at hb hap
  have hqr := hH.rows n q hq
  refine ⟨r, upd (row1 i (ob (ptrV (ρ k)) (thingSP ρ1 m1 R1 k))) j q, ⟨_, q, rfl, rfl, hqz, c3 ρ1 hρ⟩, c1, hrv, ⟨fun k cs hk => (by cases hk), fun k cs x j hk => (by cases hk), fun k k' cs cs' hk => (by cases hk), fun x p hx => ?_, fun x y p p' hx hy hne g hg hg' => ?_⟩, ⟨_, by rw [upd_ne _ _ hij]; unfold row1; exact upd_same _ _ _⟩, ?_⟩
  · rcases upd_row1 hx with ⟨rfl, rfl⟩ | ⟨rfl, rfl⟩
    · exact ⟨hqr.1, hqr.2.1, fun g hg => ⟨(hqr.2.2 g hg).1, fun j cs hj => (by cases hj)⟩⟩
    · exact hb
  · rcases upd_row1 hx with ⟨rfl, rfl⟩ | ⟨rfl, rfl⟩
    · rcases upd_row1 hy with ⟨rfl, rfl⟩ | ⟨rfl, rfl⟩
      · exact hne rfl
      · exact hap g hg' hg
    · rcases upd_row1 hy with ⟨rfl, rfl⟩ | ⟨rfl, rfl⟩
      · exact hap g hg hg'
      · exact hne rfl
  · rintro b (⟨x, cs, hx, _⟩ | ⟨x, p, hx, hg⟩)
    · cases hx
    · rcases upd_row1 hx with ⟨rfl, rfl⟩ | ⟨rfl, rfl⟩
      · exact .inr ⟨n, p, hq, hg⟩
      · rw [← hρ] at hg
        rcases ob_own hg with ⟨k', cs, h1, h2⟩ | ⟨i', r', h1, h2⟩
        · exact .inl ⟨k', cs, h1, h2⟩
        · exact .inr ⟨i', r', hle _ _ h1, h2⟩
/-- .. and of another thing that is made. -/
theorem th_two {P : Program} {f : FuncId} {args : List AV} {ρ : Nat → Nat} {m : Mem} {R : Rws} {k off : Nat} {Post : AV → Mem → Rws → Prop} {post : SP → Value → SP → Prop} (hk : ∃ cs, m k = some cs) (hac : args.all AV.closedB = true) (hc : HCall P f (.w (.one (.own k off)) :: args) m R Post)
    (hp : ∀ v m' R', Post v m' R' → ∃ m1 R1 m2 R2 k2, v = .w (.one (.own k2 0)) ∧ (∀ k cs, m1 k = some cs → m' k = some cs) ∧ (∀ k cs, m2 k = some cs → m' k = some cs) ∧ RLe R1 R' ∧ RLe R2 R' ∧ (∀ k cs cs', m1 k = some cs → m2 k = some cs' → False) ∧ (∀ i r q, R1 i = some r → R2 i = some q → False) ∧
      (∀ k cs x j, m1 k = some cs → x ∈ cs → x.owns j → ∃ cs', m1 j = some cs') ∧ (∀ k cs x j, m2 k = some cs → x ∈ cs → x.owns j → ∃ cs', m2 j = some cs') ∧ plainM m1 R1 ∧ plainM m2 R2 ∧ ∀ ρ1, ρ1 k = ρ k → post (thingSP ρ1 m1 R1 k) (ptrV (ρ1 k2)) (thingSP ρ1 m2 R2 k2)) : ThCall3 P f (vC (ptrO (ρ k) off) :: args) (ptrV (ρ k)) (thingSP ρ m R k) post := by
  intro i j hij
  refine th_raw hk hac hc i fun r m' R' ρ1 U1 W1 v hpost hρ hH hrv => ?_
  obtain ⟨m1, R1, m2, R2, k2, rfl, s1, s2, l1, l2, dm, dr, o1, o2, p1, p2, c3⟩ := hp _ _ _ hpost
  have hb := ob_rows (ρ' := ρ1) (k := k) hH s1 l1 o1 p1
  have hb2 := ob_rows (ρ' := ρ1) (k := k2) hH s2 l2 o2 p2
  have hap : ∀ g, (ob (ptrV (ρ1 k)) (thingSP ρ1 m1 R1 k)).own g → ¬ (ob (ptrV (ρ1 k2)) (thingSP ρ1 m2 R2 k2)).own g := fun g hg hg' => hH.split s1 s2 l1 l2 dm dr (ob_own hg) (ob_own hg')
  rw [hρ] at hb hap
  have hv : v = ptrV (ρ1 k2) := hrv
  refine ⟨vC (ptrV (ρ1 k2)), upd (row1 i (ob (ptrV (ρ k)) (thingSP ρ1 m1 R1 k))) j (ob (ptrV (ρ1 k2)) (thingSP ρ1 m2 R2 k2)), ⟨_, _, _, rfl, rfl, rfl, c3 ρ1 hρ⟩, rfl, ⟨hv, rfl⟩, ⟨fun k cs hk => (by cases hk), fun k cs x j hk => (by cases hk), fun k k' cs cs' hk => (by cases hk), fun x p hx => ?_, fun x y p p' hx hy hne g hg hg' => ?_⟩, ⟨_, by rw [upd_ne _ _ hij]; unfold row1; exact upd_same _ _ _⟩, ?_⟩
  · rcases upd_row1 hx with ⟨rfl, rfl⟩ | ⟨rfl, rfl⟩
    · exact hb2
    · exact hb
  · rcases upd_row1 hx with ⟨rfl, rfl⟩ | ⟨rfl, rfl⟩
    · rcases upd_row1 hy with ⟨rfl, rfl⟩ | ⟨rfl, rfl⟩
      · exact hne rfl
      · exact hap g hg' hg
    · rcases upd_row1 hy with ⟨rfl, rfl⟩ | ⟨rfl, rfl⟩
      · exact hap g hg hg'
      · exact hne rfl
  · rintro b (⟨x, cs, hx, _⟩ | ⟨x, p, hx, hg⟩)
    · cases hx
    · rcases upd_row1 hx with ⟨rfl, rfl⟩ | ⟨rfl, rfl⟩
      · rcases ob_own hg with ⟨k', cs, h1, h2⟩ | ⟨i', r', h1, h2⟩
        · exact .inl ⟨k', cs, s2 _ _ h1, h2⟩
        · exact .inr ⟨i', r', l2 _ _ h1, h2⟩
      · rw [← hρ] at hg
        rcases ob_own hg with ⟨k', cs, h1, h2⟩ | ⟨i', r', h1, h2⟩
        · exact .inl ⟨k', cs, s1 _ _ h1, h2⟩
        · exact .inr ⟨i', r', l1 _ _ h1, h2⟩
/-- .. and of a function that makes one. -/
theorem th_new {P : Program} {f : FuncId} {args : List AV} {Post : AV → Mem → Rws → Prop} {post : Value → SP → Prop} (hc : HCall P f args noMem noRows Post)
    (hp : ∀ v m1 R1, Post v m1 R1 → ∃ k, v = .w (.one (.own k 0)) ∧ plainM m1 R1 ∧ ∀ ρ1, post (ptrV (ρ1 k)) (thingSP ρ1 m1 R1 k)) : ThNew P f args post := by
  intro i
  refine ⟨fun U ρ W vs hH hown hvs => (hc.call U ρ W vs hH hown hvs).mono ?_⟩
  rintro e W' ⟨v, r, m1, R1, ρ1, U1, rfl, hpost, hH1, hrv, hro, k1, k2, u1, u2, hb⟩
  obtain ⟨k, rfl, c2, c3⟩ := hp _ _ _ hpost
  have hbb := ob_rows (ρ' := ρ1) (k := k) hH1 (fun _ _ h => h) (RLe.refl _) hH1.mo c2
  have hv : v = ptrV (ρ1 k) := hrv
  refine ⟨v, vC (ptrV (ρ1 k)), noMem, row1 i (ob (ptrV (ρ1 k)) (thingSP ρ1 m1 R1 k)), ρ1, U1, rfl, ⟨_, _, rfl, rfl, rfl, c3 ρ1⟩, ⟨fun k cs hk => (by cases hk), fun k cs x j hk => (by cases hk), fun k k' cs cs' hk => (by cases hk), fun j q hj => ?_, fun j j' q q' hj hj' hne => ?_⟩, ⟨hv, rfl⟩, fun j hj => absurd hj (noown _ j), fun k cs hk => (by cases hk), fun j q hj => (by cases hj), u1, fun b hb => ?_, hb⟩
  · obtain ⟨rfl, rfl⟩ := row1_iff hj
    exact hbb
  · obtain ⟨rfl, _⟩ := row1_iff hj
    obtain ⟨rfl, _⟩ := row1_iff hj'
    exact absurd rfl hne
  · rcases hb with ⟨j, cs, hj, _⟩ | ⟨j, q, hj, hg⟩
    · cases hj
    · obtain ⟨rfl, rfl⟩ := row1_iff hj
      exact u2 b (ob_own hg)
section
variable {P : Program} {R : Rws} {s : AS} {ops : Array Oper} {dr : Option (List Nat)} {ty : Nat} {pos : String} {after : Array Edge} {guard : Option (Nat × Bool)} {K : Rws → AS → Prop} {rest : List Oper}
/-- such calls in a walk. -/
theorem hs_t1 (i : Nat) {dst : Option Nat} {f : FuncId} {g : Operand} {ts : Array TypeId} {l : List Operand} {args : List AV} {p : Value} {S : SP} {post : AV → SP → Prop} [E : Enters P f] (hw : want ops ⟨dst, .call ⟨.value g, l.toArray, ts⟩, ty, pos, after, guard⟩ s = some true) (hm : hotM dr ⟨dst, .call ⟨.value g, l.toArray, ts⟩, ty, pos, after, guard⟩ = true)
    (hg : s.look g = some (vC (.func (.func f) #[] #[]))) (ha : l.map s.look = args.map some) (hp : ThCall P f args p S post) (hi : R i = some (ob p S)) (hac : args.all AV.closedB = true) (hd : dstB dst s.n = true)
    (h : ∀ v S', post v S' → hList P ops dr K rest (upd R i (ob p S')) (s.put dst v)) : hList P ops dr K (⟨dst, .call ⟨.value g, l.toArray, ts⟩, ty, pos, after, guard⟩ :: rest) R s := by
  refine hs_h hw hm hg ha (hp i) (fun x hx j hj => absurd hj (AV.closed_of (List.all_eq_true.1 hac x hx) j)) (fun k' cs' h' => by cases h') (fun i' r' h' => ?_) (fun k' cs' x j h' hx hj => by cases h') hd ?_
  · obtain ⟨rfl, rfl⟩ := row1_iff h'; exact hi
  · rintro v m' R' ⟨S', rfl, rfl, hq⟩
    refine ⟨fun k' c h' => (by cases h'), ?_⟩
    rw [show ovr (row1 i (ob p S')) R = upd R i (ob p S') from ovr_upd R i _, over_noMem]
    exact h v S' hq
theorem ovr_two {R : Rws} {i j : Nat} (hij : i ≠ j) {r q : HRow} : ovr (upd (row1 i r) j q) R = upd (upd R i r) j q := by
  funext x
  unfold row1
  by_cases e : x = j
  · subst e; rw [upd_same]; exact ovr_l (upd_same _ _ _)
  · by_cases e2 : x = i
    · subst e2; rw [upd_ne _ _ e, upd_same]; exact ovr_l (by rw [upd_ne _ _ e, upd_same])
    · rw [upd_ne _ _ e, upd_ne _ _ e2]; exact ovr_r (by rw [upd_ne _ _ e, upd_ne _ _ e2]; rfl)
/-- the row that is made is given up at once. -/
theorem hs_t2c (i j : Nat) (hij : i ≠ j) {d : Nat} {f : FuncId} {g : Operand} {ts : Array TypeId} {l : List Operand} {args : List AV} {p : Value} {S : SP} {post : AV → SP → HRow → Prop} [E : Enters P f] (hw : want ops ⟨some d, .call ⟨.value g, l.toArray, ts⟩, ty, pos, after, guard⟩ s = some true) (hm : hotM dr ⟨some d, .call ⟨.value g, l.toArray, ts⟩, ty, pos, after, guard⟩ = true)
    (hg : s.look g = some (vC (.func (.func f) #[] #[]))) (ha : l.map s.look = args.map some) (hp : ThCall2 P f args p S post) (hi : R i = some (ob p S)) (hac : args.all AV.closedB = true) (hd : Nat.blt d s.n = true)
    (h : ∀ v S' q, post v S' q → v = vC q.v ∧ hList P ops dr K rest (fun x => if x = j then none else upd R i (ob p S') x) (s.put (some d) (vS q.sz q.n q.ys))) : hList P ops dr K (⟨some d, .call ⟨.value g, l.toArray, ts⟩, ty, pos, after, guard⟩ :: rest) R s := by
  refine ⟨true, hw, dst_ok hd, .inr (.inr (.inr (.inr (.inr ⟨rfl, hm, f, args, noMem, row1 i (ob p S), _, ⟨⟨_, g, rfl, rfl, .inl ⟨[], hg, by simpa using ha, rfl⟩⟩, E.h⟩, hp i j hij, fun x hx j hj => absurd hj (AV.closed_of (List.all_eq_true.1 hac x hx) j), fun k' cs' h' => (by cases h'), fun i' r' h' => ?_, fun k' cs' x j h' => (by cases h'), ?_⟩))))⟩
  · obtain ⟨rfl, rfl⟩ := row1_iff h'; exact hi
  · rintro v m' R' ⟨S', q, rfl, rfl, hqz, hq⟩ _ _ _
    refine ⟨fun k' c h' => (by cases h'), ?_⟩
    obtain ⟨rfl, h'⟩ := h v S' q hq
    rw [ovr_two hij, over_noMem]
    refine ⟨j, d, q, rfl, upd_same _ _ _, hqz, upd_same _ _ _, by simpa [Nat.blt_eq, AS.put] using hd, ?_⟩
    have e1 : (fun x => if x = j then none else upd (upd R i (ob p S')) j q x) = fun x => if x = j then none else upd R i (ob p S') x := by
      funext x
      by_cases e : x = j
      · rw [if_pos e, if_pos e]
      · rw [if_neg e, if_neg e, upd_ne _ _ e]
    rw [e1, put_put]
    exact h'
theorem hs_t3 (i j : Nat) (hij : i ≠ j) {dst : Option Nat} {f : FuncId} {g : Operand} {ts : Array TypeId} {l : List Operand} {args : List AV} {p : Value} {S : SP} {post : SP → Value → SP → Prop} [E : Enters P f] (hw : want ops ⟨dst, .call ⟨.value g, l.toArray, ts⟩, ty, pos, after, guard⟩ s = some true) (hm : hotM dr ⟨dst, .call ⟨.value g, l.toArray, ts⟩, ty, pos, after, guard⟩ = true)
    (hg : s.look g = some (vC (.func (.func f) #[] #[]))) (ha : l.map s.look = args.map some) (hp : ThCall3 P f args p S post) (hi : R i = some (ob p S)) (hac : args.all AV.closedB = true) (hd : dstB dst s.n = true)
    (h : ∀ S' p2 S2, post S' p2 S2 → hList P ops dr K rest (upd (upd R i (ob p S')) j (ob p2 S2)) (s.put dst (vC p2))) : hList P ops dr K (⟨dst, .call ⟨.value g, l.toArray, ts⟩, ty, pos, after, guard⟩ :: rest) R s := by
  refine hs_h hw hm hg ha (hp i j hij) (fun x hx j hj => absurd hj (AV.closed_of (List.all_eq_true.1 hac x hx) j)) (fun k' cs' h' => by cases h') (fun i' r' h' => ?_) (fun k' cs' x j h' hx hj => by cases h') hd ?_
  · obtain ⟨rfl, rfl⟩ := row1_iff h'; exact hi
  · rintro v m' R' ⟨S', p2, S2, rfl, rfl, rfl, hq⟩
    refine ⟨fun k' c h' => (by cases h'), ?_⟩
    rw [ovr_two hij, over_noMem]
    exact h S' p2 S2 hq
theorem hs_tn (i : Nat) {dst : Option Nat} {f : FuncId} {g : Operand} {ts : Array TypeId} {l : List Operand} {args : List AV} {post : Value → SP → Prop} [E : Enters P f] (hw : want ops ⟨dst, .call ⟨.value g, l.toArray, ts⟩, ty, pos, after, guard⟩ s = some true) (hm : hotM dr ⟨dst, .call ⟨.value g, l.toArray, ts⟩, ty, pos, after, guard⟩ = true)
    (hg : s.look g = some (vC (.func (.func f) #[] #[]))) (ha : l.map s.look = args.map some) (hp : ThNew P f args post) (hac : args.all AV.closedB = true) (hd : dstB dst s.n = true)
    (h : ∀ p S, post p S → hList P ops dr K rest (upd R i (ob p S)) (s.put dst (vC p))) : hList P ops dr K (⟨dst, .call ⟨.value g, l.toArray, ts⟩, ty, pos, after, guard⟩ :: rest) R s := by
  refine hs_h hw hm hg ha (hp i) (fun x hx j hj => absurd hj (AV.closed_of (List.all_eq_true.1 hac x hx) j)) (fun k' cs' h' => by cases h') (fun i' r' h' => by cases h') (fun k' cs' x j h' hx hj => by cases h') hd ?_
  rintro v m' R' ⟨p, S, rfl, rfl, rfl, hq⟩
  refine ⟨fun k' c h' => (by cases h'), ?_⟩
  rw [show ovr (row1 i (ob p S)) R = upd R i (ob p S) from ovr_upd R i _, over_noMem]
  exact h p S hq
end
end Go.Proofs.Ytaennpehlhgggaa

namespace Go.Proofs.Ytaennpehlhgggaa
open Go.RowKit
set_option linter.unusedVariables false
set_option linter.unusedSimpArgs false
section
variable {P : Program} {s : AS} {ops : Array Oper} {K : AS → Prop} {rest : List Oper} {ty : Nat} {pos : String} {after : Array Edge} {guard : Option (Nat × Bool)} {d : Nat}
theorem al_nilckX {x : Operand} {b off : Nat} (hw : want ops ⟨some d, .nilCheck x, ty, pos, after, guard⟩ s = some true) (hx : s.look x = some (vC (ptrO b off))) (hd : Nat.blt d s.n = true) (h : aList P ops K rest (s.put (some d) (vC (ptrO b off)))) : aList P ops K (⟨some d, .nilCheck x, ty, pos, after, guard⟩ :: rest) s := by
  refine al_quiet hw ⟨fun _ _ h => (by cases h), fun y hy => ?_, fun U ρ W env he => ?_, fun j hj => absurd hj (noown _ j)⟩ hd h
  · simp [Op.operands] at hy
    subst hy
    exact ⟨_, hx⟩
  · have hv : env x = ptrO b off := (he x (by simp [Op.operands]) _ hx).1
    exact ⟨_, by simp only [execOp, hv]; rfl, rfl, rfl⟩
theorem al_fldX {x : Operand} {sty i b off fo : Nat} [F : FldOf P sty i fo] (hw : want ops ⟨some d, .fieldAddr sty x i, ty, pos, after, guard⟩ s = some true) (hx : s.look x = some (vC (ptrO b off))) (hd : Nat.blt d s.n = true) (h : aList P ops K rest (s.put (some d) (vC (ptrO b (off + fo))))) : aList P ops K (⟨some d, .fieldAddr sty x i, ty, pos, after, guard⟩ :: rest) s := by
  refine al_quiet (av := vC (ptrO b (off + fo))) hw ⟨fun _ _ h => (by cases h), fun y hy => ?_, fun U ρ W env he => ?_, fun j hj => absurd hj (noown _ j)⟩ hd h
  · simp [Op.operands] at hy
    subst hy
    exact ⟨_, hx⟩
  · have hp : env x = .pointer (some ⟨b, off, none⟩) := (he x (by simp [Op.operands]) _ hx).1
    have hF := F.h
    unfold fldOf at hF
    split at hF
    · rename_i fs hu
      cases hf : fs[i]? with
      | none => rw [hf] at hF; cases hF
      | some f =>
        rw [hf] at hF
        simp only [Option.bind_some] at hF
        cases hi : P.info? f.type with
        | none => rw [hi] at hF; cases hF
        | some t =>
          rw [hi] at hF
          simp only [Option.bind_some] at hF
          split at hF
          · cases hF
          · rename_i hne
            cases hF
            refine ⟨.pointer (some ⟨b, off + f.offset, none⟩), ?_, rfl, rfl⟩
            have hadd : (⟨b, off, none⟩ : Addr).add f.offset = ⟨b, off + f.offset, none⟩ := by unfold Addr.add; split <;> simp_all
            simp only [execOp, Instr.fieldAt, hp, Instr.sureAddr, Sem.run_bind, Sem.run_pure, Result.andThen_ok, run_underlying hu, hf, fieldPlace, run_sizeOf' hi, if_neg hne, hadd]
    · cases hF
theorem run_equalIn_nilp (n : Nat) {t e : TypeId} (hu : P.underlying t = some (.pointer e)) (a : Addr) (W : World) : (Op.equalIn (n + 1) t (.pointer (some a)) (.pointer none)).run P W = .ok false W := by
  simp [Op.equalIn, run_underlying hu]
theorem run_equal_nilp {t e : TypeId} (hu : P.underlying t = some (.pointer e)) (a : Addr) (W : World) : (Op.equal t (.pointer (some a)) (.pointer none)).run P W = .ok false W := run_equalIn_nilp 9999 hu a W
theorem run_eq_nilp {t e : TypeId} (hu : P.underlying t = some (.pointer e)) (a : Addr) (W : World) : (binOp .eql t (.pointer (some a)) (.pointer none)).run P W = .ok (.bool false) W := by
  simp only [binOp]
  simp [run_equal_nilp hu]
theorem guard_ptr {op : BinOp} {t : TypeId} {x y : Operand} {a : Option Addr} {v : Value} : eqGuard op t x y (.pointer a) v = pure () := by cases op <;> rfl
def isPtr (P : Program) (t : TypeId) : Bool := match P.underlying t with
  | some (.pointer _) => true
  | _ => false
theorem al_eqptr {t yt : Nat} {x : Operand} {b off : Nat} (hw : want ops ⟨some d, .binOp .eql t x (.const (.pointer none)) yt, ty, pos, after, guard⟩ s = some true) (hx : s.look x = some (vC (ptrO b off))) (hu : isPtr P t = true) (hd : Nat.blt d s.n = true) (h : aList P ops K rest (s.put (some d) (vB false))) : aList P ops K (⟨some d, .binOp .eql t x (.const (.pointer none)) yt, ty, pos, after, guard⟩ :: rest) s :=
  by
  obtain ⟨e, he⟩ : ∃ e, P.underlying t = some (.pointer e) := by
    unfold isPtr at hu
    split at hu
    · rename_i e he; exact ⟨e, he⟩
    · cases hu
  exact al_bin hw hx rfl rfl rfl (fun W => by rw [guard_ptr]; rfl) (fun W => run_eq_nilp he _ W) rfl hd h
end
section
variable {P : Program} {s : AS} {ops : Array Oper} {K : AS → Prop} {rest : List Oper} {ty : Nat} {pos : String} {after : Array Edge} {guard : Option (Nat × Bool)} {d : Nat}
theorem run_ne_nilp {t e : TypeId} (hu : P.underlying t = some (.pointer e)) (a : Addr) (W : World) : (binOp .neq t (.pointer (some a)) (.pointer none)).run P W = .ok (.bool true) W := by
  simp only [binOp]
  simp [run_equal_nilp hu]
theorem al_neptr {t yt : Nat} {x : Operand} {b off : Nat} (hw : want ops ⟨some d, .binOp .neq t x (.const (.pointer none)) yt, ty, pos, after, guard⟩ s = some true) (hx : s.look x = some (vC (ptrO b off))) (hu : isPtr P t = true) (hd : Nat.blt d s.n = true) (h : aList P ops K rest (s.put (some d) (vB true))) : aList P ops K (⟨some d, .binOp .neq t x (.const (.pointer none)) yt, ty, pos, after, guard⟩ :: rest) s := by
  obtain ⟨e, he⟩ : ∃ e, P.underlying t = some (.pointer e) := by
    unfold isPtr at hu
    split at hu
    · rename_i e he; exact ⟨e, he⟩
    · cases hu
  exact al_bin hw hx rfl rfl rfl (fun W => by rw [guard_ptr]; rfl) (fun W => run_ne_nilp he _ W) rfl hd h
end
/-- a function that makes a thing, and tells more. -/
def ThNewV (P : Program) (f : FuncId) (args : List AV) (post : AV → Value → SP → Prop) : Prop := ∀ i, HCall P f args noMem noRows fun v m' R' => ∃ p S, m' = noMem ∧ R' = row1 i (ob p S) ∧ v.closedB = true ∧ post v p S
theorem thnew_of {P : Program} {f : FuncId} {args : List AV} {post : AV → Value → SP → Prop} (ha : args.all AV.closedB = true)
    (h : HCall P f args noMem noRows fun v m' R' => ∃ p S, m' = noMem ∧ R' = row1 0 (ob p S) ∧ v.closedB = true ∧ post v p S) : ThNewV P f args post := by
  intro i
  have h1 := h.ren (π := fun j => j) (σ := swp 0 i) (τ := swp 0 i) (fun _ => rfl) (swp_swp _ _) (swp_swp _ _)
  have e2 : args.map (AV.ren fun j => j) = args := by
    rw [List.all_eq_true] at ha
    conv => rhs; rw [← List.map_id args]
    exact List.map_congr_left fun x hx => ren_closedV (ha x hx)
  rw [e2, show Mem.ren (fun j => j) noMem = noMem from rfl, show Rws.ren (swp 0 i) noRows = noRows from rfl] at h1
  refine ⟨fun U ρ W vs hH hown hvs => (h1.call U ρ W vs hH hown hvs).mono ?_⟩
  rintro e W' ⟨v1, r1, m', R', ρ', U', q0, ⟨r2, m2, R2, ⟨p, S, rfl, rfl, hc, hq⟩, rfl, rfl, rfl⟩, q⟩
  rw [show Mem.ren (fun j => j) noMem = noMem from rfl, row1_ren, ren_closedV hc] at q
  exact ⟨v1, r2, noMem, row1 i (ob p S), ρ', U', q0, ⟨p, S, rfl, rfl, hc, hq⟩, q⟩
theorem SP.same {A B : SP} (h1 : A.holds = B.holds) (h2 : A.foot = B.foot) : A = B := by
  cases A; cases B; cases h1; cases h2; rfl
theorem AC.ren_plain {π : Nat → Nat} (x : AC) : (x.ren π).plainB = x.plainB := by cases x <;> rfl
theorem plainM_ren {π σ τ : Nat → Nat} (hπ : ∀ j, π (π j) = j) (hσ : ∀ j, σ (τ j) = j) {m : Mem} {R : Rws} : plainM (m.ren π) (R.ren σ) ↔ plainM m R := by
  constructor
  · rintro ⟨h1, h2⟩
    refine ⟨fun k cs hk => ?_, fun i r hi => h2 (τ i) r (by unfold Rws.ren; rw [hσ]; exact hi)⟩
    have := h1 _ _ (Mem.ren_of hπ hk)
    rw [List.all_map] at this
    rw [List.all_eq_true] at this ⊢
    exact fun x hx => (AC.ren_plain x).symm.trans (this x hx)
  · rintro ⟨h1, h2⟩
    refine ⟨fun k cs hk => ?_, fun i r hi => h2 (σ i) r hi⟩
    obtain ⟨ds, hd, rfl⟩ := Mem.ren_some hk
    have := h1 _ _ hd
    rw [List.all_map]
    rw [List.all_eq_true] at this ⊢
    exact fun x hx => (AC.ren_plain x).trans (this x hx)
/-- the same thing by other names. -/
theorem thingSP_ren {π σ τ : Nat → Nat} (hπ : ∀ j, π (π j) = j) (hσ : ∀ j, σ (τ j) = j) (hτ : ∀ j, τ (σ j) = j) {ρ : Nat → Nat} {m : Mem} {R : Rws} {k : Nat} : thingSP ρ (m.ren π) (R.ren σ) (π k) = thingSP (fun j => ρ (π j)) m R k := by
  refine SP.same ?_ ?_
  · funext w v
    show (v = ptrV (ρ (π k)) ∧ HHeap noU ρ w (m.ren π) (R.ren σ) ∧ plainM (m.ren π) (R.ren σ)) = (v = ptrV (ρ (π k)) ∧ HHeap noU (fun j => ρ (π j)) w m R ∧ plainM m R)
    rw [propext (plainM_ren hπ hσ), propext (HHeap.ren hπ hσ hτ)]
  · funext w v b
    exact propext (HotAt.ren hπ hσ)
/-- the end of a function that is handed a thing's block and rows. -/
theorem hfin_g {P : Program} {fn : Func} {l : List ResultVar} {xs : List AW} {R R0 R1 : Rws} {s : AS} {cs cs' : List AC} {Post : AV → Mem → Rws → Prop} (hr : fn.results = l.toArray) (h : l.map (resOf P s) = xs.map some) (hk : s.mem 1000 = some cs') (hR : RLe R1 R) (hc : cs'.all AC.closedB = true) (hx : (packed xs).closedB = true) (h0 : ∀ i r, R0 i = some r → ∃ r', R1 i = some r')
    (hp : Post (packed xs) (mem1 1000 cs') R1) : hfin P fn (mem1 1000 cs) R0 Post R s := by
  refine ⟨xs, packed xs, mem1 1000 cs', R1, by rw [hr]; exact h, .refl _, hp, fun k c h => ?_, hR, fun j hj => absurd hj (AV.closed_of hx j), fun k c x j h hx hj => ?_, fun k c h => ?_, h0⟩
  · obtain ⟨rfl, rfl⟩ := mem1_iff h; exact hk
  · obtain ⟨rfl, rfl⟩ := mem1_iff h; exact absurd hj (AC.closed_of (List.all_eq_true.1 hc x hx) j)
  · obtain ⟨rfl, rfl⟩ := mem1_iff h; exact ⟨cs', by unfold mem1; exact upd_same _ _ _⟩
/-- the end of a function that makes a thing of block k and some rows. -/
theorem hfin_gn (k : Nat) {P : Program} {fn : Func} {l : List ResultVar} {xs : List AW} {R R1 : Rws} {s : AS} {cs' : List AC} {Post : AV → Mem → Rws → Prop} (hr : fn.results = l.toArray) (h : l.map (resOf P s) = xs.map some) (hk : s.mem k = some cs') (hR : RLe R1 R) (hc : cs'.all AC.closedB = true) (hx : (packed xs).ownB k = true)
    (hp : Post (packed xs) (mem1 k cs') R1) : hfin P fn noMem noRows Post R s := by
  refine ⟨xs, packed xs, mem1 k cs', R1, by rw [hr]; exact h, .refl _, hp, fun k c h => ?_, hR, fun j hj => ?_, fun k c x j h hxc hj => ?_, fun k c h => (by cases h), fun i r h => (by cases h)⟩
  · obtain ⟨rfl, rfl⟩ := mem1_iff h; exact hk
  · rw [AV.ownB_spec hx hj]; exact ⟨cs', by unfold mem1; exact upd_same _ _ _⟩
  · obtain ⟨rfl, rfl⟩ := mem1_iff h; exact absurd hj (AC.closed_of (List.all_eq_true.1 hc x hxc) j)
/-- the end of such a function. -/
theorem hfin_t {P : Program} {fn : Func} {l : List ResultVar} {xs : List AW} {R : Rws} {s : AS} {p : Value} {S : SP} {post : AV → Value → SP → Prop} (hr : fn.results = l.toArray) (h : l.map (resOf P s) = xs.map some) (hi : R 0 = some (ob p S)) (hx : (packed xs).closedB = true)
    (hp : post (packed xs) p S) : hfin P fn noMem noRows (fun v m' R' => ∃ p S, m' = noMem ∧ R' = row1 0 (ob p S) ∧ v.closedB = true ∧ post v p S) R s := by
  refine ⟨xs, packed xs, noMem, row1 0 (ob p S), by rw [hr]; exact h, .refl _, ⟨p, S, rfl, rfl, hx, hp⟩, fun k c h => (by cases h), fun i q h => ?_, fun j hj => absurd hj (AV.closed_of hx j), fun k c x j h => (by cases h), fun k c h => (by cases h), fun i q h => (by cases h)⟩
  obtain ⟨rfl, rfl⟩ := row1_iff h; exact hi
section
variable {P : Program} {R : Rws} {s : AS} {ops : Array Oper} {dr : Option (List Nat)} {ty : Nat} {pos : String} {after : Array Edge} {guard : Option (Nat × Bool)} {K : Rws → AS → Prop} {rest : List Oper}
theorem hs_tv (i : Nat) {dst : Option Nat} {f : FuncId} {g : Operand} {ts : Array TypeId} {l : List Operand} {args : List AV} {post : AV → Value → SP → Prop} [E : Enters P f] (hw : want ops ⟨dst, .call ⟨.value g, l.toArray, ts⟩, ty, pos, after, guard⟩ s = some true) (hm : hotM dr ⟨dst, .call ⟨.value g, l.toArray, ts⟩, ty, pos, after, guard⟩ = true)
    (hg : s.look g = some (vC (.func (.func f) #[] #[]))) (ha : l.map s.look = args.map some) (hp : ThNewV P f args post) (hac : args.all AV.closedB = true) (hd : dstB dst s.n = true)
    (h : ∀ v p S, post v p S → hList P ops dr K rest (upd R i (ob p S)) (s.put dst v)) : hList P ops dr K (⟨dst, .call ⟨.value g, l.toArray, ts⟩, ty, pos, after, guard⟩ :: rest) R s := by
  refine hs_h hw hm hg ha (hp i) (fun x hx j hj => absurd hj (AV.closed_of (List.all_eq_true.1 hac x hx) j)) (fun k' cs' h' => by cases h') (fun i' r' h' => by cases h') (fun k' cs' x j h' hx hj => by cases h') hd ?_
  rintro v m' R' ⟨p, S, rfl, rfl, _, hq⟩
  refine ⟨fun k' c h' => (by cases h'), ?_⟩
  rw [show ovr (row1 i (ob p S)) R = upd R i (ob p S) from ovr_upd R i _, over_noMem]
  exact h v p S hq
end
end Go.Proofs.Ytaennpehlhgggaa

namespace Go.Proofs.Ytaennpehlhgggaa
open Go.RowKit
set_option linter.unusedVariables false
set_option linter.unusedSimpArgs false
/-- what a set is with one more pixel; is it new; what is told. -/
def addL (r : Int) (L : List Px) (x y : Int) : List Px := if 0 ≤ numI L x y then L else if r ≤ (L.length : Int) then L else L ++ [(x, y)]
def addB (r : Int) (L : List Px) (x y : Int) : Bool := if 0 ≤ numI L x y then false else if r ≤ (L.length : Int) then false else true
def addE (r : Int) (L : List Px) (x y : Int) : Int := if 0 ≤ numI L x y then 0 else if r ≤ (L.length : Int) then 90 else 0
theorem addL_len (r : Int) (L : List Px) (x y : Int) : (addL r L x y).length ≤ L.length + 1 := by unfold addL; split <;> (try split) <;> simp
theorem numI_iff {L : List Px} {x y : Int} : 0 ≤ numI L x y ↔ (x, y) ∈ L := by
  unfold numI
  cases h : L.findIdx? fun e => decide (e.1 = x) && decide (e.2 = y) with
  | none =>
    rw [List.findIdx?_eq_none_iff] at h
    refine ⟨fun h' => absurd h' (by decide), fun h' => ?_⟩
    have := h _ h'
    simp at this
  | some k =>
    obtain ⟨hk, h1, _⟩ := List.findIdx?_eq_some_iff_getElem.1 h
    simp only [Bool.and_eq_true, decide_eq_true_eq] at h1
    refine ⟨fun _ => ?_, fun _ => Int.natCast_nonneg k⟩
    have : L[k] = (x, y) := Prod.ext h1.1 h1.2
    rw [← this]; exact List.getElem_mem hk
theorem addL_nodup {r : Int} {L : List Px} (h : L.Nodup) (x y : Int) : (addL r L x y).Nodup := by
  unfold addL
  split
  · exact h
  · rename_i hn
    split
    · exact h
    · rw [List.nodup_append]
      refine ⟨h, by simp, fun a ha b hb e => ?_⟩
      rw [List.mem_singleton] at hb
      subst hb; subst e
      exact hn (numI_iff.2 ha)
theorem addL_mem {r : Int} {L : List Px} {x y : Int} {p : Px} (h : p ∈ addL r L x y) : p ∈ L ∨ p = (x, y) := by
  unfold addL at h
  split at h
  · exact .inl h
  · split at h
    · exact .inl h
    · rcases List.mem_append.1 h with h | h
      · exact .inl h
      · exact .inr (List.mem_singleton.1 h)
theorem p_Add9 {r : Int} {L : List Px} (hl : L.length ≤ 100000) (x y : Int) : PCall Try.prog 13 [vSet9 r L, vP x y] (vAdd9 r (addL r L x y) (addB r L x y) (addE r L x y)) := by
  by_cases h : 0 ≤ numI L x y
  · unfold addL addB addE; rw [if_pos h, if_pos h, if_pos h]; exact p_Add9_had hl h
  · by_cases h2 : r ≤ (L.length : Int)
    · unfold addL addB addE; rw [if_neg h, if_neg h, if_neg h, if_pos h2, if_pos h2, if_pos h2]; exact p_Add9_full hl h h2
    · unfold addL addB addE; rw [if_neg h, if_neg h, if_neg h, if_neg h2, if_neg h2, if_neg h2]; exact p_Add9_new hl h h2
/-- a set of these. -/
def madeS (r : Int) (l : List Px) : List Px := l.foldl (fun L p => addL r L p.1 p.2) []
theorem madeS_append (r : Int) (l : List Px) (x y : Int) : madeS r (l ++ [(x, y)]) = addL r (madeS r l) x y := by unfold madeS; rw [List.foldl_append]; rfl
theorem madeS_all {r : Int} {Q : List Px → Prop} {l : List Px} (h0 : Q []) (hs : ∀ L p, p ∈ l → Q L → Q (addL r L p.1 p.2)) : Q (madeS r l) := by
  have key : ∀ (l' L : List Px), (∀ p ∈ l', p ∈ l) → Q L → Q (l'.foldl (fun L p => addL r L p.1 p.2) L) := by
    intro l'
    induction l' with
    | nil => intro L _ h; exact h
    | cons p l' ih => intro L hm h; exact ih _ (fun q hq => hm q (List.mem_cons_of_mem _ hq)) (hs L p (hm p (List.mem_cons_self ..)) h)
  exact key l [] (fun _ h => h) h0
theorem madeS_nodup (r : Int) (l : List Px) : (madeS r l).Nodup := madeS_all (Q := List.Nodup) .nil fun L p _ h => addL_nodup h p.1 p.2
theorem madeS_in {r : Int} {l : List Px} (h : ∀ p ∈ l, InI p) : ∀ p ∈ madeS r l, InI p :=
  madeS_all (Q := fun L => ∀ p ∈ L, InI p) (fun p hp => by cases hp) fun L p hp hL q hq => (addL_mem hq).elim (hL q) fun e => by subst e; exact h p hp
theorem madeS_len (r : Int) (l : List Px) : (madeS r l).length ≤ l.length := by
  have key : ∀ (l L : List Px), (l.foldl (fun L p => addL r L p.1 p.2) L).length ≤ L.length + l.length := by
    intro l
    induction l with
    | nil => intro L; exact Nat.le_refl _
    | cons p l ih => intro L; have := ih (addL r L p.1 p.2); have := addL_len r L p.1 p.2; simp only [List.foldl_cons, List.length_cons]; omega
  have := key l []
  simpa [madeS] using this
/-- what hot's methods tell of a set that SI tells of. -/
abbrev SIT := Int → List Px → Value → SP → Prop
def CNew9 (SI : SIT) : Prop := ∀ n : Int, ThNew Try.prog 10 [vI n] fun p S => ∃ b, p = ptrV b ∧ SI (room9 n) [] p S
def CAdd9 (SI : SIT) : Prop := ∀ (r : Int) L b S (x y : Int), SI r L (ptrV b) S → L.length ≤ 300 → ThCall Try.prog 14 [vC (ptrV b), vP x y] (ptrV b) S fun v S' => v = .tup [.one (.c (.bool (addB r L x y))), .one (.c (.int .i64 (addE r L x y)))] ∧ SI r (addL r L x y) (ptrV b) S'
/-- made's end. -/
def madeP (SI : SIT) (r : Int) (L : List Px) (v : AV) (p : Value) (S : SP) : Prop := ∃ b, p = ptrV b ∧ v = .tup [.one (.c (ptrV b)), .agg [.c (.int .i64 r), .p (SlP 2 L.length (itC L))]] ∧ SI r L p S
def M9I (SI : SIT) (r : Int) (l : List Px) (n : Nat) (R : Rws) (ts : List (Nat × AV)) (ms : List (Nat × List AC)) : Prop :=
  ∃ (k b : Nat) (S : SP) (ki : Int) (L : List Px), k ≤ l.length ∧ n = l.length - k ∧ ki = k ∧ L = madeS r (l.take k) ∧ SI r L (ptrV b) S ∧ R = row1 0 (ob (ptrV b) S) ∧ ms = [(5, [.c (.int .i64 0), .c (.slice none 0 0)]), (7, [.c (.int .i64 r), .p (SlP 2 L.length (itC L))])] ∧ ts = [(5, vOw 5), (6, vC (ptrV b)), (7, vOw 7), (14, vIt l), (15, vI l.length), (16, vI ki)]
set_option maxRecDepth 100000 in
set_option maxHeartbeats 8000000 in
theorem p_made9 {SI : SIT} (cn : CNew9 SI) (ca : CAdd9 SI) {n : Int} {l : List Px} (hl : l.length ≤ 120) : ThNewV Try.prog 22 [vI n, vIt l] (madeP SI (room9 n) (madeS (room9 n) l)) := by
  refine thnew_of rfl ?_
  have C1 := cn n
  have C2 := p_New9 (n := n)
  generalize room9 n = r at *
  refine hcall_of_body (f := 22) Try.func22 rfl (Nat.le_of_ble_eq_true rfl) (by first | exact big0 | exact big1 rfl) ?_
  (repeat (first | ((with_reducible apply rwp_seq)) | ((with_reducible apply rthen_normal)) | ((with_reducible apply rwp_region)) | ((with_reducible apply hs_nil)) | ((with_reducible apply hs_c); exact rfl; (repeat (first | ((with_reducible apply al_q); exact rfl))); (with_reducible apply al_nil))))
  refine hs_tn 0 rfl rfl rfl rfl C1 rfl rfl (fun p S hpost => ?_)
  obtain ⟨b, rfl, hS⟩ := hpost
  (repeat (first | ((with_reducible apply rwp_seq)) | ((with_reducible apply rthen_normal)) | ((with_reducible apply rwp_region)) | ((with_reducible apply hs_nil)) | ((with_reducible apply rwp_block)) | ((with_reducible apply hs_c); exact rfl; (repeat (first | ((with_reducible apply al_q); exact rfl) | ((with_reducible apply al_len); (iterate 3 exact rfl)) | (refine al_call1 rfl rfl rfl (by (first | exact C2)) rfl ?_))); (with_reducible apply al_nil))))
  refine rwp_loopL 36 (M9I SI r l) l.length (row1 0 (ob (ptrV b) S)) _ [(5, [.c (.int .i64 0), .c (.slice none 0 0)]), (7, [.c (.int .i64 r), .p (SlP 2 0 (itC []))])] ⟨0, b, S, 0, [], Nat.zero_le _, rfl, rfl, rfl, hS, rfl, rfl, rfl⟩ (row1_le _ _ _) rfl ⟨rfl, rfl, rfl, rfl, rfl, rfl, trivial⟩ ⟨rfl, rfl, trivial⟩ rfl ?_
  clear hS b S
  rintro n R ts ms ⟨k, b, S, ki, L, hk, rfl, hki, hL, hS, rfl, rfl, rfl⟩ hok
  clear hok
  have hml := madeS_len r (l.take k)
  have hml2 : (l.take k).length ≤ k := by simp; omega
  rw [← hL] at hml
  by_cases hq : k < l.length
  · have q2 : ki < (l.length : Int) := by omega
    have q3 : 0 ≤ ki := by omega
    obtain ⟨x, y, g1⟩ : ∃ x y, l[k]? = some (x, y) := ⟨_, _, List.getElem?_eq_getElem hq⟩
    have E1 := itC_xy hki g1
    have hm : addL r L x y = madeS r (l.take (k + 1)) := by
      rw [List.take_succ_eq_append_getElem hq, (List.getElem?_eq_some_iff.1 g1).2, madeS_append, hL]
    have C3 := ca r L b S x y hS (by omega)
    have C4 := p_Add9 (r := r) (L := L) (by omega) x y
    clear hL C1 C2
    (repeat (first | ((with_reducible apply rwp_seq)) | ((with_reducible apply rthen_normal)) | ((with_reducible apply rwp_region)) | ((with_reducible apply hs_nil)) | ((with_reducible apply rwp_skip)) | ((with_reducible apply rwp_block)) | ((with_reducible apply rwp_cond_1); exact rfl; (first | assumption | exact decide_eq_true (by omega) | (simp only [Bool.not_eq_true', decide_eq_false_iff_not, decide_eq_true_eq, Bool.not_eq_false']; (first | done | omega)) | exact rfl)) | ((with_reducible apply rwp_cond_0); exact rfl; (first | assumption | exact decide_eq_false (by omega) | (simp only [Bool.not_eq_true', decide_eq_false_iff_not, decide_eq_true_eq, Bool.not_eq_false']; (first | done | omega)) | exact rfl)) | ((with_reducible apply hs_c); exact rfl; (repeat (first | ((with_reducible apply al_q); exact rfl) | ((with_reducible apply al_loadPN); (iterate 5 exact rfl)) | ((with_reducible apply al_idxS); (iterate 3 exact rfl); (first | decide | omega); (first | decide | omega); (first | assumption | rfl); exact rfl) | ((with_reducible apply al_eqptr); exact rfl; exact rfl; kernel_rfl; exact rfl))); (with_reducible apply al_nil))))
    refine hs_t1 0 rfl rfl rfl rfl C3 rfl rfl rfl (fun v S' hpost => ?_)
    obtain ⟨rfl, hS'⟩ := hpost
    (repeat (first | ((with_reducible apply rthen_normal)) | ((with_reducible apply rwp_region)) | ((with_reducible apply hs_nil)) | ((with_reducible apply rblock_normal)) | ((with_reducible apply hs_c); exact rfl; (repeat (first | ((with_reducible apply al_q); exact rfl) | ((with_reducible apply al_add); (iterate 3 exact rfl); (first | exact i64_wrap (by omega) | assumption | rfl); exact rfl) | (refine al_call2 rfl rfl rfl rfl (by (first | exact C4)) rfl ?_))); (with_reducible apply al_nil))))
    exact ⟨l.length - (k + 1), row1 0 (ob (ptrV b) S'), _, [(5, [.c (.int .i64 0), .c (.slice none 0 0)]), (7, [.c (.int .i64 r), .p (SlP 2 (addL r L x y).length (itC (addL r L x y)))])], by omega, ⟨k + 1, b, S', ki + 1, addL r L x y, by omega, rfl, by omega, hm, hS', rfl, rfl, rfl⟩, row1_le _ _ _, rfl, ⟨rfl, rfl, rfl, rfl, rfl, rfl, trivial⟩, ⟨rfl, rfl, trivial⟩, rfl⟩
  · have q2 : ¬ ki < (l.length : Int) := by omega
    have e0 : l.take k = l := List.take_of_length_le (by omega)
    rw [e0] at hL
    (repeat (first | ((with_reducible apply hs_nilS); kernel_rfl) | ((with_reducible apply rwp_draw (id := 10) [0,1,2,3]); kernel_rfl; kernel_rfl; exact rfl) | ((with_reducible apply rwp_seq)) | ((with_reducible apply rthen_normal)) | ((with_reducible apply rwp_region)) | ((with_reducible apply hs_nil)) | ((with_reducible apply rwp_ret)) | ((with_reducible apply rblock_same)) | ((with_reducible apply rwp_exit)) | ((with_reducible apply rthen_exit)) | ((with_reducible apply rwp_cond_0); exact rfl; (first | assumption | exact decide_eq_false (by omega) | (simp only [Bool.not_eq_true', decide_eq_false_iff_not, decide_eq_true_eq, Bool.not_eq_false']; (first | done | omega)) | exact rfl)) | ((with_reducible apply hs_c); exact rfl; (repeat (first | ((with_reducible apply al_q); exact rfl))); (with_reducible apply al_nil))))
    (first | (refine hfin_t rfl (resl_tmp rfl (resl_agg rfl rfl rfl resl_nil)) rfl rfl ?_) | (refine hfin_t rfl (resl_tmp rfl (resl_one rfl rfl rfl resl_nil)) rfl rfl ?_))
    exact ⟨b, rfl, by rw [hL]; rfl, by rw [← hL]; exact hS⟩
end Go.Proofs.Ytaennpehlhgggaa

namespace Go.Proofs.Ytaennpehlhgggaa
open Go.RowKit
set_option linter.unusedVariables false
set_option linter.unusedSimpArgs false
/-- the block that holds the opposite: right, for a way that goes left; up, for one that goes down. -/
abbrev cB (b : Bool) : AC := .p (PtrP [.c (.bool (!b))])
abbrev vAlong (l d : Bool) : AV := .w (.one (.p (FunP (.func 54) [cB l, cB d])))
set_option maxRecDepth 100000 in
set_option maxHeartbeats 4000000 in
theorem p_Along {a1 a2 b1 b2 : Int} : PCall Try.prog 39 [vP a1 a2, vP b1 b2] (vAlong (decide (b1 < a1)) (decide (b2 < a2))) := by
  have e1 : decide (b1 ≥ a1) = !decide (b1 < a1) := by by_cases h : b1 < a1 <;> simp [h] <;> omega
  have e2 : decide (b2 ≥ a2) = !decide (b2 < a2) := by by_cases h : b2 < a2 <;> simp [h] <;> omega
  refine pcall_bodyT (f := 39) Try.func39 rfl rfl rfl rfl ?_
  refine awt_seq (awt_awp ?_)
  (repeat (first | ((with_reducible apply al_q); exact rfl) | ((with_reducible apply athen_normal)) | ((with_reducible apply awp_region)) | ((with_reducible apply al_nil))))
  refine awt_seq (awt_awp ?_)
  (repeat (first | ((with_reducible apply al_q); exact rfl) | ((with_reducible apply al_nilS); kernel_rfl) | ((with_reducible apply awp_region_draw); kernel_rfl; kernel_rfl; exact rfl) | ((with_reducible apply athen_normal))))
  refine awt_freeze 5 _ rfl rfl ?_
  refine awt_freeze 6 _ rfl rfl ?_
  refine awt_awp ?_
  (repeat (first | ((with_reducible apply al_q); exact rfl) | (refine al_mkfnP (xs := [_, _]) (cs := [_, _]) rfl rfl rfl rfl ?_) | ((with_reducible apply awp_seq)) | ((with_reducible apply athen_normal)) | ((with_reducible apply awp_region)) | ((with_reducible apply al_nil)) | ((with_reducible apply awp_ret))))
  (first | (refine apost_ret rfl (resl_tmp rfl resl_nil) ?_))
  exact AV.Le.of_eq (by rw [e1, e2]; rfl)
set_option maxRecDepth 100000 in
set_option maxHeartbeats 4000000 in
theorem p_along1 {x y z w : Int} {l d r : Bool} (hr : ahdN x y z w l d = r) : PCall Try.prog 54 [vP x y, vP z w, .w (.one (cB l)), .w (.one (cB d))] (vB r) := by
  have cs : (¬ x = z ∧ z < x ∧ r = l) ∨ (¬ x = z ∧ ¬ z < x ∧ r = !l) ∨ (x = z ∧ ¬ y = w ∧ w < y ∧ r = d) ∨ (x = z ∧ ¬ y = w ∧ ¬ w < y ∧ r = !d) ∨ (x = z ∧ y = w ∧ r = false) := by
    rw [← hr]; unfold ahdN
    by_cases h1 : x < z <;> by_cases h2 : z < x <;> by_cases h3 : y < w <;> by_cases h4 : w < y <;> simp [h1, h2, h3, h4] <;> omega
  clear hr
  rcases cs with ⟨h1, h2, rfl⟩ | ⟨h1, h2, rfl⟩ | ⟨h1, h3, h2, rfl⟩ | ⟨h1, h3, h2, rfl⟩ | ⟨h1, h3, rfl⟩
  all_goals
    refine pcall_body (f := 54) Try.func54 rfl rfl rfl rfl ?_
    (repeat (first | ((with_reducible apply al_q); exact rfl) | ((with_reducible apply al_loadP1); (iterate 5 exact rfl)) | ((with_reducible apply al_eqT); (iterate 4 exact rfl); kernel_rfl) | ((with_reducible apply al_guard_b (c := true)); exact rfl; exact rfl; (first | assumption | exact decide_eq_true (by omega) | (simp only [Bool.not_eq_true', decide_eq_false_iff_not, decide_eq_true_eq, Bool.not_eq_false']; (first | done | omega)))) | ((with_reducible apply al_guard_b (c := false)); exact rfl; exact rfl; (first | assumption | exact decide_eq_false (by omega) | (simp only [Bool.not_eq_true', decide_eq_false_iff_not, decide_eq_true_eq, Bool.not_eq_false']; (first | done | omega)))) | ((with_reducible apply awp_seq)) | ((with_reducible apply athen_normal)) | ((with_reducible apply awp_region)) | ((with_reducible apply al_nil)) | ((with_reducible apply awp_ret)) | ((with_reducible apply awp_skip)) | ((with_reducible apply athen_ret)) | ((with_reducible apply awp_cond_1); exact rfl; (first | assumption | exact decide_eq_true (by omega) | (simp only [Bool.not_eq_true', decide_eq_false_iff_not, decide_eq_true_eq, Bool.not_eq_false']; (first | done | omega)))) | ((with_reducible apply awp_cond_0); exact rfl; (first | assumption | exact decide_eq_false (by omega) | (simp only [Bool.not_eq_true', decide_eq_false_iff_not, decide_eq_true_eq, Bool.not_eq_false']; (first | done | omega))))))
    (first | (refine apost_ret rfl (resl_tmp rfl resl_nil) ?_))
    first
    | exact AV.Le.refl _
    | exact AV.Le.of_eq (by rw [decide_eq_false (show ¬ x < z by omega), Bool.false_beq, Bool.not_not]; rfl)
    | exact AV.Le.of_eq (by rw [decide_eq_true (show x < z by omega), Bool.true_beq]; rfl)
    | exact AV.Le.of_eq (by rw [decide_eq_false (show ¬ y < w by omega), Bool.false_beq, Bool.not_not]; rfl)
    | exact AV.Le.of_eq (by rw [decide_eq_true (show y < w by omega), Bool.true_beq]; rfl)
end Go.Proofs.Ytaennpehlhgggaa

namespace Go.Proofs.Ytaennpehlhgggaa
open Go.RowKit
set_option linter.unusedVariables false
set_option linter.unusedSimpArgs false
section
variable {P : Program} {s : AS} {ops : Array Oper} {K : AS → Prop} {rest : List Oper} {ty : Nat} {pos : String} {after : Array Edge} {guard : Option (Nat × Bool)} {d : Nat}
theorem al_quo {xt yt : Nat} {x y : Operand} {a b : Int} (hw : want ops ⟨some d, .binOp .quo xt x y yt, ty, pos, after, guard⟩ s = some true) (hx : s.look x = some (vC (.int .i64 a))) (hy : s.look y = some (vC (.int .i64 b))) (h0 : 0 ≤ a) (h1 : 0 < b) (h2 : a ≤ 9223372036854775807) (hd : Nat.blt d s.n = true) (h : aList P ops K rest (s.put (some d) (vC (.int .i64 (a / b))))) : aList P ops K (⟨some d, .binOp .quo xt x y yt, ty, pos, after, guard⟩ :: rest) s := by
  refine al_int hw hx hy (fun W => ?_) rfl hd h
  have hb : b ≠ 0 := by omega
  have e : a.tdiv b = a / b := Int.tdiv_eq_ediv_of_nonneg h0
  have e2 : IntKind.i64.wrap (a / b) = a / b := i64_wrap (by
    have := Int.ediv_nonneg h0 (show 0 ≤ b by omega)
    have := Int.ediv_le_self b h0
    omega)
  simp [binOp, Op.intDiv, hb, e, e2]
def byT (P : Program) (t : TypeId) : Bool := match P.underlying t with
  | some (.slice e) => (match P.underlying e with | some (.int .u8) => true | _ => false)
  | _ => false
def strT (P : Program) (t : TypeId) : Bool := match P.underlying t with
  | some .string => true
  | _ => false
class ByT (P : Program) (t : TypeId) : Prop where
  h : byT P t = true
class StrT (P : Program) (t : TypeId) : Prop where
  h : strT P t = true
end
end Go.Proofs.Ytaennpehlhgggaa

namespace Go.Proofs.Ytaennpehlhgggaa
open Go.RowKit
set_option linter.unusedVariables false
set_option linter.unusedSimpArgs false
theorem itC_nil : itC [] = [] := rfl
theorem itC_tail (p : Int × Int) (l : List (Int × Int)) : ((itC (p :: l)).drop ((1 : Int).toNat * 2)).take (l.length * 2) = itC l := by
  show ((itC (p :: l)).drop 2).take (l.length * 2) = itC l
  rw [← itC_len]
  simp [itC]
theorem itC_one (p : Int × Int) (l : List (Int × Int)) : itC l ++ [.c (.int .i64 p.1), .c (.int .i64 p.2)] = itC (l ++ [p]) := by rw [itC_append]; rfl
theorem itC_take (l : List (Int × Int)) (k : Nat) : ((itC l).drop (0 * 2)).take ((l.take k).length * 2) = itC (l.take k) := by
  have e : itC l = itC (l.take k) ++ itC (l.drop k) := by rw [← itC_append, List.take_append_drop]
  rw [e, Nat.zero_mul, List.drop_zero, ← itC_len]
  simp
theorem itC_drop (l : List (Int × Int)) (k : Nat) (hk : k ≤ l.length) : ((itC l).drop (k * 2)).take ((l.drop k).length * 2) = itC (l.drop k) := by
  have e : itC l = itC (l.take k) ++ itC (l.drop k) := by rw [← itC_append, List.take_append_drop]
  have e2 : k * 2 = (itC (l.take k)).length := by rw [itC_len, List.length_take, Nat.min_eq_left hk]
  rw [e, e2, List.drop_left, ← itC_len, List.take_length]
/-- what is handed to a function that tells what comes ahead; the function, and no more. -/
abbrev pxRow (v : Value) (l : List (Int × Int)) : HRow := ⟨32, 2, v, l.length, itC l⟩
instance iHotI_1 : RowTy Try.prog 22 32 2 16 := ⟨by kernel_rfl⟩
def MgP (M : List (Int × Int)) (lt : Int × Int → Int × Int → Bool) (lv : AV) (K : Nat) (m : Nat) (R : Rws) (ts : List (Nat × AV)) (ms : List (Nat × List AC)) : Prop :=
  ∃ (a b out : List (Int × Int)) (v : Value), m = a.length + b.length ∧ out ++ mrgL lt a b = M ∧ out.length + m = K ∧ R = row1 0 (pxRow v out) ∧ ts = [(0, vIt a), (1, vIt b), (2, lv), (7, vC v)] ∧ ms = []
set_option maxRecDepth 100000 in
set_option maxHeartbeats 8000000 in
theorem p_mergeP {fx fy : Bool} {a b : List (Int × Int)} (ha : a.length ≤ 100000) (hb : b.length ≤ 100000) :
    PCall Try.prog 53 [vIt a, vIt b, vAlong fx fy] (vIt (mrgL (ahP fx fy) a b)) := by
  refine pcall_body (f := 53) Try.func53 rfl rfl rfl rfl ?_
  refine awp_rows ?_
  (repeat (first | ((with_reducible apply rwp_seq)) | ((with_reducible apply rthen_normal)) | ((with_reducible apply rwp_region)) | ((with_reducible apply hs_nil)) | ((with_reducible apply hs_c); exact rfl; (repeat (first | ((with_reducible apply al_q); exact rfl) | ((with_reducible apply al_add); (iterate 3 exact rfl); (first | exact i64_wrap (by omega) | assumption | rfl); exact rfl) | ((with_reducible apply al_len); (iterate 3 exact rfl)))); (with_reducible apply al_nil))))
  refine hs_make (l := 0) (c' := a.length + b.length) 0 rfl rfl rfl rfl (Nat.zero_le _) rfl rfl ?h2 (le_maxLen (by omega)) rfl (fun v hv => ?_)
  case h2 => omega
  (repeat (first | ((with_reducible apply rwp_seq)) | ((with_reducible apply rthen_normal)) | ((with_reducible apply hs_nil)) | ((with_reducible apply rwp_block)) | ((with_reducible apply hs_c); exact rfl; (repeat (first | ((with_reducible apply al_q); exact rfl))); (with_reducible apply al_nil))))
  refine rwp_loopL 52 (MgP (mrgL (ahP fx fy) a b) (ahP fx fy) (vAlong fx fy) (a.length + b.length)) (a.length + b.length) (row1 0 (pxRow v [])) _ _ ⟨a, b, [], v, rfl, rfl, Nat.zero_add _, rfl, rfl, rfl⟩ (row1_le _ _ _) rfl ⟨rfl, rfl, rfl, rfl, trivial⟩ trivial rfl ?_
  rintro m R ts ms ⟨a', b', out, v, rfl, hM, hK, rfl, rfl, rfl⟩ hok
  clear hok hv
  by_cases qa : 0 < a'.length
  · by_cases qb : 0 < b'.length
    · have qa' : (a'.length : Int) > 0 := by omega
      have qb' : (b'.length : Int) > 0 := by omega
      obtain ⟨⟨x, n⟩, a2, rfl⟩ := List.exists_cons_of_length_pos qa
      obtain ⟨⟨y, m⟩, b2, rfl⟩ := List.exists_cons_of_length_pos qb
      have E1 : ((itC ((x, n) :: a2)).drop ((0 : Int).toNat * 2)).take 2 = [.c (.int .i64 x), .c (.int .i64 n)] := itC_xy (j := 0) (i := 0) rfl rfl
      have E2 : ((itC ((y, m) :: b2)).drop ((0 : Int).toNat * 2)).take 2 = [.c (.int .i64 y), .c (.int .i64 m)] := itC_xy (j := 0) (i := 0) rfl rfl
      have C1 := p_along1 (x := y) (y := m) (z := x) (w := n) (l := fx) (d := fy) rfl
      rw [show ahdN y m x n fx fy = ahP fx fy (y, m) (x, n) from rfl] at C1
      cases hlt : ahP fx fy (y, m) (x, n) with
      | true =>
        rw [hlt] at C1
        have e1 : ((y, m) :: b2).length - (1 : Int).toNat = b2.length := rfl
        have e2 := itC_tail (y, m) b2
        have hM' : (out ++ [(y, m)]) ++ mrgL (ahP fx fy) ((x, n) :: a2) b2 = mrgL (ahP fx fy) a b := by
          rw [← hM, mrgL, if_pos hlt, List.append_assoc]; rfl
        have hl1 : (out ++ [(y, m)]).length = out.length + 1 := List.length_append
        have hl2 : ((y, m) :: b2).length = b2.length + 1 := rfl
        have hl3 : ((x, n) :: a2).length = a2.length + 1 := rfl
        (repeat (first | ((with_reducible apply hs_nilS); kernel_rfl) | ((with_reducible apply rwp_draw (id := 3) [0,1,2,3,4,5,6,7]); kernel_rfl; kernel_rfl; exact rfl) | ((with_reducible apply rwp_draw (id := 4) [0,1,2,3,6,7,4,5,8,9]); kernel_rfl; kernel_rfl; exact rfl) | ((with_reducible apply rwp_seq)) | ((with_reducible apply rthen_normal)) | ((with_reducible apply rwp_region)) | ((with_reducible apply hs_nil)) | ((with_reducible apply rwp_skip)) | ((with_reducible apply rwp_block)) | ((with_reducible apply rwp_cond_1); exact rfl; (first | assumption | exact decide_eq_true (by omega) | (simp only [Bool.not_eq_true', decide_eq_false_iff_not, decide_eq_true_eq, Bool.not_eq_false']; (first | done | omega)) | exact rfl)) | ((with_reducible apply hs_c); exact rfl; (repeat (first | ((with_reducible apply al_q); exact rfl) | ((with_reducible apply al_loadPN); (iterate 5 exact rfl)) | ((with_reducible apply al_idxS); (iterate 3 exact rfl); (first | decide | omega); (first | decide | omega); (first | assumption | rfl); exact rfl) | ((with_reducible apply al_len); (iterate 3 exact rfl)) | ((with_reducible apply al_sl_l); (iterate 3 exact rfl); (first | assumption | omega); (first | assumption | omega); (first | assumption | rfl); (first | assumption | rfl); exact rfl) | ((with_reducible apply al_bslice); (iterate 10 exact rfl)) | (refine al_callF (args := [_, _]) rfl rfl rfl (by (first | exact C1)) rfl ?_) | ((with_reducible apply al_guard_b (c := true)); exact rfl; exact rfl; (first | assumption | exact decide_eq_true (by omega) | (simp only [Bool.not_eq_true', decide_eq_false_iff_not, decide_eq_true_eq, Bool.not_eq_false']; (first | done | omega)))))); (with_reducible apply al_nil))))
        refine hs_app0 0 rfl rfl rfl rfl ?q1 ?q2 rfl rfl (fun v' hv' => ?_)
        case q1 => exact le_maxLen (by show out.length + 1 ≤ 1000000; omega)
        case q2 => show (out.length + 1) * 16 ≤ 140737488355328; omega
        (repeat (first | ((with_reducible apply hs_nilS); kernel_rfl) | ((with_reducible apply rthen_normal)) | ((with_reducible apply rblock_normal)) | ((with_reducible apply hs_c); exact rfl; (repeat (first | ((with_reducible apply al_q); exact rfl))); (with_reducible apply al_nil))))
        have e3 : pxRow v' (out ++ [(y, m)]) = ⟨32, 2, v', out.length + 1, itC out ++ [.c (.int .i64 y), .c (.int .i64 m)]⟩ := by
          unfold pxRow; rw [← itC_one, List.length_append]; rfl
        refine ⟨_, row1 0 (pxRow v' (out ++ [(y, m)])), _, _, ?_, ⟨(x, n) :: a2, b2, out ++ [(y, m)], v', rfl, hM', ?_, rfl, rfl, rfl⟩, by rw [e3]; exact row1_le _ _ _, rfl, ⟨rfl, rfl, rfl, rfl, trivial⟩, trivial, rfl⟩
        · omega
        · omega
      | false =>
        rw [hlt] at C1
        have e1 : ((x, n) :: a2).length - (1 : Int).toNat = a2.length := rfl
        have e2 := itC_tail (x, n) a2
        have hM' : (out ++ [(x, n)]) ++ mrgL (ahP fx fy) a2 ((y, m) :: b2) = mrgL (ahP fx fy) a b := by
          rw [← hM, mrgL, if_neg (by rw [hlt]; decide), List.append_assoc]; rfl
        have hl1 : (out ++ [(x, n)]).length = out.length + 1 := List.length_append
        have hl2 : ((y, m) :: b2).length = b2.length + 1 := rfl
        have hl3 : ((x, n) :: a2).length = a2.length + 1 := rfl
        (repeat (first | ((with_reducible apply hs_nilS); kernel_rfl) | ((with_reducible apply rwp_draw (id := 3) [0,1,2,3,4,5,6,7]); kernel_rfl; kernel_rfl; exact rfl) | ((with_reducible apply rwp_draw (id := 5) [0,1,2,3,6,7,4,5,8,9]); kernel_rfl; kernel_rfl; exact rfl) | ((with_reducible apply rwp_seq)) | ((with_reducible apply rthen_normal)) | ((with_reducible apply rwp_region)) | ((with_reducible apply hs_nil)) | ((with_reducible apply rwp_skip)) | ((with_reducible apply rwp_block)) | ((with_reducible apply rwp_cond_1); exact rfl; (first | assumption | exact decide_eq_true (by omega) | (simp only [Bool.not_eq_true', decide_eq_false_iff_not, decide_eq_true_eq, Bool.not_eq_false']; (first | done | omega)) | exact rfl)) | ((with_reducible apply rwp_cond_0); exact rfl; (first | assumption | exact decide_eq_false (by omega) | (simp only [Bool.not_eq_true', decide_eq_false_iff_not, decide_eq_true_eq, Bool.not_eq_false']; (first | done | omega)) | exact rfl)) | ((with_reducible apply hs_c); exact rfl; (repeat (first | ((with_reducible apply al_q); exact rfl) | ((with_reducible apply al_loadPN); (iterate 5 exact rfl)) | ((with_reducible apply al_idxS); (iterate 3 exact rfl); (first | decide | omega); (first | decide | omega); (first | assumption | rfl); exact rfl) | ((with_reducible apply al_len); (iterate 3 exact rfl)) | ((with_reducible apply al_sl_l); (iterate 3 exact rfl); (first | assumption | omega); (first | assumption | omega); (first | assumption | rfl); (first | assumption | rfl); exact rfl) | ((with_reducible apply al_bslice); (iterate 10 exact rfl)) | (refine al_callF (args := [_, _]) rfl rfl rfl (by (first | exact C1)) rfl ?_) | ((with_reducible apply al_guard_b (c := true)); exact rfl; exact rfl; (first | assumption | exact decide_eq_true (by omega) | (simp only [Bool.not_eq_true', decide_eq_false_iff_not, decide_eq_true_eq, Bool.not_eq_false']; (first | done | omega)))))); (with_reducible apply al_nil))))
        refine hs_app0 0 rfl rfl rfl rfl ?q1 ?q2 rfl rfl (fun v' hv' => ?_)
        case q1 => exact le_maxLen (by show out.length + 1 ≤ 1000000; omega)
        case q2 => show (out.length + 1) * 16 ≤ 140737488355328; omega
        (repeat (first | ((with_reducible apply hs_nilS); kernel_rfl) | ((with_reducible apply rthen_normal)) | ((with_reducible apply rblock_normal)) | ((with_reducible apply hs_c); exact rfl; (repeat (first | ((with_reducible apply al_q); exact rfl))); (with_reducible apply al_nil))))
        have e3 : pxRow v' (out ++ [(x, n)]) = ⟨32, 2, v', out.length + 1, itC out ++ [.c (.int .i64 x), .c (.int .i64 n)]⟩ := by
          unfold pxRow; rw [← itC_one, List.length_append]; rfl
        refine ⟨_, row1 0 (pxRow v' (out ++ [(x, n)])), _, _, ?_, ⟨a2, (y, m) :: b2, out ++ [(x, n)], v', rfl, hM', ?_, rfl, rfl, rfl⟩, by rw [e3]; exact row1_le _ _ _, rfl, ⟨rfl, rfl, rfl, rfl, trivial⟩, trivial, rfl⟩
        · omega
        · omega
    · have qa' : (a'.length : Int) > 0 := by omega
      have qb' : ¬ (b'.length : Int) > 0 := by omega
      have hb0 : b' = [] := List.length_eq_zero_iff.1 (by omega)
      have hz : (a'.length : Int) = a'.length := rfl
      (repeat (first | ((with_reducible apply rwp_seq)) | ((with_reducible apply rthen_normal)) | ((with_reducible apply rwp_region)) | ((with_reducible apply hs_nil)) | ((with_reducible apply rblock_same)) | ((with_reducible apply rwp_exit)) | ((with_reducible apply rthen_exit)) | ((with_reducible apply rwp_cond_0); exact rfl; (first | assumption | exact decide_eq_false (by omega) | (simp only [Bool.not_eq_true', decide_eq_false_iff_not, decide_eq_true_eq, Bool.not_eq_false']; (first | done | omega)) | exact rfl)) | ((with_reducible apply hs_c); exact rfl; (repeat (first | ((with_reducible apply al_q); exact rfl) | ((with_reducible apply al_len); (iterate 3 exact rfl)) | ((with_reducible apply al_guard_b (c := true)); exact rfl; exact rfl; (first | assumption | exact decide_eq_true (by omega) | (simp only [Bool.not_eq_true', decide_eq_false_iff_not, decide_eq_true_eq, Bool.not_eq_false']; (first | done | omega)))))); (with_reducible apply al_nil))))
      refine hs_app0 0 rfl rfl rfl rfl ?q1 ?q2 (itC_closed _) rfl (fun v' hv' => ?_)
      case q1 => exact le_maxLen (by show out.length + a'.length ≤ 1000000; omega)
      case q2 => show (out.length + a'.length) * 16 ≤ 140737488355328; omega
      (repeat (first | ((with_reducible apply rwp_seq)) | ((with_reducible apply rthen_normal)) | ((with_reducible apply rwp_region)) | ((with_reducible apply hs_nil)) | ((with_reducible apply hs_c); exact rfl; (repeat (first | ((with_reducible apply al_q); exact rfl))); (with_reducible apply al_nil))))
      refine hs_appC (k := (mrgL (ahP fx fy) a b).length) (zs := itC (mrgL (ahP fx fy) a b)) 0 rfl rfl rfl rfl ?p1 ?p2 ?p3 ?p4 (itC_closed _) rfl ?_
      case p1 => exact le_maxLen (by show (out.length + a'.length) + b'.length ≤ 1000000; omega)
      case p2 => show ((out.length + a'.length) + b'.length) * 16 ≤ 140737488355328; omega
      case p3 => show (out.length + a'.length) + b'.length = (mrgL (ahP fx fy) a b).length; rw [mrgL_len]; omega
      case p4 => show (itC out ++ itC a') ++ itC b' = itC (mrgL (ahP fx fy) a b); rw [← hM, hb0, mrgL_nil, ← itC_append, itC_nil, List.append_nil]
      (repeat (first | ((with_reducible apply rthen_normal)) | ((with_reducible apply hs_nil)) | ((with_reducible apply rwp_ret)) | ((with_reducible apply hs_c); exact rfl; (repeat (first | ((with_reducible apply al_q); exact rfl))); (with_reducible apply al_nil))))
      (first | (refine apost_ret rfl (resl_tmp rfl resl_nil) ?_))
      exact AV.Le.refl _
  · have qa' : ¬ (a'.length : Int) > 0 := by omega
    have ha0 : a' = [] := List.length_eq_zero_iff.1 (by omega)
    (repeat (first | ((with_reducible apply rwp_seq)) | ((with_reducible apply rthen_normal)) | ((with_reducible apply rwp_region)) | ((with_reducible apply hs_nil)) | ((with_reducible apply rblock_same)) | ((with_reducible apply rwp_exit)) | ((with_reducible apply rthen_exit)) | ((with_reducible apply rwp_cond_0); exact rfl; (first | assumption | exact decide_eq_false (by omega) | (simp only [Bool.not_eq_true', decide_eq_false_iff_not, decide_eq_true_eq, Bool.not_eq_false']; (first | done | omega)) | exact rfl)) | ((with_reducible apply hs_c); exact rfl; (repeat (first | ((with_reducible apply al_q); exact rfl) | ((with_reducible apply al_len); (iterate 3 exact rfl)) | ((with_reducible apply al_guard_b (c := false)); exact rfl; exact rfl; (first | assumption | exact decide_eq_false (by omega) | (simp only [Bool.not_eq_true', decide_eq_false_iff_not, decide_eq_true_eq, Bool.not_eq_false']; (first | done | omega)))))); (with_reducible apply al_nil))))
    refine hs_app0 0 rfl rfl rfl rfl ?q1 ?q2 (itC_closed _) rfl (fun v' hv' => ?_)
    case q1 => exact le_maxLen (by show out.length + a'.length ≤ 1000000; omega)
    case q2 => show (out.length + a'.length) * 16 ≤ 140737488355328; omega
    (repeat (first | ((with_reducible apply rwp_seq)) | ((with_reducible apply rthen_normal)) | ((with_reducible apply rwp_region)) | ((with_reducible apply hs_nil)) | ((with_reducible apply hs_c); exact rfl; (repeat (first | ((with_reducible apply al_q); exact rfl))); (with_reducible apply al_nil))))
    refine hs_appC (k := (mrgL (ahP fx fy) a b).length) (zs := itC (mrgL (ahP fx fy) a b)) 0 rfl rfl rfl rfl ?p1 ?p2 ?p3 ?p4 (itC_closed _) rfl ?_
    case p1 => exact le_maxLen (by show (out.length + a'.length) + b'.length ≤ 1000000; omega)
    case p2 => show ((out.length + a'.length) + b'.length) * 16 ≤ 140737488355328; omega
    case p3 => show (out.length + a'.length) + b'.length = (mrgL (ahP fx fy) a b).length; rw [mrgL_len]; omega
    case p4 => show (itC out ++ itC a') ++ itC b' = itC (mrgL (ahP fx fy) a b); rw [← hM, ha0, mrgL_nil', itC_nil, List.append_nil, ← itC_append]
    (repeat (first | ((with_reducible apply rthen_normal)) | ((with_reducible apply hs_nil)) | ((with_reducible apply rwp_ret)) | ((with_reducible apply hs_c); exact rfl; (repeat (first | ((with_reducible apply al_q); exact rfl))); (with_reducible apply al_nil))))
    (first | (refine apost_ret rfl (resl_tmp rfl resl_nil) ?_))
    exact AV.Le.refl _
set_option maxRecDepth 100000 in
set_option maxHeartbeats 8000000 in
theorem p_SortP {fx fy : Bool} :
    ∀ (N : Nat) (l : List (Int × Int)), l.length ≤ N → N ≤ 100000 → PCall Try.prog 37 [vIt l, vAlong fx fy] (vIt (srtL (ahP fx fy) l)) := by
  intro N
  induction N with
  | zero =>
    intro l h1 h2
    have C0 := p_mergeP (fx := fx) (fy := fy) (a := l) (b := []) (by omega) (by simp)
    rw [mrgL_nil] at C0
    have C1 : PCall Try.prog 53 [vIt l, vNil, vAlong fx fy] (vIt l) := pcall_le C0 rfl rfl (by
      intro i x y hx hy
      match i with
      | 0 => cases hx; cases hy; exact .refl _
      | 1 => cases hx; cases hy; exact nil_le 2
      | 2 => cases hx; cases hy; exact .refl _
      | i + 3 => simp at hx)
    have q1 : (l.length : Int) < 2 := by omega
    have e : srtL (ahP fx fy) l = l := by rw [srtL, dif_pos (by omega)]
    rw [e]
    clear C0
    refine pcall_body (f := 37) Try.func37 rfl rfl rfl rfl ?_
    (repeat (first | ((with_reducible apply al_q); exact rfl) | ((with_reducible apply al_len); (iterate 3 exact rfl)) | (refine al_call3 rfl rfl rfl rfl rfl (by (first | exact C1)) rfl ?_) | ((with_reducible apply awp_seq)) | ((with_reducible apply athen_normal)) | ((with_reducible apply awp_region)) | ((with_reducible apply al_nil)) | ((with_reducible apply awp_ret)) | ((with_reducible apply athen_ret)) | ((with_reducible apply awp_cond_1); exact rfl; (first | assumption | exact decide_eq_true (by omega) | (simp only [Bool.not_eq_true', decide_eq_false_iff_not, decide_eq_true_eq, Bool.not_eq_false']; (first | done | omega))))))
    (first | (refine apost_ret rfl (resl_tmp rfl resl_nil) ?_))
    exact AV.Le.refl _
  | succ N ih =>
    intro l h1 h2
    by_cases q : l.length < 2
    · have C0 := p_mergeP (fx := fx) (fy := fy) (a := l) (b := []) (by omega) (by simp)
      rw [mrgL_nil] at C0
      have C1 : PCall Try.prog 53 [vIt l, vNil, vAlong fx fy] (vIt l) := pcall_le C0 rfl rfl (by
        intro i x y hx hy
        match i with
        | 0 => cases hx; cases hy; exact .refl _
        | 1 => cases hx; cases hy; exact nil_le 2
        | 2 => cases hx; cases hy; exact .refl _
        | i + 3 => simp at hx)
      have q1 : (l.length : Int) < 2 := by omega
      have e : srtL (ahP fx fy) l = l := by rw [srtL, dif_pos (by omega)]
      rw [e]
      clear C0 ih
      refine pcall_body (f := 37) Try.func37 rfl rfl rfl rfl ?_
      (repeat (first | ((with_reducible apply al_q); exact rfl) | ((with_reducible apply al_len); (iterate 3 exact rfl)) | (refine al_call3 rfl rfl rfl rfl rfl (by (first | exact C1)) rfl ?_) | ((with_reducible apply awp_seq)) | ((with_reducible apply athen_normal)) | ((with_reducible apply awp_region)) | ((with_reducible apply al_nil)) | ((with_reducible apply awp_ret)) | ((with_reducible apply athen_ret)) | ((with_reducible apply awp_cond_1); exact rfl; (first | assumption | exact decide_eq_true (by omega) | (simp only [Bool.not_eq_true', decide_eq_false_iff_not, decide_eq_true_eq, Bool.not_eq_false']; (first | done | omega))))))
      (first | (refine apost_ret rfl (resl_tmp rfl resl_nil) ?_))
      exact AV.Le.refl _
    · have q1 : ¬ (l.length : Int) < 2 := by omega
      have e : srtL (ahP fx fy) l = mrgL (ahP fx fy) (srtL (ahP fx fy) (l.take (l.length / 2))) (srtL (ahP fx fy) (l.drop (l.length / 2))) := by rw [srtL, dif_neg q]
      have C1 := ih (l.take (l.length / 2)) (by simp; omega) (by omega)
      have C2 := ih (l.drop (l.length / 2)) (by simp; omega) (by omega)
      have l1 := srtL_len (ahP fx fy) _ (l.take (l.length / 2)) (Nat.le_refl _)
      have l2 := srtL_len (ahP fx fy) _ (l.drop (l.length / 2)) (Nat.le_refl _)
      have C3 := p_mergeP (fx := fx) (fy := fy) (a := srtL (ahP fx fy) (l.take (l.length / 2))) (b := srtL (ahP fx fy) (l.drop (l.length / 2))) (by rw [l1]; simp; omega) (by rw [l2]; simp; omega)
      have hh : ((l.length : Int) / 2).toNat = l.length / 2 := by omega
      have e1 : ((l.length : Int) / 2).toNat - 0 = (l.take (l.length / 2)).length := by rw [hh]; simp; omega
      have e2 := itC_take l (l.length / 2)
      have e3 : ((l.length : Int)).toNat - ((l.length : Int) / 2).toNat = (l.drop (l.length / 2)).length := by rw [hh]; simp
      have e4 := itC_drop l (l.length / 2) (by omega)
      have e5 : ((itC l).drop (((l.length : Int) / 2).toNat * 2)).take ((l.drop (l.length / 2)).length * 2) = itC (l.drop (l.length / 2)) := by rw [hh]; exact e4
      rw [e]
      clear ih l1 l2 e e4 hh
      refine pcall_body (f := 37) Try.func37 rfl rfl rfl rfl ?_
      (repeat (first | ((with_reducible apply al_q); exact rfl) | ((with_reducible apply al_len); (iterate 3 exact rfl)) | ((with_reducible apply al_sl_hm); (iterate 4 exact rfl); (first | assumption | omega); (first | assumption | omega); (first | assumption | omega); (first | assumption | rfl); (first | assumption | rfl); exact rfl) | ((with_reducible apply al_sl_lhm); (iterate 5 exact rfl); (first | assumption | omega); (first | assumption | omega); (first | assumption | omega); (first | assumption | omega); (first | assumption | rfl); (first | assumption | rfl); exact rfl) | ((with_reducible apply al_quo); (iterate 3 exact rfl); omega; omega; omega; exact rfl) | (refine al_call2 rfl rfl rfl rfl (by (first | exact C1 | exact C2 | exact C3)) rfl ?_) | (refine al_call3 rfl rfl rfl rfl rfl (by (first | exact C1 | exact C2 | exact C3)) rfl ?_) | ((with_reducible apply al_nilS); kernel_rfl) | ((with_reducible apply awp_region_draw); kernel_rfl; kernel_rfl; exact rfl) | ((with_reducible apply awp_seq)) | ((with_reducible apply athen_normal)) | ((with_reducible apply awp_region)) | ((with_reducible apply al_nil)) | ((with_reducible apply awp_ret)) | ((with_reducible apply awp_skip)) | ((with_reducible apply awp_cond_0); exact rfl; (first | assumption | exact decide_eq_false (by omega) | (simp only [Bool.not_eq_true', decide_eq_false_iff_not, decide_eq_true_eq, Bool.not_eq_false']; (first | done | omega))))))
      (first | (refine apost_ret rfl (resl_tmp rfl resl_nil) ?_))
      exact AV.Le.refl _
end Go.Proofs.Ytaennpehlhgggaa

namespace Go.Proofs.Ytaennpehlhgggaa
open Go.RowKit
set_option linter.unusedVariables false
set_option linter.unusedSimpArgs false
abbrev vSeg9 (a1 a2 b1 b2 : Int) : AV := .w (.agg [.c (.int .i64 a1), .c (.int .i64 a2), .c (.int .i64 b1), .c (.int .i64 b2)])
def CNear9 (SI : SIT) : Prop := ∀ (s : Int) L b S (a1 a2 b1 b2 k : Int) (r : Nat), SI s L (ptrV b) S → L.length ≤ 300 → L.Nodup → (∀ p ∈ L, InI p) → IsR k r → rB5 a1 a2 = true → rB5 b1 b2 = true → ThCall Try.prog 23 [vC (ptrV b), vP a1 a2, vP b1 b2, vI k] (ptrV b) S fun v S' => v = vIt (sortI (decide (b1 < a1)) (decide (b2 < a2)) (nearF a1 a2 b1 b2 r) L) ∧ SI s L (ptrV b) S'
end Go.Proofs.Ytaennpehlhgggaa

namespace Go.Proofs.Ytaennpehlhgggaa
open Go.RowKit
set_option linter.unusedVariables false
set_option linter.unusedSimpArgs false
def CRoom9 (SI : SIT) : Prop := ∀ (r : Int) L b S, SI r L (ptrV b) S → L.length ≤ 300 → ThCall Try.prog 12 [vC (ptrV b)] (ptrV b) S fun v S' => v = vI r ∧ SI r L (ptrV b) S'
def CLen9 (SI : SIT) : Prop := ∀ (r : Int) L b S, SI r L (ptrV b) S → L.length ≤ 300 → ThCall Try.prog 17 [vC (ptrV b)] (ptrV b) S fun v S' => v = vI L.length ∧ SI r L (ptrV b) S'
def CNum9 (SI : SIT) : Prop := ∀ (r : Int) L b S (x y : Int), SI r L (ptrV b) S → L.length ≤ 300 → ThCall Try.prog 15 [vC (ptrV b), vP x y] (ptrV b) S fun v S' => ∃ k : Int, v = .tup [.one (.c (.int .i64 k)), .one (.c (.bool (decide (0 ≤ numI L x y))))] ∧ (0 ≤ numI L x y → k = numI L x y) ∧ SI r L (ptrV b) S'
def CAll9 (SI : SIT) : Prop := ∀ (r : Int) L b S, SI r L (ptrV b) S → L.length ≤ 300 → ThCall2 Try.prog 20 [vC (ptrV b)] (ptrV b) S fun v S' q => ∃ v', v = vC v' ∧ q = pxRow v' L ∧ SI r L (ptrV b) S'
def A9I (SI : SIT) (r : Int) (l : List Px) (n : Nat) (R : Rws) (ts : List (Nat × AV)) (ms : List (Nat × List AC)) : Prop :=
  ∃ (k b : Nat) (S : SP) (ki : Int) (L : List Px), k ≤ l.length ∧ n = l.length - k ∧ ki = k ∧ L.length ≤ k ∧ SI r L (ptrV b) S ∧ R = row1 0 (ob (ptrV b) S) ∧ ms = [(6, [.c (.int .i64 r), .p (SlP 2 L.length (itC L))])] ∧ ts = [(5, vC (ptrV b)), (6, vOw 6), (34, vIt l), (35, vI l.length), (36, vI ki)]
end Go.Proofs.Ytaennpehlhgggaa

namespace Go.Proofs.Ytaennpehlhgggaa
open Go.RowKit
set_option linter.unusedVariables false
set_option linter.unusedSimpArgs false
def CMet9 (SI : SIT) : Prop := ∀ (s : Int) L b S (a1 a2 b1 b2 k : Int), SI s L (ptrV b) S → L.length ≤ 300 → L.Nodup → (∀ p ∈ L, InI p) → InI (k, k) → rB5 a1 a2 = true → rB5 b1 b2 = true → ThCall2 Try.prog 25 [vC (ptrV b), vP a1 a2, vP b1 b2, vI k] (ptrV b) S fun v S' q => ∃ v', v = vC v' ∧ q = pxRow v' (sortI (decide (b1 < a1)) (decide (b2 < a2)) (metF a1 a2 b1 b2 k) L) ∧ SI s L (ptrV b) S'
/-- how often. -/
def cntP (x y : Int) (l : List Px) : Int := (l.countP fun e => eqP e.1 e.2 x y : Nat)
/-- what is met is met from the other end; and it is near. -/
theorem met_turn (a1 a2 b1 b2 k : Int) : metF b1 b2 a1 a2 k = metF a1 a2 b1 b2 k := funext fun p => hiB_turn
theorem hiB_rung {a1 a2 b1 b2 x y k : Int} {r : Nat} (hr : IsR k r) (h : hiB a1 a2 b1 b2 x y k = true) : k = r := by
  have := hr
  unfold hiB at h
  simp only [Bool.and_eq_true, decide_eq_true_eq] at h
  unfold IsR at hr
  omega
theorem met_near {a1 a2 b1 b2 k : Int} {r : Nat} (hr : IsR k r) (p : Px) (h : metF a1 a2 b1 b2 k p = true) : nearF a1 a2 b1 b2 r p = true := by
  have hk := hiB_rung hr h
  unfold metF at h
  rw [hk] at h
  obtain ⟨⟨h1, h2⟩, h3, h4⟩ := hiB_between hr.1 h
  unfold nearF btw9
  simp only [Bool.and_eq_true, Bool.or_eq_true, decide_eq_true_eq]
  constructor
  · by_cases q : gsn b1 r < gsn a1 r
    · rw [if_pos q] at h1; rw [if_neg (by omega)] at h2; omega
    · rw [if_neg q] at h1
      by_cases q2 : gsn b1 r > gsn a1 r
      · rw [if_pos q2] at h2; omega
      · rw [if_neg q2] at h2; omega
  · by_cases q : gsn b2 r < gsn a2 r
    · rw [if_pos q] at h3; rw [if_neg (by omega)] at h4; omega
    · rw [if_neg q] at h3
      by_cases q2 : gsn b2 r > gsn a2 r
      · rw [if_pos q2] at h4; omega
      · rw [if_neg q2] at h4; omega
theorem sortI_mem {fx fy : Bool} {f : Px → Bool} {l : List Px} {p : Px} : p ∈ sortI fx fy f l ↔ p ∈ l ∧ f p = true := by
  rw [(sortI_perm fx fy f l).mem_iff, List.mem_filter]
end Go.Proofs.Ytaennpehlhgggaa

namespace Go.Proofs.Ytaennpehlhgggaa
open Go.RowKit
set_option linter.unusedVariables false
set_option linter.unusedSimpArgs false
def T9O (T U V : List Px) (n : Nat) (R : Rws) (ts : List (Nat × AV)) (ms : List (Nat × List AC)) : Prop :=
  ∃ (k : Nat) (ki : Int), k ≤ T.length ∧ n = T.length - k ∧ ki = k ∧ R = noRows ∧ ms = [] ∧ ts = [(10, vIt U), (11, vIt V), (80, vIt T), (81, vI T.length), (82, vI ki)]
def T9V (T U V : List Px) (x y ki : Int) (n : Nat) (R : Rws) (ts : List (Nat × AV)) (ms : List (Nat × List AC)) : Prop :=
  ∃ (i : Nat) (ii c : Int), i ≤ V.length ∧ n = V.length - i ∧ ii = i ∧ c = cntP x y (V.take i) ∧ R = noRows ∧ ms = [(13, mPx x y)] ∧ ts = [(10, vIt U), (11, vIt V), (13, vOw 13), (14, vI c), (15, vI 0), (80, vIt T), (81, vI T.length), (82, vI ki), (86, vIt V), (87, vI V.length), (88, vI ii)]
def T9U (T U V : List Px) (x y ki : Int) (n : Nat) (R : Rws) (ts : List (Nat × AV)) (ms : List (Nat × List AC)) : Prop :=
  ∃ (i : Nat) (ii c : Int), i ≤ U.length ∧ n = U.length - i ∧ ii = i ∧ c = cntP x y (U.take i) ∧ R = noRows ∧ ms = [(13, mPx x y)] ∧ ts = [(10, vIt U), (11, vIt V), (13, vOw 13), (14, vI 1), (15, vI c), (80, vIt T), (81, vI T.length), (82, vI ki), (98, vIt U), (99, vI U.length), (100, vI ii)]
end Go.Proofs.Ytaennpehlhgggaa

namespace Go.Proofs.Ytaennpehlhgggaa
open Go.RowKit
set_option linter.unusedVariables false
set_option linter.unusedSimpArgs false
theorem gsn_mono {u v : Int} (r : Nat) (h : u ≤ v) : gsn u r ≤ gsn v r := by
  unfold gsn
  exact Int.ediv_le_ediv (by have : (0 : Int) < 2 ^ r := Int.pow_pos (by decide); omega) (by omega)
theorem asc_head {fx fy : Bool} {l : List Px} {p : Px} (h : Asc fx fy l) (hp : p ∈ l) (ha : ∀ e ∈ l, e = p ∨ ahP fx fy p e = true) : ∃ t, l = p :: t := by
  cases l with
  | nil => cases hp
  | cons q t =>
    have hc := List.pairwise_cons.1 h
    rcases ha q (List.mem_cons_self ..) with e | e
    · exact ⟨t, by rw [e]⟩
    · rcases List.mem_cons.1 hp with e2 | e2
      · exact ⟨t, by rw [e2]⟩
      · have := hc.1 p e2
        rw [ahP_asym this] at e; cases e
theorem asc_last {fx fy : Bool} {l : List Px} {p : Px} (h : Asc fx fy l) (hp : p ∈ l) (ha : ∀ e ∈ l, e = p ∨ ahP fx fy e p = true) : ∃ t, l = t ++ [p] := by
  rcases List.eq_nil_or_concat l with e | ⟨t, z, e⟩
  · subst e; cases hp
  · rw [List.concat_eq_append] at e
    subst e
    have hc := List.pairwise_append.1 h
    rcases ha z (by simp) with e | e
    · exact ⟨t, by rw [e]⟩
    · rcases List.mem_append.1 hp with e2 | e2
      · have := hc.2.2 p e2 z (by simp)
        rw [ahP_asym this] at e; cases e
      · rw [List.mem_singleton] at e2
        exact ⟨t, by rw [e2]⟩
theorem near_head {a1 a2 b1 b2 : Int} {r : Nat} {e : Px} (h : nearF a1 a2 b1 b2 r e = true) : (e = (gsn a1 r, gsn a2 r) ∨ ahP (decide (b1 < a1)) (decide (b2 < a2)) (gsn a1 r, gsn a2 r) e = true) ∧ (e = (gsn b1 r, gsn b2 r) ∨ ahP (decide (b1 < a1)) (decide (b2 < a2)) e (gsn b1 r, gsn b2 r) = true) := by
  obtain ⟨x, y⟩ := e
  unfold nearF btw9 at h
  simp only [Bool.and_eq_true, Bool.or_eq_true, decide_eq_true_eq] at h
  rw [ahP_iff, ahP_iff]
  have m1 := fun hh : a1 ≤ b1 => gsn_mono r hh
  have m2 := fun hh : b1 ≤ a1 => gsn_mono r hh
  have m3 := fun hh : a2 ≤ b2 => gsn_mono r hh
  have m4 := fun hh : b2 ≤ a2 => gsn_mono r hh
  generalize gsn a1 r = A1 at *
  generalize gsn b1 r = B1 at *
  generalize gsn a2 r = A2 at *
  generalize gsn b2 r = B2 at *
  have key : ∀ u v : Int, (x, y) = (u, v) ↔ x = u ∧ y = v := fun u v => by rw [Prod.mk.injEq]
  rw [key, key]
  by_cases f1 : b1 < a1 <;> by_cases f2 : b2 < a2 <;> simp only [f1, f2, decide_true, decide_false, if_true, if_false, Bool.false_eq_true, ite_true, ite_false]
  · have := m2 (by omega); have := m4 (by omega); omega
  · have := m2 (by omega); have := m3 (by omega); omega
  · have := m1 (by omega); have := m4 (by omega); omega
  · have := m1 (by omega); have := m3 (by omega); omega
theorem addL_has {r : Int} {L : List Px} (h : (L.length : Int) < r) (x y : Int) : (x, y) ∈ addL r L x y := by
  unfold addL
  by_cases h1 : 0 ≤ numI L x y
  · rw [if_pos h1]; exact numI_iff.1 h1
  · rw [if_neg h1, if_neg (by omega)]; simp
theorem addL_sub {r : Int} {L : List Px} {x y : Int} {p : Px} (h : p ∈ L) : p ∈ addL r L x y := by
  unfold addL
  split
  · exact h
  · split
    · exact h
    · exact List.mem_append_left _ h
theorem single_of {l : List Px} {p : Px} (hn : l.Nodup) (hp : p ∈ l) (h : ∀ e ∈ l, e = p) : l = [p] := by
  match l, hn, hp, h with
  | [x], _, _, h => rw [h x (by simp)]
  | x :: y :: t, hn, _, h =>
    have e1 := h x (by simp)
    have e2 := h y (by simp)
    subst e1
    exact absurd (by simp [e2]) (List.nodup_cons.1 hn).1
/-- the ends are the first and the last one; of one point there is one. -/
theorem met_ends {L : List Px} (hn : L.Nodup) {a1 a2 b1 b2 : Int} {r : Nat} (hr : r ≤ 28) (ra : rB5 a1 a2 = true) (rb : rB5 b1 b2 = true) (ia : inB r (gsn a1 r) (gsn a2 r) = true) (ib : inB r (gsn b1 r) (gsn b2 r) = true) (ma : (gsn a1 r, gsn a2 r) ∈ L) (mb : (gsn b1 r, gsn b2 r) ∈ L) :
    (∃ t, sortI (decide (b1 < a1)) (decide (b2 < a2)) (metF a1 a2 b1 b2 r) L = (gsn a1 r, gsn a2 r) :: t) ∧ (∃ t, sortI (decide (b1 < a1)) (decide (b2 < a2)) (metF a1 a2 b1 b2 r) L = t ++ [(gsn b1 r, gsn b2 r)]) ∧ ∀ fx fy, sortI fx fy (metF a1 a2 a1 a2 r) L = [(gsn a1 r, gsn a2 r)] := by
  have hR : IsR (r : Int) r := by unfold IsR; omega
  have ha : metF a1 a2 b1 b2 r (gsn a1 r, gsn a2 r) = true := by rw [show metF a1 a2 b1 b2 r (gsn a1 r, gsn a2 r) = hiB a1 a2 b1 b2 (gsn a1 r) (gsn a2 r) r from rfl, hiB_end hr ra rb]; exact ia
  have hb : metF a1 a2 b1 b2 r (gsn b1 r, gsn b2 r) = true := by rw [← met_turn, show metF b1 b2 a1 a2 r (gsn b1 r, gsn b2 r) = hiB b1 b2 a1 a2 (gsn b1 r) (gsn b2 r) r from rfl, hiB_end hr rb ra]; exact ib
  have ho : metF a1 a2 a1 a2 r (gsn a1 r, gsn a2 r) = true := by rw [show metF a1 a2 a1 a2 r (gsn a1 r, gsn a2 r) = hiB a1 a2 a1 a2 (gsn a1 r) (gsn a2 r) r from rfl, hiB_end hr ra ra]; exact ia
  refine ⟨asc_head (sortI_asc _ _ _ hn) (sortI_mem.2 ⟨ma, ha⟩) fun e he => (near_head (met_near hR e (sortI_mem.1 he).2)).1, asc_last (sortI_asc _ _ _ hn) (sortI_mem.2 ⟨mb, hb⟩) fun e he => (near_head (met_near hR e (sortI_mem.1 he).2)).2, fun fx fy => single_of (asc_nodup (sortI_asc fx fy _ hn)) (sortI_mem.2 ⟨ma, ho⟩) fun e he => ?_⟩
  have h1 := (near_head (met_near hR e (sortI_mem.1 he).2))
  obtain ⟨x, y⟩ := e
  have h2 := (sortI_mem.1 he).2
  obtain ⟨⟨q1, q2⟩, q3, q4⟩ := hiB_between hr h2
  rw [if_neg (by omega)] at q1 q2 q3 q4
  exact Prod.ext (by simp; omega) (by simp; omega)
end Go.Proofs.Ytaennpehlhgggaa

namespace Go.Proofs.Ytaennpehlhgggaa
open Go.RowKit
set_option linter.unusedVariables false
set_option linter.unusedSimpArgs false
def CCopy9 (SI : SIT) : Prop := ∀ (r : Int) L b S, SI r L (ptrV b) S → L.length ≤ 300 → ThCall3 Try.prog 27 [vC (ptrV b)] (ptrV b) S fun S' p2 S2 => ∃ b2, p2 = ptrV b2 ∧ SI r L (ptrV b) S' ∧ SI r L p2 S2
def IntC (ys : List AC) : Prop := ∀ c ∈ ys, ∃ a : Int, c = .c (.int .i64 a)
theorem IntC.splice {ys : List AC} (h : IntC ys) (off : Nat) (a : Int) : IntC (splice ys off [.c (.int .i64 a)]) := fun c hc => by
  unfold Go.Proofs.Ytaennpehlhgggaa.splice at hc
  simp only [List.mem_append, List.mem_singleton] at hc
  rcases hc with (hc | hc) | hc
  · exact h c (List.mem_of_mem_take hc)
  · exact ⟨a, hc⟩
  · exact h c (List.mem_of_mem_drop hc)
abbrev anyRow (v : Value) (n : Nat) (ys : List AC) : HRow := ⟨32, 2, v, n, ys⟩
def O9I (r : Int) (L : List Px) (b b2 : Nat) (S S2 : SP) (v : Value) (n : Nat) (R : Rws) (ts : List (Nat × AV)) (ms : List (Nat × List AC)) : Prop :=
  ∃ (k : Nat) (ki : Int) (ys : List AC), k ≤ L.length ∧ n = L.length - k ∧ ki = k ∧ IntC ys ∧ ys.length = L.length * 2 ∧ R = upd (upd (row1 0 (ob (ptrV b) S)) 1 (ob (ptrV b2) S2)) 2 (anyRow v L.length ys) ∧ ms = [(6, [.c (.int .i64 r), .p (SlP 2 L.length (itC L))])] ∧ ts = [(5, vC (ptrV b)), (6, vOw 6), (7, vC (ptrV b2)), (8, vC v), (38, vI L.length), (39, vI ki)]
end Go.Proofs.Ytaennpehlhgggaa

namespace Go.Proofs.Ytaennpehlhgggaa
set_option linter.unusedVariables false
/-- how many come ahead of a pixel. -/
def posE (l : List Ent) (x y : Int) : Nat := (putA l x y).length
theorem posE_len (l : List Ent) (x y : Int) : posE l x y ≤ l.length := putA_len l x y
theorem posE_spec : ∀ {l : List Ent} (h : Rises l) (x y : Int) (k : Nat) (e : Ent), l[k]? = some e → (k < posE l x y ↔ pLt e.1 e.2.1 x y = true)
  | [], _, _, _, k, e, hk => by simp at hk
  | f :: l, h, x, y, k, e, hk => by
    have hc := List.pairwise_cons.1 h
    by_cases hf : pLt f.1 f.2.1 x y = true
    · have hp : posE (f :: l) x y = posE l x y + 1 := by
        unfold posE putA
        rw [List.filter_cons, if_pos hf]; rfl
      rw [hp]
      cases k with
      | zero => simp at hk; subst hk; simp [hf]
      | succ k =>
        have := posE_spec hc.2 x y k e (by simpa using hk)
        rw [← this]; omega
    · have hall : ∀ g ∈ f :: l, ¬ pLt g.1 g.2.1 x y = true := by
        intro g hg
        rcases List.mem_cons.1 hg with rfl | hg
        · exact hf
        · have h1 := hc.1 g hg
          rw [pLt_iff] at h1 hf ⊢
          omega
      have hp : posE (f :: l) x y = 0 := by
        unfold posE putA
        rw [List.filter_eq_nil_iff.2 hall]; rfl
      rw [hp]
      have := hall e (List.mem_of_getElem? hk)
      simp [this]
theorem take_lt {l : List Ent} (h : Rises l) {x y : Int} : ∀ e ∈ l.take (posE l x y), pLt e.1 e.2.1 x y = true := by
  intro e he
  obtain ⟨k, hk⟩ := List.getElem?_of_mem he
  have hlt := (List.getElem?_eq_some_iff.1 hk).1
  rw [List.length_take] at hlt
  rw [List.getElem?_take_of_lt (by omega)] at hk
  exact (posE_spec h x y k e hk).1 (by omega)
theorem drop_ge {l : List Ent} (h : Rises l) {x y : Int} : ∀ e ∈ l.drop (posE l x y), ¬ pLt e.1 e.2.1 x y = true := by
  intro e he
  obtain ⟨k, hk⟩ := List.getElem?_of_mem he
  rw [List.getElem?_drop] at hk
  intro hlt
  have := (posE_spec h x y _ e hk).2 hlt
  omega
theorem putA_pos {l : List Ent} (h : Rises l) {x y : Int} : putA l x y = l.take (posE l x y) := by
  conv => lhs; rw [← List.take_append_drop (posE l x y) l]
  unfold putA
  rw [List.filter_append, List.filter_eq_self.2 (take_lt h), List.filter_eq_nil_iff.2 (drop_ge h), List.append_nil]
/-- is the pixel there? -/
theorem has_pos {l : List Ent} (h : Rises l) {x y : Int} : hasE l x y = true ↔ ∃ u, l[posE l x y]? = some (x, y, u) := by
  constructor
  · intro hh
    unfold hasE at hh
    rw [List.any_eq_true] at hh
    obtain ⟨e, he, hq⟩ := hh
    simp only [Bool.and_eq_true, decide_eq_true_eq] at hq
    obtain ⟨k, hk⟩ := List.getElem?_of_mem he
    have h1 := posE_spec h x y k e hk
    have h2 : ¬ k < posE l x y := by rw [h1, pLt_iff]; omega
    have hkl := (List.getElem?_eq_some_iff.1 hk).1
    have hpl : posE l x y < l.length := by omega
    have hp := List.getElem?_eq_getElem hpl
    have h3 := posE_spec h x y _ _ hp
    by_cases e' : k = posE l x y
    · refine ⟨e.2.2, ?_⟩
      rw [← e', hk]
      exact congrArg some (Prod.ext hq.1 (Prod.ext hq.2 rfl))
    · exfalso
      have h4 := List.pairwise_iff_getElem.1 h (posE l x y) k hpl hkl (by omega)
      have ek : l[k] = e := (List.getElem?_eq_some_iff.1 hk).2
      rw [ek, pLt_iff] at h4
      have h5 : pLt l[posE l x y].1 l[posE l x y].2.1 x y = true := by rw [pLt_iff]; omega
      have := h3.2 h5
      omega
  · rintro ⟨u, hu⟩
    exact List.any_eq_true.2 ⟨_, List.mem_of_getElem? hu, by simp⟩
theorem drop_gt {l : List Ent} (h : Rises l) {x y : Int} (hn : hasE l x y = false) : ∀ e ∈ l.drop (posE l x y), pLt x y e.1 e.2.1 = true := by
  intro e he
  have h1 := drop_ge h e he
  have h2 : ¬ (e.1 = x ∧ e.2.1 = y) := by
    rintro ⟨h3, h4⟩
    have : hasE l x y = true := List.any_eq_true.2 ⟨_, List.mem_of_mem_drop he, by simp [h3, h4]⟩
    rw [hn] at this; cases this
  rw [pLt_iff] at *
  omega
theorem putL_new {l : List Ent} (h : Rises l) {x y v : Int} (hn : hasE l x y = false) : putL l x y v = l.take (posE l x y) ++ (x, y, v) :: l.drop (posE l x y) := by
  unfold putL
  rw [putA_pos h]
  congr 2
  conv => lhs; rw [← List.take_append_drop (posE l x y) l]
  unfold putZ
  rw [List.filter_append, List.filter_eq_self.2 (drop_gt h hn), List.filter_eq_nil_iff.2 fun e he => ?_, List.nil_append]
  have := take_lt h e he
  rw [pLt_iff] at *
  omega
theorem putL_has {l : List Ent} (h : Rises l) {x y v u : Int} (hp : l[posE l x y]? = some (x, y, u)) : putL l x y v = l.take (posE l x y) ++ (x, y, v) :: l.drop (posE l x y + 1) := by
  unfold putL
  rw [putA_pos h]
  congr 2
  have hl := (List.getElem?_eq_some_iff.1 hp).1
  have he := (List.getElem?_eq_some_iff.1 hp).2
  conv => lhs; rw [← List.take_append_drop (posE l x y) l]
  unfold putZ
  rw [List.filter_append, List.filter_eq_nil_iff.2 (fun e he => by have := take_lt h e he; rw [pLt_iff] at *; omega), List.nil_append, List.drop_eq_getElem_cons hl, he, List.filter_cons_of_neg (by rw [pLt_iff]; simp)]
  refine List.filter_eq_self.2 fun e hm => ?_
  obtain ⟨k, hk⟩ := List.getElem?_of_mem hm
  rw [List.getElem?_drop] at hk
  have hkl := (List.getElem?_eq_some_iff.1 hk).1
  have h4 := List.pairwise_iff_getElem.1 h (posE l x y) _ hl hkl (by omega)
  rw [he, (List.getElem?_eq_some_iff.1 hk).2] at h4
  exact h4
theorem valE_pos {l : List Ent} (h : Rises l) {x y u : Int} (hp : l[posE l x y]? = some (x, y, u)) : hasE l x y = true ∧ valE l x y = u := valE_mem h (List.mem_of_getElem? hp)
/-- a box's part: all behind the first one that is not ahead of its low corner. -/
theorem inL_drop {l : List Ent} (h : Rises l) (a b c d : Int) : inL l a b c d = inL (l.drop (posE l a b)) a b c d := by
  conv => lhs; rw [← List.take_append_drop (posE l a b) l]
  unfold inL
  rw [List.filter_append, List.filter_eq_nil_iff.2 (fun e he => ?_), List.nil_append]
  have := take_lt h e he
  rw [pLt_iff] at this
  simp
  intros
  omega
/-- .. until the first one that is right of it. -/
theorem inL_stop {l : List Ent} (h : Rises l) {a b c d : Int} {k : Nat} {e : Ent} (hk : l[k]? = some e) (he : c < e.1) : inL l a b c d = inL (l.take k) a b c d := by
  conv => lhs; rw [← List.take_append_drop k l]
  unfold inL
  rw [List.filter_append, show (l.drop k).filter _ = [] from List.filter_eq_nil_iff.2 (fun f hf => ?_), List.append_nil]
  obtain ⟨j, hj⟩ := List.getElem?_of_mem hf
  rw [List.getElem?_drop] at hj
  have hjl := (List.getElem?_eq_some_iff.1 hj).1
  have hkl := (List.getElem?_eq_some_iff.1 hk).1
  have hc : c < f.1 := by
    by_cases e0 : j = 0
    · subst e0
      rw [Nat.add_zero, hk] at hj; cases hj; exact he
    · have h4 := List.pairwise_iff_getElem.1 h k (k + j) hkl hjl (by omega)
      rw [(List.getElem?_eq_some_iff.1 hk).2, (List.getElem?_eq_some_iff.1 hj).2, pLt_iff] at h4
      omega
  simp
  intros
  omega
theorem inL_step {l : List Ent} {a b c d : Int} {k : Nat} {x y v : Int} (hk : l[k]? = some (x, y, v)) (ha : a ≤ x) (hc : x ≤ c) : inL (l.take (k + 1)) a b c d = inL (l.take k) a b c d ++ if b ≤ y ∧ y ≤ d then [(x, y, v)] else [] := by
  unfold inL
  rw [take_filter hk]
  congr 1
  by_cases q : b ≤ y ∧ y ≤ d
  · rw [if_pos q, if_pos]
    simp [ha, hc, q.1, q.2]
  · rw [if_neg q, if_neg]
    simp [ha, hc]
    omega
theorem Rises.drop {l : List Ent} (h : Rises l) (k : Nat) : Rises (l.drop k) := List.Pairwise.sublist (List.drop_sublist k l) h
theorem drop_low {l : List Ent} (h : Rises l) {a b : Int} {k : Nat} {e : Ent} (hk : (l.drop (posE l a b))[k]? = some e) : a ≤ e.1 := by
  have := drop_ge h e (List.mem_of_getElem? hk)
  rw [pLt_iff] at this
  omega
end Go.Proofs.Ytaennpehlhgggaa

namespace Go.Proofs.Ytaennpehlhgggaa
set_option linter.unusedVariables false
set_option linter.unusedSimpArgs false
/-- an entry's pixel. -/
abbrev pixE (e : Ent) : Px := (e.1, e.2.1)
/-- pixels with their numbers, from k on. -/
def numF : Nat → List Px → List Ent
  | _, [] => []
  | k, p :: l => (p.1, p.2, (k : Int)) :: numF (k + 1) l
theorem numF_app : ∀ (k : Nat) (l : List Px) (p : Px), numF k (l ++ [p]) = numF k l ++ [(p.1, p.2, ((k + l.length : Nat) : Int))]
  | k, [], p => by simp [numF]
  | k, q :: l, p => by
    simp only [List.cons_append, numF, numF_app (k + 1) l p, List.length_cons]
    rw [show k + 1 + l.length = k + (l.length + 1) by omega]
theorem numF_pix : ∀ (k : Nat) (l : List Px), (numF k l).map pixE = l
  | _, [] => rfl
  | k, p :: l => by simp only [numF, List.map_cons, numF_pix (k + 1) l]
theorem numF_len (k : Nat) (l : List Px) : (numF k l).length = l.length := by
  have := congrArg List.length (numF_pix k l)
  rwa [List.length_map] at this
theorem numF_mem : ∀ (k : Nat) (l : List Px) (x y w : Int), (x, y, w) ∈ numF k l ↔ ∃ i : Nat, l[i]? = some (x, y) ∧ w = ((k + i : Nat) : Int)
  | k, [], x, y, w => by simp [numF]
  | k, p :: l, x, y, w => by
    rw [numF, List.mem_cons, numF_mem (k + 1) l x y w]
    constructor
    · rintro (h | ⟨i, h1, h2⟩)
      · simp only [Prod.mk.injEq] at h
        exact ⟨0, by rw [List.getElem?_cons_zero, h.1, h.2.1], by rw [h.2.2]; rfl⟩
      · exact ⟨i + 1, by rw [List.getElem?_cons_succ]; exact h1, by rw [h2]; omega⟩
    · rintro ⟨i, h1, h2⟩
      match i with
      | 0 => rw [List.getElem?_cons_zero] at h1; cases h1; exact .inl (by rw [h2]; rfl)
      | i + 1 => rw [List.getElem?_cons_succ] at h1; exact .inr ⟨i, h1, by rw [h2]; omega⟩
abbrev leV (a b : Ent) : Prop := a.2.2 ≤ b.2.2
theorem numF_ge : ∀ (k : Nat) (l : List Px) (e : Ent), e ∈ numF k l → (k : Int) ≤ e.2.2
  | k, p :: l, e, h => by
    rcases List.mem_cons.1 h with h | h
    · rw [h]; exact Int.le_refl _
    · have := numF_ge (k + 1) l e h; omega
theorem numF_sorted : ∀ (k : Nat) (l : List Px), (numF k l).Pairwise leV
  | _, [] => .nil
  | k, p :: l => List.pairwise_cons.2 ⟨fun e h => by have := numF_ge (k + 1) l e h; show (k : Int) ≤ e.2.2; omega, numF_sorted (k + 1) l⟩
/-- rows of entries, put together, put in order. -/
abbrev ltV (a b : Ent) : Bool := decide (a.2.2 < b.2.2)
def mrgE : List Ent → List Ent → List Ent
  | [], b => b
  | x :: a, [] => x :: a
  | x :: a, y :: b => if ltV y x then y :: mrgE (x :: a) b else x :: mrgE a (y :: b)
termination_by a b => a.length + b.length
theorem mrgE_nil (a : List Ent) : mrgE a [] = a := by cases a <;> simp [mrgE]
theorem mrgE_nil' (a : List Ent) : mrgE [] a = a := by simp [mrgE]
theorem mrgE_perm : ∀ a b, (mrgE a b).Perm (a ++ b) := by
  intro a b
  induction a, b using mrgE.induct with
  | case1 b => simp [mrgE]
  | case2 x a => simp [mrgE]
  | case3 x a y b h ih =>
    rw [mrgE, if_pos h]
    exact (ih.cons y).trans List.perm_middle.symm
  | case4 x a y b h ih =>
    rw [mrgE, if_neg h]
    exact ih.cons x
theorem mrgE_len (a b : List Ent) : (mrgE a b).length = a.length + b.length := by rw [(mrgE_perm a b).length_eq, List.length_append]
theorem mrgE_sorted : ∀ a b, a.Pairwise leV → b.Pairwise leV → (mrgE a b).Pairwise leV := by
  intro a b
  induction a, b using mrgE.induct with
  | case1 b => intro _ h; simpa [mrgE] using h
  | case2 x a => intro h _; simpa [mrgE] using h
  | case3 x a y b h ih =>
    intro ha hb
    rw [mrgE, if_pos h]
    have hbc := List.pairwise_cons.1 hb
    have hac := List.pairwise_cons.1 ha
    have hlt := of_decide_eq_true h
    refine List.pairwise_cons.2 ⟨fun r hr => ?_, ih ha hbc.2⟩
    rcases List.mem_append.1 ((mrgE_perm _ _).mem_iff.1 hr) with hr | hr
    · rcases List.mem_cons.1 hr with rfl | hr
      · exact Int.le_of_lt hlt
      · exact Int.le_trans (Int.le_of_lt hlt) (hac.1 r hr)
    · exact hbc.1 r hr
  | case4 x a y b h ih =>
    intro ha hb
    rw [mrgE, if_neg h]
    have hbc := List.pairwise_cons.1 hb
    have hac := List.pairwise_cons.1 ha
    have hle : x.2.2 ≤ y.2.2 := by
      have : ¬ y.2.2 < x.2.2 := fun h' => h (decide_eq_true h')
      omega
    refine List.pairwise_cons.2 ⟨fun r hr => ?_, ih hac.2 hb⟩
    rcases List.mem_append.1 ((mrgE_perm _ _).mem_iff.1 hr) with hr | hr
    · exact hac.1 r hr
    · rcases List.mem_cons.1 hr with rfl | hr
      · exact hle
      · exact Int.le_trans hle (hbc.1 r hr)
def srtE (l : List Ent) : List Ent :=
  if h : l.length < 2 then l else mrgE (srtE (l.take (l.length / 2))) (srtE (l.drop (l.length / 2)))
termination_by l.length
decreasing_by all_goals (simp; omega)
theorem srtE_perm : ∀ (N : Nat) (l : List Ent), l.length ≤ N → (srtE l).Perm l
  | N, l, h => by
    by_cases q : l.length < 2
    · rw [srtE, dif_pos q]
    · match N with
      | 0 => omega
      | N + 1 =>
        rw [srtE, dif_neg q]
        have h1 := srtE_perm N (l.take (l.length / 2)) (by simp; omega)
        have h2 := srtE_perm N (l.drop (l.length / 2)) (by simp; omega)
        refine (mrgE_perm _ _).trans ((h1.append h2).trans ?_)
        rw [List.take_append_drop]
theorem srtE_len (l : List Ent) : (srtE l).length = l.length := (srtE_perm _ l (Nat.le_refl _)).length_eq
theorem srtE_sorted : ∀ (N : Nat) (l : List Ent), l.length ≤ N → (srtE l).Pairwise leV
  | N, l, h => by
    by_cases q : l.length < 2
    · rw [srtE, dif_pos q]
      match l, q with
      | [], _ => exact .nil
      | [a], _ => exact List.pairwise_singleton _ _
    · match N with
      | 0 => omega
      | N + 1 =>
        rw [srtE, dif_neg q]
        exact mrgE_sorted _ _ (srtE_sorted N _ (by simp; omega)) (srtE_sorted N _ (by simp; omega))
/-- the index of these pixels. -/
def IdxOf (L : List Px) (es : List Ent) : Prop := Rises es ∧ es.Perm (numF 0 L) ∧ L.Nodup
theorem IdxOf.len {L : List Px} {es : List Ent} (h : IdxOf L es) : es.length = L.length := by rw [h.2.1.length_eq, numF_len]
theorem IdxOf.srt {L : List Px} {es : List Ent} (h : IdxOf L es) : srtE es = numF 0 L := by
  refine List.Perm.eq_of_pairwise (le := leV) (fun a b ha hb h1 h2 => ?_) (srtE_sorted _ es (Nat.le_refl _)) (numF_sorted 0 L) ((srtE_perm _ es (Nat.le_refl _)).trans h.2.1)
  have ha' := ((srtE_perm _ es (Nat.le_refl _)).trans h.2.1).mem_iff.1 ha
  obtain ⟨x, y, w⟩ := a
  obtain ⟨x', y', w'⟩ := b
  obtain ⟨i, p1, p2⟩ := (numF_mem 0 L x y w).1 ha'
  obtain ⟨j, q1, q2⟩ := (numF_mem 0 L x' y' w').1 hb
  have hw : w = w' := Int.le_antisymm h1 h2
  have hij : i = j := by omega
  subst hij
  rw [p1] at q1
  cases q1
  rw [hw]
theorem numI_at {L : List Px} (hn : L.Nodup) {i : Nat} {x y : Int} (h : L[i]? = some (x, y)) : numI L x y = (i : Int) := by
  have h0 : 0 ≤ numI L x y := numI_iff.2 (List.mem_of_getElem? h)
  unfold numI at h0 ⊢
  cases hf : L.findIdx? fun e => decide (e.1 = x) && decide (e.2 = y) with
  | none => rw [hf] at h0; exact absurd h0 (by decide)
  | some k =>
    obtain ⟨hk, h1, _⟩ := List.findIdx?_eq_some_iff_getElem.1 hf
    simp only [Bool.and_eq_true, decide_eq_true_eq] at h1
    have e1 : L[k] = (x, y) := Prod.ext h1.1 h1.2
    obtain ⟨hi, e2⟩ := List.getElem?_eq_some_iff.1 h
    have := (List.getElem_inj (h₀ := hk) (h₁ := hi) hn).1 (e1.trans e2.symm)
    rw [this]
theorem hasE_iff {es : List Ent} {a b : Int} : hasE es a b = true ↔ ∃ w, (a, b, w) ∈ es := by
  unfold hasE
  rw [List.any_eq_true]
  constructor
  · rintro ⟨⟨p, q, w⟩, h1, h2⟩
    simp only [Bool.and_eq_true, decide_eq_true_eq] at h2
    exact ⟨w, by rw [← h2.1, ← h2.2]; exact h1⟩
  · rintro ⟨w, h⟩
    exact ⟨_, h, by simp⟩
theorem IdxOf.num {L : List Px} {es : List Ent} (h : IdxOf L es) (x y : Int) : hasE es x y = decide (0 ≤ numI L x y) ∧ (0 ≤ numI L x y → valE es x y = numI L x y) := by
  by_cases hh : 0 ≤ numI L x y
  · obtain ⟨i, hi⟩ := List.getElem?_of_mem (numI_iff.1 hh)
    have hm : (x, y, ((0 + i : Nat) : Int)) ∈ es := h.2.1.mem_iff.2 ((numF_mem 0 L x y _).2 ⟨i, hi, rfl⟩)
    have h1 := valE_mem h.1 hm
    exact ⟨by rw [h1.1, decide_eq_true hh], fun _ => by rw [h1.2, numI_at h.2.2 hi, Nat.zero_add]⟩
  · refine ⟨?_, fun h' => absurd h' hh⟩
    rw [decide_eq_false hh]
    cases he : hasE es x y with
    | false => rfl
    | true =>
      obtain ⟨w, hw⟩ := hasE_iff.1 he
      obtain ⟨i, hi, _⟩ := (numF_mem 0 L x y w).1 (h.2.1.mem_iff.1 hw)
      exact absurd (numI_iff.2 (List.mem_of_getElem? hi)) hh
theorem IdxOf.add {L : List Px} {es : List Ent} (h : IdxOf L es) {x y : Int} (hn : ¬ 0 ≤ numI L x y) : IdxOf (L ++ [(x, y)]) (putL es x y L.length) := by
  have hne : hasE es x y = false := by rw [(h.num x y).1]; exact decide_eq_false hn
  refine ⟨putL_rises h.1 x y L.length, ?_, ?_⟩
  · rw [putL_new h.1 hne, numF_app, Nat.zero_add]
    refine List.perm_middle.trans ?_
    rw [List.take_append_drop]
    refine (h.2.1.cons _).trans ?_
    exact (List.perm_append_singleton _ _).symm
  · rw [List.nodup_append]
    refine ⟨h.2.2, by simp, fun a ha b hb e => ?_⟩
    rw [List.mem_singleton] at hb
    subst hb; subst e
    exact hn (numI_iff.2 ha)
theorem IdxOf.nil : IdxOf [] [] := ⟨.nil, .refl _, .nil⟩
/-- those that stand in a box, put in order by halves. -/
theorem IdxOf.box {L : List Px} {es : List Ent} (h : IdxOf L es) (a b c d : Int) : ((inL es a b c d).map pixE).Perm (L.filter fun p => decide (a ≤ p.1) && decide (p.1 ≤ c) && decide (b ≤ p.2) && decide (p.2 ≤ d)) := by
  have h1 : (inL es a b c d).Perm (inL (numF 0 L) a b c d) := h.2.1.filter _
  have h2 := h1.map pixE
  have h3 : ((inL (numF 0 L) a b c d).map pixE) = ((numF 0 L).map pixE).filter fun p => decide (a ≤ p.1) && decide (p.1 ≤ c) && decide (b ≤ p.2) && decide (p.2 ≤ d) := by
    unfold inL
    rw [List.filter_map]
    rfl
  rw [h3, numF_pix] at h2
  exact h2
theorem addL_had {r : Int} {L : List Px} {x y : Int} (h : 0 ≤ numI L x y) : addL r L x y = L ∧ addB r L x y = false ∧ addE r L x y = 0 := by unfold addL addB addE; rw [if_pos h, if_pos h, if_pos h]; exact ⟨rfl, rfl, rfl⟩
theorem addL_full {r : Int} {L : List Px} {x y : Int} (h : ¬ 0 ≤ numI L x y) (h2 : r ≤ (L.length : Int)) : addL r L x y = L ∧ addB r L x y = false ∧ addE r L x y = 90 := by unfold addL addB addE; rw [if_neg h, if_neg h, if_neg h, if_pos h2, if_pos h2, if_pos h2]; exact ⟨rfl, rfl, rfl⟩
theorem addL_new {r : Int} {L : List Px} {x y : Int} (h : ¬ 0 ≤ numI L x y) (h2 : ¬ r ≤ (L.length : Int)) : addL r L x y = L ++ [(x, y)] ∧ addB r L x y = true ∧ addE r L x y = 0 := by unfold addL addB addE; rw [if_neg h, if_neg h, if_neg h, if_neg h2, if_neg h2, if_neg h2]; exact ⟨rfl, rfl, rfl⟩
end Go.Proofs.Ytaennpehlhgggaa

namespace Go.Proofs.Ytaennpehlhgggaa
open Go.RowKit
set_option linter.unusedVariables false
set_option linter.unusedSimpArgs false
abbrev inB8 (a b c d x y : Int) : Bool := decide (a ≤ x) && decide (x ≤ c) && decide (b ≤ y) && decide (y ≤ d)
def S8I (l m : List Ent) (k : Nat) (ts : List (Nat × AV)) (ms : List (Nat × List AC)) : Prop :=
  ∃ i : Nat, i ≤ l.length ∧ k = l.length - i ∧ (∀ j, j < i → l[j]? = m[j]?) ∧ ms = [] ∧ ts = [(0, vEn l), (1, vEn m), (12, vEn l), (13, vI l.length), (14, vI i)]
end Go.Proofs.Ytaennpehlhgggaa

