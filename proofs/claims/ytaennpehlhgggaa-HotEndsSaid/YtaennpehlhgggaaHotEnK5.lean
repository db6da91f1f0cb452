/-
  My own texts, without what this claim does not need. My own text.
-/
import Derived.Test.YtaennpehlhgggaaHotEnK4
namespace Go.Proofs.Ytaennpehlhgggaa
open Go.RowKit
set_option linter.unusedVariables false
set_option linter.unusedSimpArgs false
/-- an index's row. -/
abbrev nxRow (v : Value) (l : List Ent) : HRow := ⟨69, 3, v, l.length, enC l⟩
instance iNearC_1 : RowTy Try.prog 42 69 3 24 := ⟨by kernel_rfl⟩
/-- what is known of Put, of any program whose index is a row alone. -/
def CPut (n : Nat) : Prop := ∀ l v (x y w : Int), v.oneCell' = true → Rises l → l.length ≤ n → OCall Try.prog 31 [vP x y, vI w] [.c v] (nxRow v l) fun r cs' r' => r = vB (!hasE l x y) ∧ ∃ v', v'.oneCell' = true ∧ cs' = [.c v'] ∧ r' = nxRow v' (putL l x y w)
def M8I (es : List Ent) (n : Nat) (R : Rws) (ts : List (Nat × AV)) (ms : List (Nat × List AC)) : Prop :=
  ∃ (k : Nat) (v : Value) (ki : Int), k ≤ es.length ∧ n = es.length - k ∧ ki = k ∧ v.oneCell' = true ∧ R = row1 0 (nxRow v (madeL [] (es.take k))) ∧ ms = [(9, [.c v])] ∧ ts = [(4, vOw 9), (5, vEn (madeL [] (es.take k))), (10, vEn es), (11, vI es.length), (12, vI ki)]
end Go.Proofs.Ytaennpehlhgggaa

namespace Go.Proofs.Ytaennpehlhgggaa
open Go.RowKit
set_option linter.unusedVariables false
set_option linter.unusedSimpArgs false
/-- such a function. -/
def ACall (P : Program) (f : FuncId) (args : List AV) (post : AV → HRow → Prop) : Prop :=
  ∀ i, HCall P f args noMem noRows fun v m' R' => ∃ q, m' = noMem ∧ R' = row1 i q ∧ 0 < q.sz ∧ post v q
theorem acall_of {P : Program} {f : FuncId} {args : List AV} {post : AV → HRow → Prop} (ha : args.all AV.closedB = true) (hp : ∀ v q, post v q → v.closedB = true)
    (h : HCall P f args noMem noRows fun v m' R' => ∃ q, m' = noMem ∧ R' = row1 0 q ∧ 0 < q.sz ∧ post v q) : ACall P f args post := by
  intro i
  have h1 := h.ren (π := fun j => j) (σ := swp 0 i) (τ := swp 0 i) (fun _ => rfl) (swp_swp _ _) (swp_swp _ _)
  rw [renId ha, show Mem.ren (fun j => j) noMem = noMem from rfl, show Rws.ren (swp 0 i) noRows = noRows from rfl] at h1
  refine ⟨fun U ρ W vs hH hown hvs => (h1.call U ρ W vs hH hown hvs).mono ?_⟩
  rintro e W' ⟨v1, r1, m', R', ρ', U', q0, ⟨r2, m2, R2, ⟨q, rfl, rfl, hz, hq⟩, rfl, rfl, rfl⟩, qq⟩
  rw [show Mem.ren (fun j => j) noMem = noMem from rfl, row1_ren, ren_closedV (hp _ _ hq)] at qq
  exact ⟨v1, r2, noMem, row1 i q, ρ', U', q0, ⟨q, rfl, rfl, hz, hq⟩, qq⟩
/-- its end. -/
theorem hfin_a {P : Program} {fn : Func} {l : List ResultVar} {xs : List AW} {R : Rws} {s : AS} {q : HRow} {post : AV → HRow → Prop} (hr : fn.results = l.toArray) (h : l.map (resOf P s) = xs.map some) (hi : R 0 = some q) (hx : (packed xs).closedB = true) (hqz : 0 < q.sz)
    (hp : post (packed xs) q) : hfin P fn noMem noRows (fun v m' R' => ∃ q, m' = noMem ∧ R' = row1 0 q ∧ 0 < q.sz ∧ post v q) R s := by
  refine ⟨xs, packed xs, noMem, row1 0 q, by rw [hr]; exact h, .refl _, ⟨q, rfl, rfl, hqz, hp⟩, fun k c h => (by cases h), fun i r h => ?_, fun j hj => absurd hj (AV.closed_of hx j), fun k c x j h => (by cases h), fun k c h => (by cases h), fun i r h => (by cases h)⟩
  obtain ⟨rfl, rfl⟩ := row1_iff h; exact hi
section
variable {P : Program} {R : Rws} {s : AS} {ops : Array Oper} {dr : Option (List Nat)} {ty : Nat} {pos : String} {after : Array Edge} {guard : Option (Nat × Bool)} {K : Rws → AS → Prop} {rest : List Oper}
theorem hs_a (i : Nat) {dst : Option Nat} {f : FuncId} {g : Operand} {ts : Array TypeId} {l : List Operand} {args : List AV} {post : AV → HRow → Prop} [E : Enters P f] (hw : want ops ⟨dst, .call ⟨.value g, l.toArray, ts⟩, ty, pos, after, guard⟩ s = some true) (hm : hotM dr ⟨dst, .call ⟨.value g, l.toArray, ts⟩, ty, pos, after, guard⟩ = true)
    (hg : s.look g = some (vC (.func (.func f) #[] #[]))) (ha : l.map s.look = args.map some) (hp : ACall P f args post) (hac : args.all AV.closedB = true) (hd : dstB dst s.n = true)
    (h : ∀ v q, post v q → hList P ops dr K rest (upd R i q) (s.put dst v)) : hList P ops dr K (⟨dst, .call ⟨.value g, l.toArray, ts⟩, ty, pos, after, guard⟩ :: rest) R s := by
  refine hs_h hw hm hg ha (hp i) (fun x hx j hj => absurd hj (AV.closed_of (List.all_eq_true.1 hac x hx) j)) (fun k' cs' h' => by cases h') (fun i' r' h' => by cases h') (fun k' cs' x j h' hx hj => by cases h') hd ?_
  rintro v m' R' ⟨q, rfl, rfl, _, hq⟩
  refine ⟨fun k' c h' => (by cases h'), ?_⟩
  rw [show ovr (row1 i q) R = upd R i q from ovr_upd R i _, over_noMem]
  exact h v q hq
/-- the row that is made is given up at once. -/
theorem hs_ac (j : Nat) {d : Nat} {f : FuncId} {g : Operand} {ts : Array TypeId} {l : List Operand} {args : List AV} {post : AV → HRow → Prop} [E : Enters P f] (hw : want ops ⟨some d, .call ⟨.value g, l.toArray, ts⟩, ty, pos, after, guard⟩ s = some true) (hm : hotM dr ⟨some d, .call ⟨.value g, l.toArray, ts⟩, ty, pos, after, guard⟩ = true)
    (hg : s.look g = some (vC (.func (.func f) #[] #[]))) (ha : l.map s.look = args.map some) (hp : ACall P f args post) (hj : R j = none) (hac : args.all AV.closedB = true) (hd : Nat.blt d s.n = true)
    (h : ∀ v q, post v q → v = vC q.v ∧ hList P ops dr K rest R (s.put (some d) (vS q.sz q.n q.ys))) : hList P ops dr K (⟨some d, .call ⟨.value g, l.toArray, ts⟩, ty, pos, after, guard⟩ :: rest) R s := by
  refine ⟨true, hw, dst_ok hd, .inr (.inr (.inr (.inr (.inr ⟨rfl, hm, f, args, noMem, noRows, _, ⟨⟨_, g, rfl, rfl, .inl ⟨[], hg, by simpa using ha, rfl⟩⟩, E.h⟩, hp j, fun x hx j hj => absurd hj (AV.closed_of (List.all_eq_true.1 hac x hx) j), fun k' cs' h' => (by cases h'), fun i' r' h' => (by cases h'), fun k' cs' x j h' => (by cases h'), ?_⟩))))⟩
  rintro v m' R' ⟨q, rfl, rfl, hqz, hq⟩ _ _ _
  refine ⟨fun k' c h' => (by cases h'), ?_⟩
  obtain ⟨rfl, h'⟩ := h v q hq
  rw [show ovr (row1 j q) R = upd R j q from ovr_upd R j _, over_noMem]
  refine ⟨j, d, q, rfl, upd_same _ _ _, hqz, upd_same _ _ _, by simpa [Nat.blt_eq, AS.put] using hd, ?_⟩
  have e1 : (fun x => if x = j then none else upd R j q x) = R := by
    funext x
    by_cases e : x = j
    · rw [if_pos e, e, hj]
    · rw [if_neg e, upd_ne _ _ e]
  rw [e1, put_put]
  exact h'
end
end Go.Proofs.Ytaennpehlhgggaa

namespace Go.Proofs.Ytaennpehlhgggaa
open Go.RowKit
set_option linter.unusedVariables false
set_option linter.unusedSimpArgs false
theorem enC_nil : enC [] = [] := rfl
theorem enC_tail (p : Ent) (l : List Ent) : ((enC (p :: l)).drop ((1 : Int).toNat * 3)).take (l.length * 3) = enC l := by
  show ((enC (p :: l)).drop 3).take (l.length * 3) = enC l
  rw [← enC_len]
  simp [enC]
theorem enC_takeT (l : List Ent) (k : Nat) : ((enC l).drop (0 * 3)).take ((l.take k).length * 3) = enC (l.take k) := by
  have e : enC l = enC (l.take k) ++ enC (l.drop k) := by rw [← enC_append, List.take_append_drop]
  rw [e, Nat.zero_mul, List.drop_zero, ← enC_len]
  simp
theorem enC_dropT (l : List Ent) (k : Nat) (hk : k ≤ l.length) : ((enC l).drop (k * 3)).take ((l.drop k).length * 3) = enC (l.drop k) := by
  have e : enC l = enC (l.take k) ++ enC (l.drop k) := by rw [← enC_append, List.take_append_drop]
  have e2 : k * 3 = (enC (l.take k)).length := by rw [enC_len, List.length_take, Nat.min_eq_left hk]
  rw [e, e2, List.drop_left, ← enC_len, List.take_length]
abbrev vE (x y v : Int) : AV := .w (.agg [.c (.int .i64 x), .c (.int .i64 y), .c (.int .i64 v)])
set_option maxRecDepth 100000 in
set_option maxHeartbeats 4000000 in
theorem p_came {x y v a b w : Int} : PCall Try.prog 36 [vE x y v, vE a b w] (vB (ltV (x, y, v) (a, b, w))) := by
  refine pcall_body (f := 36) Try.func36 rfl rfl rfl rfl ?_
  (repeat (first | ((with_reducible apply al_q); exact rfl) | ((with_reducible apply awp_seq)) | ((with_reducible apply athen_normal)) | ((with_reducible apply awp_region)) | ((with_reducible apply al_nil)) | ((with_reducible apply awp_ret))))
  (first | (refine apost_ret rfl (resl_tmp rfl resl_nil) ?_))
  exact AV.Le.refl _
/-- what tells which came earlier. -/
abbrev vCame : AV := vC (.func (.func 36) #[] #[])
def MgE (M : List Ent) (lv : AV) (K : Nat) (m : Nat) (R : Rws) (ts : List (Nat × AV)) (ms : List (Nat × List AC)) : Prop :=
  ∃ (a b out : List Ent) (v : Value), m = a.length + b.length ∧ out ++ mrgE a b = M ∧ out.length + m = K ∧ R = row1 0 (nxRow v out) ∧ ts = [(0, vEn a), (1, vEn b), (2, lv), (7, vC v)] ∧ ms = []
set_option maxRecDepth 100000 in
set_option maxHeartbeats 8000000 in
theorem p_mergeE {a b : List Ent} (ha : a.length ≤ 100000) (hb : b.length ≤ 100000) :
    PCall Try.prog 51 [vEn a, vEn b, vCame] (vEn (mrgE a b)) := by
  refine pcall_body (f := 51) Try.func51 rfl rfl rfl rfl ?_
  refine awp_rows ?_
  (repeat (first | ((with_reducible apply rwp_seq)) | ((with_reducible apply rthen_normal)) | ((with_reducible apply rwp_region)) | ((with_reducible apply hs_nil)) | ((with_reducible apply hs_c); exact rfl; (repeat (first | ((with_reducible apply al_q); exact rfl) | ((with_reducible apply al_add); (iterate 3 exact rfl); (first | exact i64_wrap (by omega) | assumption | rfl); exact rfl) | ((with_reducible apply al_len); (iterate 3 exact rfl)))); (with_reducible apply al_nil))))
  refine hs_make (l := 0) (c' := a.length + b.length) 0 rfl rfl rfl rfl (Nat.zero_le _) rfl rfl ?h2 (le_maxLen (by omega)) rfl (fun v hv => ?_)
  case h2 => omega
  (repeat (first | ((with_reducible apply rwp_seq)) | ((with_reducible apply rthen_normal)) | ((with_reducible apply hs_nil)) | ((with_reducible apply rwp_block)) | ((with_reducible apply hs_c); exact rfl; (repeat (first | ((with_reducible apply al_q); exact rfl))); (with_reducible apply al_nil))))
  refine rwp_loopL 52 (MgE (mrgE a b) (vCame) (a.length + b.length)) (a.length + b.length) (row1 0 (nxRow v [])) _ _ ⟨a, b, [], v, rfl, rfl, Nat.zero_add _, rfl, rfl, rfl⟩ (row1_le _ _ _) rfl ⟨rfl, rfl, rfl, rfl, trivial⟩ trivial rfl ?_
  rintro m R ts ms ⟨a', b', out, v, rfl, hM, hK, rfl, rfl, rfl⟩ hok
  clear hok hv
  by_cases qa : 0 < a'.length
  · by_cases qb : 0 < b'.length
    · have qa' : (a'.length : Int) > 0 := by omega
      have qb' : (b'.length : Int) > 0 := by omega
      obtain ⟨⟨x, n, s⟩, a2, rfl⟩ := List.exists_cons_of_length_pos qa
      obtain ⟨⟨y, m, t⟩, b2, rfl⟩ := List.exists_cons_of_length_pos qb
      have E1 : ((enC ((x, n, s) :: a2)).drop ((0 : Int).toNat * 3)).take 3 = [.c (.int .i64 x), .c (.int .i64 n), .c (.int .i64 s)] := enC_xyv (j := 0) (i := 0) rfl rfl
      have E2 : ((enC ((y, m, t) :: b2)).drop ((0 : Int).toNat * 3)).take 3 = [.c (.int .i64 y), .c (.int .i64 m), .c (.int .i64 t)] := enC_xyv (j := 0) (i := 0) rfl rfl
      have C1 := p_came (x := y) (y := m) (v := t) (a := x) (b := n) (w := s)
      cases hlt : ltV (y, m, t) (x, n, s) with
      | true =>
        rw [hlt] at C1
        have e1 : ((y, m, t) :: b2).length - (1 : Int).toNat = b2.length := rfl
        have e2 := enC_tail (y, m, t) b2
        have hM' : (out ++ [(y, m, t)]) ++ mrgE ((x, n, s) :: a2) b2 = mrgE a b := by
          rw [← hM, mrgE, if_pos hlt, List.append_assoc]; rfl
        have hl1 : (out ++ [(y, m, t)]).length = out.length + 1 := List.length_append
        have hl2 : ((y, m, t) :: b2).length = b2.length + 1 := rfl
        have hl3 : ((x, n, s) :: a2).length = a2.length + 1 := rfl
        (repeat (first | ((with_reducible apply hs_nilS); kernel_rfl) | ((with_reducible apply rwp_draw (id := 3) [0,1,2,3,4,5,6,7]); kernel_rfl; kernel_rfl; exact rfl) | ((with_reducible apply rwp_draw (id := 4) [0,1,2,3,6,7,4,5,8,9]); kernel_rfl; kernel_rfl; exact rfl) | ((with_reducible apply rwp_seq)) | ((with_reducible apply rthen_normal)) | ((with_reducible apply rwp_region)) | ((with_reducible apply hs_nil)) | ((with_reducible apply rwp_skip)) | ((with_reducible apply rwp_block)) | ((with_reducible apply rwp_cond_1); exact rfl; (first | assumption | exact decide_eq_true (by omega) | (simp only [Bool.not_eq_true', decide_eq_false_iff_not, decide_eq_true_eq, Bool.not_eq_false']; (first | done | omega)) | exact rfl)) | ((with_reducible apply hs_c); exact rfl; (repeat (first | ((with_reducible apply al_q); exact rfl) | ((with_reducible apply al_loadPN); (iterate 5 exact rfl)) | ((with_reducible apply al_idxS); (iterate 3 exact rfl); (first | decide | omega); (first | decide | omega); (first | assumption | rfl); exact rfl) | ((with_reducible apply al_len); (iterate 3 exact rfl)) | ((with_reducible apply al_sl_l); (iterate 3 exact rfl); (first | assumption | omega); (first | assumption | omega); (first | assumption | rfl); (first | assumption | rfl); exact rfl) | ((with_reducible apply al_bslice); (iterate 10 exact rfl)) | (refine al_call2 rfl rfl rfl rfl (by (first | exact C1)) rfl ?_) | ((with_reducible apply al_guard_b (c := true)); exact rfl; exact rfl; (first | assumption | exact decide_eq_true (by omega) | (simp only [Bool.not_eq_true', decide_eq_false_iff_not, decide_eq_true_eq, Bool.not_eq_false']; (first | done | omega)))))); (with_reducible apply al_nil))))
        refine hs_app0 0 rfl rfl rfl rfl ?q1 ?q2 rfl rfl (fun v' hv' => ?_)
        case q1 => exact le_maxLen (by show out.length + 1 ≤ 1000000; omega)
        case q2 => show (out.length + 1) * 24 ≤ 140737488355328; omega
        (repeat (first | ((with_reducible apply hs_nilS); kernel_rfl) | ((with_reducible apply rthen_normal)) | ((with_reducible apply rblock_normal)) | ((with_reducible apply hs_c); exact rfl; (repeat (first | ((with_reducible apply al_q); exact rfl))); (with_reducible apply al_nil))))
        have e3 : nxRow v' (out ++ [(y, m, t)]) = ⟨69, 3, v', out.length + 1, enC out ++ [.c (.int .i64 y), .c (.int .i64 m), .c (.int .i64 t)]⟩ := by
          unfold nxRow; rw [← enC_one, List.length_append]; rfl
        refine ⟨_, row1 0 (nxRow v' (out ++ [(y, m, t)])), _, _, ?_, ⟨(x, n, s) :: a2, b2, out ++ [(y, m, t)], v', rfl, hM', ?_, rfl, rfl, rfl⟩, by rw [e3]; exact row1_le _ _ _, rfl, ⟨rfl, rfl, rfl, rfl, trivial⟩, trivial, rfl⟩
        · omega
        · omega
      | false =>
        rw [hlt] at C1
        have e1 : ((x, n, s) :: a2).length - (1 : Int).toNat = a2.length := rfl
        have e2 := enC_tail (x, n, s) a2
        have hM' : (out ++ [(x, n, s)]) ++ mrgE a2 ((y, m, t) :: b2) = mrgE a b := by
          rw [← hM, mrgE, if_neg (by rw [hlt]; decide), List.append_assoc]; rfl
        have hl1 : (out ++ [(x, n, s)]).length = out.length + 1 := List.length_append
        have hl2 : ((y, m, t) :: b2).length = b2.length + 1 := rfl
        have hl3 : ((x, n, s) :: a2).length = a2.length + 1 := rfl
        (repeat (first | ((with_reducible apply hs_nilS); kernel_rfl) | ((with_reducible apply rwp_draw (id := 3) [0,1,2,3,4,5,6,7]); kernel_rfl; kernel_rfl; exact rfl) | ((with_reducible apply rwp_draw (id := 5) [0,1,2,3,6,7,4,5,8,9]); kernel_rfl; kernel_rfl; exact rfl) | ((with_reducible apply rwp_seq)) | ((with_reducible apply rthen_normal)) | ((with_reducible apply rwp_region)) | ((with_reducible apply hs_nil)) | ((with_reducible apply rwp_skip)) | ((with_reducible apply rwp_block)) | ((with_reducible apply rwp_cond_1); exact rfl; (first | assumption | exact decide_eq_true (by omega) | (simp only [Bool.not_eq_true', decide_eq_false_iff_not, decide_eq_true_eq, Bool.not_eq_false']; (first | done | omega)) | exact rfl)) | ((with_reducible apply rwp_cond_0); exact rfl; (first | assumption | exact decide_eq_false (by omega) | (simp only [Bool.not_eq_true', decide_eq_false_iff_not, decide_eq_true_eq, Bool.not_eq_false']; (first | done | omega)) | exact rfl)) | ((with_reducible apply hs_c); exact rfl; (repeat (first | ((with_reducible apply al_q); exact rfl) | ((with_reducible apply al_loadPN); (iterate 5 exact rfl)) | ((with_reducible apply al_idxS); (iterate 3 exact rfl); (first | decide | omega); (first | decide | omega); (first | assumption | rfl); exact rfl) | ((with_reducible apply al_len); (iterate 3 exact rfl)) | ((with_reducible apply al_sl_l); (iterate 3 exact rfl); (first | assumption | omega); (first | assumption | omega); (first | assumption | rfl); (first | assumption | rfl); exact rfl) | ((with_reducible apply al_bslice); (iterate 10 exact rfl)) | (refine al_call2 rfl rfl rfl rfl (by (first | exact C1)) rfl ?_) | ((with_reducible apply al_guard_b (c := true)); exact rfl; exact rfl; (first | assumption | exact decide_eq_true (by omega) | (simp only [Bool.not_eq_true', decide_eq_false_iff_not, decide_eq_true_eq, Bool.not_eq_false']; (first | done | omega)))))); (with_reducible apply al_nil))))
        refine hs_app0 0 rfl rfl rfl rfl ?q1 ?q2 rfl rfl (fun v' hv' => ?_)
        case q1 => exact le_maxLen (by show out.length + 1 ≤ 1000000; omega)
        case q2 => show (out.length + 1) * 24 ≤ 140737488355328; omega
        (repeat (first | ((with_reducible apply hs_nilS); kernel_rfl) | ((with_reducible apply rthen_normal)) | ((with_reducible apply rblock_normal)) | ((with_reducible apply hs_c); exact rfl; (repeat (first | ((with_reducible apply al_q); exact rfl))); (with_reducible apply al_nil))))
        have e3 : nxRow v' (out ++ [(x, n, s)]) = ⟨69, 3, v', out.length + 1, enC out ++ [.c (.int .i64 x), .c (.int .i64 n), .c (.int .i64 s)]⟩ := by
          unfold nxRow; rw [← enC_one, List.length_append]; rfl
        refine ⟨_, row1 0 (nxRow v' (out ++ [(x, n, s)])), _, _, ?_, ⟨a2, (y, m, t) :: b2, out ++ [(x, n, s)], v', rfl, hM', ?_, rfl, rfl, rfl⟩, by rw [e3]; exact row1_le _ _ _, rfl, ⟨rfl, rfl, rfl, rfl, trivial⟩, trivial, rfl⟩
        · omega
        · omega
    · have qa' : (a'.length : Int) > 0 := by omega
      have qb' : ¬ (b'.length : Int) > 0 := by omega
      have hb0 : b' = [] := List.length_eq_zero_iff.1 (by omega)
      have hz : (a'.length : Int) = a'.length := rfl
      (repeat (first | ((with_reducible apply rwp_seq)) | ((with_reducible apply rthen_normal)) | ((with_reducible apply rwp_region)) | ((with_reducible apply hs_nil)) | ((with_reducible apply rblock_same)) | ((with_reducible apply rwp_exit)) | ((with_reducible apply rthen_exit)) | ((with_reducible apply rwp_cond_0); exact rfl; (first | assumption | exact decide_eq_false (by omega) | (simp only [Bool.not_eq_true', decide_eq_false_iff_not, decide_eq_true_eq, Bool.not_eq_false']; (first | done | omega)) | exact rfl)) | ((with_reducible apply hs_c); exact rfl; (repeat (first | ((with_reducible apply al_q); exact rfl) | ((with_reducible apply al_len); (iterate 3 exact rfl)) | ((with_reducible apply al_guard_b (c := true)); exact rfl; exact rfl; (first | assumption | exact decide_eq_true (by omega) | (simp only [Bool.not_eq_true', decide_eq_false_iff_not, decide_eq_true_eq, Bool.not_eq_false']; (first | done | omega)))))); (with_reducible apply al_nil))))
      refine hs_app0 0 rfl rfl rfl rfl ?q1 ?q2 (enC_closed _) rfl (fun v' hv' => ?_)
      case q1 => exact le_maxLen (by show out.length + a'.length ≤ 1000000; omega)
      case q2 => show (out.length + a'.length) * 24 ≤ 140737488355328; omega
      (repeat (first | ((with_reducible apply rwp_seq)) | ((with_reducible apply rthen_normal)) | ((with_reducible apply rwp_region)) | ((with_reducible apply hs_nil)) | ((with_reducible apply hs_c); exact rfl; (repeat (first | ((with_reducible apply al_q); exact rfl))); (with_reducible apply al_nil))))
      refine hs_appC (k := (mrgE a b).length) (zs := enC (mrgE a b)) 0 rfl rfl rfl rfl ?p1 ?p2 ?p3 ?p4 (enC_closed _) rfl ?_
      case p1 => exact le_maxLen (by show (out.length + a'.length) + b'.length ≤ 1000000; omega)
      case p2 => show ((out.length + a'.length) + b'.length) * 24 ≤ 140737488355328; omega
      case p3 => show (out.length + a'.length) + b'.length = (mrgE a b).length; rw [mrgE_len]; omega
      case p4 => show (enC out ++ enC a') ++ enC b' = enC (mrgE a b); rw [← hM, hb0, mrgE_nil, ← enC_append, enC_nil, List.append_nil]
      (repeat (first | ((with_reducible apply rthen_normal)) | ((with_reducible apply hs_nil)) | ((with_reducible apply rwp_ret)) | ((with_reducible apply hs_c); exact rfl; (repeat (first | ((with_reducible apply al_q); exact rfl))); (with_reducible apply al_nil))))
      (first | (refine apost_ret rfl (resl_tmp rfl resl_nil) ?_))
      exact AV.Le.refl _
  · have qa' : ¬ (a'.length : Int) > 0 := by omega
    have ha0 : a' = [] := List.length_eq_zero_iff.1 (by omega)
    (repeat (first | ((with_reducible apply rwp_seq)) | ((with_reducible apply rthen_normal)) | ((with_reducible apply rwp_region)) | ((with_reducible apply hs_nil)) | ((with_reducible apply rblock_same)) | ((with_reducible apply rwp_exit)) | ((with_reducible apply rthen_exit)) | ((with_reducible apply rwp_cond_0); exact rfl; (first | assumption | exact decide_eq_false (by omega) | (simp only [Bool.not_eq_true', decide_eq_false_iff_not, decide_eq_true_eq, Bool.not_eq_false']; (first | done | omega)) | exact rfl)) | ((with_reducible apply hs_c); exact rfl; (repeat (first | ((with_reducible apply al_q); exact rfl) | ((with_reducible apply al_len); (iterate 3 exact rfl)) | ((with_reducible apply al_guard_b (c := false)); exact rfl; exact rfl; (first | assumption | exact decide_eq_false (by omega) | (simp only [Bool.not_eq_true', decide_eq_false_iff_not, decide_eq_true_eq, Bool.not_eq_false']; (first | done | omega)))))); (with_reducible apply al_nil))))
    refine hs_app0 0 rfl rfl rfl rfl ?q1 ?q2 (enC_closed _) rfl (fun v' hv' => ?_)
    case q1 => exact le_maxLen (by show out.length + a'.length ≤ 1000000; omega)
    case q2 => show (out.length + a'.length) * 24 ≤ 140737488355328; omega
    (repeat (first | ((with_reducible apply rwp_seq)) | ((with_reducible apply rthen_normal)) | ((with_reducible apply rwp_region)) | ((with_reducible apply hs_nil)) | ((with_reducible apply hs_c); exact rfl; (repeat (first | ((with_reducible apply al_q); exact rfl))); (with_reducible apply al_nil))))
    refine hs_appC (k := (mrgE a b).length) (zs := enC (mrgE a b)) 0 rfl rfl rfl rfl ?p1 ?p2 ?p3 ?p4 (enC_closed _) rfl ?_
    case p1 => exact le_maxLen (by show (out.length + a'.length) + b'.length ≤ 1000000; omega)
    case p2 => show ((out.length + a'.length) + b'.length) * 24 ≤ 140737488355328; omega
    case p3 => show (out.length + a'.length) + b'.length = (mrgE a b).length; rw [mrgE_len]; omega
    case p4 => show (enC out ++ enC a') ++ enC b' = enC (mrgE a b); rw [← hM, ha0, mrgE_nil', enC_nil, List.append_nil, ← enC_append]
    (repeat (first | ((with_reducible apply rthen_normal)) | ((with_reducible apply hs_nil)) | ((with_reducible apply rwp_ret)) | ((with_reducible apply hs_c); exact rfl; (repeat (first | ((with_reducible apply al_q); exact rfl))); (with_reducible apply al_nil))))
    (first | (refine apost_ret rfl (resl_tmp rfl resl_nil) ?_))
    exact AV.Le.refl _
set_option maxRecDepth 100000 in
set_option maxHeartbeats 8000000 in
theorem p_SortE :
    ∀ (N : Nat) (l : List Ent), l.length ≤ N → N ≤ 100000 → PCall Try.prog 34 [vEn l, vCame] (vEn (srtE l)) := by
  intro N
  induction N with
  | zero =>
    intro l h1 h2
    have C0 := p_mergeE (a := l) (b := []) (by omega) (by simp)
    rw [mrgE_nil] at C0
    have C1 : PCall Try.prog 51 [vEn l, vNil, vCame] (vEn l) := pcall_le C0 rfl rfl (by
      intro i x y hx hy
      match i with
      | 0 => cases hx; cases hy; exact .refl _
      | 1 => cases hx; cases hy; exact nil_le 3
      | 2 => cases hx; cases hy; exact .refl _
      | i + 3 => simp at hx)
    have q1 : (l.length : Int) < 2 := by omega
    have e : srtE l = l := by rw [srtE, dif_pos (by omega)]
    rw [e]
    clear C0
    refine pcall_body (f := 34) Try.func34 rfl rfl rfl rfl ?_
    (repeat (first | ((with_reducible apply al_q); exact rfl) | ((with_reducible apply al_len); (iterate 3 exact rfl)) | (refine al_call3 rfl rfl rfl rfl rfl (by (first | exact C1)) rfl ?_) | ((with_reducible apply awp_seq)) | ((with_reducible apply athen_normal)) | ((with_reducible apply awp_region)) | ((with_reducible apply al_nil)) | ((with_reducible apply awp_ret)) | ((with_reducible apply athen_ret)) | ((with_reducible apply awp_cond_1); exact rfl; (first | assumption | exact decide_eq_true (by omega) | (simp only [Bool.not_eq_true', decide_eq_false_iff_not, decide_eq_true_eq, Bool.not_eq_false']; (first | done | omega))))))
    (first | (refine apost_ret rfl (resl_tmp rfl resl_nil) ?_))
    exact AV.Le.refl _
  | succ N ih =>
    intro l h1 h2
    by_cases q : l.length < 2
    · have C0 := p_mergeE (a := l) (b := []) (by omega) (by simp)
      rw [mrgE_nil] at C0
      have C1 : PCall Try.prog 51 [vEn l, vNil, vCame] (vEn l) := pcall_le C0 rfl rfl (by
        intro i x y hx hy
        match i with
        | 0 => cases hx; cases hy; exact .refl _
        | 1 => cases hx; cases hy; exact nil_le 3
        | 2 => cases hx; cases hy; exact .refl _
        | i + 3 => simp at hx)
      have q1 : (l.length : Int) < 2 := by omega
      have e : srtE l = l := by rw [srtE, dif_pos (by omega)]
      rw [e]
      clear C0 ih
      refine pcall_body (f := 34) Try.func34 rfl rfl rfl rfl ?_
      (repeat (first | ((with_reducible apply al_q); exact rfl) | ((with_reducible apply al_len); (iterate 3 exact rfl)) | (refine al_call3 rfl rfl rfl rfl rfl (by (first | exact C1)) rfl ?_) | ((with_reducible apply awp_seq)) | ((with_reducible apply athen_normal)) | ((with_reducible apply awp_region)) | ((with_reducible apply al_nil)) | ((with_reducible apply awp_ret)) | ((with_reducible apply athen_ret)) | ((with_reducible apply awp_cond_1); exact rfl; (first | assumption | exact decide_eq_true (by omega) | (simp only [Bool.not_eq_true', decide_eq_false_iff_not, decide_eq_true_eq, Bool.not_eq_false']; (first | done | omega))))))
      (first | (refine apost_ret rfl (resl_tmp rfl resl_nil) ?_))
      exact AV.Le.refl _
    · have q1 : ¬ (l.length : Int) < 2 := by omega
      have e : srtE l = mrgE (srtE (l.take (l.length / 2))) (srtE (l.drop (l.length / 2))) := by rw [srtE, dif_neg q]
      have C1 := ih (l.take (l.length / 2)) (by simp; omega) (by omega)
      have C2 := ih (l.drop (l.length / 2)) (by simp; omega) (by omega)
      have l1 := srtE_len (l.take (l.length / 2))
      have l2 := srtE_len (l.drop (l.length / 2))
      have C3 := p_mergeE (a := srtE (l.take (l.length / 2))) (b := srtE (l.drop (l.length / 2))) (by rw [l1]; simp; omega) (by rw [l2]; simp; omega)
      have hh : ((l.length : Int) / 2).toNat = l.length / 2 := by omega
      have e1 : ((l.length : Int) / 2).toNat - 0 = (l.take (l.length / 2)).length := by rw [hh]; simp; omega
      have e2 := enC_takeT l (l.length / 2)
      have e3 : ((l.length : Int)).toNat - ((l.length : Int) / 2).toNat = (l.drop (l.length / 2)).length := by rw [hh]; simp
      have e4 := enC_dropT l (l.length / 2) (by omega)
      have e5 : ((enC l).drop (((l.length : Int) / 2).toNat * 3)).take ((l.drop (l.length / 2)).length * 3) = enC (l.drop (l.length / 2)) := by rw [hh]; exact e4
      rw [e]
      clear ih l1 l2 e e4 hh
      refine pcall_body (f := 34) Try.func34 rfl rfl rfl rfl ?_
      (repeat (first | ((with_reducible apply al_q); exact rfl) | ((with_reducible apply al_len); (iterate 3 exact rfl)) | ((with_reducible apply al_sl_hm); (iterate 4 exact rfl); (first | assumption | omega); (first | assumption | omega); (first | assumption | omega); (first | assumption | rfl); (first | assumption | rfl); exact rfl) | ((with_reducible apply al_sl_lhm); (iterate 5 exact rfl); (first | assumption | omega); (first | assumption | omega); (first | assumption | omega); (first | assumption | omega); (first | assumption | rfl); (first | assumption | rfl); exact rfl) | ((with_reducible apply al_quo); (iterate 3 exact rfl); omega; omega; omega; exact rfl) | (refine al_call2 rfl rfl rfl rfl (by (first | exact C1 | exact C2 | exact C3)) rfl ?_) | (refine al_call3 rfl rfl rfl rfl rfl (by (first | exact C1 | exact C2 | exact C3)) rfl ?_) | ((with_reducible apply al_nilS); kernel_rfl) | ((with_reducible apply awp_region_draw); kernel_rfl; kernel_rfl; exact rfl) | ((with_reducible apply awp_seq)) | ((with_reducible apply athen_normal)) | ((with_reducible apply awp_region)) | ((with_reducible apply al_nil)) | ((with_reducible apply awp_ret)) | ((with_reducible apply awp_skip)) | ((with_reducible apply awp_cond_0); exact rfl; (first | assumption | exact decide_eq_false (by omega) | (simp only [Bool.not_eq_true', decide_eq_false_iff_not, decide_eq_true_eq, Bool.not_eq_false']; (first | done | omega))))))
      (first | (refine apost_ret rfl (resl_tmp rfl resl_nil) ?_))
      exact AV.Le.refl _
end Go.Proofs.Ytaennpehlhgggaa

namespace Go.Proofs.Ytaennpehlhgggaa
open Go.RowKit
set_option linter.unusedVariables false
set_option linter.unusedSimpArgs false
/-- what is known of the methods that read. -/
def CGet (n : Nat) : Prop := ∀ l v (x y : Int), v.oneCell' = true → Rises l → l.length ≤ n → OCall Try.prog 32 [vP x y] [.c v] (nxRow v l) fun r cs' r' => r = .tup [.one (.c (.int .i64 (valE l x y))), .one (.c (.bool (hasE l x y)))] ∧ cs' = [.c v] ∧ r' = nxRow v l
def CLen (n : Nat) : Prop := ∀ l v, v.oneCell' = true → Rises l → l.length ≤ n → OCall Try.prog 17 [] [.c v] (nxRow v l) fun r cs' r' => r = vI l.length ∧ cs' = [.c v] ∧ r' = nxRow v l
def CAll (n : Nat) : Prop := ∀ l v, v.oneCell' = true → Rises l → l.length ≤ n → OCall2 Try.prog 35 [] [.c v] (nxRow v l) fun r cs' r' q => cs' = [.c v] ∧ r' = nxRow v l ∧ r = vC q.v ∧ q = nxRow q.v l
def CIn (n : Nat) : Prop := ∀ l v (a b c d : Int), v.oneCell' = true → Rises l → l.length ≤ n → OCall2 Try.prog 38 [vP a b, vP c d] [.c v] (nxRow v l) fun r cs' r' q => cs' = [.c v] ∧ r' = nxRow v l ∧ r = vC q.v ∧ q = nxRow q.v (inL l a b c d)
def CCopy (n : Nat) : Prop := ∀ l v, v.oneCell' = true → Rises l → l.length ≤ n → OCall2 Try.prog 45 [] [.c v] (nxRow v l) fun r cs' r' q => cs' = [.c v] ∧ r' = nxRow v l ∧ r = .w (.agg [.c q.v]) ∧ q = nxRow q.v l ∧ q.v.oneCell' = true
end Go.Proofs.Ytaennpehlhgggaa

namespace Go.Proofs.Ytaennpehlhgggaa
open Go.RowKit
set_option linter.unusedVariables false
set_option linter.unusedSimpArgs false
def R9I (SI : SIT) (r : Int) (l : List Px) (n : Nat) (R : Rws) (ts : List (Nat × AV)) (ms : List (Nat × List AC)) : Prop :=
  ∃ (k b : Nat) (S : SP) (ki : Int) (L : List Px), k ≤ l.length ∧ n = l.length - k ∧ ki = k ∧ L.length ≤ k ∧ (L.length : Int) ≤ r ∧ SI r L (ptrV b) S ∧ R = row1 0 (ob (ptrV b) S) ∧ ms = [] ∧ ts = [(5, vC (ptrV b)), (6, vI r), (26, vIt l), (27, vI l.length), (28, vI ki)]
end Go.Proofs.Ytaennpehlhgggaa

namespace Go.Proofs.Ytaennpehlhgggaa
open Go.RowKit
set_option linter.unusedVariables false
set_option linter.unusedSimpArgs false
set_option maxRecDepth 100000 in
set_option maxHeartbeats 16000000 in
theorem p_alive9 {SI : SIT} (cn : CNew9 SI) (ca : CAdd9 SI) (cu : CNum9 SI) (cA : CAll9 SI) (cc : CCopy9 SI) (cl : CLen9 SI) (cr : CRoom9 SI) (cm : CMet9 SI) (ce : CNear9 SI) : PCall Try.prog 9 [] (vB true) := by
  have C0 := cn 3
  rw [show room9 3 = 3 by decide] at C0
  have C1 := fun b S hS => ca 3 [] b S 0 0 hS (by decide)
  rw [show addL 3 [] 0 0 = [(0, 0)] by decide, show addB 3 [] 0 0 = true by decide, show addE 3 [] 0 0 = 0 by decide] at C1
  have C2 := fun b S hS => ca 3 [(0, 0)] b S 2 0 hS (by decide)
  rw [show addL 3 [(0, 0)] 2 0 = [(0, 0), (2, 0)] by decide] at C2
  have C3 := fun b S hS => ca 3 [(0, 0), (2, 0)] b S 2 0 hS (by decide)
  rw [show addL 3 [(0, 0), (2, 0)] 2 0 = [(0, 0), (2, 0)] by decide, show addB 3 [(0, 0), (2, 0)] 2 0 = false by decide, show addE 3 [(0, 0), (2, 0)] 2 0 = 0 by decide] at C3
  have C4 := fun b S hS => ca 3 [(0, 0), (2, 0)] b S 5 5 hS (by decide)
  rw [show addL 3 [(0, 0), (2, 0)] 5 5 = [(0, 0), (2, 0), (5, 5)] by decide] at C4
  have C5 := fun b S hS => ca 3 [(0, 0), (2, 0), (5, 5)] b S 9 0 hS (by decide)
  rw [show addL 3 [(0, 0), (2, 0), (5, 5)] 9 0 = [(0, 0), (2, 0), (5, 5)] by decide, show addB 3 [(0, 0), (2, 0), (5, 5)] 9 0 = false by decide, show addE 3 [(0, 0), (2, 0), (5, 5)] 9 0 = 90 by decide] at C5
  have hin : ∀ p ∈ ([(0, 0), (2, 0), (5, 5)] : List Px), InI p := by unfold InI; decide
  have C6 := fun b S hS => cm 3 [(0, 0), (2, 0), (5, 5)] b S 4 0 0 0 0 hS (by decide) (by decide) hin (by unfold InI; decide) (by decide) (by decide)
  rw [show sortI (decide ((0 : Int) < 4)) (decide ((0 : Int) < 0)) (metF 4 0 0 0 0) [(0, 0), (2, 0), (5, 5)] = [(2, 0), (0, 0)] by decide] at C6
  have C7 := fun b S hS => ce 3 [(0, 0), (2, 0), (5, 5)] b S 0 0 9 9 0 0 hS (by decide) (by decide) hin (by unfold IsR; decide) (by decide) (by decide)
  rw [show sortI (decide ((9 : Int) < 0)) (decide ((9 : Int) < 0)) (nearF 0 0 9 9 0) [(0, 0), (2, 0), (5, 5)] = [(0, 0), (2, 0), (5, 5)] by decide] at C7
  have C8 := fun b S hS => cu 3 [(0, 0), (2, 0), (5, 5)] b S 5 5 hS (by decide)
  rw [show numI [(0, 0), (2, 0), (5, 5)] 5 5 = 2 by decide] at C8
  have C9 := fun b S hS => cc 3 [(0, 0), (2, 0), (5, 5)] b S hS (by decide)
  have CL := fun b S hS => cl 3 [(0, 0), (2, 0), (5, 5)] b S hS (by decide)
  have CR := fun b S hS => cr 3 [(0, 0), (2, 0), (5, 5)] b S hS (by decide)
  have CA := fun b S hS => cA 3 [(0, 0), (2, 0), (5, 5)] b S hS (by decide)
  clear cn ca cu cA cc cl cr cm ce hin
  refine pcall_body (f := 9) Try.func9 rfl rfl rfl rfl ?_
  refine awp_rows ?_
  (repeat (first | ((with_reducible apply rwp_seq)) | ((with_reducible apply rthen_normal)) | ((with_reducible apply rwp_region)) | ((with_reducible apply hs_nil)) | ((with_reducible apply hs_c); exact rfl; (repeat (first | ((with_reducible apply al_q); exact rfl))); (with_reducible apply al_nil))))
  refine hs_tn 0 rfl rfl rfl rfl C0 rfl rfl (fun p S hpost => ?_)
  obtain ⟨b, rfl, hS⟩ := hpost
  (repeat (first | ((with_reducible apply rwp_seq)) | ((with_reducible apply rthen_normal)) | ((with_reducible apply rwp_region)) | ((with_reducible apply hs_nil)) | ((with_reducible apply rwp_skip)) | ((with_reducible apply rwp_cond_0); exact rfl; (first | assumption | exact decide_eq_false (by omega) | (simp only [Bool.not_eq_true', decide_eq_false_iff_not, decide_eq_true_eq, Bool.not_eq_false']; (first | done | omega)) | exact rfl)) | ((with_reducible apply hs_c); exact rfl; (repeat (first | ((with_reducible apply al_q); exact rfl) | ((with_reducible apply al_eqptr); exact rfl; exact rfl; kernel_rfl; exact rfl))); (with_reducible apply al_nil))))
  refine hs_t1 0 rfl rfl rfl rfl (C1 b S hS) rfl rfl rfl (fun v S1 hpost => ?_)
  obtain ⟨rfl, hS1⟩ := hpost
  (repeat (first | ((with_reducible apply rwp_seq)) | ((with_reducible apply rthen_normal)) | ((with_reducible apply rwp_region)) | ((with_reducible apply hs_nil)) | ((with_reducible apply hs_c); exact rfl; (repeat (first | ((with_reducible apply al_q); exact rfl))); (with_reducible apply al_nil))))
  refine hs_t1 0 rfl rfl rfl rfl (C2 b S1 hS1) rfl rfl rfl (fun v S2 hpost => ?_)
  obtain ⟨rfl, hS2⟩ := hpost
  (repeat (first | ((with_reducible apply rwp_seq)) | ((with_reducible apply rthen_normal)) | ((with_reducible apply rwp_region)) | ((with_reducible apply hs_nil)) | ((with_reducible apply hs_c); exact rfl; (repeat (first | ((with_reducible apply al_q); exact rfl))); (with_reducible apply al_nil))))
  refine hs_t1 0 rfl rfl rfl rfl (C3 b S2 hS2) rfl rfl rfl (fun v S3 hpost => ?_)
  obtain ⟨rfl, hS3⟩ := hpost
  (repeat (first | ((with_reducible apply rwp_seq)) | ((with_reducible apply rthen_normal)) | ((with_reducible apply rwp_region)) | ((with_reducible apply hs_nil)) | ((with_reducible apply hs_c); exact rfl; (repeat (first | ((with_reducible apply al_q); exact rfl))); (with_reducible apply al_nil))))
  refine hs_t1 0 rfl rfl rfl rfl (C4 b S3 hS3) rfl rfl rfl (fun v S4 hpost => ?_)
  obtain ⟨rfl, hS4⟩ := hpost
  (repeat (first | ((with_reducible apply rwp_seq)) | ((with_reducible apply rthen_normal)) | ((with_reducible apply rwp_region)) | ((with_reducible apply hs_nil)) | ((with_reducible apply hs_c); exact rfl; (repeat (first | ((with_reducible apply al_q); exact rfl))); (with_reducible apply al_nil))))
  refine hs_t1 0 rfl rfl rfl rfl (C5 b S4 hS4) rfl rfl rfl (fun v S5 hpost => ?_)
  obtain ⟨rfl, hS5⟩ := hpost
  (repeat (first | ((with_reducible apply rwp_seq)) | ((with_reducible apply rthen_normal)) | ((with_reducible apply rwp_region)) | ((with_reducible apply hs_nil)) | ((with_reducible apply hs_c); exact rfl; (repeat (first | ((with_reducible apply al_q); exact rfl))); (with_reducible apply al_nil))))
  refine hs_t2c 0 2 (by decide) rfl rfl rfl rfl (C6 b S5 hS5) rfl rfl rfl (fun v S6 q hpost => ?_)
  obtain ⟨w1, rfl, rfl, hS6⟩ := hpost
  refine ⟨rfl, ?_⟩
  change hList _ _ _ _ _ _ (AS.put _ _ (vIt [(2, 0), (0, 0)]))
  (repeat (first | ((with_reducible apply rwp_seq)) | ((with_reducible apply rthen_normal)) | ((with_reducible apply rwp_region)) | ((with_reducible apply hs_nil)) | ((with_reducible apply hs_c); exact rfl; (repeat (first | ((with_reducible apply al_q); exact rfl))); (with_reducible apply al_nil))))
  refine hs_t1 0 rfl rfl rfl rfl (C7 b S6 hS6) rfl rfl rfl (fun v S7 hpost => ?_)
  obtain ⟨rfl, hS7⟩ := hpost
  (repeat (first | ((with_reducible apply rwp_seq)) | ((with_reducible apply rthen_normal)) | ((with_reducible apply rwp_region)) | ((with_reducible apply hs_nil)) | ((with_reducible apply hs_c); exact rfl; (repeat (first | ((with_reducible apply al_q); exact rfl))); (with_reducible apply al_nil))))
  refine hs_t1 0 rfl rfl rfl rfl (C8 b S7 hS7) rfl rfl rfl (fun v S8 hpost => ?_)
  obtain ⟨j, rfl, hj, hS8⟩ := hpost
  have hj := hj (by decide)
  subst hj
  (repeat (first | ((with_reducible apply rwp_seq)) | ((with_reducible apply rthen_normal)) | ((with_reducible apply rwp_region)) | ((with_reducible apply hs_nil)) | ((with_reducible apply hs_c); exact rfl; (repeat (first | ((with_reducible apply al_q); exact rfl))); (with_reducible apply al_nil))))
  refine hs_t3 0 1 (by decide) rfl rfl rfl rfl (C9 b S8 hS8) rfl rfl rfl (fun S9 p2 T hpost => ?_)
  obtain ⟨b2, rfl, hS9, hT⟩ := hpost
  (repeat (first | ((with_reducible apply rwp_seq)) | ((with_reducible apply rthen_normal)) | ((with_reducible apply rwp_region)) | ((with_reducible apply hs_nil)) | ((with_reducible apply hs_c); exact rfl; (repeat (first | ((with_reducible apply al_q); exact rfl) | ((with_reducible apply al_loadPN); (iterate 5 exact rfl)) | ((with_reducible apply al_idxS); (iterate 3 exact rfl); (first | decide | omega); (first | decide | omega); (first | assumption | rfl); exact rfl) | ((with_reducible apply al_eqP); (iterate 4 exact rfl)) | ((with_reducible apply al_len); (iterate 3 exact rfl)) | ((with_reducible apply al_nilckX); (iterate 3 exact rfl)) | ((with_reducible apply al_fldX); (iterate 3 exact rfl)) | ((with_reducible apply al_guard_b (c := true)); exact rfl; exact rfl; (first | assumption | exact decide_eq_true (by omega) | (simp only [Bool.not_eq_true', decide_eq_false_iff_not, decide_eq_true_eq, Bool.not_eq_false']; (first | done | omega)))))); (with_reducible apply al_nil))))
  refine hs_t1 0 rfl rfl rfl rfl (CL b S9 hS9) rfl rfl rfl (fun v S10 hpost => ?_)
  obtain ⟨rfl, hS10⟩ := hpost
  (repeat (first | ((with_reducible apply hs_c); exact rfl; (repeat (first | ((with_reducible apply al_q); exact rfl))); (with_reducible apply al_nil))))
  refine hs_t1 0 rfl rfl rfl rfl (CR b S10 hS10) rfl rfl rfl (fun v S11 hpost => ?_)
  obtain ⟨rfl, hS11⟩ := hpost
  (repeat (first | ((with_reducible apply hs_c); exact rfl; (repeat (first | ((with_reducible apply al_q); exact rfl) | ((with_reducible apply al_neptr); exact rfl; exact rfl; kernel_rfl; exact rfl))); (with_reducible apply al_nil))))
  refine hs_t2c 1 2 (by decide) rfl rfl rfl rfl (CA b2 T hT) rfl rfl rfl (fun v S12 q hpost => ?_)
  obtain ⟨w3, rfl, rfl, hS12⟩ := hpost
  refine ⟨rfl, ?_⟩
  change hList _ _ _ _ _ _ (AS.put _ _ (vIt [(0, 0), (2, 0), (5, 5)]))
  (repeat (first | ((with_reducible apply rthen_normal)) | ((with_reducible apply hs_nil)) | ((with_reducible apply rwp_ret)) | ((with_reducible apply hs_c); exact rfl; (repeat (first | ((with_reducible apply al_q); exact rfl) | ((with_reducible apply al_len); (iterate 3 exact rfl)))); (with_reducible apply al_nil))))
  (first | (refine apost_ret rfl (resl_tmp rfl resl_nil) ?_))
  exact AV.Le.refl _
end Go.Proofs.Ytaennpehlhgggaa

namespace Go.Proofs.Ytaennpehlhgggaa
open Go.RowKit
set_option linter.unusedVariables false
set_option linter.unusedSimpArgs false
set_option maxRecDepth 100000 in
set_option maxHeartbeats 8000000 in
theorem ends9_no {l : List Px} {a1 a2 b1 b2 k r : Int} {r1 r2 : Bool} (hal : PCall Try.prog 9 [] (vB true)) (G1 : PCall Try.prog 28 [vI k] (vI r)) (R1 : PCall Try.prog 21 [vP a1 a2] (vB r1)) (R2 : PCall Try.prog 21 [vP b1 b2] (vB r2))
    (cs : 60 < (l.length : Int) ∨ (¬ 60 < (l.length : Int) ∧ r1 = false) ∨ (¬ 60 < (l.length : Int) ∧ r1 = true ∧ r2 = false) ∨ (¬ 60 < (l.length : Int) ∧ r1 = true ∧ r2 = true ∧ ¬ k = r)) : PCall Try.prog 8 [vIt l, vSeg9 a1 a2 b1 b2, vI k] (vB true) := by
  rcases cs with c1 | ⟨c1, rfl⟩ | ⟨c1, rfl, rfl⟩ | ⟨c1, rfl, rfl, c2⟩
  all_goals
    refine pcall_body (f := 8) Try.func8 rfl rfl rfl rfl ?_
    (repeat (first | ((with_reducible apply al_q); exact rfl) | ((with_reducible apply al_len); (iterate 3 exact rfl)) | (refine al_call0 rfl rfl (by (first | exact hal | exact R1 | exact R2 | exact G1)) rfl ?_) | (refine al_call1 rfl rfl rfl (by (first | exact hal | exact R1 | exact R2 | exact G1)) rfl ?_) | ((with_reducible apply al_guard_b (c := true)); exact rfl; exact rfl; (first | assumption | exact decide_eq_true (by omega) | (simp only [Bool.not_eq_true', decide_eq_false_iff_not, decide_eq_true_eq, Bool.not_eq_false']; (first | done | omega)))) | ((with_reducible apply al_guard_b (c := false)); exact rfl; exact rfl; (first | assumption | exact decide_eq_false (by omega) | (simp only [Bool.not_eq_true', decide_eq_false_iff_not, decide_eq_true_eq, Bool.not_eq_false']; (first | done | omega)))) | ((with_reducible apply awp_seq)) | ((with_reducible apply athen_normal)) | ((with_reducible apply awp_region)) | ((with_reducible apply al_nil)) | ((with_reducible apply awp_ret)) | ((with_reducible apply athen_ret)) | ((with_reducible apply awp_cond_t); exact rfl) | ((with_reducible apply awp_cond_1); exact rfl; (first | assumption | exact decide_eq_true (by omega) | (simp only [Bool.not_eq_true', decide_eq_false_iff_not, decide_eq_true_eq, Bool.not_eq_false']; (first | done | omega))))))
    (first | (refine apost_ret rfl (resl_tmp rfl resl_nil) ?_))
    exact AV.Le.refl _
set_option maxRecDepth 100000 in
set_option maxHeartbeats 16000000 in
theorem ends9_yes {SI : SIT} (cn : CNew9 SI) (ca : CAdd9 SI) (cm : CMet9 SI) {l : List Px} (hin : ∀ p ∈ l, InI p) {a1 a2 b1 b2 : Int} {r : Nat} (hr : IsR (r : Int) r) (hal : PCall Try.prog 9 [] (vB true)) (ra : rB5 a1 a2 = true) (rb : rB5 b1 b2 = true)
    (c1 : ¬ 60 < (l.length : Int)) : PCall Try.prog 8 [vIt l, vSeg9 a1 a2 b1 b2, vI r] (vB true) := by
  have G1 := p_Rung hr
  have R1 := p_r5Right ra
  have R2 := p_r5Right rb
  have M1 := p_made9 cn ca (n := 1000) (l := l) (by omega)
  have hr28 : r ≤ 28 := hr.1
  have hml := madeS_len (room9 1000) l
  have hmi := madeS_in (r := room9 1000) hin
  have hmn := madeS_nodup (room9 1000) l
  have h1000 : room9 1000 = 1000 := by decide
  rw [h1000] at M1 hml hmi hmn
  generalize madeS 1000 l = L at *
  obtain ⟨⟨a1l, a1h⟩, a2l, a2h⟩ := rB5_iff.1 ra
  obtain ⟨⟨b1l, b1h⟩, b2l, b2h⟩ := rB5_iff.1 rb
  have s1 := gsn_small hr28 a1l a1h
  have s2 := gsn_small hr28 a2l a2h
  have s3 := gsn_small hr28 b1l b1h
  have s4 := gsn_small hr28 b2l b2h
  have O1 := p_gOf hr (x := a1) (y := a2) (by omega) (by omega) (by omega) (by omega)
  have O2 := p_gOf hr (x := b1) (y := b2) (by omega) (by omega) (by omega) (by omega)
  have I1 := p_r3In (x := gsn a1 r) (y := gsn a2 r) hr (by omega) (by omega) (by omega) (by omega) rfl
  have I2 := p_r3In (x := gsn b1 r) (y := gsn b2 r) hr (by omega) (by omega) (by omega) (by omega) rfl
  have hE := fun L'' hn ia ib ma mb => met_ends (L := L'') hn hr28 ra rb ia ib ma mb
  have hk : InI ((r : Int), (r : Int)) := ⟨⟨by show _ ≤ (r : Int); omega, by show (r : Int) ≤ _; omega⟩, ⟨by show _ ≤ (r : Int); omega, by show (r : Int) ≤ _; omega⟩⟩
  have hrr : (!decide ((r : Int) = (r : Int))) = false := by simp
  by_cases ii : inB r (gsn a1 r) (gsn a2 r) = true ∧ inB r (gsn b1 r) (gsn b2 r) = true
  · obtain ⟨ia, ib⟩ := ii
    rw [ia] at I1
    rw [ib] at I2
    have l1 := addL_len 1000 L (gsn a1 r) (gsn a2 r)
    have l2 := addL_len 1000 (addL 1000 L (gsn a1 r) (gsn a2 r)) (gsn b1 r) (gsn b2 r)
    have n2 := addL_nodup (r := 1000) (addL_nodup (r := 1000) hmn (gsn a1 r) (gsn a2 r)) (gsn b1 r) (gsn b2 r)
    have i2 : ∀ p ∈ addL 1000 (addL 1000 L (gsn a1 r) (gsn a2 r)) (gsn b1 r) (gsn b2 r), InI p := fun p hp => by
      rcases addL_mem hp with h | h
      · rcases addL_mem h with h | h
        · exact hmi p h
        · subst h; exact ⟨⟨by show _ ≤ gsn a1 r; omega, by show gsn a1 r ≤ _; omega⟩, by show _ ≤ gsn a2 r; omega, by show gsn a2 r ≤ _; omega⟩
      · subst h; exact ⟨⟨by show _ ≤ gsn b1 r; omega, by show gsn b1 r ≤ _; omega⟩, by show _ ≤ gsn b2 r; omega, by show gsn b2 r ≤ _; omega⟩
    have hm1 : (gsn a1 r, gsn a2 r) ∈ addL 1000 (addL 1000 L (gsn a1 r) (gsn a2 r)) (gsn b1 r) (gsn b2 r) := addL_sub (addL_has (by omega) _ _)
    have hm2 : (gsn b1 r, gsn b2 r) ∈ addL 1000 (addL 1000 L (gsn a1 r) (gsn a2 r)) (gsn b1 r) (gsn b2 r) := addL_has (by omega) _ _
    have A1 := fun b S hS => ca 1000 L b S (gsn a1 r) (gsn a2 r) hS (by omega)
    have A2 := fun b S hS => ca 1000 (addL 1000 L (gsn a1 r) (gsn a2 r)) b S (gsn b1 r) (gsn b2 r) hS (by omega)
    obtain ⟨⟨t1, e1⟩, ⟨t2, e2⟩, e3⟩ := hE _ n2 ia ib hm1 hm2
    have C1 := fun b S hS => cm 1000 (addL 1000 (addL 1000 L (gsn a1 r) (gsn a2 r)) (gsn b1 r) (gsn b2 r)) b S a1 a2 b1 b2 r hS (by omega) n2 i2 hk ra rb
    have C2 := fun b S hS => cm 1000 (addL 1000 (addL 1000 L (gsn a1 r) (gsn a2 r)) (gsn b1 r) (gsn b2 r)) b S a1 a2 a1 a2 r hS (by omega) n2 i2 hk ra ra
    rw [e3 (decide (a1 < a1)) (decide (a2 < a2))] at C2
    have hsl := sortI_len (decide (b1 < a1)) (decide (b2 < a2)) (metF a1 a2 b1 b2 r) (addL 1000 (addL 1000 L (gsn a1 r) (gsn a2 r)) (gsn b1 r) (gsn b2 r))
    generalize sortI (decide (b1 < a1)) (decide (b2 < a2)) (metF a1 a2 b1 b2 r) (addL 1000 (addL 1000 L (gsn a1 r) (gsn a2 r)) (gsn b1 r) (gsn b2 r)) = M at *
    clear hE hm1 hm2 i2 n2 hmi hmn e3 hin ia ib
    have hM : 0 < M.length := by rw [e1]; simp
    have g1 : M[0]? = some (gsn a1 r, gsn a2 r) := by rw [e1]; rfl
    have g2 : M[M.length - 1]? = some (gsn b1 r, gsn b2 r) := by rw [e2]; simp
    have E1 := itC_xy (j := 0) rfl g1
    have E2 := itC_xy (j := (M.length : Int) - 1) (by omega) g2
    have E3 : List.take 2 (List.drop ((0 : Int).toNat * 2) (itC [(gsn a1 r, gsn a2 r)])) = [.c (.int .i64 (gsn a1 r)), .c (.int .i64 (gsn a2 r))] := rfl
    have hMi : 0 < (M.length : Int) := by omega
    clear e1 e2 g1 g2
    generalize addL 1000 (addL 1000 L (gsn a1 r) (gsn a2 r)) (gsn b1 r) (gsn b2 r) = L2 at *
    generalize addL 1000 L (gsn a1 r) (gsn a2 r) = L1 at *
    generalize gsn a1 r = x1 at *
    generalize gsn a2 r = x2 at *
    generalize gsn b1 r = y1 at *
    generalize gsn b2 r = y2 at *
    have hO : (([(x1, x2)] : List Px).length : Int) = 1 := rfl
    generalize [(x1, x2)] = O at *
    have hx : eqP x1 x2 x1 x2 = true := eqP_iff.2 ⟨rfl, rfl⟩
    have hy : eqP y1 y2 y1 y2 = true := eqP_iff.2 ⟨rfl, rfl⟩
    refine pcall_body (f := 8) Try.func8 rfl rfl rfl rfl ?_
    refine awp_rows ?_
    (repeat (first | ((with_reducible apply rwp_seq)) | ((with_reducible apply rthen_normal)) | ((with_reducible apply rwp_region)) | ((with_reducible apply hs_nil)) | ((with_reducible apply rwp_skip)) | ((with_reducible apply rwp_cond_0); exact rfl; (first | assumption | exact decide_eq_false (by omega) | (simp only [Bool.not_eq_true', decide_eq_false_iff_not, decide_eq_true_eq, Bool.not_eq_false']; (first | done | omega)) | exact rfl)) | ((with_reducible apply hs_c); exact rfl; (repeat (first | ((with_reducible apply al_q); exact rfl) | ((with_reducible apply al_len); (iterate 3 exact rfl)) | (refine al_call1 rfl rfl rfl (by (first | exact R1 | exact R2 | exact G1)) rfl ?_) | ((with_reducible apply al_guard_b (c := false)); exact rfl; exact rfl; (first | assumption | exact decide_eq_false (by omega) | (simp only [Bool.not_eq_true', decide_eq_false_iff_not, decide_eq_true_eq, Bool.not_eq_false']; (first | done | omega)))))); (with_reducible apply al_nil))))
    refine hs_tv 0 rfl rfl rfl rfl M1 rfl rfl (fun v p S hpost => ?_)
    obtain ⟨b, rfl, rfl, hS⟩ := hpost
    (repeat (first | ((with_reducible apply hs_nilS); kernel_rfl) | ((with_reducible apply rwp_draw (id := 6) [8,9,0,1,2,3,4,5,6,7,10,11]); kernel_rfl; kernel_rfl; exact rfl) | ((with_reducible apply rwp_seq)) | ((with_reducible apply rthen_normal)) | ((with_reducible apply rwp_region)) | ((with_reducible apply hs_nil)) | ((with_reducible apply rwp_skip)) | ((with_reducible apply rwp_cond_0); exact rfl; (first | assumption | exact decide_eq_false (by omega) | (simp only [Bool.not_eq_true', decide_eq_false_iff_not, decide_eq_true_eq, Bool.not_eq_false']; (first | done | omega)) | exact rfl)) | ((with_reducible apply hs_c); exact rfl; (repeat (first | ((with_reducible apply al_q); exact rfl) | (refine al_call2 rfl rfl rfl rfl (by (first | exact O1 | exact O2 | exact I1 | exact I2)) rfl ?_) | ((with_reducible apply al_eqptr); exact rfl; exact rfl; kernel_rfl; exact rfl))); (with_reducible apply al_nil))))
    refine hs_t1 0 rfl rfl rfl rfl (A1 b S hS) rfl rfl rfl (fun v S1 hpost => ?_)
    obtain ⟨rfl, hS1⟩ := hpost
    (repeat (first | ((with_reducible apply rwp_seq)) | ((with_reducible apply rthen_normal)) | ((with_reducible apply rwp_region)) | ((with_reducible apply hs_nil)) | ((with_reducible apply hs_c); exact rfl; (repeat (first | ((with_reducible apply al_q); exact rfl))); (with_reducible apply al_nil))))
    refine hs_t1 0 rfl rfl rfl rfl (A2 b S1 hS1) rfl rfl rfl (fun v S2 hpost => ?_)
    obtain ⟨rfl, hS2⟩ := hpost
    (repeat (first | ((with_reducible apply rwp_drawH (id := 11) [0,1,2,3,4,5,7,8,9,10,11,12,6,13,14,15] [73,80]); kernel_rfl; kernel_rfl; exact rfl) | ((with_reducible apply rwp_seq)) | ((with_reducible apply rthen_normal)) | ((with_reducible apply hs_nil)) | ((with_reducible apply hs_c); exact rfl; (repeat (first | ((with_reducible apply al_q); exact rfl))); (with_reducible apply al_nil))))
    refine hs_t2c 0 1 (by decide) rfl rfl rfl rfl (C1 b S2 hS2) rfl rfl rfl (fun v S3 q hpost => ?_)
    obtain ⟨v', rfl, rfl, hS3⟩ := hpost
    refine ⟨rfl, ?_⟩
    change hList _ _ _ _ _ _ (AS.put _ _ (vIt M))
    skip
    refine hs_t2c 0 1 (by decide) rfl rfl rfl rfl (C2 b S3 hS3) rfl rfl rfl (fun v S4 q hpost => ?_)
    obtain ⟨w', rfl, rfl, hS4⟩ := hpost
    refine ⟨rfl, ?_⟩
    change hList _ _ _ _ _ _ (AS.put _ _ (vIt O))
    clear A1 A2 C1 C2 M1 O1 O2 I1 I2
    (repeat (first | ((with_reducible apply hs_nilS); kernel_rfl) | ((with_reducible apply rwp_draw (id := 12) [0,1,2,3,4,5,6,7,8,9,10,11,12,13,14,15,16,17,18,19,20,21,22,23,24,25,26,27,28,29,30,31,32,33,34,35]); kernel_rfl; kernel_rfl; exact rfl) | ((with_reducible apply rwp_seq)) | ((with_reducible apply rthen_normal)) | ((with_reducible apply rwp_ret)) | ((with_reducible apply hs_c); exact rfl; (repeat (first | ((with_reducible apply al_q); exact rfl) | ((with_reducible apply al_loadPN); (iterate 5 exact rfl)) | ((with_reducible apply al_idxS); (iterate 3 exact rfl); (first | decide | omega); (first | decide | omega); (first | assumption | rfl); exact rfl) | ((with_reducible apply al_eqP); (iterate 4 exact rfl)) | ((with_reducible apply al_sub); (iterate 3 exact rfl); (first | exact i64_wrap (by omega) | assumption | rfl); exact rfl) | ((with_reducible apply al_len); (iterate 3 exact rfl)) | (refine al_call0 rfl rfl (by (first | exact hal)) rfl ?_) | ((with_reducible apply al_guard_b (c := true)); exact rfl; exact rfl; (first | assumption | exact decide_eq_true (by omega) | (simp only [Bool.not_eq_true', decide_eq_false_iff_not, decide_eq_true_eq, Bool.not_eq_false']; (first | done | omega)))))); (with_reducible apply al_nil))))
    (first | (refine apost_ret rfl (resl_tmp rfl resl_nil) ?_))
    exact AV.Le.of_eq (by rw [hx]; rfl)
  · have cs : inB r (gsn a1 r) (gsn a2 r) = false ∨ (inB r (gsn a1 r) (gsn a2 r) = true ∧ inB r (gsn b1 r) (gsn b2 r) = false) := by
      cases h1 : inB r (gsn a1 r) (gsn a2 r) with
      | false => exact .inl rfl
      | true =>
        cases h2 : inB r (gsn b1 r) (gsn b2 r) with
        | false => exact .inr ⟨rfl, rfl⟩
        | true => exact absurd ⟨h1, h2⟩ ii
    clear ii hE
    generalize inB r (gsn a1 r) (gsn a2 r) = u at *
    generalize inB r (gsn b1 r) (gsn b2 r) = v at *
    generalize gsn a1 r = x1 at *
    generalize gsn a2 r = x2 at *
    generalize gsn b1 r = y1 at *
    generalize gsn b2 r = y2 at *
    rcases cs with rfl | ⟨rfl, rfl⟩
    all_goals
      refine pcall_body (f := 8) Try.func8 rfl rfl rfl rfl ?_
      refine awp_rows ?_
      (repeat (first | ((with_reducible apply rwp_seq)) | ((with_reducible apply rthen_normal)) | ((with_reducible apply rwp_region)) | ((with_reducible apply hs_nil)) | ((with_reducible apply rwp_skip)) | ((with_reducible apply rwp_cond_0); exact rfl; (first | assumption | exact decide_eq_false (by omega) | (simp only [Bool.not_eq_true', decide_eq_false_iff_not, decide_eq_true_eq, Bool.not_eq_false']; (first | done | omega)) | exact rfl)) | ((with_reducible apply hs_c); exact rfl; (repeat (first | ((with_reducible apply al_q); exact rfl) | ((with_reducible apply al_len); (iterate 3 exact rfl)) | (refine al_call1 rfl rfl rfl (by (first | exact R1 | exact R2 | exact G1)) rfl ?_) | ((with_reducible apply al_guard_b (c := false)); exact rfl; exact rfl; (first | assumption | exact decide_eq_false (by omega) | (simp only [Bool.not_eq_true', decide_eq_false_iff_not, decide_eq_true_eq, Bool.not_eq_false']; (first | done | omega)))))); (with_reducible apply al_nil))))
      refine hs_tv 0 rfl rfl rfl rfl M1 rfl rfl (fun v p S hpost => ?_)
      obtain ⟨b, rfl, rfl, hS⟩ := hpost
      (repeat (first | ((with_reducible apply hs_nilS); kernel_rfl) | ((with_reducible apply rwp_draw (id := 6) [8,9,0,1,2,3,4,5,6,7,10,11]); kernel_rfl; kernel_rfl; exact rfl) | ((with_reducible apply rwp_seq)) | ((with_reducible apply rthen_normal)) | ((with_reducible apply rwp_region)) | ((with_reducible apply hs_nil)) | ((with_reducible apply rwp_ret)) | ((with_reducible apply rwp_skip)) | ((with_reducible apply rthen_ret)) | ((with_reducible apply rwp_cond_1); exact rfl; (first | assumption | exact decide_eq_true (by omega) | (simp only [Bool.not_eq_true', decide_eq_false_iff_not, decide_eq_true_eq, Bool.not_eq_false']; (first | done | omega)) | exact rfl)) | ((with_reducible apply rwp_cond_0); exact rfl; (first | assumption | exact decide_eq_false (by omega) | (simp only [Bool.not_eq_true', decide_eq_false_iff_not, decide_eq_true_eq, Bool.not_eq_false']; (first | done | omega)) | exact rfl)) | ((with_reducible apply hs_c); exact rfl; (repeat (first | ((with_reducible apply al_q); exact rfl) | (refine al_call0 rfl rfl (by (first | exact O1 | exact O2 | exact I1 | exact I2 | exact hal)) rfl ?_) | (refine al_call2 rfl rfl rfl rfl (by (first | exact O1 | exact O2 | exact I1 | exact I2 | exact hal)) rfl ?_) | ((with_reducible apply al_eqptr); exact rfl; exact rfl; kernel_rfl; exact rfl))); (with_reducible apply al_nil))))
      (first | (refine apost_ret rfl (resl_tmp rfl resl_nil) ?_))
      exact AV.Le.refl _
theorem law_Ends9 {SI : SIT} (cn : CNew9 SI) (ca : CAdd9 SI) (cm : CMet9 SI) {l : List Px} (hin : ∀ p ∈ l, InI p) {a1 a2 b1 b2 k : Int} (hal : PCall Try.prog 9 [] (vB true)) : PCall Try.prog 8 [vIt l, vSeg9 a1 a2 b1 b2, vI k] (vB true) := by
  obtain ⟨r, hr⟩ := isR_ex k
  have G1 := p_Rung hr
  have R1 := p_r5Right (x := a1) (y := a2) rfl
  have R2 := p_r5Right (x := b1) (y := b2) rfl
  by_cases c1 : 60 < (l.length : Int)
  · exact ends9_no hal G1 R1 R2 (.inl c1)
  · cases r1 : rB5 a1 a2 with
    | false => rw [r1] at R1; exact ends9_no hal G1 R1 R2 (.inr (.inl ⟨c1, rfl⟩))
    | true =>
      rw [r1] at R1
      cases r2 : rB5 b1 b2 with
      | false => rw [r2] at R2; exact ends9_no hal G1 R1 R2 (.inr (.inr (.inl ⟨c1, rfl, rfl⟩)))
      | true =>
        rw [r2] at R2
        by_cases c2 : k = r
        · subst c2; exact ends9_yes cn ca cm hin hr hal r1 r2 c1
        · exact ends9_no hal G1 R1 R2 (.inr (.inr (.inr ⟨c1, rfl, rfl, c2⟩)))
end Go.Proofs.Ytaennpehlhgggaa

