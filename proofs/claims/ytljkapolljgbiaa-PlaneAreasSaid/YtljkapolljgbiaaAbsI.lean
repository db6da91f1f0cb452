/-
  The hot row, in regions that draw their order: what hangs on slots alone is taken first. My own text.
-/
import Derived.Test.YtljkapolljgbiaaAbsH
import Derived.Deep.RegionHeld3
import Derived.StillTail
import Derived.Laws.Slices
namespace Go.Proofs.Ytljkapolljgbiaa
open Go.RowKit
set_option linter.unusedVariables false
set_option linter.unusedSimpArgs false
section
variable {P : Program} {e sz : Nat} {t : Hot} {s : AS} {Q : Exit → Hot → AS → Prop}
/-- one append onto the hot row. -/
theorem HRel.app {B0 : World} {A0 : Nat → Prop} {a : Act} {w : World} {tt ty bytes m d : Nat} {sx xx : Operand} {news : List Value} [R : RowTy P tt e sz bytes] (ok : s.Ok) (up : ∀ b, B0.heap.size ≤ b → A0 b) (hH : HRel B0 A0 e sz t s a w) (hd : d < s.n) (hsx : s.look sx = some (vC t.v)) (hxx : s.look xx = some (vS sz m (news.map .c))) (hm0 : 0 < m ∨ 0 < t.n) (hn1 : ∀ u ∈ news, u.oneCell' = true) (hmax : t.n + m ≤ maxLen) (hbyt : (t.n + m) * bytes ≤ 140737488355328) :
    ∃ v' w2, (Builtin.append_ #[tt, tt] ty #[a.eval sx, a.eval xx]).run P w = .ok v' w2 ∧ v'.oneCell' = true ∧ HRel B0 A0 e sz ⟨v', t.n + m, t.xs ++ news⟩ (s.put (some d) (vC v')) (a.put (some d) v') w2 := by
  obtain ⟨i, z, ht, hi, hz, hsize, hby, hzs, hsz⟩ := rowTy_spec R.h
  obtain ⟨A, hA, hR, hm, hb, ho, hg, h1⟩ := hH
  have hv1 : a.eval sx = t.v := (hR.look hsx).1
  have hvo := (hR.look hsx).2
  obtain ⟨⟨Ax, cx, ex, hcx, hlx, hAx⟩, hUx⟩ := hR.look hxx
  rcases Nat.eq_zero_or_pos m with rfl | hmp
  · have hn : 0 < t.n := by rcases hm0 with h | h; exact absurd h (Nat.lt_irrefl _); exact h
    have hnews : news = [] := by
      have := hlx
      simp at this
      exact this
    subst hnews
    refine ⟨t.v, w, ?_, hvo, A, hA, hR.put (fun d' e => by cases e; exact hd) ⟨rfl, hvo⟩, fun k => hm k, hb, by simpa using ho, hg, by simpa using h1⟩
    rw [hv1, ex]
    rcases ho.2 with ⟨_, h0⟩ | ⟨g, cap, cur, hv, hbg, hgg, hnc, hcm, hcs, htake⟩
    · omega
    · rw [hv]
      cases Ax with
      | none => simp [Builtin.append_, run_underlying ht, sizeOf, typeInfo, hi, Builtin.lenOf, Builtin.firstCells, hnc, storeCells]
      | some ax => simp [Builtin.append_, run_underlying ht, sizeOf, typeInfo, hi, Builtin.lenOf, Builtin.firstCells, hnc, storeCells, loadCells, loadCellsFrom]
  · obtain ⟨ax, vs, rfl, hcs⟩ := hAx hmp
    have hvs : vs = news := by
      apply List.ext_getElem?
      intro j
      have hll := hcs.rp.1
      simp at hll
      rcases Nat.lt_or_ge j news.length with hj | hj
      · have h2 := hcs.rp.2 j (.c news[j]) (vs[j]'(by omega)) (by simp [hj]) (List.getElem?_eq_getElem _)
        rw [List.getElem?_eq_getElem (by omega : j < vs.length), List.getElem?_eq_getElem hj, h2.1]
      · rw [List.getElem?_eq_none hj, List.getElem?_eq_none (by omega)]
    subst hvs
    obtain ⟨v', w2, hrun, ho2, hgr, hblk, hone⟩ := run_append_own2 (P := P) w B0.heap.size tt ty e i z sz bytes ht hi hz hsize hby hzs hsz t.v t.n t.xs ho ax m cx vs (by simpa using hlx) hcs.at_ hn1 hmax hbyt hb.size hmp
    refine ⟨v', w2, by rw [hv1, ex]; exact hrun, hone, fun b => (A b ∧ b < w.heap.size) ∨ w2.heap.size ≤ b, ?_, ?_, fun k => hm k, ?_, ho2, ?_, ?_⟩
    · rintro b (h | h)
      · exact hA b h.1
      · exact up b (by have := hb.size; have := hgr.size; omega)
    · have hA2 : Rel w2 (fun b => (A b ∧ b < w.heap.size) ∨ w2.heap.size ≤ b) s id a w2 :=
        hR.anew ok hm (fun b hb' hl' => ⟨.inl ⟨hb', hl'⟩, hgr.block b hl' fun e => hg b e.symm hb'⟩) fun b h => .inr h
      exact hA2.put (dst := some d) (fun d' e => by cases e; exact hd) ⟨rfl, hone⟩
    · refine hb.trans ⟨hgr.os, hgr.tape, hgr.output, hgr.size, fun k hk => hgr.block k (by have := hb.size; omega) fun e => ?_⟩
      have := (ho.lt k e.symm).1
      omega
    · rintro g hg' (h | h)
      · rcases hblk g hg' with q | q
        · exact hg g q h.1
        · omega
      · have := (ho2.lt g hg').2
        omega
    · intro u hu
      rcases List.mem_append.1 hu with q | q
      · exact h1 u q
      · exact hn1 u q
/-- a region that draws, from here on. -/
def HL (P : Program) (e sz : Nat) (ops : Array Oper) (Q : Exit → Hot → AS → Prop) (n : Nat) (listed : Array Bool) (t : Hot) (s : AS) : Prop :=
  s.Ok → ∀ B0 A0 a w, (∀ b, B0.heap.size ≤ b → A0 b) → HRel B0 A0 e sz t s a w → wpAnyH P .any ops (fun x a' w' => ∃ t' s', s'.Ok ∧ HRel B0 A0 e sz t' s' a' w' ∧ Q x t' s') (fun _ => True) n listed a w
/-- an operation whose value hangs on its operands' slots alone. -/
def PureOK (P : Program) (look : Operand → Option AV) (o : Oper) (av : AV) : Prop :=
  (∀ j, ¬ av.owns j) ∧ ∀ (U : Nat → Prop) (ρ : Nat → Nat) (W : World) (env : Operand → Value), (∀ x ∈ o.op.operands, ∀ a, look x = some a → RpV U ρ W a (env x)) →
    ∃ v, (∀ W', (execOp env o).run P W' = .ok (.value v) W') ∧ RpV U ρ W av v
variable {ops : Array Oper} {n i d : Nat} {listed : Array Bool} {op : Op} {ty : Nat} {pos : String} {after : Array Edge}
theorem hl_take {av : AV} (hi : ops[i]? = some ⟨some d, op, ty, pos, after, none⟩) (hs : Region.noSelect ops = true) (hf : Region.free .any ops listed i = true) (hr : (Region.ready .any ops listed).contains i = true) (hp : ∀ c t s, ¬ Q (.panic c) t s) (hq : PureOK P s.look ⟨some d, op, ty, pos, after, none⟩ av) (hd : Nat.blt d s.n = true)
    (h : HL P e sz ops Q n (listed.setIfInBounds i true) t (s.put (some d) av)) : HL P e sz ops Q (n + 1) listed t s := by
  intro ok B0 A0 a w up ⟨A, hA, hR, hm, hb, ho, hg, h1⟩
  obtain ⟨v, hv, hrp⟩ := hq.2 (s.free A id) id w a.eval (fun x hx b hb' => hR.look hb')
  refine wpAnyH_take hi hs hf hr (fun c a w ⟨t', s', _, _, h⟩ => absurd h (hp c t' s')) (v := v) (.inl ⟨rfl, fun w' _ => hv w'⟩) trivial ?_
  refine h (ok.put fun j hj => absurd hj (hq.1 j)) B0 A0 _ w up ⟨A, hA, hR.put (dst := some d) (fun d' e => by cases e; simpa [Nat.blt_eq] using hd) hrp, fun k => hm k, hb, ho, hg, h1⟩
theorem hl_append {tt bytes m : Nat} {sx xx : Operand} {news : List Value} [R : RowTy P tt e sz bytes] (hi : ops[i]? = some ⟨some d, .call ⟨.builtin .append, #[sx, xx], #[tt, tt]⟩, ty, pos, after, none⟩) (hr : Region.ready .any ops listed = [i]) (hd : Nat.blt d s.n = true) (hsx : s.look sx = some (vC t.v)) (hxx : s.look xx = some (vS sz m (news.map .c))) (hm0 : 0 < m ∨ 0 < t.n) (hn1 : ∀ u ∈ news, u.oneCell' = true) (hmax : t.n + m ≤ maxLen) (hbyt : (t.n + m) * bytes ≤ 140737488355328)
    (h : ∀ v', v'.oneCell' = true → HL P e sz ops Q n (listed.setIfInBounds i true) ⟨v', t.n + m, t.xs ++ news⟩ (s.put (some d) (vC v'))) : HL P e sz ops Q (n + 1) listed t s := by
  intro ok B0 A0 a w up hH
  obtain ⟨v', w2, hrun, hone, hH2⟩ := HRel.app (P := P) (tt := tt) (bytes := bytes) (ty := ty) (d := d) ok up hH (by simpa [Nat.blt_eq] using hd) hsx hxx hm0 hn1 hmax hbyt
  refine ⟨fun h0 => absurd (hr.symm.trans h0) (by simp), fun j hj => ?_⟩
  obtain rfl : j = i := by rw [hr] at hj; simpa using hj
  unfold wpOp
  rw [hi]
  simp only [Region.wanted, if_true]
  left
  refine Oper.wp_value (v := v') (w' := w2) ?_ ⟨trivial, ?_⟩
  · simp only [execOp, resolve, invoke, builtin, Sem.run_bind, Sem.run_pure, Result.andThen_ok, List.map_toArray, List.map_cons, List.map_nil, hrun]
  · exact h v' hone (ok.put fun j hj => absurd hj (noown _ j)) B0 A0 _ w2 up hH2
theorem hl_done (hr : Region.ready .any ops listed = []) (h : Q .normal t s) : HL P e sz ops Q n listed t s := by
  intro ok B0 A0 a w up hH
  cases n with
  | zero => exact ⟨hr, t, s, ok, hH, h⟩
  | succ n => exact ⟨fun _ => ⟨t, s, ok, hH, h⟩, fun i hi => by rw [hr] at hi; cases hi⟩
theorem hwp_draw {ri : Nat} {l : List Oper} (hm : P.follows .mixedOrders = true) (h : HL P e sz l.toArray Q l.length (Array.replicate l.length false) t s) : HWp P e sz (.region ri l.toArray true) Q t s := by
  intro ok B0 A0 a w up ⟨A, hA, hR, hm', hb, ho, hg, h1⟩
  refine wp_region_any hm ?_
  refine wpAny_of_held (S := fun _ => True) _ _ _ _ ?_
  have hd : Rel w A s id a { w with drawn := w.drawn + 1 } := hR.call ((Below.refl _ w).drew)
  have := h ok B0 A0 a _ up (HRel.next up hA hb ho hg h1 ok hd hm')
  simpa using this
theorem pure_move {x : Operand} {av : AV} (hx : s.look x = some av) (hc : ∀ j, ¬ av.owns j) : PureOK P s.look ⟨some d, .move x, ty, pos, after, none⟩ av :=
  ⟨hc, fun U ρ W env he => ⟨env x, fun W' => by simp [execOp], he x (by simp [Op.operands]) _ hx⟩⟩
theorem pure_assign {x : Operand} {av : AV} (hx : s.look x = some av) (hc : ∀ j, ¬ av.owns j) : PureOK P s.look ⟨some d, .assign x, ty, pos, after, none⟩ av :=
  ⟨hc, fun U ρ W env he => ⟨env x, fun W' => by simp [execOp], he x (by simp [Op.operands]) _ hx⟩⟩
/-- from k on; the first k. -/
theorem pure_from {tt z n' : Nat} {x y : Operand} {xs : List AC} {k : Int} [S : SliOf P tt z] (hx : s.look x = some (vS z n' xs)) (hy : s.look y = some (vI k)) (h0 : 0 ≤ k) (h1 : k ≤ n') : PureOK P s.look ⟨some d, .slice tt x (some y) none none, ty, pos, after, none⟩ (vS z (n' - k.toNat) (xs.drop (k.toNat * z))) := by
  refine ⟨fun j => noownp _ j, fun U ρ W env he => ?_⟩
  obtain ⟨⟨A, c, e1, hc, hl, hA⟩, hU⟩ := he x (by simp [Op.operands]) _ hx
  have hi : env y = .int .i64 k := (he y (by simp [Op.operands]) _ hy).1
  obtain ⟨e', i', hu, hi', hs⟩ := sliOf_spec S.h
  have hu' : P.underlying tt = some (.slice (P.elem tt)) := by rw [elem_slice hu]; exact hu
  refine ⟨sliced A k.toNat n' c z, fun W' => ?_, ⟨if c = k.toNat then A else A.map (·.add (k.toNat * z)), c - k.toNat, rfl, by omega, by simp [hl, Nat.sub_mul], fun hn => ?_⟩, ?_⟩
  · simp only [execOp, e1, Option.map_some, Option.map_none, hi, Sem.run_bind, run_sliceAt_slice W' tt _ _ _ _ hu', run_slice_l W' tt A n' c hu' .i64 k h0 h1, elem_slice hu, run_sizeOf' hi', Result.andThen_ok, hs, Sem.run_pure]
  · obtain ⟨a, vs, rfl, hcs⟩ := hA (by omega)
    have hne : ¬ c = k.toNat := by omega
    rw [if_neg hne]
    refine ⟨a.add (k.toNat * z), vs.drop (k.toNat * z), rfl, ?_⟩
    have := hcs.sub (k.toNat * z) xs.length
    rwa [List.take_of_length_le (by simp), List.take_of_length_le (by have := hcs.rp.1; simp; omega)] at this
  · rintro b ⟨c', a', q, hn, hf⟩
    obtain ⟨a, vs, rfl, hcs⟩ := hA (by omega)
    have hne : ¬ c = k.toNat := by omega
    unfold sliced at q
    rw [if_neg hne] at q
    simp at q
    obtain ⟨rfl, _⟩ := q
    refine hU b ⟨c, a, e1, by omega, footL.sub (off := k.toNat * z) (n := xs.length) ?_⟩
    rw [List.take_of_length_le (by simp)]
    exact hf
theorem pure_to {tt z n' : Nat} {x y : Operand} {xs : List AC} {k : Int} [S : SliOf P tt z] (hx : s.look x = some (vS z n' xs)) (hy : s.look y = some (vI k)) (h0 : 0 ≤ k) (h1 : k ≤ n') : PureOK P s.look ⟨some d, .slice tt x none (some y) none, ty, pos, after, none⟩ (vS z k.toNat (xs.take (k.toNat * z))) := by
  refine ⟨fun j => noownp _ j, fun U ρ W env he => ?_⟩
  obtain ⟨⟨A, c, e1, hc, hl, hA⟩, hU⟩ := he x (by simp [Op.operands]) _ hx
  have hi : env y = .int .i64 k := (he y (by simp [Op.operands]) _ hy).1
  obtain ⟨e', i', hu, hi', hs⟩ := sliOf_spec S.h
  have hu' : P.underlying tt = some (.slice (P.elem tt)) := by rw [elem_slice hu]; exact hu
  have hkz : k.toNat * z ≤ n' * z := Nat.mul_le_mul_right _ (by omega)
  refine ⟨sliced A 0 k.toNat c z, fun W' => ?_, ⟨if c = 0 then A else A.map (·.add (0 * z)), c - 0, rfl, by omega, by rw [List.length_take, hl]; exact Nat.min_eq_left hkz, fun hn => ?_⟩, ?_⟩
  · simp only [execOp, e1, Option.map_some, Option.map_none, hi, Sem.run_bind, run_sliceAt_slice W' tt _ _ _ _ hu', run_slice_h W' tt A n' c hu' .i64 k h0 (by omega), elem_slice hu, run_sizeOf' hi', Result.andThen_ok, hs, Sem.run_pure]
  · obtain ⟨a, vs, rfl, hcs⟩ := hA (by omega)
    have hne : ¬ c = 0 := by omega
    rw [if_neg hne]
    refine ⟨a.add (0 * z), vs.take (k.toNat * z), rfl, ?_⟩
    have := hcs.sub 0 (k.toNat * z)
    rw [Nat.zero_mul]
    exact this
  · rintro b ⟨c', a', q, hn, hf⟩
    obtain ⟨a, vs, rfl, hcs⟩ := hA (by omega)
    have hne : ¬ c = 0 := by omega
    unfold sliced at q
    rw [if_neg hne] at q
    simp at q
    obtain ⟨rfl, _⟩ := q
    exact hU b ⟨c, a, e1, by omega, footL.sub (off := 0) (n := k.toNat * z) hf⟩
end
end Go.Proofs.Ytljkapolljgbiaa
