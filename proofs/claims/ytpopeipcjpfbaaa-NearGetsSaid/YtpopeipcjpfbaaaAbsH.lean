/-
  States without addresses: a row of the frame's own that grows by append (the hot row), held beside a state. My own text.
-/
import Derived.Test.YtpopeipcjpfbaaaAbsS
import Derived.Laws.AppendOwn
namespace Go.Proofs.Ytpopeipcjpfbaaa
open Go.RowKit
set_option linter.unusedVariables false
set_option linter.unusedSimpArgs false
/-- the hot row: its slice, how many things, their cells. -/
structure Hot where
  v : Value
  n : Nat
  xs : List Value
section
variable {P : Program} {B B' : Base} {A A' : Nat → Prop} {s s' : AS} {ρ : Nat → Nat} {a : Act} {w w' : World}
/-- the state is told anew: of another base, in another world. -/
theorem Rel.anew (h : Rel B A s ρ a w) (hU : ∀ b, A b → b < w.heap.size → A' b ∧ w'.heap[b]? = w.heap[b]?) (hown : ∀ k cs, s.mem k = some cs → w'.heap[ρ k]? = w.heap[ρ k]? ∧ ¬ B'.F (ρ k)) (hbel : BelowB B' w') (hup : ∀ b, B'.W.heap.size ≤ b → A' b) (han : Anch B' s ρ) : Rel B' A' s ρ a w' := by
  have hU' : ∀ b, s.free A ρ b → b < w.heap.size → s.free A' ρ b ∧ w'.heap[b]? = w.heap[b]? := fun b hb hl => ⟨⟨(hU b hb.1 hl).1, hb.2⟩, (hU b hb.1 hl).2⟩
  refine ⟨h.nodef, h.size, fun t av ht => ?_, fun k cs hk => ?_, h.inj, hbel, hup, han⟩
  · obtain ⟨v, h1, h2⟩ := h.tm t av ht
    exact ⟨v, h1, h2.map hU' fun _ _ => rfl⟩
  · obtain ⟨vs, ty, h1, h2, h3⟩ := h.mm k cs hk
    exact ⟨vs, ty, by rw [(hown k cs hk).1]; exact h1, h2.map hU' fun _ _ _ _ => rfl, (hown k cs hk).2⟩
theorem Rel.retell {d : Nat} {av bv : AV} (h : Rel B A s ρ a w) (hd : s.tmps d = some bv) (hv : ∀ v, a.tmps[d]? = some v → RpV (s.free A ρ) ρ w bv v → RpV (s.free A ρ) ρ w av v) : Rel B A (s.put (some d) av) ρ a w := by
  refine ⟨h.nodef, h.size, fun t cv ht => ?_, h.mm, h.inj, h.below, h.up, h.anch⟩
  simp only [AS.put] at ht
  by_cases e : t = d
  · subst e
    rw [upd_same] at ht
    cases ht
    obtain ⟨v, h1, h2⟩ := h.tm t bv hd
    exact ⟨v, h1, hv v h1 h2⟩
  · rw [upd_ne _ _ e] at ht
    exact h.tm t cv ht
/-- all that there is but the frame's own blocks. -/
def hbase (s : AS) (ρ : Nat → Nat) (w : World) : Base := ⟨w, fun b => b < w.heap.size ∧ ∀ k cs, s.mem k = some cs → ρ k ≠ b, fun _ h => h.1, fun k => if s.n ≤ k then some (ρ k) else none⟩
theorem hbase_anch (s : AS) (ρ : Nat → Nat) (w : World) : Anch (hbase s ρ w) s ρ := fun k b hk => by
  simp only [hbase] at hk
  split at hk
  · rename_i h; exact ⟨h, Option.some.inj hk⟩
  · cases hk
theorem anch_next {B0 : Base} {s s' : AS} {ρ ρ' : Nat → Nat} {w w' : World} {A : Nat → Prop} {a' : Act} (h : Anch B0 s ρ) (hR' : Rel (hbase s ρ w) A s' ρ' a' w') : Anch B0 s' ρ' := fun k b hk => by
  obtain ⟨h1, h2⟩ := h k b hk
  obtain ⟨h3, h4⟩ := hR'.anch k (ρ k) (by simp [hbase, h1])
  exact ⟨h3, h4.trans h2⟩
theorem Rel.hot (h : Rel B A s ρ a w) (hup : ∀ b, w.heap.size ≤ b → A b) : Rel (hbase s ρ w) A s ρ a w :=
  h.anew (fun b h _ => ⟨h, rfl⟩) (fun k cs hk => ⟨rfl, fun hf => hf.2 k cs hk rfl⟩) (BelowB.refl _) hup (hbase_anch _ _ _)
theorem ownsRow_kept {base : Nat} {e : TypeId} {sz : Nat} {v : Value} {n : Nat} {xs : List Value} (h : w.ownsRow base e sz v n xs) (hg : ∀ g, v.ownBlock = some g → w'.heap[g]? = w.heap[g]?) : w'.ownsRow base e sz v n xs := by
  refine ⟨h.1, ?_⟩
  rcases h.2 with hn | ⟨g, cap, cur, rfl, hb, hgg, rest⟩
  · exact .inl hn
  · exact .inr ⟨g, cap, cur, rfl, hb, (hg g rfl).trans hgg, rest⟩
end
/-- what holds of a frame with a hot row: the row is no one's but the frame's. -/
def HRel (B0 : Base) (A0 : Nat → Prop) (e sz : Nat) (t : Hot) (s : AS) (a : Act) (w : World) : Prop :=
  ∃ A ρ, (∀ b, A b → A0 b) ∧ Rel (hbase s ρ w) A s ρ a w ∧ (∀ k cs, s.mem k = some cs → ¬ B0.F (ρ k)) ∧ BelowB B0 w ∧ w.ownsRow B0.W.heap.size e sz t.v t.n t.xs ∧ (∀ g, t.v.ownBlock = some g → ¬ A g ∧ ∀ k cs, s.mem k = some cs → ρ k ≠ g) ∧ (∀ u ∈ t.xs, u.oneCell' = true) ∧ Anch B0 s ρ
def HWp (P : Program) (e sz : Nat) (c : Code) (Q : Exit → Hot → AS → Prop) (t : Hot) (s : AS) : Prop :=
  s.Ok → ∀ (B0 : Base) A0 a w, (∀ b, B0.W.heap.size ≤ b → A0 b) → HRel B0 A0 e sz t s a w → c.wp P (fun x a' w' => ∃ t' s', s'.Ok ∧ HRel B0 A0 e sz t' s' a' w' ∧ Q x t' s') a w
def hthen (next : Hot → AS → Prop) (Q : Exit → Hot → AS → Prop) : Exit → Hot → AS → Prop
  | .normal, t, s => next t s
  | e, t, s => Q e t s
def hblock (id : Nat) (Q : Exit → Hot → AS → Prop) : Exit → Hot → AS → Prop
  | .exit id', t, s => bif Nat.beq id' id then Q .normal t s else Q (.exit id') t s
  | e, t, s => Q e t s
section
variable {P : Program} {e sz : Nat} {t : Hot} {s : AS} {Q : Exit → Hot → AS → Prop} {x y c : Code}
theorem HRel.le {B0 : Base} {A0 : Nat → Prop} {s' : AS} {a : Act} {w : World} (h : HRel B0 A0 e sz t s a w) (l : s.Le s') : HRel B0 A0 e sz t s' a w := by
  obtain ⟨A, ρ, hA, hR, hown, hb, ho, hg, h1, han⟩ := h
  exact ⟨A, ρ, hA, (hR.le l).hot hR.up, fun k cs hk => hown k cs (l.mm k cs hk), hb, ho, fun g q => ⟨(hg g q).1, fun k cs hk => (hg g q).2 k cs (l.mm k cs hk)⟩, h1, fun k b hk => by rw [l.n]; exact han k b hk⟩
theorem HRel.next {B0 : Base} {A0 A : Nat → Prop} {ρ ρ' : Nat → Nat} {a' : Act} {w w' : World} {s' : AS} (hA : ∀ b, A b → A0 b) (hown : ∀ k cs, s.mem k = some cs → ¬ B0.F (ρ k)) (hb : BelowB B0 w) (ho : w.ownsRow B0.W.heap.size e sz t.v t.n t.xs) (hg : ∀ g, t.v.ownBlock = some g → ¬ A g ∧ ∀ k cs, s.mem k = some cs → ρ k ≠ g) (h1 : ∀ u ∈ t.xs, u.oneCell' = true) (han : Anch B0 s ρ)
    (hR' : Rel (hbase s ρ w) A s' ρ' a' w') : HRel B0 A0 e sz t s' a' w' := by
  have hcase : ∀ k cs, s'.mem k = some cs → w.heap.size ≤ ρ' k ∨ ∃ j cs, s.mem j = some cs ∧ ρ j = ρ' k := by
    intro k cs hk
    obtain ⟨_, _, _, _, hF⟩ := hR'.mm k cs hk
    rcases Nat.lt_or_ge (ρ' k) w.heap.size with hl | hl
    · exact .inr (Classical.byContradiction fun hn => hF ⟨hl, fun j cs hj e => hn ⟨j, cs, hj, e⟩⟩)
    · exact .inl hl
  refine ⟨A, ρ', hA, hR'.hot fun b h => hR'.up b (Nat.le_trans hR'.below.size h), fun k cs hk hf => ?_, ⟨hR'.below.os.trans hb.os, hR'.below.tape.trans hb.tape, hR'.below.output.trans hb.output, Nat.le_trans hb.size hR'.below.size, fun b hf => ?_⟩, ownsRow_kept ho fun g q => ?_, fun g q => ⟨(hg g q).1, fun k cs hk he => ?_⟩, h1, anch_next han hR'⟩
  · rcases hcase k cs hk with h | ⟨j, cs', hj, e⟩
    · have := B0.lt _ hf; have := hb.size; omega
    · rw [← e] at hf; exact hown j cs' hj hf
  · exact (hR'.below.block b ⟨Nat.lt_of_lt_of_le (B0.lt b hf) hb.size, fun k cs hk e => hown k cs hk (by rw [e]; exact hf)⟩).trans (hb.block b hf)
  · exact hR'.below.block g ⟨(ho.lt g q).2, (hg g q).2⟩
  · rcases hcase k cs hk with h | ⟨j, cs', hj, e⟩
    · have := (ho.lt g q).2; omega
    · exact (hg g q).2 j cs' hj (e.trans he)
/-- code that leaves the hot row alone. -/
theorem hwp_awp (h : AWp P c (fun x s' => Q x t s') s) : HWp P e sz c Q t s := by
  intro ok B0 A0 a w up ⟨A, ρ, hA, hR, hown, hb, ho, hg, h1, han⟩
  refine wp_mono (h ok (hbase s ρ w) A ρ a w hR) ?_
  rintro x a' w' ⟨s', ρ', ok', hR', hq⟩
  exact ⟨t, s', ok', HRel.next hA hown hb ho hg h1 han hR', hq⟩
theorem hwp_seq (h : HWp P e sz x (hthen (fun t s => HWp P e sz y Q t s) Q) t s) : HWp P e sz (.seq x y) Q t s := by
  intro ok B0 A0 a w up hH
  refine wp_seq (wp_mono (h ok B0 A0 a w up hH) ?_)
  rintro x a' w' ⟨t', s', ok', hH', hq⟩
  cases x <;> first | exact hq ok' B0 A0 a' w' up hH' | exact ⟨t', s', ok', hH', hq⟩
theorem hwp_block {id : Nat} (h : HWp P e sz x (hblock id Q) t s) : HWp P e sz (.block id x) Q t s := by
  intro ok B0 A0 a w up hH
  refine wp_block (wp_mono (h ok B0 A0 a w up hH) ?_)
  rintro x a' w' ⟨t', s', ok', hH', hq⟩
  cases x with
  | exit id' =>
    simp only [Exit.inBlock]
    simp only [hblock] at hq
    cases hb : Nat.beq id' id with
    | true => rw [hb] at hq; rw [if_pos (Nat.eq_of_beq_eq_true hb)]; exact ⟨t', s', ok', hH', hq⟩
    | false =>
      rw [hb] at hq
      have : id' ≠ id := fun e => by subst e; rw [Nat.beq_refl] at hb; cases hb
      rw [if_neg this]; exact ⟨t', s', ok', hH', hq⟩
  | _ => exact ⟨t', s', ok', hH', hq⟩
theorem hwp_cond {c : Operand} {b : Bool} (hc : s.look c = some (vB b)) (h1 : b = true → HWp P e sz x Q t s) (h0 : b = false → HWp P e sz y Q t s) : HWp P e sz (.cond c x y) Q t s := by
  intro ok B0 A0 a w up hH
  obtain ⟨A, ρ, hA, hR, _⟩ := id hH
  have hv : a.eval c = .bool b := (hR.look hc).1
  refine wp_cond hv ?_
  cases b with
  | true => exact h1 rfl ok B0 A0 a w up hH
  | false => exact h0 rfl ok B0 A0 a w up hH
theorem hwp_loopL (N : Nat) (I : Nat → Hot → List (Nat × AV) → List (Nat × List AC) → Prop) (k : Nat) (ts : List (Nat × AV)) (ms : List (Nat × List AC)) (hI : I k t ts ms) (hn : N = s.n) (ht : allT s.tmps ts) (hm : allT s.mem ms) (hok : okB ts ms = true)
    (round : ∀ k t ts ms, I k t ts ms → okB ts ms = true → HWp P e sz x (hthen (fun t' s' => ∃ k' ts' ms', k' < k ∧ I k' t' ts' ms' ∧ N = s'.n ∧ allT s'.tmps ts' ∧ allT s'.mem ms' ∧ okB ts' ms' = true) Q) t (mkS N ts ms)) : HWp P e sz (.loop x) Q t s := by
  intro ok B0 A0 a w up hH
  refine wp_loop_n (fun k a w => ∃ t ts ms, I k t ts ms ∧ okB ts ms = true ∧ HRel B0 A0 e sz t (mkS N ts ms) a w) (n := k) ⟨t, ts, ms, hI, hok, hH.le (mkS_le hn ht hm)⟩ ?_
  rintro k a w ⟨t, ts, ms, hI, ok, hH⟩
  refine wp_mono (round k t ts ms hI ok (mkS_ok ok) B0 A0 a w up hH) ?_
  rintro x a' w' ⟨t', s', ok', hH', hq⟩
  cases x with
  | normal =>
    obtain ⟨k', ts', ms', h1, h2, h3, h4, h5, h6⟩ := hq
    exact ⟨k', h1, t', ts', ms', h2, h6, hH'.le (mkS_le h3 h4 h5)⟩
  | _ => exact ⟨t', s', ok', hH', hq⟩
/-- code that begins with no hot row, and gives it up in the end. -/
theorem awp_hot {Q : Exit → AS → Prop} (e sz : Nat) (h : HWp P e sz c (fun x t s' => ∃ d, s'.tmps d = some (vC t.v) ∧ Q x (s'.put (some d) (vS sz t.n (t.xs.map .c)))) ⟨.slice none 0 0, 0, []⟩ s) : AWp P c Q s := by
  intro ok B A ρ a w hR
  have hH : HRel B A e sz ⟨.slice none 0 0, 0, []⟩ s a w := ⟨A, ρ, fun _ h => h, hR.hot fun b h => hR.up b (Nat.le_trans hR.below.size h), fun k cs hk => (hR.mm k cs hk).choose_spec.choose_spec.2.2, hR.below, World.ownsRow_nil w B.W.heap.size e sz, fun g hg => (by cases hg), fun u hu => (by cases hu), hR.anch⟩
  refine wp_mono (h ok B A a w hR.up hH) ?_
  rintro x a' w' ⟨t', s', ok', ⟨A1, ρ1, hA1, hR1, hown1, hb1, ho1, hg1, hone1, han1⟩, d, hd, hq⟩
  refine ⟨_, ρ1, ok'.put fun j hj => absurd hj (noownp _ j), ?_, hq⟩
  have hR2 : Rel B A s' ρ1 a' w' := hR1.anew (fun b hb _ => ⟨hA1 b hb, rfl⟩) (fun k cs hk => ⟨rfl, hown1 k cs hk⟩) hb1 hR.up han1
  refine hR2.retell hd fun v hv1 hv2 => ?_
  obtain ⟨rfl, h1c⟩ := hv2
  obtain ⟨hl, hn | ⟨g, cap, cur, hgv, hbg, hheap, hnc, hcm, hcs, htake⟩⟩ := ho1
  · obtain ⟨e1, e2⟩ := hn
    rw [e1]
    exact ⟨⟨none, 0, by rw [e2], by omega, by simpa using hl, fun h => absurd h (by omega)⟩, fun b ⟨c', a', q, hn, hb⟩ => by cases q⟩
  · have hone : ∀ (j : Nat) u, t'.xs[j]? = some u → w'.cell? ((⟨g, 0, none⟩ : Addr).add j) = some u := World.ownsRow.cells ⟨hl, .inr ⟨g, cap, cur, hgv, hbg, hheap, hnc, hcm, hcs, htake⟩⟩ (by rw [hgv]; rfl)
    have hgg := (hg1 g (by rw [hgv]; rfl)).2
    rw [hgv]
    refine ⟨⟨some ⟨g, 0, none⟩, cap, rfl, hnc, by simpa using hl, fun hn => ⟨⟨g, 0, none⟩, t'.xs, rfl, (Array.getElem?_eq_some_iff.1 hheap).1, ⟨by simp, fun i y v hy hv => ?_⟩, hone, fun y hy => ?_⟩⟩, ?_⟩
    · rw [List.getElem?_map, hv] at hy
      cases hy
      exact ⟨rfl, hone1 v (List.mem_of_getElem? hv)⟩
    · obtain ⟨v, _, rfl⟩ := List.mem_map.1 hy
      rfl
    · rintro b ⟨c', a', q, hn, hf⟩
      cases q
      rcases hf with rfl | ⟨j, y, v, hy, hv, hfo⟩
      · exact ⟨hR.up _ hbg, hgg⟩
      · rw [List.getElem?_map] at hy
        cases hq' : t'.xs[j]? with
        | none => rw [hq'] at hy; cases hy
        | some u => rw [hq'] at hy; cases hy; cases hfo
/-- append onto a row of one's own: it stays where it is, or lies in new memory. -/
theorem run_append_own2 (w : World) (base : Nat) (t ty e : TypeId) (i : TypeInfo) (z : Value) (size bytes : Nat) (ht : P.underlying t = some (.slice e)) (hi : P.info? e = some i) (hz : i.zero = some z)
    (hsize : i.size = size) (hby : i.bytes = bytes) (hzs : z.cells.size = size) (hsz : 0 < size)
    (v : Value) (n : Nat) (xs : List Value) (hown : w.ownsRow base e size v n xs)
    (a : Addr) (m c : Nat) (news : List Value) (hl : news.length = m * size) (hnews : ∀ j u, news[j]? = some u → w.cell? (a.add j) = some u) (h1 : ∀ u ∈ news, u.oneCell' = true)
    (h63 : n + m ≤ maxLen) (hbytes : (n + m) * bytes ≤ 140737488355328) (hbase : base ≤ w.heap.size) (hm : 0 < m) :
    ∃ v' w', (Builtin.append_ #[t, t] ty #[v, .slice (some a) m c]).run P w = .ok v' w' ∧ w'.ownsRow base e size v' (n + m) (xs ++ news) ∧ w.grownBy w' v.ownBlock ∧ (∀ g, v'.ownBlock = some g → v.ownBlock = some g ∨ w.heap.size ≤ g) ∧ v'.oneCell' = true := by
  obtain ⟨v', w', hr, h2, h3, h4⟩ := run_append_own (P := P) w base t ty e i z size bytes ht hi hz hsize hby hzs hsz v n xs hown a m c news hl hnews h1 h63 hbytes hbase
  refine ⟨v', w', hr, h2, h3, ?_, ?_⟩
  · have hsmall : n + m ≤ 9223372036854775807 := by simp only [maxLen] at h63; omega
    rcases hown.2 with ⟨rfl, rfl⟩ | ⟨g, cap, cur, rfl, hbg, hg, hnc, hcm, hcs, htake⟩
    · have hx : xs = [] := List.eq_nil_of_length_eq_zero (by simpa using hown.1)
      subst hx
      have := run_append_nil (P := P) w t ty e i z ht hi hz a m c news (by rw [hsize]; exact hl) hnews hm (by omega) (by rw [hby]; simp only [Nat.zero_add] at hbytes; omega)
      rw [this] at hr
      cases hr
      intro g hg
      simp [Value.ownBlock] at hg
      exact .inr (by omega)
    · by_cases hroom : n + m ≤ cap
      · have hfit : n * i.size + news.length ≤ cur.size := by rw [hsize, hl, hcs, ← Nat.add_mul]; exact Nat.mul_le_mul_right _ hroom
        have := run_append_room (P := P) w t ty e i ht hi g n cap cur hg a m c news (by rw [hsize]; exact hl) hnews h1 hroom hfit
        rw [this] at hr
        cases hr
        intro g' hg'
        exact .inl hg'
      · have holds : ∀ j u, xs[j]? = some u → w.cell? ((⟨g, 0, none⟩ : Addr).add j) = some u := hown.cells (g := g) rfl
        have := run_append_grow (P := P) w t ty e i z ht hi hz ⟨g, 0, none⟩ n cap xs (by rw [hsize]; exact hown.1) holds a m c news (by rw [hsize]; exact hl) hnews (by omega) (by omega) (growslice_fits (by omega) (by rw [hby]; exact hbytes))
        rw [this] at hr
        cases hr
        intro g' hg'
        simp [Value.ownBlock] at hg'
        exact .inr (by omega)
  · rcases h2.2 with ⟨rfl, _⟩ | ⟨g, cap, cur, rfl, _⟩ <;> rfl
theorem aList_then {B : Base} {A : Nat → Prop} {ops : Array Oper} {K : AS → Prop} {Q : Exit → Act → World → Prop} {r : List Nat} (hQ : ∀ s' ρ' a' w', s'.Ok → Rel B A s' ρ' a' w' → K s' → wpOps P ops Q r a' w') : ∀ (l : List Oper) (k : Nat) (s : AS) (ρ : Nat → Nat) (a : Act) (w : World), (∀ (j : Nat), j < l.length → l[j]? = ops[k + j]?) → s.Ok → Rel B A s ρ a w →
    aList P ops K l s → wpOps P ops Q ((List.range l.length).map (k + ·) ++ r) a w
  | [], _, _, _, _, _, _, ok, hR, h => hQ _ _ _ _ ok hR h
  | o :: l, k, s, ρ, a, w, hl, ok, hR, h => by
    have h0 : ops[k]? = some o := by simpa using (hl 0 (by simp)).symm
    have e : (List.range (o :: l).length).map (k + ·) = k :: (List.range l.length).map (k + 1 + ·) := by
      rw [List.length_cons, List.range_succ_eq_map, List.map_cons, List.map_map]
      congr 1
      apply List.map_congr_left
      intro j _
      simp [Nat.add_assoc, Nat.add_comm 1 j]
    rw [e, List.cons_append, wpOps_cons]
    refine aOp_sound h0 ok hR h fun s' ρ' a' w' ok' hR' hk => aList_then hQ l (k + 1) s' ρ' a' w' (fun j hj => by have := hl (j + 1) (by simp; omega); simpa [Nat.add_assoc, Nat.add_comm 1 j] using this) ok' hR' hk
/-- the type of a row's things: what an append asks of it. -/
def rowTyB (P : Program) (tt e sz bytes : Nat) : Bool := match P.underlying tt, P.info? e with
  | some (.slice e'), some i => match i.zero with
    | some z => Nat.beq e' e && Nat.beq i.size sz && Nat.beq i.bytes bytes && Nat.beq z.cells.size sz && Nat.blt 0 sz
    | none => false
  | _, _ => false
class RowTy (P : Program) (tt : TypeId) (e sz bytes : outParam Nat) : Prop where
  h : rowTyB P tt e sz bytes = true
theorem rowTy_spec {tt e sz bytes : Nat} (h : rowTyB P tt e sz bytes = true) : ∃ (i : TypeInfo) (z : Value), P.underlying tt = some (.slice e) ∧ P.info? e = some i ∧ i.zero = some z ∧ i.size = sz ∧ i.bytes = bytes ∧ z.cells.size = sz ∧ 0 < sz := by
  unfold rowTyB at h
  split at h
  · rename_i e' i hu hi
    split at h
    · rename_i z hz
      simp only [Bool.and_eq_true] at h
      obtain ⟨⟨⟨⟨h1, h2⟩, h3⟩, h4⟩, h5⟩ := h
      rw [Nat.eq_of_beq_eq_true h1] at hu
      exact ⟨i, z, hu, hi, hz, Nat.eq_of_beq_eq_true h2, Nat.eq_of_beq_eq_true h3, Nat.eq_of_beq_eq_true h4, by simpa [Nat.blt_eq] using h5⟩
    · cases h
  · cases h
/-- one append onto the hot row. -/
theorem HRel.app {B0 : Base} {A0 : Nat → Prop} {a : Act} {w : World} {tt ty bytes m d : Nat} {sx xx : Operand} {news : List Value} [R : RowTy P tt e sz bytes] (up : ∀ b, B0.W.heap.size ≤ b → A0 b) (hH : HRel B0 A0 e sz t s a w) (hd : d < s.n) (hsx : s.look sx = some (vC t.v)) (hxx : s.look xx = some (vS sz m (news.map .c))) (hm0 : 0 < m ∨ 0 < t.n) (hn1 : ∀ u ∈ news, u.oneCell' = true) (hmax : t.n + m ≤ maxLen) (hbyt : (t.n + m) * bytes ≤ 140737488355328) :
    ∃ v' w2, (Builtin.append_ #[tt, tt] ty #[a.eval sx, a.eval xx]).run P w = .ok v' w2 ∧ v'.oneCell' = true ∧ HRel B0 A0 e sz ⟨v', t.n + m, t.xs ++ news⟩ (s.put (some d) (vC v')) (a.put (some d) v') w2 := by
  obtain ⟨i, z, ht, hi, hz, hsize, hby, hzs, hsz⟩ := rowTy_spec R.h
  obtain ⟨A, ρ, hA, hR, hown, hb, ho, hg, h1, han⟩ := hH
  have hv1 : a.eval sx = t.v := (hR.look hsx).1
  have hvo := (hR.look hsx).2
  obtain ⟨⟨Ax, cx, ex, hcx, hlx, hAx⟩, hUx⟩ := hR.look hxx
  rcases Nat.eq_zero_or_pos m with rfl | hmp
  · have hn : 0 < t.n := by rcases hm0 with h | h; exact absurd h (Nat.lt_irrefl _); exact h
    have hnews : news = [] := by
      have := hlx
      simp at this
      exact this
    subst hnews
    refine ⟨t.v, w, ?_, hvo, A, ρ, hA, hR.put (dst := some d) (fun d' e => by cases e; exact hd) ⟨rfl, hvo⟩, hown, hb, by simpa using ho, hg, by simpa using h1, han⟩
    rw [hv1, ex]
    rcases ho.2 with ⟨_, h0⟩ | ⟨g, cap, cur, hv, hbg, hgg, hnc, hcm, hcs, htake⟩
    · omega
    · rw [hv]
      cases Ax with
      | none => simp [Builtin.append_, run_underlying ht, sizeOf, typeInfo, hi, Builtin.lenOf, Builtin.firstCells, hnc, storeCells]
      | some ax => simp [Builtin.append_, run_underlying ht, sizeOf, typeInfo, hi, Builtin.lenOf, Builtin.firstCells, hnc, storeCells, loadCells, loadCellsFrom]
  · obtain ⟨ax, vs, rfl, hcs⟩ := hAx hmp
    have hvs : vs = news := by
      apply List.ext_getElem?
      intro j
      have hll := hcs.rp.1
      simp at hll
      rcases Nat.lt_or_ge j news.length with hj | hj
      · have h2 := hcs.rp.2 j (.c news[j]) (vs[j]'(by omega)) (by simp [hj]) (List.getElem?_eq_getElem _)
        rw [List.getElem?_eq_getElem (by omega : j < vs.length), List.getElem?_eq_getElem hj, h2.1]
      · rw [List.getElem?_eq_none hj, List.getElem?_eq_none (by omega)]
    subst hvs
    obtain ⟨v', w2, hrun, ho2, hgr, hblk, hone⟩ := run_append_own2 (P := P) w B0.W.heap.size tt ty e i z sz bytes ht hi hz hsize hby hzs hsz t.v t.n t.xs ho ax m cx vs (by simpa using hlx) hcs.at_ hn1 hmax hbyt hb.size hmp
    refine ⟨v', w2, by rw [hv1, ex]; exact hrun, hone, fun b => (A b ∧ b < w.heap.size) ∨ w2.heap.size ≤ b, ρ, ?_, ?_, hown, ⟨hgr.os.trans hb.os, hgr.tape.trans hb.tape, hgr.output.trans hb.output, Nat.le_trans hb.size hgr.size, fun b hf => ?_⟩, ho2, fun g hg' => ⟨?_, fun k cs hk => ?_⟩, ?_, han⟩
    · rintro b (h | h)
      · exact hA b h.1
      · exact up b (by have := hb.size; have := hgr.size; omega)
    · have hA2 : Rel (hbase s ρ w2) (fun b => (A b ∧ b < w.heap.size) ∨ w2.heap.size ≤ b) s ρ a w2 :=
        hR.anew (fun b hb' hl' => ⟨.inl ⟨hb', hl'⟩, hgr.block b hl' fun e => (hg b e.symm).1 hb'⟩) (fun k cs hk => ⟨hgr.block _ (hR.lt hk) fun e => (hg _ e.symm).2 k cs hk rfl, fun hf => hf.2 k cs hk rfl⟩) (BelowB.refl _) (fun b h => .inr h) (hbase_anch _ _ _)
      exact hA2.put (dst := some d) (fun d' e => by cases e; exact hd) ⟨rfl, hone⟩
    · refine (hgr.block b (Nat.lt_of_lt_of_le (B0.lt b hf) hb.size) fun e => ?_).trans (hb.block b hf)
      have := (ho.lt b e.symm).1
      have := B0.lt b hf
      omega
    · rintro (h | h)
      · rcases hblk g hg' with q | q
        · exact (hg g q).1 h.1
        · omega
      · have := (ho2.lt g hg').2
        omega
    · rcases hblk g hg' with q | q
      · exact (hg g q).2 k cs hk
      · have := hR.lt hk
        omega
    · intro u hu
      rcases List.mem_append.1 hu with q | q
      · exact h1 u q
      · exact hn1 u q
def cutL : Nat → List Oper → Option (List Oper × List Oper)
  | 0, l => some ([], l)
  | k + 1, o :: l => match cutL k l with
    | some (a, b) => some (o :: a, b)
    | none => none
  | _ + 1, [] => none
theorem cutL_spec : ∀ (k : Nat) (l a b : List Oper), cutL k l = some (a, b) → l = a ++ b
  | 0, l, a, b, h => by cases h; rfl
  | k + 1, [], a, b, h => by cases h
  | k + 1, o :: l, a, b, h => by
    simp only [cutL] at h
    split at h
    · rename_i a' b' hc
      cases h
      have := cutL_spec k l _ _ hc
      rw [this]
      rfl
    · cases h
/-- a region with one append onto the hot row. -/
theorem hwp_append {ri k : Nat} {l l1 l2 : List Oper} {d : Nat} {sx xx : Operand} {tt ty : Nat} {pos : String} {after : Array Edge} {bytes : Nat} [R : RowTy P tt e sz bytes]
    (hcut : cutL k l = some (l1, ⟨some d, .call ⟨.builtin .append, #[sx, xx], #[tt, tt]⟩, ty, pos, after, none⟩ :: l2))
    (h : aList P l.toArray (fun s1 => d < s1.n ∧ s1.look sx = some (vC t.v) ∧ ∃ m news, s1.look xx = some (vS sz m (news.map .c)) ∧ (0 < m ∨ 0 < t.n) ∧ (∀ u ∈ news, u.oneCell' = true) ∧ t.n + m ≤ maxLen ∧ (t.n + m) * bytes ≤ 140737488355328 ∧
      ∀ v', v'.oneCell' = true → aList P l.toArray (fun s' => Q .normal ⟨v', t.n + m, t.xs ++ news⟩ s') l2 (s1.put (some d) (vC v'))) l1 s) : HWp P e sz (.region ri l.toArray false) Q t s := by
  intro ok B0 A0 a w up ⟨A, ρ, hA, hR, hown, hb, ho, hg, h1, han⟩
  have hl := cutL_spec _ _ _ _ hcut
  refine wp_region ?_
  have hlen : l.length = l1.length + (l2.length + 1) := by rw [hl]; simp
  have hr : List.range l.toArray.size = (List.range l1.length).map (0 + ·) ++ (l1.length :: (List.range l2.length).map (l1.length + 1 + ·)) := by
    rw [List.size_toArray, hlen, List.range_add]
    congr 1
    · simp
    · rw [List.range_succ_eq_map, List.map_cons, List.map_map]
      congr 1
      apply List.map_congr_left
      intro j _
      simp [Nat.add_assoc, Nat.add_comm 1 j]
  rw [hr]
  refine aList_then ?_ l1 0 s ρ a w (fun j hj => by rw [hl]; simp [List.getElem?_append_left hj]) ok hR h
  rintro s1 ρ1 a1 w1 ok1 hR1 ⟨hd, hsx, m, news, hxx, hm0, hn1, hmax, hbyt, hrest⟩
  have hoa : l.toArray[l1.length]? = some ⟨some d, .call ⟨.builtin .append, #[sx, xx], #[tt, tt]⟩, ty, pos, after, none⟩ := by rw [hl]; simp
  rw [wpOps_cons]
  unfold wpOp
  rw [hoa]
  simp only [Region.wanted, if_true]
  left
  obtain ⟨v', w2, hrun, hone, hH2⟩ := HRel.app (P := P) (tt := tt) (bytes := bytes) (ty := ty) (d := d) up (HRel.next hA hown hb ho hg h1 han hR1) hd hsx hxx hm0 hn1 hmax hbyt
  refine Oper.wp_value (v := v') (w' := w2) ?_ ?_
  · simp only [execOp, resolve, invoke, builtin, Sem.run_bind, Sem.run_pure, Result.andThen_ok, List.map_toArray, List.map_cons, List.map_nil, hrun]
  obtain ⟨A2, ρ2, hA2, hR2, hown2, hb2, ho2, hg2, h12, han2⟩ := hH2
  have ok3 : (s1.put (some d) (vC v')).Ok := ok1.put fun j hj => absurd hj (noown _ j)
  have := aList_then (P := P) (ops := l.toArray) (r := []) (Q := fun x a' w' => ∃ t' s', s'.Ok ∧ HRel B0 A0 e sz t' s' a' w' ∧ Q x t' s') (fun s' ρ' a' w' ok' hR' hk => ⟨⟨v', t.n + m, t.xs ++ news⟩, s', ok', HRel.next (t := ⟨v', t.n + m, t.xs ++ news⟩) hA2 hown2 hb2 ho2 hg2 h12 han2 hR', hk⟩) l2 (l1.length + 1) _ ρ2 _ w2 (fun j hj => by rw [hl]; simp [List.getElem?_append_right, Nat.add_assoc, Nat.add_comm 1 j]) ok3 hR2 (hrest v' hone)
  simpa using this
theorem hthen_normal {next : Hot → AS → Prop} (h : next t s) : hthen next Q .normal t s := h
theorem hthen_exit {next : Hot → AS → Prop} {i : Nat} (h : Q (.exit i) t s) : hthen next Q (.exit i) t s := h
theorem hblock_normal {i : Nat} (h : Q .normal t s) : hblock i Q .normal t s := h
theorem hblock_ne {i j : Nat} (hne : Nat.beq j i = false) (h : Q (.exit j) t s) : hblock i Q (.exit j) t s := by simp only [hblock, hne, cond_false]; exact h
theorem hblock_same {i : Nat} (h : Q .normal t s) : hblock i Q (.exit i) t s := by simp only [hblock, Nat.beq_refl, cond_true]; exact h
end
end Go.Proofs.Ytpopeipcjpfbaaa
