/-
  States without addresses: a row of the frame's own that grows by append (the hot row), held beside a state. My own text.
-/
import Derived.Test.YtljkapolljgbiaaAbsS
import Derived.Laws.AppendOwn
namespace Go.Proofs.Ytljkapolljgbiaa
open Go.RowKit
set_option linter.unusedVariables false
set_option linter.unusedSimpArgs false
/-- the hot row: its slice, how many things, their cells. -/
structure Hot where
  v : Value
  n : Nat
  xs : List Value
theorem grown_below {w w' : World} (h : Below w.heap.size w w') : w.grownBy w' none := ⟨h.os, h.tape, h.output, h.size, fun k hk _ => h.block k hk⟩
section
variable {P : Program} {B : World} {A A' : Nat → Prop} {s s' : AS} {ρ : Nat → Nat} {a : Act} {w w' : World}
theorem RpV.noown {U U' : Nat → Prop} {av : AV} {v : Value} (ok : s.Ok) (hm : ∀ k, s.mem k = none) {t : Nat} (ht : s.tmps t = some av) (h : RpV U ρ w av v) (hU : ∀ b, U b → b < w.heap.size → U' b ∧ w'.heap[b]? = w.heap[b]?) : RpV U' id w' av v :=
  h.map hU fun j hj => by
    obtain ⟨cs, hc⟩ := ok.tm t av j ht hj
    rw [hm j] at hc
    cases hc
/-- no blocks of its own: the state is told anew, of another world. -/
theorem Rel.anew (h : Rel B A s ρ a w) (ok : s.Ok) (hm : ∀ k, s.mem k = none) (hU : ∀ b, A b → b < w.heap.size → A' b ∧ w'.heap[b]? = w.heap[b]?) (hup : ∀ b, w'.heap.size ≤ b → A' b) : Rel w' A' s id a w' := by
  refine ⟨h.nodef, h.size, fun t av ht => ?_, fun k cs hk => ?_, fun k k' c c' hk => ?_, Below.refl _ _, hup⟩
  · obtain ⟨v, h1, h2⟩ := h.tm t av ht
    refine ⟨v, h1, h2.noown ok hm ht fun b hb hl => ?_⟩
    obtain ⟨h3, h4⟩ := hU b hb.1 hl
    exact ⟨⟨h3, fun k cs hk => by rw [hm k] at hk; cases hk⟩, h4⟩
  · rw [hm k] at hk; cases hk
  · rw [hm k] at hk; cases hk
theorem Rel.retell {d : Nat} {av bv : AV} (h : Rel B A s ρ a w) (hd : s.tmps d = some bv) (hv : ∀ v, a.tmps[d]? = some v → RpV (s.free A ρ) ρ w bv v → RpV (s.free A ρ) ρ w av v) : Rel B A (s.put (some d) av) ρ a w := by
  refine ⟨h.nodef, h.size, fun t cv ht => ?_, h.mm, h.inj, h.below, h.up⟩
  simp only [AS.put] at ht
  by_cases e : t = d
  · subst e
    rw [upd_same] at ht
    cases ht
    obtain ⟨v, h1, h2⟩ := h.tm t bv hd
    exact ⟨v, h1, hv v h1 h2⟩
  · rw [upd_ne _ _ e] at ht
    exact h.tm t cv ht
end
/-- what holds of a frame with a hot row: the row is no one's but the frame's. -/
def HRel (B0 : World) (A0 : Nat → Prop) (e sz : Nat) (t : Hot) (s : AS) (a : Act) (w : World) : Prop :=
  ∃ A, (∀ b, A b → A0 b) ∧ Rel w A s id a w ∧ (∀ k, s.mem k = none) ∧ Below B0.heap.size B0 w ∧ w.ownsRow B0.heap.size e sz t.v t.n t.xs ∧ (∀ g, t.v.ownBlock = some g → ¬ A g) ∧ ∀ u ∈ t.xs, u.oneCell' = true
def HWp (P : Program) (e sz : Nat) (c : Code) (Q : Exit → Hot → AS → Prop) (t : Hot) (s : AS) : Prop :=
  s.Ok → ∀ B0 A0 a w, (∀ b, B0.heap.size ≤ b → A0 b) → HRel B0 A0 e sz t s a w → c.wp P (fun x a' w' => ∃ t' s', s'.Ok ∧ HRel B0 A0 e sz t' s' a' w' ∧ Q x t' s') a w
def hthen (next : Hot → AS → Prop) (Q : Exit → Hot → AS → Prop) : Exit → Hot → AS → Prop
  | .normal, t, s => next t s
  | e, t, s => Q e t s
def hblock (id : Nat) (Q : Exit → Hot → AS → Prop) : Exit → Hot → AS → Prop
  | .exit id', t, s => bif Nat.beq id' id then Q .normal t s else Q (.exit id') t s
  | e, t, s => Q e t s
section
variable {P : Program} {e sz : Nat} {t : Hot} {s : AS} {Q : Exit → Hot → AS → Prop} {x y c : Code}
theorem HRel.le {B0 : World} {A0 : Nat → Prop} {s' : AS} {a : Act} {w : World} (h : HRel B0 A0 e sz t s a w) (l : s.Le s') : HRel B0 A0 e sz t s' a w := by
  obtain ⟨A, hA, hR, hm, hb, ho, hg, h1⟩ := h
  refine ⟨A, hA, hR.le l, fun k => ?_, hb, ho, hg, h1⟩
  cases hk : s'.mem k with
  | none => rfl
  | some cs => have := l.mm k cs hk; rw [hm k] at this; cases this
theorem HRel.next {B0 : World} {A0 A : Nat → Prop} {a' : Act} {w w' : World} {s' : AS} {ρ' : Nat → Nat} (up : ∀ b, B0.heap.size ≤ b → A0 b) (hA : ∀ b, A b → A0 b) (hb : Below B0.heap.size B0 w) (ho : w.ownsRow B0.heap.size e sz t.v t.n t.xs) (hg : ∀ g, t.v.ownBlock = some g → ¬ A g) (h1 : ∀ u ∈ t.xs, u.oneCell' = true)
    (ok' : s'.Ok) (hR' : Rel w A s' ρ' a' w') (hm' : ∀ k, s'.mem k = none) : HRel B0 A0 e sz t s' a' w' := by
  refine ⟨fun b => A b ∨ w'.heap.size ≤ b, ?_, hR'.anew ok' hm' (fun b h _ => ⟨.inl h, rfl⟩) (fun b h => .inr h), hm', hb.trans (hR'.below.mono hb.size), ho.kept (grown_below hR'.below) (by cases hv : t.v.ownBlock <;> simp), ?_, h1⟩
  · rintro b (h | h)
    · exact hA b h
    · exact up b (by have := hb.size; have := hR'.below.size; omega)
  · rintro g hg' (h | h)
    · exact hg g hg' h
    · have := (ho.lt g hg').2
      have := hR'.below.size
      omega
/-- code that leaves the hot row alone. -/
theorem hwp_awp (h : AWp P c (fun x s' => (∀ k, s'.mem k = none) ∧ Q x t s') s) : HWp P e sz c Q t s := by
  intro ok B0 A0 a w up ⟨A, hA, hR, hm, hb, ho, hg, h1⟩
  refine wp_mono (h ok w A id a w hR) ?_
  rintro x a' w' ⟨s', ρ', ok', hR', hm', hq⟩
  exact ⟨t, s', ok', HRel.next up hA hb ho hg h1 ok' hR' hm', hq⟩
theorem hwp_seq (h : HWp P e sz x (hthen (fun t s => HWp P e sz y Q t s) Q) t s) : HWp P e sz (.seq x y) Q t s := by
  intro ok B0 A0 a w up hH
  refine wp_seq (wp_mono (h ok B0 A0 a w up hH) ?_)
  rintro x a' w' ⟨t', s', ok', hH', hq⟩
  cases x <;> first | exact hq ok' B0 A0 a' w' up hH' | exact ⟨t', s', ok', hH', hq⟩
theorem hwp_block {id : Nat} (h : HWp P e sz x (hblock id Q) t s) : HWp P e sz (.block id x) Q t s := by
  intro ok B0 A0 a w up hH
  refine wp_block (wp_mono (h ok B0 A0 a w up hH) ?_)
  rintro x a' w' ⟨t', s', ok', hH', hq⟩
  cases x with
  | exit id' =>
    simp only [Exit.inBlock]
    simp only [hblock] at hq
    cases hb : Nat.beq id' id with
    | true => rw [hb] at hq; rw [if_pos (Nat.eq_of_beq_eq_true hb)]; exact ⟨t', s', ok', hH', hq⟩
    | false =>
      rw [hb] at hq
      have : id' ≠ id := fun e => by subst e; rw [Nat.beq_refl] at hb; cases hb
      rw [if_neg this]; exact ⟨t', s', ok', hH', hq⟩
  | _ => exact ⟨t', s', ok', hH', hq⟩
theorem hwp_loopL (N : Nat) (I : Nat → Hot → List (Nat × AV) → Prop) (k : Nat) (ts : List (Nat × AV)) (hI : I k t ts) (hn : N = s.n) (ht : allT s.tmps ts) (hok : okB ts [] = true)
    (round : ∀ k t ts, I k t ts → okB ts [] = true → HWp P e sz x (hthen (fun t' s' => ∃ k' ts', k' < k ∧ I k' t' ts' ∧ N = s'.n ∧ allT s'.tmps ts' ∧ okB ts' [] = true) Q) t (mkS N ts [])) : HWp P e sz (.loop x) Q t s := by
  intro ok B0 A0 a w up hH
  refine wp_loop_n (fun k a w => ∃ t ts, I k t ts ∧ okB ts [] = true ∧ HRel B0 A0 e sz t (mkS N ts []) a w) (n := k) ⟨t, ts, hI, hok, hH.le (mkS_le hn ht trivial)⟩ ?_
  rintro k a w ⟨t, ts, hI, ok, hH⟩
  refine wp_mono (round k t ts hI ok (mkS_ok ok) B0 A0 a w up hH) ?_
  rintro x a' w' ⟨t', s', ok', hH', hq⟩
  cases x with
  | normal =>
    obtain ⟨k', ts', h1, h2, h3, h4, h5⟩ := hq
    exact ⟨k', h1, t', ts', h2, h5, hH'.le (mkS_le h3 h4 trivial)⟩
  | _ => exact ⟨t', s', ok', hH', hq⟩
/-- code that begins with no hot row, and gives it up in the end. -/
theorem awp_hot {Q : Exit → AS → Prop} (e sz : Nat) (hm : ∀ k, s.mem k = none) (h : HWp P e sz c (fun x t s' => ∃ d, s'.tmps d = some (vC t.v) ∧ Q x (s'.put (some d) (vS sz t.n (t.xs.map .c)))) ⟨.slice none 0 0, 0, []⟩ s) : AWp P c Q s := by
  intro ok B A ρ a w hR
  have hH : HRel B A e sz ⟨.slice none 0 0, 0, []⟩ s a w := ⟨A, fun _ h => h, hR.anew ok hm (fun b h _ => ⟨h, rfl⟩) (fun b h => hR.up b (Nat.le_trans hR.below.size h)), hm, hR.below, World.ownsRow_nil w B.heap.size e sz, fun g hg => (by cases hg), fun u hu => (by cases hu)⟩
  refine wp_mono (h ok B A a w hR.up hH) ?_
  rintro x a' w' ⟨t', s', ok', ⟨A1, hA1, hR1, hm1, hb1, ho1, hg1, hone1⟩, d, hd, hq⟩
  refine ⟨_, id, ok'.put fun j hj => absurd hj (noownp _ j), ?_, hq⟩
  have hR2 : Rel B A s' id a' w' := by
    refine ⟨hR1.nodef, hR1.size, fun t av ht => ?_, fun k cs hk => ?_, fun k k' c c' hk => ?_, hb1, hR.up⟩
    · obtain ⟨v, q1, q2⟩ := hR1.tm t av ht
      exact ⟨v, q1, q2.noown ok' hm1 ht fun b hb _ => ⟨⟨hA1 b hb.1, fun k cs hk => by rw [hm1 k] at hk; cases hk⟩, rfl⟩⟩
    · rw [hm1 k] at hk; cases hk
    · rw [hm1 k] at hk; cases hk
  refine hR2.retell hd fun v hv1 hv2 => ?_
  obtain ⟨rfl, h1c⟩ := hv2
  obtain ⟨hl, hn | ⟨g, cap, cur, hgv, hbg, hheap, hnc, hcm, hcs, htake⟩⟩ := ho1
  · obtain ⟨e1, e2⟩ := hn
    rw [e1]
    exact ⟨⟨none, 0, by rw [e2], by omega, by simpa using hl, fun h => absurd h (by omega)⟩, fun b ⟨c', a', q, hn, hb⟩ => by cases q⟩
  · have hone : ∀ (j : Nat) u, t'.xs[j]? = some u → w'.cell? ((⟨g, 0, none⟩ : Addr).add j) = some u := World.ownsRow.cells ⟨hl, .inr ⟨g, cap, cur, hgv, hbg, hheap, hnc, hcm, hcs, htake⟩⟩ (by rw [hgv]; rfl)
    rw [hgv]
    refine ⟨⟨some ⟨g, 0, none⟩, cap, rfl, hnc, by simpa using hl, fun hn => ⟨⟨g, 0, none⟩, t'.xs, rfl, (Array.getElem?_eq_some_iff.1 hheap).1, ⟨by simp, fun i y v hy hv => ?_⟩, hone, fun y hy => ?_⟩⟩, ?_⟩
    · rw [List.getElem?_map, hv] at hy
      cases hy
      exact ⟨rfl, hone1 v (List.mem_of_getElem? hv)⟩
    · obtain ⟨v, _, rfl⟩ := List.mem_map.1 hy
      rfl
    · rintro b ⟨c', a', q, hn, hf⟩
      cases q
      rcases hf with rfl | ⟨j, y, v, hy, hv, hfo⟩
      · exact ⟨hR.up _ hbg, fun k cs hk => by rw [hm1 k] at hk; cases hk⟩
      · rw [List.getElem?_map] at hy
        cases hq' : t'.xs[j]? with
        | none => rw [hq'] at hy; cases hy
        | some u => rw [hq'] at hy; cases hy; cases hfo
/-- append onto a row of one's own: it stays where it is, or lies in new memory. -/
theorem run_append_own2 (w : World) (base : Nat) (t ty e : TypeId) (i : TypeInfo) (z : Value) (size bytes : Nat) (ht : P.underlying t = some (.slice e)) (hi : P.info? e = some i) (hz : i.zero = some z)
    (hsize : i.size = size) (hby : i.bytes = bytes) (hzs : z.cells.size = size) (hsz : 0 < size)
    (v : Value) (n : Nat) (xs : List Value) (hown : w.ownsRow base e size v n xs)
    (a : Addr) (m c : Nat) (news : List Value) (hl : news.length = m * size) (hnews : ∀ j u, news[j]? = some u → w.cell? (a.add j) = some u) (h1 : ∀ u ∈ news, u.oneCell' = true)
    (h63 : n + m ≤ maxLen) (hbytes : (n + m) * bytes ≤ 140737488355328) (hbase : base ≤ w.heap.size) (hm : 0 < m) :
    ∃ v' w', (Builtin.append_ #[t, t] ty #[v, .slice (some a) m c]).run P w = .ok v' w' ∧ w'.ownsRow base e size v' (n + m) (xs ++ news) ∧ w.grownBy w' v.ownBlock ∧ (∀ g, v'.ownBlock = some g → v.ownBlock = some g ∨ w.heap.size ≤ g) ∧ v'.oneCell' = true := by
  obtain ⟨v', w', hr, h2, h3, h4⟩ := run_append_own (P := P) w base t ty e i z size bytes ht hi hz hsize hby hzs hsz v n xs hown a m c news hl hnews h1 h63 hbytes hbase
  refine ⟨v', w', hr, h2, h3, ?_, ?_⟩
  · have hsmall : n + m ≤ 9223372036854775807 := by simp only [maxLen] at h63; omega
    rcases hown.2 with ⟨rfl, rfl⟩ | ⟨g, cap, cur, rfl, hbg, hg, hnc, hcm, hcs, htake⟩
    · have hx : xs = [] := List.eq_nil_of_length_eq_zero (by simpa using hown.1)
      subst hx
      have := run_append_nil (P := P) w t ty e i z ht hi hz a m c news (by rw [hsize]; exact hl) hnews hm (by omega) (by rw [hby]; simp only [Nat.zero_add] at hbytes; omega)
      rw [this] at hr
      cases hr
      intro g hg
      simp [Value.ownBlock] at hg
      exact .inr (by omega)
    · by_cases hroom : n + m ≤ cap
      · have hfit : n * i.size + news.length ≤ cur.size := by rw [hsize, hl, hcs, ← Nat.add_mul]; exact Nat.mul_le_mul_right _ hroom
        have := run_append_room (P := P) w t ty e i ht hi g n cap cur hg a m c news (by rw [hsize]; exact hl) hnews h1 hroom hfit
        rw [this] at hr
        cases hr
        intro g' hg'
        exact .inl hg'
      · have holds : ∀ j u, xs[j]? = some u → w.cell? ((⟨g, 0, none⟩ : Addr).add j) = some u := hown.cells (g := g) rfl
        have := run_append_grow (P := P) w t ty e i z ht hi hz ⟨g, 0, none⟩ n cap xs (by rw [hsize]; exact hown.1) holds a m c news (by rw [hsize]; exact hl) hnews (by omega) (by omega) (growslice_fits (by omega) (by rw [hby]; exact hbytes))
        rw [this] at hr
        cases hr
        intro g' hg'
        simp [Value.ownBlock] at hg'
        exact .inr (by omega)
  · rcases h2.2 with ⟨rfl, _⟩ | ⟨g, cap, cur, rfl, _⟩ <;> rfl
theorem aList_then {B : World} {A : Nat → Prop} {ops : Array Oper} {K : AS → Prop} {Q : Exit → Act → World → Prop} {r : List Nat} (hQ : ∀ s' ρ' a' w', s'.Ok → Rel B A s' ρ' a' w' → K s' → wpOps P ops Q r a' w') : ∀ (l : List Oper) (k : Nat) (s : AS) (ρ : Nat → Nat) (a : Act) (w : World), (∀ (j : Nat), j < l.length → l[j]? = ops[k + j]?) → s.Ok → Rel B A s ρ a w →
    aList P ops K l s → wpOps P ops Q ((List.range l.length).map (k + ·) ++ r) a w
  | [], _, _, _, _, _, _, ok, hR, h => hQ _ _ _ _ ok hR h
  | o :: l, k, s, ρ, a, w, hl, ok, hR, h => by
    have h0 : ops[k]? = some o := by simpa using (hl 0 (by simp)).symm
    have e : (List.range (o :: l).length).map (k + ·) = k :: (List.range l.length).map (k + 1 + ·) := by
      rw [List.length_cons, List.range_succ_eq_map, List.map_cons, List.map_map]
      congr 1
      apply List.map_congr_left
      intro j _
      simp [Nat.add_assoc, Nat.add_comm 1 j]
    rw [e, List.cons_append, wpOps_cons]
    refine aOp_sound h0 ok hR h fun s' ρ' a' w' ok' hR' hk => aList_then hQ l (k + 1) s' ρ' a' w' (fun j hj => by have := hl (j + 1) (by simp; omega); simpa [Nat.add_assoc, Nat.add_comm 1 j] using this) ok' hR' hk
/-- a region with one append onto the hot row. -/
theorem hwp_app {ri : Nat} {l l1 l2 : List Oper} {d : Nat} {sx xx : Operand} {tt ty : Nat} {pos : String} {after : Array Edge} {bytes : Nat} {i : TypeInfo} {z : Value}
    (hl : l = l1 ++ ⟨some d, .call ⟨.builtin .append, #[sx, xx], #[tt, tt]⟩, ty, pos, after, none⟩ :: l2)
    (ht : P.underlying tt = some (.slice e)) (hi : P.info? e = some i) (hz : i.zero = some z) (hsize : i.size = sz) (hby : i.bytes = bytes) (hzs : z.cells.size = sz) (hsz : 0 < sz)
    (h : aList P l.toArray (fun s1 => (∀ k, s1.mem k = none) ∧ d < s1.n ∧ s1.look sx = some (vC t.v) ∧ ∃ m news, s1.look xx = some (vS sz m (news.map .c)) ∧ 0 < m ∧ (∀ u ∈ news, u.oneCell' = true) ∧ t.n + m ≤ maxLen ∧ (t.n + m) * bytes ≤ 140737488355328 ∧
      ∀ v', v'.oneCell' = true → aList P l.toArray (fun s' => (∀ k, s'.mem k = none) ∧ Q .normal ⟨v', t.n + m, t.xs ++ news⟩ s') l2 (s1.put (some d) (vC v'))) l1 s) : HWp P e sz (.region ri l.toArray false) Q t s := by
  intro ok B0 A0 a w up ⟨A, hA, hR, hm, hb, ho, hg, h1⟩
  refine wp_region ?_
  have hlen : l.length = l1.length + (l2.length + 1) := by rw [hl]; simp
  have hr : List.range l.toArray.size = (List.range l1.length).map (0 + ·) ++ (l1.length :: (List.range l2.length).map (l1.length + 1 + ·)) := by
    rw [List.size_toArray, hlen, List.range_add]
    congr 1
    · simp
    · rw [List.range_succ_eq_map, List.map_cons, List.map_map]
      congr 1
      apply List.map_congr_left
      intro j _
      simp [Nat.add_assoc, Nat.add_comm 1 j]
  rw [hr]
  refine aList_then (B := w) (A := A) ?_ l1 0 s id a w (fun j hj => by rw [hl]; simp [List.getElem?_append_left hj]) ok hR h
  rintro s1 ρ1 a1 w1 ok1 hR1 ⟨hm1, hd, hsx, m, news, hxx, hm0, hn1, hmax, hbyt, hrest⟩
  have hoa : l.toArray[l1.length]? = some ⟨some d, .call ⟨.builtin .append, #[sx, xx], #[tt, tt]⟩, ty, pos, after, none⟩ := by rw [hl]; simp
  rw [wpOps_cons]
  unfold wpOp
  rw [hoa]
  simp only [Region.wanted, if_true]
  left
  have hb1 := hR1.below
  have ho1 : w1.ownsRow B0.heap.size e sz t.v t.n t.xs := ho.kept (grown_below hb1) (by cases hv : t.v.ownBlock <;> simp)
  have hv1 : a1.eval sx = t.v := (hR1.look hsx).1
  obtain ⟨⟨Ax, cx, ex, hcx, hlx, hAx⟩, hUx⟩ := hR1.look hxx
  obtain ⟨ax, vs, rfl, hcs⟩ := hAx hm0
  have hvs : vs = news := by
    apply List.ext_getElem?
    intro j
    have hll := hcs.rp.1
    simp at hll
    rcases Nat.lt_or_ge j news.length with hj | hj
    · have h2 := hcs.rp.2 j (.c news[j]) (vs[j]'(by omega)) (by simp [hj]) (List.getElem?_eq_getElem _)
      rw [List.getElem?_eq_getElem (by omega : j < vs.length), List.getElem?_eq_getElem hj, h2.1]
    · rw [List.getElem?_eq_none hj, List.getElem?_eq_none (by omega)]
  subst hvs
  obtain ⟨v', w2, hrun, ho2, hgr, hblk, hone⟩ := run_append_own2 (P := P) w1 B0.heap.size tt ty e i z sz bytes ht hi hz hsize hby hzs hsz t.v t.n t.xs ho1 ax m cx vs (by simpa using hlx) hcs.at_ hn1 hmax hbyt (Nat.le_trans hb.size hb1.size) hm0
  refine Oper.wp_value (v := v') (w' := w2) ?_ ?_
  · simp only [execOp, resolve, invoke, builtin, Sem.run_bind, Sem.run_pure, Result.andThen_ok, List.map_toArray, List.map_cons, List.map_nil, hv1, ex, hrun]
  have hA2 : Rel w2 (fun b => (A b ∧ b < w1.heap.size) ∨ w2.heap.size ≤ b) s1 id a1 w2 := by
    refine hR1.anew ok1 hm1 (fun b hb' hl' => ⟨.inl ⟨hb', hl'⟩, hgr.block b hl' fun e => ?_⟩) fun b h => .inr h
    exact hg b e.symm hb'
  have hA3 := hA2.put (dst := some d) (av := vC v') (v := v') (fun d' e => by cases e; exact hd) ⟨rfl, hone⟩
  have ok3 : (s1.put (some d) (vC v')).Ok := ok1.put fun j hj => absurd hj (noown _ j)
  have hsub : ∀ b, ((A b ∧ b < w1.heap.size) ∨ w2.heap.size ≤ b) → A0 b := by
    rintro b (h | h)
    · exact hA b h.1
    · exact up b (by have := hb.size; have := hb1.size; have := hgr.size; omega)
  have hbel : Below B0.heap.size B0 w2 := by
    refine (hb.trans (hb1.mono hb.size)).trans ⟨hgr.os, hgr.tape, hgr.output, hgr.size, fun k hk => hgr.block k (by have := hb.size; have := hb1.size; omega) fun e => ?_⟩
    have := (ho1.lt k e.symm).1
    omega
  have hg2 : ∀ g, v'.ownBlock = some g → ¬ ((A g ∧ g < w1.heap.size) ∨ w2.heap.size ≤ g) := by
    rintro g hg' (h | h)
    · rcases hblk g hg' with q | q
      · exact hg g q h.1
      · omega
    · have := (ho2.lt g hg').2
      omega
  have h12 : ∀ u ∈ t.xs ++ vs, u.oneCell' = true := fun u hu => by
    rcases List.mem_append.1 hu with q | q
    · exact h1 u q
    · exact hn1 u q
  have := aList_then (P := P) (B := w2) (ops := l.toArray) (r := []) (Q := fun x a' w' => ∃ t' s', s'.Ok ∧ HRel B0 A0 e sz t' s' a' w' ∧ Q x t' s') (fun s' ρ' a' w' ok' hR' hk => ⟨⟨v', t.n + m, t.xs ++ vs⟩, s', ok', HRel.next (t := ⟨v', t.n + m, t.xs ++ vs⟩) up hsub hbel ho2 hg2 h12 ok' hR' hk.1, hk.2⟩) l2 (l1.length + 1) _ id _ w2 (fun j hj => by rw [hl]; simp [List.getElem?_append_right, Nat.add_assoc, Nat.add_comm 1 j]) ok3 hA3 (hrest v' hone)
  simpa using this
theorem hthen_normal {next : Hot → AS → Prop} (h : next t s) : hthen next Q .normal t s := h
theorem hthen_exit {next : Hot → AS → Prop} {i : Nat} (h : Q (.exit i) t s) : hthen next Q (.exit i) t s := h
theorem hblock_normal {i : Nat} (h : Q .normal t s) : hblock i Q .normal t s := h
theorem hblock_ne {i j : Nat} (hne : Nat.beq j i = false) (h : Q (.exit j) t s) : hblock i Q (.exit j) t s := by simp only [hblock, hne, cond_false]; exact h
theorem hblock_same {i : Nat} (h : Q .normal t s) : hblock i Q (.exit i) t s := by simp only [hblock, Nat.beq_refl, cond_true]; exact h
def cutL : Nat → List Oper → Option (List Oper × List Oper)
  | 0, l => some ([], l)
  | k + 1, o :: l => match cutL k l with
    | some (a, b) => some (o :: a, b)
    | none => none
  | _ + 1, [] => none
theorem cutL_spec : ∀ (k : Nat) (l a b : List Oper), cutL k l = some (a, b) → l = a ++ b
  | 0, l, a, b, h => by cases h; rfl
  | k + 1, [], a, b, h => by cases h
  | k + 1, o :: l, a, b, h => by
    simp only [cutL] at h
    split at h
    · rename_i a' b' hc
      cases h
      have := cutL_spec k l _ _ hc
      rw [this]
      rfl
    · cases h
/-- the type of a row's things: what an append asks of it. -/
def rowTyB (P : Program) (tt e sz bytes : Nat) : Bool := match P.underlying tt, P.info? e with
  | some (.slice e'), some i => match i.zero with
    | some z => Nat.beq e' e && Nat.beq i.size sz && Nat.beq i.bytes bytes && Nat.beq z.cells.size sz && Nat.blt 0 sz
    | none => false
  | _, _ => false
class RowTy (P : Program) (tt : TypeId) (e sz bytes : outParam Nat) : Prop where
  h : rowTyB P tt e sz bytes = true
theorem rowTy_spec {tt e sz bytes : Nat} (h : rowTyB P tt e sz bytes = true) : ∃ (i : TypeInfo) (z : Value), P.underlying tt = some (.slice e) ∧ P.info? e = some i ∧ i.zero = some z ∧ i.size = sz ∧ i.bytes = bytes ∧ z.cells.size = sz ∧ 0 < sz := by
  unfold rowTyB at h
  split at h
  · rename_i e' i hu hi
    split at h
    · rename_i z hz
      simp only [Bool.and_eq_true] at h
      obtain ⟨⟨⟨⟨h1, h2⟩, h3⟩, h4⟩, h5⟩ := h
      rw [Nat.eq_of_beq_eq_true h1] at hu
      exact ⟨i, z, hu, hi, hz, Nat.eq_of_beq_eq_true h2, Nat.eq_of_beq_eq_true h3, Nat.eq_of_beq_eq_true h4, by simpa [Nat.blt_eq] using h5⟩
    · cases h
  · cases h
theorem hwp_append {ri k : Nat} {l l1 l2 : List Oper} {d : Nat} {sx xx : Operand} {tt ty : Nat} {pos : String} {after : Array Edge} {bytes : Nat} [R : RowTy P tt e sz bytes]
    (hl : cutL k l = some (l1, ⟨some d, .call ⟨.builtin .append, #[sx, xx], #[tt, tt]⟩, ty, pos, after, none⟩ :: l2))
    (h : aList P l.toArray (fun s1 => (∀ k, s1.mem k = none) ∧ d < s1.n ∧ s1.look sx = some (vC t.v) ∧ ∃ m news, s1.look xx = some (vS sz m (news.map .c)) ∧ 0 < m ∧ (∀ u ∈ news, u.oneCell' = true) ∧ t.n + m ≤ maxLen ∧ (t.n + m) * bytes ≤ 140737488355328 ∧
      ∀ v', v'.oneCell' = true → aList P l.toArray (fun s' => (∀ k, s'.mem k = none) ∧ Q .normal ⟨v', t.n + m, t.xs ++ news⟩ s') l2 (s1.put (some d) (vC v'))) l1 s) : HWp P e sz (.region ri l.toArray false) Q t s := by
  obtain ⟨i, z, h1, h2, h3, h4, h5, h6, h7⟩ := rowTy_spec R.h
  exact hwp_app (cutL_spec _ _ _ _ hl) h1 h2 h3 h4 h5 h6 h7 h
end
end Go.Proofs.Ytljkapolljgbiaa
