/-
  A region that draws its order, holds calls, and ends in stores into cells that it loads: a load that comes up may be taken first, if what it reads is held till those stores come up, and each of them waits for it. My own text.
-/
import Derived.Deep.RegionHeld3
import Derived.StillTail
namespace Go.Proofs.Ytpopeipcjpfbaaa
open Go

section
variable {P : Program} {ops : Array Oper} {Q : Exit → Act → World → Prop} {md : Region.Mode} {S : World → Prop} {T : Nat → Bool}

/-- From here on in whatever order; S holds behind each operation but the late ones, which T names. -/
def Late (P : Program) (md : Region.Mode) (ops : Array Oper) (Q : Exit → Act → World → Prop) (S : World → Prop) (T : Nat → Bool) : Nat → Array Bool → Act → World → Prop
  | 0, l, a, w => Region.ready md ops l = [] ∧ Q .normal a w
  | n + 1, l, a, w => (Region.ready md ops l = [] → Q .normal a w) ∧ ∀ i ∈ Region.ready md ops l, wpOp P ops Q i (fun a' w' => (T i = true ∨ S w') ∧ Late P md ops Q S T n (l.setIfInBounds i true) a' w') a w

theorem Late.any {n : Nat} : ∀ {l : Array Bool} {a : Act} {w : World}, Late P md ops Q S T n l a w → wpAny P md ops Q n l a w := by
  induction n with
  | zero => exact fun h => h
  | succ n ih => exact fun h => ⟨h.1, fun i hi => wpOp_mono (fun _ _ k => ih k.2) (h.2 i hi)⟩

/-- What may come up waits for nothing that has not come up. -/
theorem no_wait {l : Array Bool} {i j : Nat} {oj : Oper} {e : Edge} (hun : l.getD i true = false) (hj : j ∈ Region.ready md ops l) (hoj : ops[j]? = some oj) (he : e ∈ oj.after) (hb : Region.binds md e = true) : e.on ≠ i := by
  rintro rfl
  obtain ⟨_, o, ho, hall⟩ := mem_ready.1 hj
  obtain rfl : oj = o := Option.some.inj (hoj.symm.trans ho)
  have h := hall e he hb
  cases hs : l[e.on]? with
  | none => simp [Array.getD_eq_getD_getElem?, hs] at hun
  | some b => simp [Array.getD_eq_getD_getElem?, hs] at hun h; rw [hun] at h; cases h

theorem un_set {l : Array Bool} {j m : Nat} (h : (l.setIfInBounds j true).getD m true = false) : l.getD m true = false := by
  by_cases e : j = m
  · subst e
    rw [Array.getD_eq_getD_getElem?, Array.getElem?_setIfInBounds] at h
    by_cases q : j < l.size
    · simp [q] at h
    · rw [if_pos rfl, if_neg q] at h; cases h
  · rw [getD_set_ne true e] at h; exact h
/-- One that may come up is taken first: every other one waits for it, or is apart from it; the late ones wait for it, or for number k, which waits for it. -/
theorem Late.first {i k : Nat} {oi : Oper} {v : Value} {U : Nat → Prop} (hi : ops[i]? = some oi) (hsel : ∀ (j : Nat) (o : Oper) cs b, ops[j]? = some o → o.op ≠ .select cs b)
    (hQ : ∀ c a w, Q (.panic c) (a.put oi.dst v) w → Q (.panic c) a w)
    (hap : ∀ j oj, U j → ops[j]? = some oj → j ≠ i → (∀ e ∈ oj.after, Region.binds md e = true → e.on ≠ i) → oi.apart ops oj = true)
    (hT : ∀ j oj, U j → T j = true → ops[j]? = some oj → ∃ e ∈ oj.after, Region.binds md e = true ∧ (e.on = i ∨ e.on = k))
    (hk : ∀ ok, ops[k]? = some ok → ∃ e ∈ ok.after, Region.binds md e = true ∧ e.on = i) (n : Nat) :
    ∀ (l : Array Bool) (a : Act) (w : World), (∀ j, l.getD j true = false → U j) → l.getD k true = false → i ∈ Region.ready md ops l → YieldsIf P ops S oi v a → S w →
      Late P md ops Q S T n (l.setIfInBounds i true) (a.put oi.dst v) w → Late P md ops Q S T (n + 1) l a w := by
  induction n with
  | zero =>
    intro l a w _ _ hr hy hS H
    refine ⟨fun h => absurd (h ▸ hr) (List.not_mem_nil), fun j hj => ?_⟩
    by_cases e : j = i
    · exact e ▸ hy.wpOp hi hS ⟨.inr hS, H⟩
    · exact absurd (H.1 ▸ ready_mono hj e) (List.not_mem_nil)
  | succ n ih =>
    intro l a w hU hl hr hy hS H
    have hun : l.getD i true = false := (mem_ready.1 hr).1
    refine ⟨fun h => absurd (h ▸ hr) (List.not_mem_nil), fun j hj => ?_⟩
    by_cases e : j = i
    · exact e ▸ hy.wpOp hi hS ⟨.inr hS, H⟩
    obtain ⟨_, oj, hoj, _⟩ := mem_ready.1 hj
    have hno : ∀ e ∈ oj.after, Region.binds md e = true → e.on ≠ i := fun e he hb => no_wait hun hj hoj he hb
    have hUj : U j := hU j (mem_ready.1 hj).1
    refine wpOp_mono (fun a' w' h => ?_) (wpOp_putIf hoj (hap j oj hUj hoj e hno) (fun cs b => hsel i oi cs b hi) (fun cs b => hsel j oj cs b hoj) hQ hy (H.2 j (ready_mono hj e)))
    obtain ⟨hy', ht | hS', H'⟩ := h
    · obtain ⟨x, hx, hb, hon | hon⟩ := hT j oj hUj ht hoj
      · exact absurd hon (hno x hx hb)
      · exact absurd hon (no_wait hl hj hoj hx hb)
    · have jk : j ≠ k := fun ek => by
        subst ek
        obtain ⟨x, hx, hb, hon⟩ := hk oj hoj
        exact hno x hx hb hon
      refine ⟨.inr hS', ih _ a' w' (fun m hm => hU m (un_set hm)) (by rw [getD_set_ne true jk]; exact hl) (ready_mono hr (Ne.symm e)) hy' hS' ?_⟩
      rw [Array.setIfInBounds_comm _ _ e]
      exact H'

/-- the three conditions, as one Bool. -/
def mayFirst (md : Region.Mode) (ops : Array Oper) (T : Nat → Bool) (l : Array Bool) (oi : Oper) (i k : Nat) : Bool :=
  (List.range ops.size).all (fun j => l.getD j true || (j == i || Region.waitsFor md ops j i || (match ops[j]? with | some oj => oi.apart ops oj | none => true)) && (!T j || Region.waitsFor md ops j i || Region.waitsFor md ops j k)) && Region.waitsFor md ops k i && !l.getD k true
theorem waits_edge {i j : Nat} {oj : Oper} (ho : ops[j]? = some oj) (h : Region.waitsFor md ops j i = true) : ∃ e ∈ oj.after, Region.binds md e = true ∧ e.on = i := by
  obtain ⟨o, h2, h3⟩ := Region.waitsFor_spec h
  obtain rfl : oj = o := Option.some.inj (ho.symm.trans h2)
  exact h3
theorem wpAnyT_take {i : Nat} (k : Nat) {oi : Oper} {v : Value} {n : Nat} {l : Array Bool} {a : Act} {w : World} (hi : ops[i]? = some oi)
    (hs : Region.noSelect ops = true) (hr : (Region.ready md ops l).contains i = true) (hm : mayFirst md ops T l oi i k = true)
    (hQ : ∀ c a w, Q (.panic c) (a.put oi.dst v) w → Q (.panic c) a w) (hy : YieldsIf P ops S oi v a) (hS : S w)
    (h : Late P md ops Q S T n (l.setIfInBounds i true) (a.put oi.dst v) w) : Late P md ops Q S T (n + 1) l a w := by
  unfold mayFirst at hm
  simp only [Bool.and_eq_true, Bool.not_eq_true'] at hm
  obtain ⟨⟨hall, hki⟩, hl⟩ := hm
  have at_ : ∀ j oj, l.getD j true = false → ops[j]? = some oj → (j == i || Region.waitsFor md ops j i || oi.apart ops oj) = true ∧ (!T j || Region.waitsFor md ops j i || Region.waitsFor md ops j k) = true := fun j oj hu ho => by
    have hlt : j < ops.size := by
      rcases Nat.lt_or_ge j ops.size with h | h
      · exact h
      · rw [Array.getElem?_eq_none h] at ho; cases ho
    have := List.all_eq_true.1 hall j (List.mem_range.2 hlt)
    rw [ho, hu, Bool.false_or] at this
    simpa only [Bool.and_eq_true] using this
  refine Late.first (k := k) (U := fun j => l.getD j true = false) hi (Region.noSelect_spec hs) hQ (fun j oj hu ho ne hno => ?_) (fun j oj hu ht ho => ?_) (fun ok ho => waits_edge ho hki) n l a w (fun _ h => h) hl (by simpa using hr) hy hS h
  · have h1 := (at_ j oj hu ho).1
    simp only [Bool.or_eq_true, beq_iff_eq] at h1
    rcases h1 with (h1 | h1) | h1
    · exact absurd h1 ne
    · obtain ⟨e, he, hb, hon⟩ := waits_edge ho h1
      exact absurd hon (hno e he hb)
    · exact h1
  · have h1 := (at_ j oj hu ho).2
    simp only [ht, Bool.not_true, Bool.false_or, Bool.or_eq_true] at h1
    rcases h1 with h1 | h1
    · obtain ⟨e, he, hb, hon⟩ := waits_edge ho h1
      exact ⟨e, he, hb, .inl hon⟩
    · obtain ⟨e, he, hb, hon⟩ := waits_edge ho h1
      exact ⟨e, he, hb, .inr hon⟩
/-- one alone may come up. -/
theorem wpAnyT_one {i : Nat} {o : Oper} {n : Nat} {l : Array Bool} {a : Act} {w : World} (hr : Region.ready md ops l = [i]) (ho : ops[i]? = some o)
    (h : ∀ K' : Act → World → Prop, Shut (∀ a w, (T i = true ∨ S w) → Late P md ops Q S T n (l.setIfInBounds i true) a w → K' a w) → if Region.wanted o (yielded ops a.tmps) = true then Oper.wp P o a w K' Q else K' (a.put o.dst undef) w) :
    Late P md ops Q S T (n + 1) l a w := by
  refine ⟨fun h0 => absurd (hr.symm.trans h0) (by simp), fun j hj => ?_⟩
  obtain rfl : j = i := by rw [hr] at hj; simpa using hj
  exact wpOp_step ho (fun K' hK => h K' (fun a w x y => hK a w ⟨x, y⟩))
theorem wpAnyT_done {l : Array Bool} {a : Act} {w : World} (hr : Region.ready md ops l = []) (h : Q .normal a w) (n : Nat) : Late P md ops Q S T n l a w := by
  cases n with
  | zero => exact ⟨hr, h⟩
  | succ n => exact ⟨fun _ => h, fun i hi => absurd (hr ▸ hi) (List.not_mem_nil)⟩
theorem wp_region_T {id : Nat} {a : Act} {w : World} (hm : P.follows .mixedOrders = true)
    (h : Late P .any ops Q S T ops.size (Array.replicate ops.size false) a w.drew) : (Code.region id ops true).wp P Q a w :=
  wp_region_any hm h.any
end
end Go.Proofs.Ytpopeipcjpfbaaa
