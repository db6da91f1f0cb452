/-
  Calls that turn what a caller holds: blocks of its own that are handed on by pointers, and rows that hang on them. My own text.
-/
import Derived.Test.YtpopeipcjpfbaaaAbsJ
namespace Go.Proofs.Ytpopeipcjpfbaaa
open Go.RowKit
set_option linter.unusedVariables false
set_option linter.unusedSimpArgs false
abbrev Mem := Nat → Option (List AC)
def noMem : Mem := fun _ => none
/-- the blocks that hold this memory and these rows. -/
def HotAt (ρ : Nat → Nat) (m : Mem) (R : Rws) (b : Nat) : Prop := (∃ k cs, m k = some cs ∧ ρ k = b) ∨ ∃ i r, R i = some r ∧ r.v.ownBlock = some b
structure HHeap (U : Nat → Prop) (ρ : Nat → Nat) (W : World) (m : Mem) (R : Rws) : Prop where
  mm : ∀ k cs, m k = some cs → ∃ (vs : List Value) (ty : TypeId), W.heap[ρ k]? = some (.cells vs.toArray ty (0, 0)) ∧ RpL U ρ W cs vs ∧ ¬ U (ρ k)
  mo : ∀ k cs x j, m k = some cs → x ∈ cs → x.owns j → ∃ cs', m j = some cs'
  inj : ∀ k k' cs cs', m k = some cs → m k' = some cs' → ρ k = ρ k' → k = k'
  rows : ∀ i r, R i = some r → (∃ xs, W.ownsRow 0 r.e r.sz r.v r.n xs ∧ RpL U ρ W r.ys xs) ∧ (∀ y ∈ r.ys, y.closedB = true) ∧ ∀ g, r.v.ownBlock = some g → ¬ U g ∧ ∀ k cs, m k = some cs → ρ k ≠ g
  apart : ∀ i j r q, R i = some r → R j = some q → i ≠ j → ∀ g, r.v.ownBlock = some g → q.v.ownBlock ≠ some g
/-- what such a call leaves alone. -/
def hotBase (ρ : Nat → Nat) (W : World) (m : Mem) (R : Rws) : Base := ⟨W, fun b => b < W.heap.size ∧ ¬ HotAt ρ m R b, fun _ h => h.1, fun _ => none⟩
def ovr {α : Type} (f g : Nat → Option α) : Nat → Option α := fun j => match f j with
  | some x => some x
  | none => g j
theorem ovr_some {α : Type} {f g : Nat → Option α} {j : Nat} {x : α} (h : ovr f g j = some x) : f j = some x ∨ (f j = none ∧ g j = some x) := by
  unfold ovr at h
  cases hf : f j with
  | some y => rw [hf] at h; exact .inl h
  | none => rw [hf] at h; exact .inr ⟨rfl, h⟩
theorem ovr_l {α : Type} {f g : Nat → Option α} {j : Nat} {x : α} (h : f j = some x) : ovr f g j = some x := by unfold ovr; rw [h]
theorem ovr_r {α : Type} {f g : Nat → Option α} {j : Nat} (h : f j = none) : ovr f g j = g j := by unfold ovr; rw [h]
/-- f, called with what these values tell where m0 and R0 hold, hands back what Post tells, of what is held then; the rest of elder memory stays as it was. -/
structure HCall (P : Program) (f : FuncId) (args : List AV) (m0 : Mem) (R0 : Rws) (Post : AV → Mem → Rws → Prop) : Prop where
  call : ∀ (U : Nat → Prop) (ρ : Nat → Nat) (W : World) (vs : List Value), HHeap U ρ W m0 R0 → (∀ x ∈ args, ∀ j, x.owns j → ∃ cs, m0 j = some cs) → RpVs U ρ W args vs →
    Calls P f vs.toArray W fun e W' => ∃ v r m' R' ρ' U', e = .returned v ∧ Post r m' R' ∧ HHeap U' ρ' W' m' R' ∧ RpV U' ρ' W' r v ∧ (∀ j, r.owns j → ∃ cs, m' j = some cs) ∧
      (∀ k cs, m0 k = some cs → ρ' k = ρ k ∧ ∃ cs', m' k = some cs') ∧ (∀ i r, R0 i = some r → ∃ r', R' i = some r') ∧
      (∀ b, U' b → U b ∨ W.heap.size ≤ b ∨ HotAt ρ m0 R0 b) ∧ (∀ b, HotAt ρ' m' R' b → HotAt ρ m0 R0 b ∨ W.heap.size ≤ b) ∧ BelowB (hotBase ρ W m0 R0) W'
section
variable {P : Program} {B B0 : Base} {A A0 : Nat → Prop} {s : AS} {ρ : Nat → Nat} {a : Act} {w : World} {o : Oper} {R : Rws} {Q : Exit → Act → World → Prop}
theorem FunP.caps2 {U : Nat → Prop} {v : Value} {fn : Fn} {cs : List AC} (h : RpC U ρ w (.p (FunP fn cs)) v) : ∃ vs : List Value, v = .func fn #[] vs.toArray ∧ ∀ ρ', RpL U ρ' w cs vs := by
  obtain ⟨⟨vs, rfl, hl, hc⟩, hf⟩ := h
  refine ⟨vs, rfl, fun ρ' => ⟨hl.1, fun i x u hx hu => ?_⟩⟩
  have h := hl.2 i x u hx hu
  cases x with
  | c y => exact h
  | own k o => exact absurd rfl (hc _ (List.mem_of_getElem? hx) k)
  | p R => exact ⟨h.1, fun b hb => hf b ⟨vs, rfl, i, _, u, hx, hu, hb⟩⟩
/-- a call's operation enters the function, with what its operands tell. -/
theorem CallOK.run {f : FuncId} {args : List AV} (hc : CallOK P s.look o f args) (hR : Rel B A s ρ a w) : ∃ us : List Value, RpVs (s.free A ρ) ρ w args us ∧ (execOp a.eval o).run P w = .ok (.enter f us.toArray) w := by
  obtain ⟨⟨c, g, ho, hcal, hh⟩, hent⟩ := hc
  rcases hh with ⟨bs, hg, hargs, hfl⟩ | ⟨cs, hg, hargs⟩
  · have hgv : a.eval g = .func (.func f) bs.toArray #[] := (hR.look hg).1
    refine ⟨bs ++ c.args.toList.map a.eval, ?_, ?_⟩
    · refine ⟨by have := congrArg List.length hargs; simpa using this.symm, fun i x v hx hv => ?_⟩
      have h1 : (bs.map (fun b => some (ofV b)) ++ c.args.toList.map s.look)[i]? = some (some x) := by rw [hargs, List.getElem?_map, hx]; rfl
      rcases Nat.lt_or_ge i bs.length with hlt | hge
      · rw [List.getElem?_append_left (by simpa using hlt), List.getElem?_map] at h1
        rw [List.getElem?_append_left hlt] at hv
        rw [hv] at h1
        simp only [Option.map_some, Option.some.injEq] at h1
        subst h1
        exact rpV_ofV (List.all_eq_true.1 hfl v (List.mem_of_getElem? hv))
      · rw [List.getElem?_append_right (by simpa using hge), List.getElem?_map] at h1
        rw [List.getElem?_append_right hge, List.getElem?_map] at hv
        simp only [List.length_map] at h1
        cases hy : c.args.toList[i - bs.length]? with
        | none => rw [hy] at hv; cases hv
        | some y =>
          rw [hy] at h1 hv
          simp only [Option.map_some, Option.some.injEq] at h1 hv
          subst hv
          exact hR.look h1
    · have e : bs.toArray ++ c.args.map a.eval ++ #[] = (bs ++ c.args.toList.map a.eval).toArray := by
        rw [Array.append_empty]
        apply Array.ext'
        simp
      simp only [execOp, ho, resolve, hcal, Deferred.ofValue, hgv]
      simp only [Sem.run_bind, Sem.run_pure, Result.andThen_ok, invoke]
      rw [e]
      exact enters_run hent
  · obtain ⟨vs, hgv, hcl⟩ := FunP.caps2 (ρ := ρ) (hR.look hg)
    refine ⟨c.args.toList.map a.eval ++ vs, ?_, ?_⟩
    · refine ⟨by have := congrArg List.length hargs; have h2 := (hcl ρ).1; simp at this ⊢; omega, fun i x v hx hv => ?_⟩
      have h1 : (c.args.toList.map s.look ++ cs.map (fun x => some (.w (.one x))))[i]? = some (some x) := by rw [hargs, List.getElem?_map, hx]; rfl
      rcases Nat.lt_or_ge i c.args.toList.length with hlt | hge
      · rw [List.getElem?_append_left (by simpa using hlt), List.getElem?_map] at h1
        rw [List.getElem?_append_left (by simpa using hlt), List.getElem?_map] at hv
        cases hy : c.args.toList[i]? with
        | none => rw [hy] at hv; cases hv
        | some y =>
          rw [hy] at h1 hv
          simp only [Option.map_some, Option.some.injEq] at h1 hv
          subst hv
          exact hR.look h1
      · rw [List.getElem?_append_right (by simpa using hge), List.getElem?_map] at h1
        rw [List.getElem?_append_right (by simpa using hge)] at hv
        simp only [List.length_map] at h1 hv
        cases hy : cs[i - c.args.toList.length]? with
        | none => rw [hy] at h1; cases h1
        | some y =>
          rw [hy] at h1
          simp only [Option.map_some, Option.some.injEq] at h1
          subst h1
          exact (hcl ρ).2 _ y v hy hv
    · have e : (#[] : Array Value) ++ c.args.map a.eval ++ vs.toArray = (c.args.toList.map a.eval ++ vs).toArray := by
        apply Array.ext'
        simp
      simp only [execOp, ho, resolve, hcal, Deferred.ofValue, hgv]
      simp only [Sem.run_bind, Sem.run_pure, Result.andThen_ok, invoke]
      rw [e]
      exact enters_run hent
/-- of a state with rows, the part that a call is handed. -/
theorem RR.part (hR : RR B0 A0 R s a w A ρ) {m0 : Mem} {R0 : Rws} (hm : ∀ k cs, m0 k = some cs → s.mem k = some cs) (hr : RLe R0 R) (mo : ∀ k cs x j, m0 k = some cs → x ∈ cs → x.owns j → ∃ cs', m0 j = some cs') : HHeap (s.free A ρ) ρ w m0 R0 := by
  refine ⟨fun k cs hk => ?_, mo, fun k k' cs cs' hk hk' e => hR.rel.inj k k' cs cs' (hm k cs hk) (hm k' cs' hk') e, fun i r hi => ?_, fun i j r q hi hj => hR.apart i j r q (hr i r hi) (hr j q hj)⟩
  · obtain ⟨vs, ty, h1, h2, _⟩ := hR.rel.mm k cs (hm k cs hk)
    exact ⟨vs, ty, h1, h2, fun h => h.2 k cs (hm k cs hk) rfl⟩
  · obtain ⟨h1, h2, h3⟩ := hR.rows i r (hr i r hi)
    exact ⟨h1, h2, fun g hg => ⟨fun h => (h3 g hg).1 h.1, fun k cs hk => (h3 g hg).2 k cs (hm k cs hk)⟩⟩
theorem RR.hot_lt (hR : RR B0 A0 R s a w A ρ) {m0 : Mem} {R0 : Rws} (hm : ∀ k cs, m0 k = some cs → s.mem k = some cs) (hr : RLe R0 R) {b : Nat} (h : HotAt ρ m0 R0 b) : b < w.heap.size := by
  rcases h with ⟨k, cs, hk, rfl⟩ | ⟨i, r, hi, hg⟩
  · exact hR.rel.lt (hm k cs hk)
  · obtain ⟨⟨xs, ho, _⟩, _, _⟩ := hR.rows i r (hr i r hi)
    exact (ho.lt b hg).2
/-- the state behind such a call. -/
def AS.over (s : AS) (m' : Mem) : AS := { s with mem := ovr m' s.mem }
theorem RR.called (hR : RR B0 A0 R s a w A ρ) (ok : s.Ok) {m0 m' : Mem} {R0 R' : Rws} {ρ' : Nat → Nat} {U' : Nat → Prop} {w' : World} (hm : ∀ k cs, m0 k = some cs → s.mem k = some cs) (hr : RLe R0 R)
    (hH : HHeap U' ρ' w' m' R') (k1 : ∀ k cs, m0 k = some cs → ρ' k = ρ k ∧ ∃ cs', m' k = some cs') (k2 : ∀ i r, R0 i = some r → ∃ r', R' i = some r') (f1 : ∀ k cs', m' k = some cs' → (∃ cs, m0 k = some cs) ∨ s.mem k = none) (fn : ∀ k cs', m' k = some cs' → s.mem k = none → k < s.n)
    (u1 : ∀ b, U' b → s.free A ρ b ∨ w.heap.size ≤ b ∨ HotAt ρ m0 R0 b) (u2 : ∀ b, HotAt ρ' m' R' b → HotAt ρ m0 R0 b ∨ w.heap.size ≤ b) (hb : BelowB (hotBase ρ w m0 R0) w') :
    RR B0 A0 (ovr R' R) (s.over m') a w' (fun b => (s.free A ρ b ∧ b < w.heap.size) ∨ U' b ∨ w'.heap.size ≤ b) (fun k => match m' k with | some _ => ρ' k | none => ρ k) ∧
      (∀ b, U' b → (s.over m').free (fun b => (s.free A ρ b ∧ b < w.heap.size) ∨ U' b ∨ w'.heap.size ≤ b) (fun k => match m' k with | some _ => ρ' k | none => ρ k) b) ∧ (s.over m').Ok := by
  have hlt : ∀ b, HotAt ρ m0 R0 b → b < w.heap.size := fun b h => hR.hot_lt hm hr h
  have hρ : ∀ k, (∃ cs, s.mem k = some cs) → (match m' k with | some _ => ρ' k | none => ρ k) = ρ k := by
    rintro k ⟨cs, hk⟩
    cases hm' : m' k with
    | none => rfl
    | some cs' =>
      rcases f1 k cs' hm' with ⟨cs0, h0⟩ | h0
      · exact (k1 k cs0 h0).1
      · rw [h0] at hk; cases hk
  have hρ2 : ∀ k cs', m' k = some cs' → (match m' k with | some _ => ρ' k | none => ρ k) = ρ' k := fun k cs' h => by rw [h]
  have hnot : ∀ b, s.free A ρ b → ¬ HotAt ρ m0 R0 b := by
    rintro b hf (⟨k, cs, hk, rfl⟩ | ⟨i, r, hi, hg⟩)
    · exact hf.2 k cs (hm k cs hk) rfl
    · exact ((hR.rows i r (hr i r hi)).own b hg).1 hf.1
  have hkeep : ∀ b, b < w.heap.size → ¬ HotAt ρ m0 R0 b → w'.heap[b]? = w.heap[b]? := fun b h1 h2 => hb.block b ⟨h1, h2⟩
  have hsz : w.heap.size ≤ w'.heap.size := hb.size
  have hlt' : ∀ b, HotAt ρ' m' R' b → b < w'.heap.size := by
    rintro b (⟨k, cs, hk, rfl⟩ | ⟨i, r, hi, hg⟩)
    · obtain ⟨vs, ty, h1, _⟩ := hH.mm k cs hk
      exact (Array.getElem?_eq_some_iff.1 h1).1
    · obtain ⟨⟨xs, ho, _⟩, _, _⟩ := hH.rows i r hi
      exact (ho.lt b hg).2
  -- what is held elsewhere
  have memo : ∀ k cs, m' k = none → s.mem k = some cs → ¬ HotAt ρ m0 R0 (ρ k) := by
    rintro k cs hn hk (⟨j, cs0, hj, e⟩ | ⟨i, r, hi, hg⟩)
    · have e' : j = k := hR.rel.inj j k _ _ (hm j cs0 hj) hk e
      subst e'
      obtain ⟨_, cs', h⟩ := k1 j cs0 hj
      rw [hn] at h; cases h
    · exact ((hR.rows i r (hr i r hi)).own _ hg).2 k cs hk rfl
  have rowo : ∀ i r, R' i = none → R i = some r → ∀ g, r.v.ownBlock = some g → ¬ HotAt ρ m0 R0 g := by
    rintro i r hn hi g hg (⟨j, cs0, hj, e⟩ | ⟨i', r', hi', hg'⟩)
    · exact ((hR.rows i r hi).own _ hg).2 j cs0 (hm j cs0 hj) e
    · by_cases e : i = i'
      · subst e
        obtain ⟨q, h⟩ := k2 i r' hi'
        rw [hn] at h; cases h
      · exact hR.apart i i' r r' hi (hr i' r' hi') e g hg hg'
  have rowlt : ∀ i r, R i = some r → ∀ g, r.v.ownBlock = some g → g < w.heap.size := fun i r hi g hg => by
    obtain ⟨⟨xs, ho, _⟩, _, _⟩ := hR.rows i r hi
    exact (ho.lt g hg).2
  have hUhot : ∀ b, U' b → ¬ HotAt ρ' m' R' b := by
    rintro b hu (⟨k, cs, hk, rfl⟩ | ⟨i, r, hi, hg⟩)
    · obtain ⟨_, _, _, _, h⟩ := hH.mm k cs hk; exact h hu
    · exact ((hH.rows i r hi).2.2 b hg).1 hu
  have free1 : ∀ b, s.free A ρ b → b < w.heap.size → (s.over m').free (fun b => (s.free A ρ b ∧ b < w.heap.size) ∨ U' b ∨ w'.heap.size ≤ b) (fun k => match m' k with | some _ => ρ' k | none => ρ k) b := by
    intro b hf hl
    refine ⟨.inl ⟨hf, hl⟩, fun k cs hk => ?_⟩
    rcases ovr_some (show ovr m' s.mem k = some cs from hk) with h | ⟨h, h'⟩
    · simp only [h]
      intro e
      rcases u2 b (.inl ⟨k, cs, h, e⟩) with q | q
      · exact hnot b hf q
      · omega
    · simp only [h]; exact hf.2 k cs h'
  have free2 : ∀ b, U' b → (s.over m').free (fun b => (s.free A ρ b ∧ b < w.heap.size) ∨ U' b ∨ w'.heap.size ≤ b) (fun k => match m' k with | some _ => ρ' k | none => ρ k) b := by
    intro b hu
    refine ⟨.inr (.inl hu), fun k cs hk => ?_⟩
    rcases ovr_some (show ovr m' s.mem k = some cs from hk) with h | ⟨h, h'⟩
    · simp only [h]
      intro e
      exact hUhot b hu (.inl ⟨k, cs, h, e⟩)
    · simp only [h]
      intro e
      subst e
      rcases u1 _ hu with q | q | q
      · exact q.2 k cs h' rfl
      · have := hR.rel.lt h'; omega
      · exact memo k cs h h' q
  have hok : (s.over m').Ok := by
    have keepm : ∀ j, (∃ cs, s.mem j = some cs) → ∃ cs, (s.over m').mem j = some cs := by
      rintro j ⟨cs, h⟩
      show ∃ cs, ovr m' s.mem j = some cs
      cases hm' : m' j with
      | some c => exact ⟨c, ovr_l hm'⟩
      | none => exact ⟨cs, by rw [ovr_r hm']; exact h⟩
    refine ⟨fun t av j ht hj => keepm j (ok.tm t av j ht hj), fun k cs x j hk hx hj => ?_⟩
    rcases ovr_some (show ovr m' s.mem k = some cs from hk) with h | ⟨h, h'⟩
    · obtain ⟨c, hc⟩ := hH.mo k cs x j h hx hj
      exact ⟨c, ovr_l hc⟩
    · exact keepm j (ok.mm k cs x j h' hx hj)
  have memhot : ∀ k cs, m0 k = some cs → HotAt ρ' m' R' (ρ k) := fun k cs hk => by
    obtain ⟨e, cs', h⟩ := k1 k cs hk
    exact .inl ⟨k, cs', h, e⟩
  have hotF : ∀ b, HotAt ρ m0 R0 b → ¬ B0.F b := by
    rintro b (⟨k, cs, hk, rfl⟩ | ⟨i, r, hi, hg⟩)
    · exact hR.mine k cs (hm k cs hk)
    · exact (hR.hot i r b (hr i r hi) hg).1
  have newF : ∀ b, w.heap.size ≤ b → ¬ B0.F b := fun b h hf => by have := B0.lt b hf; have := hR.below.size; omega
  refine ⟨⟨hR.up, ?_, ?_, fun k cs hk hf => ?_, ⟨hb.os.trans hR.below.os, hb.tape.trans hR.below.tape, hb.output.trans hR.below.output, Nat.le_trans hR.below.size hb.size, fun b hf => ?_⟩, fun i r hi => ?_, fun i j r q hi hj hij g hg => ?_, fun i r g hi hg => ?_, fun k b hk => ?_⟩, free2, hok⟩
  · rintro b (h | h | h)
    · exact hR.sub b h.1.1
    · rcases u1 b h with q | q | ⟨k, cs, hk, rfl⟩ | ⟨i, r, hi, hg⟩
      · exact hR.sub b q.1
      · exact hR.up b (Nat.le_trans hR.below.size q)
      · exact absurd (memhot k cs hk) (hUhot _ h)
      · exact (hR.hot i r b (hr i r hi) hg).2
    · exact hR.up b (by have := hR.below.size; omega)
  · refine ⟨hR.rel.nodef, hR.rel.size, fun t av ht => ?_, fun k cs hk => ?_, fun k k' cs cs' hk hk' e => ?_, BelowB.refl _, fun b h => .inr (.inr h), hbase_anch _ _ _⟩
    · obtain ⟨v, h1, h2⟩ := hR.rel.tm t av ht
      exact ⟨v, h1, h2.map (fun b hf hl => ⟨free1 b hf hl, hkeep b hl (hnot b hf)⟩) fun j hj => hρ j (ok.tm t av j ht hj)⟩
    · rcases ovr_some (show ovr m' s.mem k = some cs from hk) with h | ⟨h, h'⟩
      · obtain ⟨vs, ty, h1, h2, _⟩ := hH.mm k cs h
        refine ⟨vs, ty, by simp only [h]; exact h1, h2.map (fun b hu _ => ⟨free2 b hu, rfl⟩) fun j x hx hj => ?_, fun hf => hf.2 k cs hk rfl⟩
        obtain ⟨c, hc⟩ := hH.mo k cs x j h hx hj
        exact hρ2 j c hc
      · obtain ⟨vs, ty, h1, h2, _⟩ := hR.rel.mm k cs h'
        refine ⟨vs, ty, by simp only [h]; rw [hkeep _ (hR.rel.lt h') (memo k cs h h')]; exact h1, h2.map (fun b hf hl => ⟨free1 b hf hl, hkeep b hl (hnot b hf)⟩) fun j x hx hj => hρ j (ok.mm k cs x j h' hx hj), fun hf => hf.2 k cs hk rfl⟩
    · rcases ovr_some (show ovr m' s.mem k = some cs from hk) with h | ⟨h, h'⟩
      · rcases ovr_some (show ovr m' s.mem k' = some cs' from hk') with g | ⟨g, g'⟩
        · simp only [h, g] at e
          exact hH.inj k k' cs cs' h g e
        · simp only [h, g] at e
          rcases u2 _ (.inl ⟨k, cs, h, e⟩) with q | q
          · exact absurd q (memo k' cs' g g')
          · have := hR.rel.lt g'; omega
      · rcases ovr_some (show ovr m' s.mem k' = some cs' from hk') with g | ⟨g, g'⟩
        · simp only [h, g] at e
          rcases u2 _ (.inl ⟨k', cs', g, e.symm⟩) with q | q
          · exact absurd q (memo k cs h h')
          · have := hR.rel.lt h'; omega
        · simp only [h, g] at e
          exact hR.rel.inj k k' cs cs' h' g' e
  · rcases ovr_some (show ovr m' s.mem k = some cs from hk) with h | ⟨h, h'⟩
    · simp only [h] at hf
      rcases u2 _ (.inl ⟨k, cs, h, rfl⟩) with q | q
      · exact hotF _ q hf
      · exact newF _ q hf
    · simp only [h] at hf
      exact hR.mine k cs h' hf
  · exact (hkeep b (Nat.lt_of_lt_of_le (B0.lt b hf) hR.below.size) fun h => hotF b h hf).trans (hR.below.block b hf)
  · rcases ovr_some hi with h | ⟨h, h'⟩
    · obtain ⟨⟨xs, ho, hl⟩, hc, hg⟩ := hH.rows i r h
      refine ⟨⟨xs, ho, hl.closed_map hc fun b hu _ => ⟨free2 b hu, rfl⟩⟩, hc, fun g q => ?_⟩
      have hh : HotAt ρ' m' R' g := .inr ⟨i, r, h, q⟩
      refine ⟨?_, fun k cs hk => ?_⟩
      · rintro (z | z | z)
        · rcases u2 g hh with y | y
          · exact hnot g z.1 y
          · omega
        · exact hUhot g z hh
        · have := hlt' g hh; omega
      · rcases ovr_some (show ovr m' s.mem k = some cs from hk) with y | ⟨y, y'⟩
        · simp only [y]; exact (hg g q).2 k cs y
        · simp only [y]
          intro e
          subst e
          rcases u2 _ hh with z | z
          · exact memo k cs y y' z
          · have := hR.rel.lt y'; omega
    · obtain ⟨⟨xs, ho, hl⟩, hc, hg⟩ := hR.rows i r h'
      refine ⟨⟨xs, ownsRow_kept ho fun g q => hkeep g (rowlt i r h' g q) (rowo i r h h' g q), hl.closed_map hc fun b hf hb' => ⟨free1 b hf hb', hkeep b hb' (hnot b hf)⟩⟩, hc, fun g q => ⟨?_, fun k cs hk => ?_⟩⟩
      · rintro (z | z | z)
        · exact (hg g q).1 z.1.1
        · rcases u1 g z with y | y | y
          · exact (hg g q).1 y.1
          · have := rowlt i r h' g q; omega
          · exact rowo i r h h' g q y
        · have := rowlt i r h' g q; omega
      · rcases ovr_some (show ovr m' s.mem k = some cs from hk) with y | ⟨y, y'⟩
        · simp only [y]
          intro e
          rcases u2 g (.inl ⟨k, cs, y, e⟩) with z | z
          · exact rowo i r h h' g q z
          · have := rowlt i r h' g q; omega
        · simp only [y]; exact (hg g q).2 k cs y'
  · rcases ovr_some hi with h | ⟨h, h'⟩
    · rcases ovr_some hj with y | ⟨y, y'⟩
      · exact hH.apart i j r q h y hij g hg
      · intro hq
        rcases u2 g (.inr ⟨i, r, h, hg⟩) with z | z
        · exact rowo j q y y' g hq z
        · have := rowlt j q y' g hq; omega
    · rcases ovr_some hj with y | ⟨y, y'⟩
      · intro hq
        rcases u2 g (.inr ⟨j, q, y, hq⟩) with z | z
        · exact rowo i r h h' g hg z
        · have := rowlt i r h' g hg; omega
      · exact hR.apart i j r q h' y' hij g hg
  · rcases ovr_some hi with h | ⟨h, h'⟩
    · rcases u2 g (.inr ⟨i, r, h, hg⟩) with (⟨k, cs, hk, e⟩ | ⟨j, q, hj, hq⟩) | z
      · obtain ⟨e', cs', h0⟩ := k1 k cs hk
        exact absurd (e'.trans e) (((hH.rows i r h).2.2 g hg).2 k cs' h0)
      · exact hR.hot j q g (hr j q hj) hq
      · exact ⟨newF g z, hR.up g (by have := hR.below.size; omega)⟩
    · exact hR.hot i r g h' hg
  · obtain ⟨h1, h2⟩ := hR.anch k b hk
    refine ⟨h1, ?_⟩
    cases hm' : m' k with
    | none => exact h2
    | some c =>
      rcases f1 k c hm' with ⟨cs, h0⟩ | h0
      · exact (k1 k cs h0).1.trans h2
      · exact absurd (fn k c hm' h0) (Nat.not_lt.2 h1)
/-- what is known where such a call's operation stands. -/
structure HotCall (P : Program) (T : Nat → Bool) (R : Rws) (s : AS) (o : Oper) (K : Rws → AS → Prop) : Prop where
  ex : ∃ f args m0 R0 Post, CallOK P s.look o f args ∧ HCall P f args m0 R0 Post ∧ (∀ x ∈ args, ∀ j, x.owns j → ∃ cs, m0 j = some cs) ∧ (∀ k cs, m0 k = some cs → s.mem k = some cs ∧ T k = true) ∧ RLe R0 R ∧ (∀ k cs x j, m0 k = some cs → x ∈ cs → x.owns j → ∃ cs', m0 j = some cs') ∧
    ∀ r m' R', Post r m' R' → (∀ j, r.owns j → ∃ cs, m' j = some cs) → (∀ k cs x j, m' k = some cs → x ∈ cs → x.owns j → ∃ cs', m' j = some cs') → (∀ k cs, m0 k = some cs → ∃ cs', m' k = some cs') →
      (∀ k cs', m' k = some cs' → (∃ cs, m0 k = some cs) ∨ (s.mem k = none ∧ k < s.n)) ∧ K (ovr R' R) ((s.over m').put o.dst r)
theorem AS.Ok.over_ok {m' : Mem} (ok : s.Ok) (mo : ∀ k cs x j, m' k = some cs → x ∈ cs → x.owns j → ∃ cs', m' j = some cs') : (s.over m').Ok := by
  have keepm : ∀ j, (∃ cs, s.mem j = some cs) → ∃ cs, (s.over m').mem j = some cs := by
    rintro j ⟨cs, h⟩
    show ∃ cs, ovr m' s.mem j = some cs
    cases hm' : m' j with
    | some c => exact ⟨c, ovr_l hm'⟩
    | none => exact ⟨cs, by rw [ovr_r hm']; exact h⟩
  refine ⟨fun t av j ht hj => keepm j (ok.tm t av j ht hj), fun k cs x j hk hx hj => ?_⟩
  rcases ovr_some (show ovr m' s.mem k = some cs from hk) with h | ⟨h, h'⟩
  · obtain ⟨c, hc⟩ := mo k cs x j h hx hj
    exact ⟨c, ovr_l hc⟩
  · exact keepm j (ok.mm k cs x j h' hx hj)
theorem AS.Ok.over_put_ok {m' : Mem} {r : AV} (ok : s.Ok) (mo : ∀ k cs x j, m' k = some cs → x ∈ cs → x.owns j → ∃ cs', m' j = some cs') (hro : ∀ j, r.owns j → ∃ cs, m' j = some cs) (dst : Option Nat) : ((s.over m').put dst r).Ok :=
  (ok.over_ok mo).put fun j hj => by
    obtain ⟨c, hc⟩ := hro j hj
    exact ⟨c, ovr_l hc⟩
theorem HotCall.mono {K K' : Rws → AS → Prop} (ok : s.Ok) {T : Nat → Bool} (h : HotCall P T R s o K) (hK : ∀ R s, s.Ok → K R s → K' R s) : HotCall P T R s o K' := by
  obtain ⟨f, args, m0, R0, Post, hc, hp, ho, hm, hr, mo, hk⟩ := h.ex
  refine ⟨f, args, m0, R0, Post, hc, hp, ho, hm, hr, mo, fun r m' R' h1 h2 h3 h4 => ?_⟩
  obtain ⟨f1, k⟩ := hk r m' R' h1 h2 h3 h4
  exact ⟨f1, hK _ _ (ok.over_put_ok h3 h2 _) k⟩
theorem HotCall.sound {K : Rws → AS → Prop} {T : Nat → Bool} (h : HotCall P T R s o K) (hd : ∀ d, o.dst = some d → d < s.n) (hR : RR B0 A0 R s a w A ρ) (ok : s.Ok) {K' : Act → World → Prop} (hK : ∀ R' s' a' w', s'.Ok → RRel B0 A0 R' s' a' w' → K R' s' → K' a' w') : o.wp P a w K' Q := by
  obtain ⟨f, args, m0, R0, Post, hc, hp, ho, hm', hr, mo, hk⟩ := h.ex
  have hm : ∀ k cs, m0 k = some cs → s.mem k = some cs := fun k cs h => (hm' k cs h).1
  obtain ⟨us, hvs, hrun⟩ := hc.run hR.rel
  unfold Oper.wp
  rw [hrun]
  refine (hp.call (s.free A ρ) ρ w us (hR.part hm hr mo) ho hvs).mono ?_
  rintro e w' ⟨v, r, m', R', ρ', U', rfl, hpost, hH, hv, hro, k1, k2, u1, u2, hb⟩
  obtain ⟨f1, hk'⟩ := hk r m' R' hpost hro hH.mo fun k cs h => (k1 k cs h).2
  obtain ⟨hR', hU, ok'⟩ := hR.called ok hm hr hH k1 k2 (fun k c h => (f1 k c h).imp id And.left) (fun k c h h0 => by
    rcases f1 k c h with ⟨cs, q⟩ | q
    · rw [hm k cs q] at h0; cases h0
    · exact q.2) u1 u2 hb
  have hv' : RpV ((s.over m').free (fun b => (s.free A ρ b ∧ b < w.heap.size) ∨ U' b ∨ w'.heap.size ≤ b) (fun k => match m' k with | some _ => ρ' k | none => ρ k)) (fun k => match m' k with | some _ => ρ' k | none => ρ k) w' r v :=
    hv.map (fun b hu _ => ⟨hU b hu, rfl⟩) fun j hj => by
      obtain ⟨c, hc⟩ := hro j hj
      simp only [hc]
  refine hK _ _ _ _ (ok'.put fun j hj => ?_) ⟨_, _, hR'.put (fun d' e => hd d' e) hv'⟩ hk'
  obtain ⟨c, hc⟩ := hro j hj
  exact ⟨c, ovr_l hc⟩
end
end Go.Proofs.Ytpopeipcjpfbaaa
