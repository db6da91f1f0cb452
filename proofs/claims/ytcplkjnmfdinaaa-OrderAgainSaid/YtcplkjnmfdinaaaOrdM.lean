/-
  Rows of things with a key and a name, by numbers: in order, put together; the first of the least, again and again. My own text.
-/
import Derived.Test.YtcplkjnmfdinaaaWideA
namespace Go.Proofs.Ytcplkjnmfdinaaa
set_option linter.unusedVariables false
/-- s is l, put in order by the first numbers; what is alike stays as it stood. -/
def IsSort (l s : List (Int × Int)) : Prop := s.Pairwise (fun x y => x.1 ≤ y.1) ∧ ∀ c : Int, s.filter (fun x => x.1 == c) = l.filter (fun x => x.1 == c)
theorem IsSort.mem {l s : List (Int × Int)} (h : IsSort l s) (x : Int × Int) : x ∈ s ↔ x ∈ l := by
  have := h.2 x.1
  constructor
  · intro hx
    have : x ∈ l.filter (fun y => y.1 == x.1) := by rw [← this]; simp [hx]
    exact (List.mem_filter.1 this).1
  · intro hx
    have : x ∈ s.filter (fun y => y.1 == x.1) := by rw [this]; simp [hx]
    exact (List.mem_filter.1 this).1
theorem IsSort.length : ∀ {l s : List (Int × Int)}, IsSort l s → s.length = l.length := by
  intro l s h
  have key : ∀ (t u : List (Int × Int)), (∀ c : Int, t.filter (fun x => x.1 == c) = u.filter (fun x => x.1 == c)) → t.length = u.length := by
    intro t
    induction t with
    | nil =>
      intro u hu
      cases u with
      | nil => rfl
      | cons y u => have := hu y.1; simp at this
    | cons x t ih =>
      intro u hu
      have hx : x ∈ u := by
        have : x ∈ u.filter (fun y => y.1 == x.1) := by rw [← hu]; simp
        exact (List.mem_filter.1 this).1
      have e := ih (u.erase x) fun c => by
        have h1 := hu c
        rw [← List.erase_filter, ← h1]
        by_cases hc : x.1 == c
        · simp [hc]
        · rw [List.filter_cons_of_neg (by simpa using hc), List.erase_of_not_mem]
          intro hm
          have := (List.mem_filter.1 hm).2
          exact hc this
      rw [List.length_cons, e, List.length_erase_of_mem hx]
      have := List.length_pos_of_mem hx
      omega
  exact key s l h.2
theorem IsSort.uniq : ∀ {l s t : List (Int × Int)}, IsSort l s → IsSort l t → s = t := by
  intro l s t hs ht
  have key : ∀ (s t : List (Int × Int)), s.Pairwise (fun x y => x.1 ≤ y.1) → t.Pairwise (fun x y => x.1 ≤ y.1) → (∀ c : Int, s.filter (fun x => x.1 == c) = t.filter (fun x => x.1 == c)) → s = t := by
    intro s
    induction s with
    | nil =>
      intro t _ _ h
      cases t with
      | nil => rfl
      | cons y t => have := h y.1; simp at this
    | cons x s ih =>
      intro t h1 h2 h
      cases t with
      | nil => have := h x.1; simp at this
      | cons y t =>
        rw [List.pairwise_cons] at h1 h2
        have m1 : y ∈ x :: s := by
          have : y ∈ (x :: s).filter (fun z => z.1 == y.1) := by rw [h]; simp
          exact (List.mem_filter.1 this).1
        have m2 : x ∈ y :: t := by
          have : x ∈ (y :: t).filter (fun z => z.1 == x.1) := by rw [← h]; simp
          exact (List.mem_filter.1 this).1
        have l1 : x.1 ≤ y.1 := by
          rcases List.mem_cons.1 m1 with e | e
          · rw [e]; exact Int.le_refl _
          · exact h1.1 y e
        have l2 : y.1 ≤ x.1 := by
          rcases List.mem_cons.1 m2 with e | e
          · rw [e]; exact Int.le_refl _
          · exact h2.1 x e
        have e1 : x.1 = y.1 := by omega
        have e2 : x = y := by
          have := h x.1
          rw [List.filter_cons_of_pos (by simp), List.filter_cons_of_pos (by simp [e1])] at this
          exact (List.cons.inj this).1
        subst e2
        congr 1
        refine ih t h1.2 h2.2 fun c => ?_
        have := h c
        by_cases hc : x.1 == c
        · simpa [List.filter_cons, hc] using this
        · simpa [List.filter_cons, hc] using this
  exact key s t hs.1 ht.1 fun c => (hs.2 c).trans (ht.2 c).symm
theorem IsSort.refl {l : List (Int × Int)} (h : l.Pairwise (fun x y => x.1 ≤ y.1)) : IsSort l l := ⟨h, fun _ => rfl⟩
theorem IsSort.self {l s : List (Int × Int)} (h : IsSort l s) : IsSort s s := .refl h.1
theorem IsSort.append {a b x y : List (Int × Int)} {s : List (Int × Int)} (ha : IsSort a x) (hb : IsSort b y) (h : IsSort (a ++ b) s) : IsSort (x ++ y) s :=
  ⟨h.1, fun c => by rw [h.2, List.filter_append, List.filter_append, ha.2, hb.2]⟩
/-- two rows that are in order, put together: the second's thing comes first just if its number is less. -/
def mrg : List (Int × Int) → List (Int × Int) → List (Int × Int)
  | [], b => b
  | x :: a, [] => x :: a
  | x :: a, y :: b => if y.1 < x.1 then y :: mrg (x :: a) b else x :: mrg a (y :: b)
termination_by a b => a.length + b.length
theorem mrg_nil (a : List (Int × Int)) : mrg a [] = a := by cases a <;> simp [mrg]
theorem mrg_mem : ∀ (a b : List (Int × Int)) (z : Int × Int), z ∈ mrg a b → z ∈ a ∨ z ∈ b := by
  intro a b
  induction a, b using mrg.induct with
  | case1 b => intro z hz; simp [mrg] at hz; exact .inr hz
  | case2 x a => intro z hz; simp [mrg] at hz; simp [hz]
  | case3 x a y b h ih =>
    intro z hz
    rw [mrg, if_pos h] at hz
    rcases List.mem_cons.1 hz with rfl | hz
    · simp
    · rcases ih z hz with h | h
      · exact .inl h
      · simp [h]
  | case4 x a y b h ih =>
    intro z hz
    rw [mrg, if_neg h] at hz
    rcases List.mem_cons.1 hz with rfl | hz
    · simp
    · rcases ih z hz with h | h
      · simp [h]
      · exact .inr h
theorem mrg_sort : ∀ (a b : List (Int × Int)), a.Pairwise (fun x y => x.1 ≤ y.1) → b.Pairwise (fun x y => x.1 ≤ y.1) → IsSort (a ++ b) (mrg a b) := by
  intro a b
  induction a, b using mrg.induct with
  | case1 b => intro _ hb; simp only [mrg, List.nil_append]; exact .refl hb
  | case2 x a => intro ha _; simp only [mrg, List.append_nil]; exact .refl ha
  | case3 x a y b h ih =>
    intro ha hb
    rw [List.pairwise_cons] at hb
    have i := ih ha hb.2
    rw [mrg, if_pos h]
    refine ⟨List.pairwise_cons.2 ⟨fun z hz => ?_, i.1⟩, fun c => ?_⟩
    · rcases mrg_mem _ _ z hz with hz | hz
      · rcases List.mem_cons.1 hz with rfl | hz
        · omega
        · have := (List.pairwise_cons.1 ha).1 z hz; omega
      · exact hb.1 z hz
    · rw [List.filter_cons, i.2 c, List.filter_append, List.filter_append, List.filter_cons (x := y)]
      by_cases hc : y.1 == c
      · rw [if_pos hc, if_pos hc]
        have e : (x :: a).filter (fun x => x.1 == c) = [] := by
          rw [List.filter_eq_nil_iff]
          intro z hz hzc
          have h1 : y.1 = c := by simpa using hc
          have h2 : z.1 = c := by simpa using hzc
          rcases List.mem_cons.1 hz with rfl | hz
          · omega
          · have := (List.pairwise_cons.1 ha).1 z hz; omega
        rw [e]; rfl
      · rw [if_neg hc, if_neg hc]
  | case4 x a y b h ih =>
    intro ha hb
    rw [List.pairwise_cons] at ha
    have i := ih ha.2 hb
    rw [mrg, if_neg h]
    refine ⟨List.pairwise_cons.2 ⟨fun z hz => ?_, i.1⟩, fun c => ?_⟩
    · rcases mrg_mem _ _ z hz with hz | hz
      · exact ha.1 z hz
      · rcases List.mem_cons.1 hz with rfl | hz
        · omega
        · have := (List.pairwise_cons.1 hb).1 z hz; omega
    · rw [List.filter_cons, i.2 c, List.cons_append, List.filter_cons]
/-- what is not done yet. -/
def undone : List (Int × Int) → List Bool → List (Int × Int)
  | x :: l, d :: ds => if d then undone l ds else x :: undone l ds
  | _, _ => []
/-- the first of the least that are not done, among the first k. -/
def bestOf (l : List (Int × Int)) (ds : List Bool) : Nat → Option Nat
  | 0 => none
  | k + 1 => match bestOf l ds k with
    | none => if ds.getD k true then none else some k
    | some b => if ds.getD k true = false ∧ (l.getD k (0, 0)).1 < (l.getD b (0, 0)).1 then some k else some b
theorem bestOf_spec (l : List (Int × Int)) (ds : List Bool) : ∀ (k : Nat), match bestOf l ds k with
    | none => ∀ j, j < k → ds.getD j true = true
    | some b => b < k ∧ ds.getD b true = false ∧ (∀ j, j < b → ds.getD j true = false → (l.getD b (0, 0)).1 < (l.getD j (0, 0)).1) ∧ ∀ j, b < j → j < k → ds.getD j true = false → (l.getD b (0, 0)).1 ≤ (l.getD j (0, 0)).1
  | 0 => by simp [bestOf]
  | k + 1 => by
    have ih := bestOf_spec l ds k
    rw [bestOf]
    cases hb : bestOf l ds k with
    | none =>
      rw [hb] at ih
      simp only at ih ⊢
      cases hd : ds.getD k true with
      | true =>
        simp only [if_true]
        intro j hj
        by_cases e : j = k
        · subst e; exact hd
        · exact ih j (by omega)
      | false =>
        simp only [Bool.false_eq_true, if_false]
        refine ⟨by omega, hd, fun j hj h => ?_, fun j h1 h2 => by omega⟩
        rw [ih j hj] at h; cases h
    | some b =>
      rw [hb] at ih
      obtain ⟨i1, i2, i3, i4⟩ := ih
      simp only
      by_cases hc : ds.getD k true = false ∧ (l.getD k (0, 0)).1 < (l.getD b (0, 0)).1
      · rw [if_pos hc]
        refine ⟨by omega, hc.1, fun j hj h => ?_, fun j h1 h2 => by omega⟩
        by_cases e1 : j < b
        · have := i3 j e1 h; omega
        · by_cases e2 : j = b
          · subst e2; exact hc.2
          · have := i4 j (by omega) hj h; omega
      · rw [if_neg hc]
        refine ⟨by omega, i2, i3, fun j h1 h2 h => ?_⟩
        by_cases e : j = k
        · subst e
          have : ¬ (l.getD j (0, 0)).1 < (l.getD b (0, 0)).1 := fun hh => hc ⟨h, hh⟩
          omega
        · exact i4 j h1 (by omega) h
theorem undone_split : ∀ (l : List (Int × Int)) (ds : List Bool) (b : Nat), l.length = ds.length → b < l.length → ds.getD b true = false →
    ∃ u v, undone l ds = u ++ l.getD b (0, 0) :: v ∧ undone l (ds.set b true) = u ++ v ∧ (∀ z ∈ u, ∃ j, j < b ∧ ds.getD j true = false ∧ z = l.getD j (0, 0)) ∧ ∀ z ∈ v, ∃ j, b < j ∧ j < l.length ∧ ds.getD j true = false ∧ z = l.getD j (0, 0)
  | [], _, _, _, h, _ => by simp at h
  | x :: l, [], _, h, _, _ => by simp at h
  | x :: l, d :: ds, 0, hl, hb, hd => by
    have hd' : d = false := by simpa using hd
    subst hd'
    refine ⟨[], undone l ds, by simp [undone], by simp [undone], fun z hz => (by cases hz), fun z hz => ?_⟩
    have key : ∀ (l : List (Int × Int)) (ds : List Bool), z ∈ undone l ds → ∃ j, j < l.length ∧ ds.getD j true = false ∧ z = l.getD j (0, 0) := by
      intro l
      induction l with
      | nil => intro ds h; simp [undone] at h
      | cons y l ih =>
        intro ds h
        cases ds with
        | nil => simp [undone] at h
        | cons d ds =>
          cases d with
          | true =>
            simp only [undone, if_true] at h
            obtain ⟨j, h1, h2, h3⟩ := ih ds h
            exact ⟨j + 1, by simp; omega, by simpa using h2, by simpa using h3⟩
          | false =>
            simp only [undone, Bool.false_eq_true, if_false, List.mem_cons] at h
            rcases h with rfl | h
            · exact ⟨0, by simp, by simp, by simp⟩
            · obtain ⟨j, h1, h2, h3⟩ := ih ds h
              exact ⟨j + 1, by simp; omega, by simpa using h2, by simpa using h3⟩
    obtain ⟨j, h1, h2, h3⟩ := key l ds hz
    exact ⟨j + 1, by omega, by simp; omega, by simpa using h2, by simpa using h3⟩
  | x :: l, d :: ds, b + 1, hl, hb, hd => by
    obtain ⟨u, v, h1, h2, h3, h4⟩ := undone_split l ds b (by simpa using hl) (by simpa using hb) (by simpa using hd)
    have h4' : ∀ z ∈ v, ∃ j, b + 1 < j ∧ j < (x :: l).length ∧ (d :: ds).getD j true = false ∧ z = (x :: l).getD j (0, 0) := fun z hz => by
      obtain ⟨j, a1, a2, a3, a4⟩ := h4 z hz
      exact ⟨j + 1, by omega, by simp; omega, by simpa using a3, by simpa using a4⟩
    have h3' : ∀ z ∈ u, ∃ j, j < b + 1 ∧ (d :: ds).getD j true = false ∧ z = (x :: l).getD j (0, 0) := fun z hz => by
      obtain ⟨j, a1, a2, a3⟩ := h3 z hz
      exact ⟨j + 1, by omega, by simpa using a2, by simpa using a3⟩
    cases d with
    | true =>
      have e1 : undone (x :: l) (true :: ds) = undone l ds := by simp [undone]
      have e2 : undone (x :: l) ((true :: ds).set (b + 1) true) = undone l (ds.set b true) := by simp [undone]
      exact ⟨u, v, by rw [e1, h1]; simp, by rw [e2, h2], h3', h4'⟩
    | false =>
      have e1 : undone (x :: l) (false :: ds) = x :: undone l ds := by simp [undone]
      have e2 : undone (x :: l) ((false :: ds).set (b + 1) true) = x :: undone l (ds.set b true) := by simp [undone]
      refine ⟨x :: u, v, by rw [e1, h1]; simp, by rw [e2, h2]; simp, fun z hz => ?_, h4'⟩
      rcases List.mem_cons.1 hz with rfl | hz
      · exact ⟨0, by omega, by simp, by simp⟩
      · exact h3' z hz
/-- so far: out holds what is done, in order. -/
structure Sofar (l : List (Int × Int)) (ds : List Bool) (out : List (Int × Int)) : Prop where
  len : ds.length = l.length
  sum : out.length + (undone l ds).length = l.length
  ord : out.Pairwise (fun x y => x.1 ≤ y.1)
  low : ∀ x ∈ out, ∀ y ∈ undone l ds, x.1 ≤ y.1
  fil : ∀ c : Int, out.filter (fun x => x.1 == c) ++ (undone l ds).filter (fun x => x.1 == c) = l.filter (fun x => x.1 == c)
theorem undone_all : ∀ (l : List (Int × Int)), undone l (List.replicate l.length false) = l
  | [] => rfl
  | x :: l => by simp [List.replicate_succ, undone, undone_all l]
theorem Sofar.begin (l : List (Int × Int)) : Sofar l (List.replicate l.length false) [] :=
  ⟨by simp, by rw [undone_all]; simp, .nil, fun x hx => (by cases hx), fun c => by rw [undone_all]; rfl⟩
theorem undone_mem : ∀ (l : List (Int × Int)) (ds : List Bool) (j : Nat), l.length = ds.length → j < l.length → ds.getD j true = false → l.getD j (0, 0) ∈ undone l ds := by
  intro l ds j hl hj hd
  obtain ⟨u, v, h1, _⟩ := undone_split l ds j hl hj hd
  rw [h1]; simp
theorem undone_none : ∀ (l : List (Int × Int)) (ds : List Bool), l.length = ds.length → (∀ j, j < l.length → ds.getD j true = true) → undone l ds = []
  | [], _, _, _ => by simp [undone]
  | x :: l, [], h, _ => by simp at h
  | x :: l, d :: ds, hl, h => by
    have h0 := h 0 (by simp)
    simp at h0
    subst h0
    simp only [undone, if_true]
    exact undone_none l ds (by simpa using hl) fun j hj => by have := h (j + 1) (by simp; omega); simpa using this
theorem Sofar.step {l : List (Int × Int)} {ds : List Bool} {out : List (Int × Int)} (h : Sofar l ds out) (hlt : out.length < l.length) : ∃ b, bestOf l ds l.length = some b ∧ b < l.length ∧ Sofar l (ds.set b true) (out ++ [l.getD b (0, 0)]) := by
  have sp := bestOf_spec l ds l.length
  cases hb : bestOf l ds l.length with
  | none =>
    rw [hb] at sp
    have := undone_none l ds h.len.symm sp
    have hs := h.sum
    rw [this] at hs
    simp at hs
    omega
  | some b =>
    rw [hb] at sp
    obtain ⟨s1, s2, s3, s4⟩ := sp
    obtain ⟨u, v, h1, h2, h3, h4⟩ := undone_split l ds b h.len.symm s1 s2
    refine ⟨b, rfl, s1, by simpa using h.len, ?_, ?_, ?_, ?_⟩
    · have := h.sum; rw [h1] at this; rw [h2]; simp at this ⊢; omega
    · rw [List.pairwise_append]
      refine ⟨h.ord, by simp, fun x hx y hy => ?_⟩
      rw [List.mem_singleton] at hy
      subst hy
      exact h.low x hx _ (by rw [h1]; simp)
    · intro x hx y hy
      rw [h2] at hy
      rcases List.mem_append.1 hx with hx | hx
      · exact h.low x hx y (by rw [h1]; rcases List.mem_append.1 hy with q | q <;> simp [q])
      · rw [List.mem_singleton] at hx
        subst hx
        rcases List.mem_append.1 hy with q | q
        · obtain ⟨j, a1, a2, rfl⟩ := h3 y q
          have := s3 j a1 a2; omega
        · obtain ⟨j, a1, a2, a3, rfl⟩ := h4 y q
          exact s4 j a1 a2 a3
    · intro c
      rw [← h.fil c, h1, h2]
      simp only [List.filter_append, List.filter_cons, List.filter_nil, List.append_assoc]
      by_cases hc : (l.getD b (0, 0)).1 == c
      · have e : u.filter (fun x => x.1 == c) = [] := by
          rw [List.filter_eq_nil_iff]
          intro z hz hzc
          obtain ⟨j, a1, a2, rfl⟩ := h3 z hz
          have := s3 j a1 a2
          have h1 : (l.getD b (0, 0)).1 = c := by simpa using hc
          have h2 : (l.getD j (0, 0)).1 = c := by simpa using hzc
          omega
        simp only [if_pos hc, e, List.nil_append, List.singleton_append]
      · simp only [if_neg hc, List.nil_append]
theorem Sofar.done {l : List (Int × Int)} {ds : List Bool} {out : List (Int × Int)} (h : Sofar l ds out) (he : out.length = l.length) : IsSort l out := by
  refine ⟨h.ord, fun c => ?_⟩
  have : undone l ds = [] := by
    have := h.sum
    exact List.eq_nil_of_length_eq_zero (by omega)
  have hf := h.fil c
  rw [this] at hf
  simpa using hf
end Go.Proofs.Ytcplkjnmfdinaaa
