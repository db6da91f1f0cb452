/-
  Where a pixel stands in a rising row, or would. My own text.
-/
import Derived.Test.YtpopeipcjpfbaaaNearM
namespace Go.Proofs.Ytpopeipcjpfbaaa
set_option linter.unusedVariables false
/-- how many come ahead of a pixel. -/
def posE (l : List Ent) (x y : Int) : Nat := (putA l x y).length
theorem posE_len (l : List Ent) (x y : Int) : posE l x y ≤ l.length := putA_len l x y
theorem pLt_false {x y z w : Int} (h : pLt x y z w = false) : ¬ (x < z ∨ (x = z ∧ y < w)) := pLt_not.1 h
theorem posE_spec : ∀ {l : List Ent} (h : Rises l) (x y : Int) (k : Nat) (e : Ent), l[k]? = some e → (k < posE l x y ↔ pLt e.1 e.2.1 x y = true)
  | [], _, _, _, k, e, hk => by simp at hk
  | f :: l, h, x, y, k, e, hk => by
    have hc := List.pairwise_cons.1 h
    by_cases hf : pLt f.1 f.2.1 x y = true
    · have hp : posE (f :: l) x y = posE l x y + 1 := by
        unfold posE putA
        rw [List.filter_cons, if_pos hf]; rfl
      rw [hp]
      cases k with
      | zero => simp at hk; subst hk; simp [hf]
      | succ k =>
        have := posE_spec hc.2 x y k e (by simpa using hk)
        rw [← this]; omega
    · have hall : ∀ g ∈ f :: l, ¬ pLt g.1 g.2.1 x y = true := by
        intro g hg
        rcases List.mem_cons.1 hg with rfl | hg
        · exact hf
        · have h1 := hc.1 g hg
          rw [pLt_iff] at h1 hf ⊢
          omega
      have hp : posE (f :: l) x y = 0 := by
        unfold posE putA
        rw [List.filter_eq_nil_iff.2 hall]; rfl
      rw [hp]
      have := hall e (List.mem_of_getElem? hk)
      simp [this]
theorem take_lt {l : List Ent} (h : Rises l) {x y : Int} : ∀ e ∈ l.take (posE l x y), pLt e.1 e.2.1 x y = true := by
  intro e he
  obtain ⟨k, hk⟩ := List.getElem?_of_mem he
  have hlt := (List.getElem?_eq_some_iff.1 hk).1
  rw [List.length_take] at hlt
  rw [List.getElem?_take_of_lt (by omega)] at hk
  exact (posE_spec h x y k e hk).1 (by omega)
theorem drop_ge {l : List Ent} (h : Rises l) {x y : Int} : ∀ e ∈ l.drop (posE l x y), ¬ pLt e.1 e.2.1 x y = true := by
  intro e he
  obtain ⟨k, hk⟩ := List.getElem?_of_mem he
  rw [List.getElem?_drop] at hk
  intro hlt
  have := (posE_spec h x y _ e hk).2 hlt
  omega
theorem putA_pos {l : List Ent} (h : Rises l) {x y : Int} : putA l x y = l.take (posE l x y) := by
  conv => lhs; rw [← List.take_append_drop (posE l x y) l]
  unfold putA
  rw [List.filter_append, List.filter_eq_self.2 (take_lt h), List.filter_eq_nil_iff.2 (drop_ge h), List.append_nil]
/-- is the pixel there? -/
theorem has_pos {l : List Ent} (h : Rises l) {x y : Int} : hasE l x y = true ↔ ∃ u, l[posE l x y]? = some (x, y, u) := by
  constructor
  · intro hh
    unfold hasE at hh
    rw [List.any_eq_true] at hh
    obtain ⟨e, he, hq⟩ := hh
    simp only [Bool.and_eq_true, decide_eq_true_eq] at hq
    obtain ⟨k, hk⟩ := List.getElem?_of_mem he
    have h1 := posE_spec h x y k e hk
    have h2 : ¬ k < posE l x y := by rw [h1, pLt_iff]; omega
    have hkl := (List.getElem?_eq_some_iff.1 hk).1
    have hpl : posE l x y < l.length := by omega
    have hp := List.getElem?_eq_getElem hpl
    have h3 := posE_spec h x y _ _ hp
    by_cases e' : k = posE l x y
    · refine ⟨e.2.2, ?_⟩
      rw [← e', hk]
      exact congrArg some (Prod.ext hq.1 (Prod.ext hq.2 rfl))
    · exfalso
      have h4 := List.pairwise_iff_getElem.1 h (posE l x y) k hpl hkl (by omega)
      have ek : l[k] = e := (List.getElem?_eq_some_iff.1 hk).2
      rw [ek, pLt_iff] at h4
      have h5 : pLt l[posE l x y].1 l[posE l x y].2.1 x y = true := by rw [pLt_iff]; omega
      have := h3.2 h5
      omega
  · rintro ⟨u, hu⟩
    exact List.any_eq_true.2 ⟨_, List.mem_of_getElem? hu, by simp⟩
theorem hasN_pos {l : List Ent} (h : Rises l) {x y : Int} {e : Ent} (hn : hasE l x y = false) (he : l[posE l x y]? = some e) : ¬ (e.1 = x ∧ e.2.1 = y) := by
  rintro ⟨h1, h2⟩
  have : hasE l x y = true := List.any_eq_true.2 ⟨_, List.mem_of_getElem? he, by simp [h1, h2]⟩
  rw [hn] at this; cases this
theorem drop_gt {l : List Ent} (h : Rises l) {x y : Int} (hn : hasE l x y = false) : ∀ e ∈ l.drop (posE l x y), pLt x y e.1 e.2.1 = true := by
  intro e he
  have h1 := drop_ge h e he
  have h2 : ¬ (e.1 = x ∧ e.2.1 = y) := by
    rintro ⟨h3, h4⟩
    have : hasE l x y = true := List.any_eq_true.2 ⟨_, List.mem_of_mem_drop he, by simp [h3, h4]⟩
    rw [hn] at this; cases this
  rw [pLt_iff] at *
  omega
theorem putL_new {l : List Ent} (h : Rises l) {x y v : Int} (hn : hasE l x y = false) : putL l x y v = l.take (posE l x y) ++ (x, y, v) :: l.drop (posE l x y) := by
  unfold putL
  rw [putA_pos h]
  congr 2
  conv => lhs; rw [← List.take_append_drop (posE l x y) l]
  unfold putZ
  rw [List.filter_append, List.filter_eq_self.2 (drop_gt h hn), List.filter_eq_nil_iff.2 fun e he => ?_, List.nil_append]
  have := take_lt h e he
  rw [pLt_iff] at *
  omega
theorem putL_has {l : List Ent} (h : Rises l) {x y v u : Int} (hp : l[posE l x y]? = some (x, y, u)) : putL l x y v = l.take (posE l x y) ++ (x, y, v) :: l.drop (posE l x y + 1) := by
  unfold putL
  rw [putA_pos h]
  congr 2
  have hl := (List.getElem?_eq_some_iff.1 hp).1
  have he := (List.getElem?_eq_some_iff.1 hp).2
  conv => lhs; rw [← List.take_append_drop (posE l x y) l]
  unfold putZ
  rw [List.filter_append, List.filter_eq_nil_iff.2 (fun e he => by have := take_lt h e he; rw [pLt_iff] at *; omega), List.nil_append, List.drop_eq_getElem_cons hl, he, List.filter_cons_of_neg (by rw [pLt_iff]; simp)]
  refine List.filter_eq_self.2 fun e hm => ?_
  obtain ⟨k, hk⟩ := List.getElem?_of_mem hm
  rw [List.getElem?_drop] at hk
  have hkl := (List.getElem?_eq_some_iff.1 hk).1
  have h4 := List.pairwise_iff_getElem.1 h (posE l x y) _ hl hkl (by omega)
  rw [he, (List.getElem?_eq_some_iff.1 hk).2] at h4
  exact h4
theorem valE_pos {l : List Ent} (h : Rises l) {x y u : Int} (hp : l[posE l x y]? = some (x, y, u)) : hasE l x y = true ∧ valE l x y = u := valE_mem h (List.mem_of_getElem? hp)
/-- a box's part: all behind the first one that is not ahead of its low corner. -/
theorem inL_drop {l : List Ent} (h : Rises l) (a b c d : Int) : inL l a b c d = inL (l.drop (posE l a b)) a b c d := by
  conv => lhs; rw [← List.take_append_drop (posE l a b) l]
  unfold inL
  rw [List.filter_append, List.filter_eq_nil_iff.2 (fun e he => ?_), List.nil_append]
  have := take_lt h e he
  rw [pLt_iff] at this
  simp
  intros
  omega
/-- .. until the first one that is right of it. -/
theorem inL_stop {l : List Ent} (h : Rises l) {a b c d : Int} {k : Nat} {e : Ent} (hk : l[k]? = some e) (he : c < e.1) : inL l a b c d = inL (l.take k) a b c d := by
  conv => lhs; rw [← List.take_append_drop k l]
  unfold inL
  rw [List.filter_append, show (l.drop k).filter _ = [] from List.filter_eq_nil_iff.2 (fun f hf => ?_), List.append_nil]
  obtain ⟨j, hj⟩ := List.getElem?_of_mem hf
  rw [List.getElem?_drop] at hj
  have hjl := (List.getElem?_eq_some_iff.1 hj).1
  have hkl := (List.getElem?_eq_some_iff.1 hk).1
  have hc : c < f.1 := by
    by_cases e0 : j = 0
    · subst e0
      rw [Nat.add_zero, hk] at hj; cases hj; exact he
    · have h4 := List.pairwise_iff_getElem.1 h k (k + j) hkl hjl (by omega)
      rw [(List.getElem?_eq_some_iff.1 hk).2, (List.getElem?_eq_some_iff.1 hj).2, pLt_iff] at h4
      omega
  simp
  intros
  omega
theorem inL_step {l : List Ent} {a b c d : Int} {k : Nat} {x y v : Int} (hk : l[k]? = some (x, y, v)) (ha : a ≤ x) (hc : x ≤ c) : inL (l.take (k + 1)) a b c d = inL (l.take k) a b c d ++ if b ≤ y ∧ y ≤ d then [(x, y, v)] else [] := by
  unfold inL
  rw [take_filter hk]
  congr 1
  by_cases q : b ≤ y ∧ y ≤ d
  · rw [if_pos q, if_pos]
    simp [ha, hc, q.1, q.2]
  · rw [if_neg q, if_neg]
    simp [ha, hc]
    omega
theorem Rises.drop {l : List Ent} (h : Rises l) (k : Nat) : Rises (l.drop k) := List.Pairwise.sublist (List.drop_sublist k l) h
theorem drop_low {l : List Ent} (h : Rises l) {a b : Int} {k : Nat} {e : Ent} (hk : (l.drop (posE l a b))[k]? = some e) : a ≤ e.1 := by
  have := drop_ge h e (List.mem_of_getElem? hk)
  rw [pLt_iff] at this
  omega
end Go.Proofs.Ytpopeipcjpfbaaa
