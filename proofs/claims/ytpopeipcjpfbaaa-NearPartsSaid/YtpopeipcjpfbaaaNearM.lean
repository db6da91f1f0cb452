/-
  Rows of pixels with a value each, by numbers: what stands where. My own text.
-/
import Derived.Test.YtpopeipcjpfbaaaWideA
namespace Go.Proofs.Ytpopeipcjpfbaaa
set_option linter.unusedVariables false
/-- a pixel's numbers, and a value. -/
abbrev Ent := Int × Int × Int
/-- does the first one's pixel come ahead of the other's? -/
def pLt (x y z w : Int) : Bool := decide (x < z) || (decide (x = z) && decide (y < w))
theorem pLt_iff {x y z w : Int} : pLt x y z w = true ↔ x < z ∨ (x = z ∧ y < w) := by
  unfold pLt; simp
theorem pLt_not {x y z w : Int} : pLt x y z w = false ↔ ¬ (x < z ∨ (x = z ∧ y < w)) := by
  rw [← pLt_iff]; simp
def putA (l : List Ent) (x y : Int) : List Ent := l.filter fun e => pLt e.1 e.2.1 x y
def putZ (l : List Ent) (x y : Int) : List Ent := l.filter fun e => pLt x y e.1 e.2.1
def putL (l : List Ent) (x y v : Int) : List Ent := putA l x y ++ (x, y, v) :: putZ l x y
def inL (l : List Ent) (a b c d : Int) : List Ent := l.filter fun e => decide (a ≤ e.1) && decide (e.1 ≤ c) && decide (b ≤ e.2.1) && decide (e.2.1 ≤ d)
/-- where a pixel stands; -1: nowhere. -/
def getI (l : List Ent) (x y : Int) : Int := match l.findIdx? fun e => decide (e.1 = x) && decide (e.2.1 = y) with
  | some k => k
  | none => -1
/-- rising. -/
def Rises (l : List Ent) : Prop := l.Pairwise fun a b => pLt a.1 a.2.1 b.1 b.2.1 = true
theorem pLt_trans {a b c d e f : Int} (h1 : pLt a b c d = true) (h2 : pLt c d e f = true) : pLt a b e f = true := by
  rw [pLt_iff] at *; omega
theorem putL_rises {l : List Ent} (h : Rises l) (x y v : Int) : Rises (putL l x y v) := by
  unfold putL putA putZ Rises
  rw [List.pairwise_append, List.pairwise_cons]
  refine ⟨h.filter _, ⟨fun e he => ?_, h.filter _⟩, fun a ha b hb => ?_⟩
  · exact (List.mem_filter.1 he).2
  · have h1 := (List.mem_filter.1 ha).2
    rcases List.mem_cons.1 hb with rfl | hb
    · exact h1
    · exact pLt_trans h1 (List.mem_filter.1 hb).2
/-- is the pixel there? -/
def hasE (l : List Ent) (x y : Int) : Bool := l.any fun e => decide (e.1 = x) && decide (e.2.1 = y)
theorem getI_has (l : List Ent) (x y : Int) : decide (0 ≤ getI l x y) = hasE l x y := by
  unfold getI hasE
  cases h : l.findIdx? fun e => decide (e.1 = x) && decide (e.2.1 = y) with
  | none =>
    rw [List.findIdx?_eq_none_iff] at h
    have : (l.any fun e => decide (e.1 = x) && decide (e.2.1 = y)) = false := by
      rw [List.any_eq_false]; intro e he; rw [h e he]; decide
    rw [this]; rfl
  | some k =>
    have h0 := List.findIdx?_eq_some_iff_getElem.1 h
    obtain ⟨hk, h1, _⟩ := h0
    have : (l.any fun e => decide (e.1 = x) && decide (e.2.1 = y)) = true := List.any_eq_true.2 ⟨l[k], List.getElem_mem hk, h1⟩
    rw [this]; simp
theorem getI_lt {l : List Ent} {x y : Int} (h : 0 ≤ getI l x y) : ∃ k v, getI l x y = (k : Nat) ∧ k < l.length ∧ l[k]? = some (x, y, v) := by
  unfold getI at h ⊢
  cases hf : l.findIdx? fun e => decide (e.1 = x) && decide (e.2.1 = y) with
  | none => rw [hf] at h; simp at h
  | some k =>
    obtain ⟨hk, h1, _⟩ := List.findIdx?_eq_some_iff_getElem.1 hf
    simp only [Bool.and_eq_true, decide_eq_true_eq] at h1
    refine ⟨k, l[k].2.2, rfl, hk, ?_⟩
    rw [List.getElem?_eq_getElem hk]
    congr 1
    exact Prod.ext h1.1 (Prod.ext h1.2 rfl)
theorem getI_nil (x y : Int) : getI [] x y = -1 := rfl
/-- the value that a pixel has; 0: none. -/
def valE (l : List Ent) (x y : Int) : Int := match l.findIdx? fun e => decide (e.1 = x) && decide (e.2.1 = y) with
  | some k => (l.getD k (0, 0, 0)).2.2
  | none => 0
theorem valE_some {l : List Ent} {x y v : Int} {k : Nat} (h : getI l x y = k) (hl : l[k]? = some (x, y, v)) : valE l x y = v := by
  unfold getI at h
  unfold valE
  cases hf : l.findIdx? fun e => decide (e.1 = x) && decide (e.2.1 = y) with
  | none => rw [hf] at h; simp at h
  | some j =>
    rw [hf] at h
    have : j = k := by simp at h; omega
    subst this
    simp only [List.getD_eq_getElem?_getD, hl]; rfl
theorem valE_none {l : List Ent} {x y : Int} (h : hasE l x y = false) : valE l x y = 0 := by
  have h2 := getI_has l x y
  rw [h] at h2
  unfold getI at h2
  unfold valE
  cases hf : l.findIdx? fun e => decide (e.1 = x) && decide (e.2.1 = y) with
  | none => rfl
  | some j => rw [hf] at h2; simp at h2
/-- all that were put, one behind the other. -/
def madeL (l : List Ent) : List Ent → List Ent
  | [] => l
  | e :: es => madeL (putL l e.1 e.2.1 e.2.2) es
theorem madeL_append (l : List Ent) : ∀ (es fs : List Ent), madeL l (es ++ fs) = madeL (madeL l es) fs := by
  intro es
  induction es generalizing l with
  | nil => intro fs; rfl
  | cons e es ih => intro fs; exact ih _ fs
theorem madeL_rises {l : List Ent} (h : Rises l) : ∀ es, Rises (madeL l es) := by
  intro es
  induction es generalizing l with
  | nil => exact h
  | cons e es ih => exact ih (putL_rises h _ _ _)
theorem putL_len (l : List Ent) (x y v : Int) : (putL l x y v).length ≤ l.length + 1 := by
  have : ∀ l : List Ent, (putA l x y).length + (putZ l x y).length ≤ l.length := by
    intro l
    induction l with
    | nil => simp [putA, putZ]
    | cons e l ih =>
      unfold putA putZ at *
      rw [List.filter_cons, List.filter_cons]
      by_cases h1 : pLt e.1 e.2.1 x y = true
      · have h2 : ¬ pLt x y e.1 e.2.1 = true := by rw [pLt_iff] at *; omega
        rw [if_pos h1, if_neg h2]; simp; omega
      · rw [if_neg h1]
        split <;> simp <;> omega
  have := this l
  unfold putL
  rw [List.length_append, List.length_cons]; omega
theorem madeL_len (l : List Ent) : ∀ es, (madeL l es).length ≤ l.length + es.length := by
  intro es
  induction es generalizing l with
  | nil => simp [madeL]
  | cons e es ih =>
    have h1 := ih (putL l e.1 e.2.1 e.2.2)
    have h2 := putL_len l e.1 e.2.1 e.2.2
    simp only [madeL, List.length_cons]; omega
theorem inL_len (l : List Ent) (a b c d : Int) : (inL l a b c d).length ≤ l.length := List.length_filter_le _ _
theorem putA_len (l : List Ent) (x y : Int) : (putA l x y).length ≤ l.length := List.length_filter_le _ _
theorem putZ_len (l : List Ent) (x y : Int) : (putZ l x y).length ≤ l.length := List.length_filter_le _ _
/-- of the first k. -/
theorem take_filter {p : Ent → Bool} {l : List Ent} {k : Nat} {e : Ent} (h : l[k]? = some e) : (l.take (k + 1)).filter p = (l.take k).filter p ++ if p e then [e] else [] := by
  have hk := (List.getElem?_eq_some_iff.1 h).1
  have he : l[k] = e := (List.getElem?_eq_some_iff.1 h).2
  rw [List.take_succ_eq_append_getElem hk, List.filter_append, he]
  cases hp : p e <;> simp [hp]
theorem inL_split {a b c d t : Int} (h1 : a < t) (h2 : t ≤ c) : ∀ {l : List Ent}, Rises l → inL l a b c d = inL l a b (t - 1) d ++ inL l t b c d
  | [], _ => rfl
  | e :: l, h => by
    have hc := List.pairwise_cons.1 h
    have ih := inL_split (b := b) (d := d) h1 h2 hc.2
    by_cases ht : e.1 < t
    · have e1 : inL (e :: l) t b c d = inL l t b c d := by
        unfold inL; rw [List.filter_cons_of_neg]; simp; intro h; omega
      have e2 : (decide (a ≤ e.1) && decide (e.1 ≤ c) && decide (b ≤ e.2.1) && decide (e.2.1 ≤ d)) = (decide (a ≤ e.1) && decide (e.1 ≤ t - 1) && decide (b ≤ e.2.1) && decide (e.2.1 ≤ d)) := by
        rw [decide_eq_true (show e.1 ≤ c by omega), decide_eq_true (show e.1 ≤ t - 1 by omega)]
      rw [e1]
      unfold inL at ih ⊢
      rw [List.filter_cons, List.filter_cons, e2]
      split
      · rw [ih]; rfl
      · exact ih
    · have hge : ∀ x ∈ e :: l, t ≤ x.1 := by
        intro x hx
        rcases List.mem_cons.1 hx with rfl | hx
        · omega
        · have := pLt_iff.1 (hc.1 x hx); omega
      have e1 : inL (e :: l) a b (t - 1) d = [] := by
        unfold inL
        rw [List.filter_eq_nil_iff]
        intro x hx
        have := hge x hx
        simp; intros; omega
      rw [e1, List.nil_append]
      unfold inL
      apply List.filter_congr
      intro x hx
      have := hge x hx
      rw [decide_eq_true (show a ≤ x.1 by omega), decide_eq_true (show t ≤ x.1 by omega)]
theorem valE_mem {l : List Ent} (h : Rises l) {x y v : Int} (hm : (x, y, v) ∈ l) : hasE l x y = true ∧ valE l x y = v := by
  have hh : hasE l x y = true := List.any_eq_true.2 ⟨_, hm, by simp⟩
  have hg := getI_has l x y
  rw [hh] at hg
  obtain ⟨k, u, h1, h2, h3⟩ := getI_lt (of_decide_eq_true hg)
  refine ⟨hh, ?_⟩
  rw [valE_some h1 h3]
  obtain ⟨j, hj⟩ := List.getElem?_of_mem hm
  have hjl := (List.getElem?_eq_some_iff.1 hj).1
  have ek : l[k] = (x, y, u) := (List.getElem?_eq_some_iff.1 h3).2
  have ej : l[j] = (x, y, v) := (List.getElem?_eq_some_iff.1 hj).2
  unfold Rises at h
  rw [List.pairwise_iff_getElem] at h
  rcases Nat.lt_trichotomy k j with q | q | q
  · have := h k j h2 hjl q
    rw [ek, ej, pLt_iff] at this
    simp at this
  · subst q
    rw [ek] at ej
    cases ej; rfl
  · have := h j k hjl h2 q
    rw [ek, ej, pLt_iff] at this
    simp at this
end Go.Proofs.Ytpopeipcjpfbaaa
