/-
  Rows of digits of four decimals, the lowest first: their number, sums, differences, products, quotients. Plain arithmetic; nothing of the program. My own text.
-/
import Derived.WalkKit
namespace Go.Proofs.Ytinjgiigmlikpaa
set_option linter.unusedVariables false

/-- the number of a row, x standing above its highest digit. -/
def dvx : List Int → Int → Int
  | [], x => x
  | d :: ds, x => d + 10000 * dvx ds x
/-- a row's number. -/
def dval (ds : List Int) : Int := dvx ds 0
/-- all are digits. -/
def IsD (ds : List Int) : Prop := ∀ d ∈ ds, 0 ≤ d ∧ d < 10000
/-- the number of a row's digits from k on. -/
def hi (ds : List Int) (k : Nat) : Int := dval (ds.drop k)
/-- no nought at the high end. -/
def NoZ (ds : List Int) : Prop := 0 < ds.length → ds.getD (ds.length - 1) 0 ≠ 0

theorem dvx_app (a b : List Int) (x : Int) : dvx (a ++ b) x = dvx a (dvx b x) := by
  induction a with
  | nil => rfl
  | cons d ds ih => simp only [List.cons_append, dvx, ih]
theorem dvx_snoc (a : List Int) (d x : Int) : dvx (a ++ [d]) x = dvx a (d + 10000 * x) := dvx_app a [d] x
theorem dvx_lt (a : List Int) {x y : Int} (h : x < y) : dvx a x < dvx a y := by
  induction a with
  | nil => exact h
  | cons d ds ih => simp only [dvx]; omega
theorem dvx_inj (a : List Int) {x y : Int} (h : dvx a x = dvx a y) : x = y := by
  rcases Int.lt_trichotomy x y with k | k | k
  · have := dvx_lt a k; omega
  · exact k
  · have := dvx_lt a k; omega
theorem IsD.tail {d : Int} {ds : List Int} (h : IsD (d :: ds)) : IsD ds := fun x hx => h x (List.mem_cons_of_mem _ hx)
theorem IsD.head {d : Int} {ds : List Int} (h : IsD (d :: ds)) : 0 ≤ d ∧ d < 10000 := h d List.mem_cons_self
theorem IsD.nil : IsD [] := fun d h => by cases h
theorem IsD.snoc {ds : List Int} {d : Int} (h : IsD ds) (h0 : 0 ≤ d) (h1 : d < 10000) : IsD (ds ++ [d]) := by
  intro x hx
  rcases List.mem_append.1 hx with k | k
  · exact h x k
  · obtain rfl : x = d := by simpa using k
    exact ⟨h0, h1⟩
theorem IsD.take {ds : List Int} (h : IsD ds) (k : Nat) : IsD (ds.take k) := fun x hx => h x (List.mem_of_mem_take hx)
theorem IsD.drop {ds : List Int} (h : IsD ds) (k : Nat) : IsD (ds.drop k) := fun x hx => h x (List.mem_of_mem_drop hx)
theorem IsD.set {ds : List Int} (h : IsD ds) (k : Nat) {d : Int} (h0 : 0 ≤ d) (h1 : d < 10000) : IsD (ds.set k d) := by
  intro x hx
  rcases List.mem_or_eq_of_mem_set hx with k | k
  · exact h x k
  · exact k ▸ ⟨h0, h1⟩
theorem IsD.getD {ds : List Int} (h : IsD ds) (k : Nat) : 0 ≤ ds.getD k 0 ∧ ds.getD k 0 < 10000 := by
  by_cases e : k < ds.length
  · rw [List.getD_eq_getElem?_getD, List.getElem?_eq_getElem e]
    exact h _ (List.getElem_mem e)
  · rw [List.getD_eq_getElem?_getD, List.getElem?_eq_none (by omega)]
    exact ⟨by decide, by decide⟩
theorem dvx_neg {a : List Int} (h : IsD a) {x : Int} (hx : x < 0) : dvx a x < 0 := by
  induction a with
  | nil => exact hx
  | cons d ds ih => have := h.head; have := ih h.tail; simp only [dvx]; omega
theorem dvx_nonneg {a : List Int} (h : IsD a) {x : Int} (hx : 0 ≤ x) : 0 ≤ dvx a x := by
  induction a with
  | nil => exact hx
  | cons d ds ih => have := h.head; have := ih h.tail; simp only [dvx]; omega
theorem dval_nonneg {a : List Int} (h : IsD a) : 0 ≤ dval a := dvx_nonneg h (by omega)
theorem hi_nonneg {a : List Int} (h : IsD a) (k : Nat) : 0 ≤ hi a k := dval_nonneg (h.drop k)
theorem dval_cons (d : Int) (ds : List Int) : dval (d :: ds) = d + 10000 * dval ds := rfl
theorem dval_nil : dval [] = 0 := rfl
theorem hi_zero (a : List Int) : hi a 0 = dval a := rfl
theorem hi_step (a : List Int) (k : Nat) : hi a k = a.getD k 0 + 10000 * hi a (k + 1) := by
  unfold hi
  by_cases e : k < a.length
  · rw [List.drop_eq_getElem_cons e, dval_cons, List.getD_eq_getElem?_getD, List.getElem?_eq_getElem e]; rfl
  · rw [List.drop_eq_nil_of_le (by omega), List.drop_eq_nil_of_le (by omega), List.getD_eq_getElem?_getD, List.getElem?_eq_none (by omega)]; rfl
theorem hi_end (a : List Int) {k : Nat} (h : a.length ≤ k) : hi a k = 0 := by
  unfold hi; rw [List.drop_eq_nil_of_le h]; rfl
theorem dval_split (a : List Int) (k : Nat) : dvx (a.take k) (hi a k) = dval a := by
  unfold hi dval; rw [← dvx_app, List.take_append_drop]
theorem dval_lt {ds : List Int} (h : IsD ds) : dval ds < 10000 ^ ds.length := by
  induction ds with
  | nil => decide
  | cons d ds ih => have := h.head; have := ih h.tail; rw [dval_cons, List.length_cons, Int.pow_succ]; omega
theorem pow_pos' (k : Nat) : (0 : Int) < 10000 ^ k := Int.pow_pos (by decide)
theorem pow_mono {k j : Nat} (h : k ≤ j) : (10000 : Int) ^ k ≤ 10000 ^ j := by
  obtain ⟨d, rfl⟩ := Nat.exists_eq_add_of_le h
  clear h
  induction d with
  | zero => exact Int.le_refl _
  | succ d ih => have := pow_pos' (k + d); rw [← Nat.add_assoc, Int.pow_succ]; omega
theorem nm_ge {ds : List Int} (h : IsD ds) (n : NoZ ds) (k : Nat) (e : ds.length = k + 1) : (10000 : Int) ^ k ≤ dval ds := by
  induction ds generalizing k with
  | nil => cases e
  | cons d ds ih =>
    rw [dval_cons]
    have hh := h.head
    cases k with
    | zero =>
      obtain rfl : ds = [] := List.eq_nil_of_length_eq_zero (by simpa using e)
      have := n (by simp)
      simp at this
      show (1 : Int) ≤ _
      rw [dval_nil]
      omega
    | succ k =>
      have hl : ds.length = k + 1 := by simpa using e
      have n' : NoZ ds := by
        intro hp
        have := n (by simp)
        rw [List.length_cons, hl] at this
        rw [hl]
        simpa using this
      have := ih h.tail n' k hl
      rw [Int.pow_succ]
      omega
/-- a row without noughts at its high end is as short as its number. -/
theorem nm_len {ds : List Int} (h : IsD ds) (n : NoZ ds) {k : Nat} (hk : dval ds < 10000 ^ k) : ds.length ≤ k := by
  rcases Nat.lt_or_ge k ds.length with hlt | hge
  · exfalso
    obtain ⟨j, hj⟩ : ∃ j, ds.length = j + 1 := ⟨ds.length - 1, by omega⟩
    have h1 := nm_ge h n j hj
    have h2 : (10000 : Int) ^ k ≤ 10000 ^ j := pow_mono (by omega)
    omega
  · exact hge
theorem nm_zero {ds : List Int} (h : IsD ds) (n : NoZ ds) (e : dval ds = 0) : ds = [] := by
  have := nm_len h n (k := 0) (by rw [e]; decide)
  exact List.eq_nil_of_length_eq_zero (by omega)
theorem nm_nil : NoZ [] := fun h => by cases h

/-- the higher digits alike, the next one less: less. -/
theorem size_lt (k : Nat) : ∀ {a b : List Int}, IsD a → IsD b → a.getD k 0 < b.getD k 0 → hi a (k + 1) = hi b (k + 1) → dval a < dval b := by
  induction k with
  | zero =>
    intro a b ha hb h e
    have h1 := hi_step a 0; have h2 := hi_step b 0
    rw [hi_zero] at h1 h2
    have := ha.getD 0; have := hb.getD 0
    simp only [Nat.zero_add] at *
    omega
  | succ k ih =>
    intro a b ha hb h e
    have h1 := hi_step a 0; have h2 := hi_step b 0
    rw [hi_zero] at h1 h2
    have t1 : hi a (0 + 1) = dval (a.drop 1) := rfl
    have t2 : hi b (0 + 1) = dval (b.drop 1) := rfl
    have := ih (ha.drop 1) (hb.drop 1) (by
      rw [List.getD_eq_getElem?_getD, List.getD_eq_getElem?_getD, List.getElem?_drop, List.getElem?_drop, Nat.add_comm 1 k]
      rw [List.getD_eq_getElem?_getD, List.getD_eq_getElem?_getD] at h
      exact h) (by
      unfold hi at *
      rw [List.drop_drop, List.drop_drop, Nat.add_comm 1 (k + 1)]
      exact e)
    have := ha.getD 0; have := hb.getD 0
    omega
theorem size_eq {a b : List Int} (e : hi a 0 = hi b 0) : dval a = dval b := e

/-- one more digit of a sum. -/
theorem plus_step {out a b : List Int} {k : Nat} {c : Int} {T : Int} (h : dvx out (c + hi a k + hi b k) = T) :
    dvx (out ++ [(c + a.getD k 0 + b.getD k 0) % 10000]) ((c + a.getD k 0 + b.getD k 0) / 10000 + hi a (k + 1) + hi b (k + 1)) = T := by
  rw [dvx_snoc, ← h]
  congr 1
  have := hi_step a k; have := hi_step b k
  omega
theorem minus_step {out a b : List Int} {k : Nat} {c x : Int} {T : Int} (h : dvx out (hi a k - hi b k - c) = T) {c' : Int} (hx : x - 10000 * c' = a.getD k 0 - b.getD k 0 - c) :
    dvx (out ++ [x]) (hi a (k + 1) - hi b (k + 1) - c') = T := by
  rw [dvx_snoc, ← h]
  congr 1
  have := hi_step a k; have := hi_step b k
  omega
theorem minus_end {out a b : List Int} {c : Int} (ho : IsD out) (hb : IsD b) (hc : 0 ≤ c) (hle : dval b ≤ dval a) (h : dvx out (hi a a.length - hi b a.length - c) = dval a - dval b) : dval out = dval a - dval b := by
  rw [hi_end a (Nat.le_refl _)] at h
  have h1 := hi_nonneg hb a.length
  by_cases e : hi b a.length + c = 0
  · rw [show (0 - hi b a.length - c) = 0 by omega] at h
    exact h
  · have := dvx_neg ho (x := 0 - hi b a.length - c) (by omega)
    omega
end Go.Proofs.Ytinjgiigmlikpaa
