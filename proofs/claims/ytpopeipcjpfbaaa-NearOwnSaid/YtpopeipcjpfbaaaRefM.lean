/-
  Rows of digits of four decimals, the lowest first: their number, sums, differences, products, quotients. Plain arithmetic; nothing of the program. My own text.
-/
import Derived.WalkKit
namespace Go.Proofs.Ytpopeipcjpfbaaa
set_option linter.unusedVariables false

/-- the number of a row, x standing above its highest digit. -/
def dvx : List Int → Int → Int
  | [], x => x
  | d :: ds, x => d + 10000 * dvx ds x
/-- a row's number. -/
def dval (ds : List Int) : Int := dvx ds 0
/-- all are digits. -/
def IsD (ds : List Int) : Prop := ∀ d ∈ ds, 0 ≤ d ∧ d < 10000
/-- the number of a row's digits from k on. -/
def hi (ds : List Int) (k : Nat) : Int := dval (ds.drop k)
/-- no nought at the high end. -/
def NoZ (ds : List Int) : Prop := 0 < ds.length → ds.getD (ds.length - 1) 0 ≠ 0

theorem dvx_app (a b : List Int) (x : Int) : dvx (a ++ b) x = dvx a (dvx b x) := by
  induction a with
  | nil => rfl
  | cons d ds ih => simp only [List.cons_append, dvx, ih]
theorem dvx_snoc (a : List Int) (d x : Int) : dvx (a ++ [d]) x = dvx a (d + 10000 * x) := dvx_app a [d] x
theorem dvx_lt (a : List Int) {x y : Int} (h : x < y) : dvx a x < dvx a y := by
  induction a with
  | nil => exact h
  | cons d ds ih => simp only [dvx]; omega
theorem dvx_inj (a : List Int) {x y : Int} (h : dvx a x = dvx a y) : x = y := by
  rcases Int.lt_trichotomy x y with k | k | k
  · have := dvx_lt a k; omega
  · exact k
  · have := dvx_lt a k; omega
theorem IsD.tail {d : Int} {ds : List Int} (h : IsD (d :: ds)) : IsD ds := fun x hx => h x (List.mem_cons_of_mem _ hx)
theorem IsD.head {d : Int} {ds : List Int} (h : IsD (d :: ds)) : 0 ≤ d ∧ d < 10000 := h d List.mem_cons_self
theorem IsD.nil : IsD [] := fun d h => by cases h
theorem IsD.snoc {ds : List Int} {d : Int} (h : IsD ds) (h0 : 0 ≤ d) (h1 : d < 10000) : IsD (ds ++ [d]) := by
  intro x hx
  rcases List.mem_append.1 hx with k | k
  · exact h x k
  · obtain rfl : x = d := by simpa using k
    exact ⟨h0, h1⟩
theorem IsD.take {ds : List Int} (h : IsD ds) (k : Nat) : IsD (ds.take k) := fun x hx => h x (List.mem_of_mem_take hx)
theorem IsD.drop {ds : List Int} (h : IsD ds) (k : Nat) : IsD (ds.drop k) := fun x hx => h x (List.mem_of_mem_drop hx)
theorem IsD.set {ds : List Int} (h : IsD ds) (k : Nat) {d : Int} (h0 : 0 ≤ d) (h1 : d < 10000) : IsD (ds.set k d) := by
  intro x hx
  rcases List.mem_or_eq_of_mem_set hx with k | k
  · exact h x k
  · exact k ▸ ⟨h0, h1⟩
theorem IsD.getD {ds : List Int} (h : IsD ds) (k : Nat) : 0 ≤ ds.getD k 0 ∧ ds.getD k 0 < 10000 := by
  by_cases e : k < ds.length
  · rw [List.getD_eq_getElem?_getD, List.getElem?_eq_getElem e]
    exact h _ (List.getElem_mem e)
  · rw [List.getD_eq_getElem?_getD, List.getElem?_eq_none (by omega)]
    exact ⟨by decide, by decide⟩
theorem dvx_neg {a : List Int} (h : IsD a) {x : Int} (hx : x < 0) : dvx a x < 0 := by
  induction a with
  | nil => exact hx
  | cons d ds ih => have := h.head; have := ih h.tail; simp only [dvx]; omega
theorem dvx_nonneg {a : List Int} (h : IsD a) {x : Int} (hx : 0 ≤ x) : 0 ≤ dvx a x := by
  induction a with
  | nil => exact hx
  | cons d ds ih => have := h.head; have := ih h.tail; simp only [dvx]; omega
theorem dval_nonneg {a : List Int} (h : IsD a) : 0 ≤ dval a := dvx_nonneg h (by omega)
theorem hi_nonneg {a : List Int} (h : IsD a) (k : Nat) : 0 ≤ hi a k := dval_nonneg (h.drop k)
theorem dval_cons (d : Int) (ds : List Int) : dval (d :: ds) = d + 10000 * dval ds := rfl
theorem dval_nil : dval [] = 0 := rfl
theorem hi_zero (a : List Int) : hi a 0 = dval a := rfl
theorem hi_step (a : List Int) (k : Nat) : hi a k = a.getD k 0 + 10000 * hi a (k + 1) := by
  unfold hi
  by_cases e : k < a.length
  · rw [List.drop_eq_getElem_cons e, dval_cons, List.getD_eq_getElem?_getD, List.getElem?_eq_getElem e]; rfl
  · rw [List.drop_eq_nil_of_le (by omega), List.drop_eq_nil_of_le (by omega), List.getD_eq_getElem?_getD, List.getElem?_eq_none (by omega)]; rfl
theorem hi_end (a : List Int) {k : Nat} (h : a.length ≤ k) : hi a k = 0 := by
  unfold hi; rw [List.drop_eq_nil_of_le h]; rfl
theorem dval_split (a : List Int) (k : Nat) : dvx (a.take k) (hi a k) = dval a := by
  unfold hi dval; rw [← dvx_app, List.take_append_drop]
theorem dval_lt {ds : List Int} (h : IsD ds) : dval ds < 10000 ^ ds.length := by
  induction ds with
  | nil => decide
  | cons d ds ih => have := h.head; have := ih h.tail; rw [dval_cons, List.length_cons, Int.pow_succ]; omega
theorem pow_pos' (k : Nat) : (0 : Int) < 10000 ^ k := Int.pow_pos (by decide)
theorem pow_mono {k j : Nat} (h : k ≤ j) : (10000 : Int) ^ k ≤ 10000 ^ j := by
  obtain ⟨d, rfl⟩ := Nat.exists_eq_add_of_le h
  clear h
  induction d with
  | zero => exact Int.le_refl _
  | succ d ih => have := pow_pos' (k + d); rw [← Nat.add_assoc, Int.pow_succ]; omega
theorem nm_ge {ds : List Int} (h : IsD ds) (n : NoZ ds) (k : Nat) (e : ds.length = k + 1) : (10000 : Int) ^ k ≤ dval ds := by
  induction ds generalizing k with
  | nil => cases e
  | cons d ds ih =>
    rw [dval_cons]
    have hh := h.head
    cases k with
    | zero =>
      obtain rfl : ds = [] := List.eq_nil_of_length_eq_zero (by simpa using e)
      have := n (by simp)
      simp at this
      show (1 : Int) ≤ _
      rw [dval_nil]
      omega
    | succ k =>
      have hl : ds.length = k + 1 := by simpa using e
      have n' : NoZ ds := by
        intro hp
        have := n (by simp)
        rw [List.length_cons, hl] at this
        rw [hl]
        simpa using this
      have := ih h.tail n' k hl
      rw [Int.pow_succ]
      omega
/-- a row without noughts at its high end is as short as its number. -/
theorem nm_len {ds : List Int} (h : IsD ds) (n : NoZ ds) {k : Nat} (hk : dval ds < 10000 ^ k) : ds.length ≤ k := by
  rcases Nat.lt_or_ge k ds.length with hlt | hge
  · exfalso
    obtain ⟨j, hj⟩ : ∃ j, ds.length = j + 1 := ⟨ds.length - 1, by omega⟩
    have h1 := nm_ge h n j hj
    have h2 : (10000 : Int) ^ k ≤ 10000 ^ j := pow_mono (by omega)
    omega
  · exact hge
theorem nm_zero {ds : List Int} (h : IsD ds) (n : NoZ ds) (e : dval ds = 0) : ds = [] := by
  have := nm_len h n (k := 0) (by rw [e]; decide)
  exact List.eq_nil_of_length_eq_zero (by omega)
theorem nm_nil : NoZ [] := fun h => by cases h

/-- the higher digits alike, the next one less: less. -/
theorem size_lt (k : Nat) : ∀ {a b : List Int}, IsD a → IsD b → a.getD k 0 < b.getD k 0 → hi a (k + 1) = hi b (k + 1) → dval a < dval b := by
  induction k with
  | zero =>
    intro a b ha hb h e
    have h1 := hi_step a 0; have h2 := hi_step b 0
    rw [hi_zero] at h1 h2
    have := ha.getD 0; have := hb.getD 0
    simp only [Nat.zero_add] at *
    omega
  | succ k ih =>
    intro a b ha hb h e
    have h1 := hi_step a 0; have h2 := hi_step b 0
    rw [hi_zero] at h1 h2
    have t1 : hi a (0 + 1) = dval (a.drop 1) := rfl
    have t2 : hi b (0 + 1) = dval (b.drop 1) := rfl
    have := ih (ha.drop 1) (hb.drop 1) (by
      rw [List.getD_eq_getElem?_getD, List.getD_eq_getElem?_getD, List.getElem?_drop, List.getElem?_drop, Nat.add_comm 1 k]
      rw [List.getD_eq_getElem?_getD, List.getD_eq_getElem?_getD] at h
      exact h) (by
      unfold hi at *
      rw [List.drop_drop, List.drop_drop, Nat.add_comm 1 (k + 1)]
      exact e)
    have := ha.getD 0; have := hb.getD 0
    omega
theorem size_eq {a b : List Int} (e : hi a 0 = hi b 0) : dval a = dval b := e

/-- one more digit of a sum. -/
theorem plus_step {out a b : List Int} {k : Nat} {c : Int} {T : Int} (h : dvx out (c + hi a k + hi b k) = T) :
    dvx (out ++ [(c + a.getD k 0 + b.getD k 0) % 10000]) ((c + a.getD k 0 + b.getD k 0) / 10000 + hi a (k + 1) + hi b (k + 1)) = T := by
  rw [dvx_snoc, ← h]
  congr 1
  have := hi_step a k; have := hi_step b k
  omega
theorem minus_step {out a b : List Int} {k : Nat} {c x : Int} {T : Int} (h : dvx out (hi a k - hi b k - c) = T) {c' : Int} (hx : x - 10000 * c' = a.getD k 0 - b.getD k 0 - c) :
    dvx (out ++ [x]) (hi a (k + 1) - hi b (k + 1) - c') = T := by
  rw [dvx_snoc, ← h]
  congr 1
  have := hi_step a k; have := hi_step b k
  omega
theorem minus_end {out a b : List Int} {c : Int} (ho : IsD out) (hb : IsD b) (hc : 0 ≤ c) (hle : dval b ≤ dval a) (h : dvx out (hi a a.length - hi b a.length - c) = dval a - dval b) : dval out = dval a - dval b := by
  rw [hi_end a (Nat.le_refl _)] at h
  have h1 := hi_nonneg hb a.length
  by_cases e : hi b a.length + c = 0
  · rw [show (0 - hi b a.length - c) = 0 by omega] at h
    exact h
  · have := dvx_neg ho (x := 0 - hi b a.length - c) (by omega)
    omega
end Go.Proofs.Ytpopeipcjpfbaaa
namespace Go.Proofs.Ytpopeipcjpfbaaa
set_option linter.unusedVariables false

theorem getD_set_self {o : List Int} {k : Nat} (hk : k < o.length) (d : Int) : (o.set k d).getD k 0 = d := by
  rw [List.getD_eq_getElem?_getD, List.getElem?_set_self hk]; rfl
theorem getD_set_ne {o : List Int} {k j : Nat} (h : k ≠ j) (d : Int) : (o.set k d).getD j 0 = o.getD j 0 := by
  rw [List.getD_eq_getElem?_getD, List.getElem?_set_ne h, List.getD_eq_getElem?_getD]
theorem hi_set_lt {o : List Int} {k j : Nat} (h : k < j) (d : Int) : hi (o.set k d) j = hi o j := by
  unfold hi; rw [List.drop_set_of_lt h]
theorem take_set_ge {o : List Int} {k j : Nat} (h : j ≤ k) (d : Int) : (o.set k d).take j = o.take j := by
  rw [List.take_set_of_le h]
theorem take_snoc {o : List Int} {k : Nat} (h : k < o.length) : o.take (k + 1) = o.take k ++ [o.getD k 0] := by
  rw [List.take_succ_eq_append_getElem h, List.getD_eq_getElem?_getD, List.getElem?_eq_getElem h]; rfl

/-- the part of a row from i to i + k. -/
def mid (o : List Int) (i k : Nat) : List Int := (o.drop i).take k
theorem mid_snoc {o : List Int} {i k : Nat} (h : i + k < o.length) : mid o i (k + 1) = mid o i k ++ [o.getD (i + k) 0] := by
  unfold mid
  rw [take_snoc (by rw [List.length_drop]; omega)]
  congr 2
  rw [List.getD_eq_getElem?_getD, List.getElem?_drop, List.getD_eq_getElem?_getD]
theorem mid_set {o : List Int} {i k : Nat} (d : Int) : mid (o.set (i + k) d) i k = mid o i k := by
  unfold mid
  rw [List.drop_set, if_neg (by omega), take_set_ge (by omega)]
theorem mid_zero (o : List Int) (i : Nat) : mid o i 0 = [] := rfl
theorem hi_mid (o : List Int) (i k : Nat) : dvx (mid o i k) (hi o (i + k)) = hi o i := by
  unfold mid hi dval
  rw [← List.drop_drop, ← dvx_app, List.take_append_drop]

/-- What a product's inner round keeps: the row from i on, and what is to come, is what it was at first, and x times b. -/
def MulIn (o : List Int) (i k : Nat) (c x : Int) (b : List Int) (T : Int) : Prop := dvx (mid o i k) (hi o (i + k) + c + x * hi b k) = T
theorem mulIn_start (o : List Int) (i : Nat) (x : Int) (b : List Int) : MulIn o i 0 0 x b (hi o i + x * dval b) := by
  unfold MulIn
  rw [mid_zero, hi_zero]
  show hi o i + 0 + x * dval b = _
  rw [Int.add_zero]
theorem mulIn_step {o : List Int} {i k : Nat} {c x : Int} {b : List Int} {T : Int} (h : MulIn o i k c x b T) (hk : i + k < o.length) {s : Int} (hs : s = c + o.getD (i + k) 0 + x * b.getD k 0) :
    MulIn (o.set (i + k) (s % 10000)) i (k + 1) (s / 10000) x b T := by
  unfold MulIn at *
  rw [mid_snoc (by rw [List.length_set]; exact hk), mid_set, getD_set_self hk, dvx_snoc, ← h, hi_set_lt (by omega)]
  congr 1
  have h1 := hi_step o (i + k)
  have h2 := hi_step b k
  have h3 : x * hi b k = x * b.getD k 0 + 10000 * (x * hi b (k + 1)) := by rw [h2, Int.mul_add, Int.mul_left_comm]
  rw [h3, ← Nat.add_assoc]
  generalize x * hi b (k + 1) = u at *
  generalize x * b.getD k 0 = v at *
  omega
theorem mulIn_end {o : List Int} {i k : Nat} {x : Int} {b : List Int} {T : Int} (h : MulIn o i k 0 x b T) (hk : b.length ≤ k) : hi o i = T := by
  unfold MulIn at h
  rw [hi_end b hk, Int.mul_zero, Int.add_zero, Int.add_zero, hi_mid] at h
  exact h
/-- What a product's outer round keeps. -/
def MulOut (o a b : List Int) (i : Nat) : Prop := dvx (o.take i) (hi o i + hi a i * dval b) = dval a * dval b
theorem mulOut_start {o a b : List Int} (h : dval o = 0) : MulOut o a b 0 := by
  unfold MulOut
  rw [hi_zero, hi_zero, h, Int.zero_add]; rfl
theorem mulOut_step {o o' a b : List Int} {i : Nat} (h : MulOut o a b i) (hl : i < o'.length) (ht : o'.take i = o.take i) (he : hi o' i = hi o i + a.getD i 0 * dval b) : MulOut o' a b (i + 1) := by
  unfold MulOut at *
  rw [take_snoc hl, dvx_snoc, ht, ← h]
  congr 1
  have h1 := hi_step o' i
  have h2 : hi a i * dval b = a.getD i 0 * dval b + 10000 * (hi a (i + 1) * dval b) := by rw [hi_step a i, Int.add_mul, Int.mul_assoc]
  rw [h2]
  generalize hi a (i + 1) * dval b = u at *
  generalize a.getD i 0 * dval b = v at *
  omega
theorem mulOut_end {o a b : List Int} {i : Nat} (h : MulOut o a b i) (hl : a.length ≤ i) : dval o = dval a * dval b := by
  unfold MulOut at h
  rw [hi_end a hl, Int.zero_mul, Int.add_zero, dval_split] at h
  exact h
theorem dval_zeros (n : Nat) : dval (List.replicate n 0) = 0 := by
  induction n with
  | zero => rfl
  | succ n ih => rw [List.replicate_succ, dval_cons, ih]; rfl
theorem isD_zeros (n : Nat) : IsD (List.replicate n 0) := by
  intro d hd
  obtain rfl : d = 0 := List.eq_of_mem_replicate hd
  exact ⟨by decide, by decide⟩
theorem getD_zeros (n k : Nat) : (List.replicate n (0 : Int)).getD k 0 = 0 := by
  rw [List.getD_eq_getElem?_getD, List.getElem?_replicate]
  split <;> rfl
theorem dig_bd {x y : Int} (hx : 0 ≤ x ∧ x < 10000) (hy : 0 ≤ y ∧ y < 10000) : 0 ≤ x * y ∧ x * y ≤ 99980001 := by
  refine ⟨Int.mul_nonneg hx.1 hy.1, ?_⟩
  have h1 : x * y ≤ 9999 * y := Int.mul_le_mul_of_nonneg_right (by omega) hy.1
  omega

/-- a sign and a row: a number. -/
def sg (neg : Bool) (n : Int) : Int := if neg then -n else n
theorem sg_false (n : Int) : sg false n = n := rfl
theorem sg_true (n : Int) : sg true n = -n := rfl
theorem sg_natAbs (neg : Bool) {n : Int} : (sg neg n).natAbs = n.natAbs := by cases neg <;> simp [sg]
/-- A row of digits, and a sign, that stand for n: no nought at the high end, and 0 has no sign. -/
structure Std (neg : Bool) (ds : List Int) (n : Int) : Prop where
  dg : IsD ds
  nm : NoZ ds
  sign : neg = true → ds ≠ []
  val : n = sg neg (dval ds)
theorem Std.pos {neg : Bool} {ds : List Int} {n : Int} (h : Std neg ds n) (hn : ds ≠ []) : 0 < dval ds := by
  have h1 := dval_nonneg h.dg
  rcases Int.lt_or_eq_of_le h1 with k | k
  · exact k
  · exact absurd (nm_zero h.dg h.nm k.symm) hn
theorem Std.neg_iff {neg : Bool} {ds : List Int} {n : Int} (h : Std neg ds n) : neg = decide (n < 0) := by
  have h1 := dval_nonneg h.dg
  have hv := h.val
  cases neg with
  | false => rw [sg_false] at hv; symm; rw [decide_eq_false_iff_not]; omega
  | true => have := h.pos (h.sign rfl); rw [sg_true] at hv; symm; rw [decide_eq_true_eq]; omega
theorem Std.abs {neg : Bool} {ds : List Int} {n : Int} (h : Std neg ds n) : dval ds = n.natAbs := by
  have h1 := dval_nonneg h.dg
  have hv := h.val
  cases neg with
  | false => rw [sg_false] at hv; omega
  | true => rw [sg_true] at hv; omega
theorem Std.len {neg : Bool} {ds : List Int} {n : Int} (h : Std neg ds n) {k : Nat} (hk : (n.natAbs : Int) < 10000 ^ k) : ds.length ≤ k := nm_len h.dg h.nm (by rw [h.abs]; exact hk)
theorem Std.nil_iff {neg : Bool} {ds : List Int} {n : Int} (h : Std neg ds n) : ds.length = 0 ↔ n = 0 := by
  have ha := h.abs
  constructor
  · intro e
    rw [List.eq_nil_of_length_eq_zero e, dval_nil] at ha
    omega
  · intro e
    rw [nm_zero h.dg h.nm (by rw [ha, e]; rfl)]; rfl
/-- what trim makes of a sign and a row. -/
theorem std_trim {neg : Bool} {ds : List Int} {k : Nat} (hd : IsD ds) (hv : dval (ds.take k) = dval ds) (hn : NoZ (ds.take k)) : Std (neg && decide (0 < (ds.take k).length)) (ds.take k) (sg neg (dval ds)) := by
  refine ⟨hd.take k, hn, fun h => ?_, ?_⟩
  · simp only [Bool.and_eq_true, decide_eq_true_eq] at h
    intro e
    rw [e] at h
    exact absurd h.2 (by decide)
  · rw [hv]
    by_cases e : 0 < (ds.take k).length
    · rw [decide_eq_true e, Bool.and_true]
    · have : ds.take k = [] := List.eq_nil_of_length_eq_zero (by omega)
      rw [this, dval_nil] at hv
      rw [← hv]
      cases neg <;> simp [sg]
end Go.Proofs.Ytpopeipcjpfbaaa
