/-
  Rows of digits: products, quotients, small numbers, sign and row. Plain arithmetic; nothing of the program. My own text.
-/
import Derived.Test.YtinjgiigmlikpaaRefM
namespace Go.Proofs.Ytinjgiigmlikpaa
set_option linter.unusedVariables false

theorem getD_set_self {o : List Int} {k : Nat} (hk : k < o.length) (d : Int) : (o.set k d).getD k 0 = d := by
  rw [List.getD_eq_getElem?_getD, List.getElem?_set_self hk]; rfl
theorem getD_set_ne {o : List Int} {k j : Nat} (h : k ≠ j) (d : Int) : (o.set k d).getD j 0 = o.getD j 0 := by
  rw [List.getD_eq_getElem?_getD, List.getElem?_set_ne h, List.getD_eq_getElem?_getD]
theorem hi_set_lt {o : List Int} {k j : Nat} (h : k < j) (d : Int) : hi (o.set k d) j = hi o j := by
  unfold hi; rw [List.drop_set_of_lt h]
theorem take_set_ge {o : List Int} {k j : Nat} (h : j ≤ k) (d : Int) : (o.set k d).take j = o.take j := by
  rw [List.take_set_of_le h]
theorem take_snoc {o : List Int} {k : Nat} (h : k < o.length) : o.take (k + 1) = o.take k ++ [o.getD k 0] := by
  rw [List.take_succ_eq_append_getElem h, List.getD_eq_getElem?_getD, List.getElem?_eq_getElem h]; rfl

/-- the part of a row from i to i + k. -/
def mid (o : List Int) (i k : Nat) : List Int := (o.drop i).take k
theorem mid_snoc {o : List Int} {i k : Nat} (h : i + k < o.length) : mid o i (k + 1) = mid o i k ++ [o.getD (i + k) 0] := by
  unfold mid
  rw [take_snoc (by rw [List.length_drop]; omega)]
  congr 2
  rw [List.getD_eq_getElem?_getD, List.getElem?_drop, List.getD_eq_getElem?_getD]
theorem mid_set {o : List Int} {i k : Nat} (d : Int) : mid (o.set (i + k) d) i k = mid o i k := by
  unfold mid
  rw [List.drop_set, if_neg (by omega), take_set_ge (by omega)]
theorem mid_zero (o : List Int) (i : Nat) : mid o i 0 = [] := rfl
theorem hi_mid (o : List Int) (i k : Nat) : dvx (mid o i k) (hi o (i + k)) = hi o i := by
  unfold mid hi dval
  rw [← List.drop_drop, ← dvx_app, List.take_append_drop]

/-- What a product's inner round keeps: the row from i on, and what is to come, is what it was at first, and x times b. -/
def MulIn (o : List Int) (i k : Nat) (c x : Int) (b : List Int) (T : Int) : Prop := dvx (mid o i k) (hi o (i + k) + c + x * hi b k) = T
theorem mulIn_start (o : List Int) (i : Nat) (x : Int) (b : List Int) : MulIn o i 0 0 x b (hi o i + x * dval b) := by
  unfold MulIn
  rw [mid_zero, hi_zero]
  show hi o i + 0 + x * dval b = _
  rw [Int.add_zero]
theorem mulIn_step {o : List Int} {i k : Nat} {c x : Int} {b : List Int} {T : Int} (h : MulIn o i k c x b T) (hk : i + k < o.length) {s : Int} (hs : s = c + o.getD (i + k) 0 + x * b.getD k 0) :
    MulIn (o.set (i + k) (s % 10000)) i (k + 1) (s / 10000) x b T := by
  unfold MulIn at *
  rw [mid_snoc (by rw [List.length_set]; exact hk), mid_set, getD_set_self hk, dvx_snoc, ← h, hi_set_lt (by omega)]
  congr 1
  have h1 := hi_step o (i + k)
  have h2 := hi_step b k
  have h3 : x * hi b k = x * b.getD k 0 + 10000 * (x * hi b (k + 1)) := by rw [h2, Int.mul_add, Int.mul_left_comm]
  rw [h3, ← Nat.add_assoc]
  generalize x * hi b (k + 1) = u at *
  generalize x * b.getD k 0 = v at *
  omega
theorem mulIn_end {o : List Int} {i k : Nat} {x : Int} {b : List Int} {T : Int} (h : MulIn o i k 0 x b T) (hk : b.length ≤ k) : hi o i = T := by
  unfold MulIn at h
  rw [hi_end b hk, Int.mul_zero, Int.add_zero, Int.add_zero, hi_mid] at h
  exact h
/-- What a product's outer round keeps. -/
def MulOut (o a b : List Int) (i : Nat) : Prop := dvx (o.take i) (hi o i + hi a i * dval b) = dval a * dval b
theorem mulOut_start {o a b : List Int} (h : dval o = 0) : MulOut o a b 0 := by
  unfold MulOut
  rw [hi_zero, hi_zero, h, Int.zero_add]; rfl
theorem mulOut_step {o o' a b : List Int} {i : Nat} (h : MulOut o a b i) (hl : i < o'.length) (ht : o'.take i = o.take i) (he : hi o' i = hi o i + a.getD i 0 * dval b) : MulOut o' a b (i + 1) := by
  unfold MulOut at *
  rw [take_snoc hl, dvx_snoc, ht, ← h]
  congr 1
  have h1 := hi_step o' i
  have h2 : hi a i * dval b = a.getD i 0 * dval b + 10000 * (hi a (i + 1) * dval b) := by rw [hi_step a i, Int.add_mul, Int.mul_assoc]
  rw [h2]
  generalize hi a (i + 1) * dval b = u at *
  generalize a.getD i 0 * dval b = v at *
  omega
theorem mulOut_end {o a b : List Int} {i : Nat} (h : MulOut o a b i) (hl : a.length ≤ i) : dval o = dval a * dval b := by
  unfold MulOut at h
  rw [hi_end a hl, Int.zero_mul, Int.add_zero, dval_split] at h
  exact h
theorem dval_zeros (n : Nat) : dval (List.replicate n 0) = 0 := by
  induction n with
  | zero => rfl
  | succ n ih => rw [List.replicate_succ, dval_cons, ih]; rfl
theorem isD_zeros (n : Nat) : IsD (List.replicate n 0) := by
  intro d hd
  obtain rfl : d = 0 := List.eq_of_mem_replicate hd
  exact ⟨by decide, by decide⟩
theorem getD_zeros (n k : Nat) : (List.replicate n (0 : Int)).getD k 0 = 0 := by
  rw [List.getD_eq_getElem?_getD, List.getElem?_replicate]
  split <;> rfl
theorem mul_bd {x y : Int} (hx : 0 ≤ x ∧ x < 10000) (hy : 0 ≤ y ∧ y < 10000) : 0 ≤ x * y ∧ x * y ≤ 99980001 := by
  refine ⟨Int.mul_nonneg hx.1 hy.1, ?_⟩
  have h1 : x * y ≤ 9999 * y := Int.mul_le_mul_of_nonneg_right (by omega) hy.1
  omega

/-- a sign and a row: a number. -/
def sg (neg : Bool) (n : Int) : Int := if neg then -n else n
theorem sg_false (n : Int) : sg false n = n := rfl
theorem sg_true (n : Int) : sg true n = -n := rfl
theorem sg_natAbs (neg : Bool) {n : Int} : (sg neg n).natAbs = n.natAbs := by cases neg <;> simp [sg]
/-- A row of digits, and a sign, that stand for n: no nought at the high end, and 0 has no sign. -/
structure Std (neg : Bool) (ds : List Int) (n : Int) : Prop where
  dg : IsD ds
  nm : NoZ ds
  sign : neg = true → ds ≠ []
  val : n = sg neg (dval ds)
theorem Std.pos {neg : Bool} {ds : List Int} {n : Int} (h : Std neg ds n) (hn : ds ≠ []) : 0 < dval ds := by
  have h1 := dval_nonneg h.dg
  rcases Int.lt_or_eq_of_le h1 with k | k
  · exact k
  · exact absurd (nm_zero h.dg h.nm k.symm) hn
theorem Std.neg_iff {neg : Bool} {ds : List Int} {n : Int} (h : Std neg ds n) : neg = decide (n < 0) := by
  have h1 := dval_nonneg h.dg
  have hv := h.val
  cases neg with
  | false => rw [sg_false] at hv; symm; rw [decide_eq_false_iff_not]; omega
  | true => have := h.pos (h.sign rfl); rw [sg_true] at hv; symm; rw [decide_eq_true_eq]; omega
theorem Std.abs {neg : Bool} {ds : List Int} {n : Int} (h : Std neg ds n) : dval ds = n.natAbs := by
  have h1 := dval_nonneg h.dg
  have hv := h.val
  cases neg with
  | false => rw [sg_false] at hv; omega
  | true => rw [sg_true] at hv; omega
theorem Std.len {neg : Bool} {ds : List Int} {n : Int} (h : Std neg ds n) {k : Nat} (hk : (n.natAbs : Int) < 10000 ^ k) : ds.length ≤ k := nm_len h.dg h.nm (by rw [h.abs]; exact hk)
theorem Std.nil_iff {neg : Bool} {ds : List Int} {n : Int} (h : Std neg ds n) : ds.length = 0 ↔ n = 0 := by
  have ha := h.abs
  constructor
  · intro e
    rw [List.eq_nil_of_length_eq_zero e, dval_nil] at ha
    omega
  · intro e
    rw [nm_zero h.dg h.nm (by rw [ha, e]; rfl)]; rfl
/-- what trim makes of a sign and a row. -/
theorem std_trim {neg : Bool} {ds : List Int} {k : Nat} (hd : IsD ds) (hv : dval (ds.take k) = dval ds) (hn : NoZ (ds.take k)) : Std (neg && decide (0 < (ds.take k).length)) (ds.take k) (sg neg (dval ds)) := by
  refine ⟨hd.take k, hn, fun h => ?_, ?_⟩
  · simp only [Bool.and_eq_true, decide_eq_true_eq] at h
    intro e
    rw [e] at h
    exact absurd h.2 (by decide)
  · rw [hv]
    by_cases e : 0 < (ds.take k).length
    · rw [decide_eq_true e, Bool.and_true]
    · have : ds.take k = [] := List.eq_nil_of_length_eq_zero (by omega)
      rw [this, dval_nil] at hv
      rw [← hv]
      cases neg <;> simp [sg]
end Go.Proofs.Ytinjgiigmlikpaa
