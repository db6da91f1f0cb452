/-
  The reference package of layer 6: Meets, whole: it answers as package pixel does. My own text.
-/
import Derived.Test.YtfcehanpmbeegaaPixS
import Derived.Test.YtfcehanpmbeegaaPixN
namespace Go.Proofs.Ytfcehanpmbeegaa
open Go.RowKit
set_option linter.unusedVariables false
set_option linter.unusedSimpArgs false
def basL (a1 a2 b1 b2 l1 l2 h1 h2 : Int) : List (Int × Int) := [(0, 1), (1, 1)] ++ waV a1 b1 l1 ++ waV a1 b1 h1 ++ waV a2 b2 l2 ++ waV a2 b2 h2
def allF (a1 a2 b1 b2 l1 l2 h1 h2 : Int) : List (Int × Int) := basL a1 a2 b1 b2 l1 l2 h1 h2 ++ midsN (basL a1 a2 b1 b2 l1 l2 h1 h2) (basL a1 a2 b1 b2 l1 l2 h1 h2).length
def gooF (a1 a2 b1 b2 l1 l2 h1 h2 kind : Int) (p : Int × Int) : Bool := wiB (2 * a1 * p.2 + p.1 * (2 * (b1 - a1)) * 1) (1 * p.2) l1 h1 kind && wiB (2 * a2 * p.2 + p.1 * (2 * (b2 - a2)) * 1) (1 * p.2) l2 h2 kind
theorem waV_cases (a b lim : Int) : (2 * (b - a) < 0 ∧ waV a b lim = if -(2 * (b - a)) = 0 ∨ -(lim - 2 * a) < 0 ∨ -(2 * (b - a)) < -(lim - 2 * a) then [] else [(-(lim - 2 * a), -(2 * (b - a)))]) ∨ (¬ 2 * (b - a) < 0 ∧ waV a b lim = if 2 * (b - a) = 0 ∨ lim - 2 * a < 0 ∨ 2 * (b - a) < lim - 2 * a then [] else [(lim - 2 * a, 2 * (b - a))]) := by
  unfold waV
  by_cases q : 2 * (b - a) < 0
  · exact .inl ⟨q, by simp only [if_pos q]⟩
  · exact .inr ⟨q, by simp only [if_neg q]⟩
theorem waV_length (a b lim : Int) : (waV a b lim).length ≤ 1 := by
  rcases waV_cases a b lim with ⟨_, e⟩ | ⟨_, e⟩ <;> rw [e] <;> split <;> simp
theorem waV_mem {a b lim : Int} {p : Int × Int} (h : p ∈ waV a b lim) : 0 < p.2 ∧ 0 ≤ p.1 ∧ p.1 ≤ p.2 := by
  rcases waV_cases a b lim with ⟨q, e⟩ | ⟨q, e⟩ <;> rw [e] at h <;> split at h
  · simp at h
  · rw [List.mem_singleton.1 h]; simp only; omega
  · simp at h
  · rw [List.mem_singleton.1 h]; simp only; omega
/-- how far a place can be: its numbers. -/
def Goo (p : Int × Int) : Prop := 0 < p.2 ∧ 0 ≤ p.1 ∧ p.1 ≤ p.2
theorem basL_goo {a1 a2 b1 b2 l1 l2 h1 h2 : Int} {p : Int × Int} (h : p ∈ basL a1 a2 b1 b2 l1 l2 h1 h2) : Goo p := by
  unfold basL at h
  simp only [List.mem_append, List.mem_cons, List.not_mem_nil, or_false] at h
  rcases h with (((h | h) | h) | h) | h
  · rcases h with rfl | rfl <;> (unfold Goo; simp)
  · exact waV_mem h
  · exact waV_mem h
  · exact waV_mem h
  · exact waV_mem h
theorem waV_small {a b lim : Int} (ha : -134217728 ≤ a ∧ a ≤ 134217728) (hb : -134217728 ≤ b ∧ b ≤ 134217728) {p : Int × Int} (h : p ∈ waV a b lim) : p.2 ≤ 536870912 := by
  rcases waV_cases a b lim with ⟨q, e⟩ | ⟨q, e⟩ <;> rw [e] at h <;> split at h
  · simp at h
  · rw [List.mem_singleton.1 h]; simp only; omega
  · simp at h
  · rw [List.mem_singleton.1 h]; simp only; omega
theorem basL_small {a1 a2 b1 b2 l1 l2 h1 h2 : Int} (ha : rB5 a1 a2 = true) (hb : rB5 b1 b2 = true) {p : Int × Int} (h : p ∈ basL a1 a2 b1 b2 l1 l2 h1 h2) : p.2 ≤ 536870912 := by
  rw [rB5_iff] at ha hb
  unfold basL at h
  simp only [List.mem_append, List.mem_cons, List.not_mem_nil, or_false] at h
  rcases h with (((h | h) | h) | h) | h
  · rcases h with rfl | rfl <;> simp
  · exact waV_small ha.1 hb.1 h
  · exact waV_small ha.1 hb.1 h
  · exact waV_small ha.2 hb.2 h
  · exact waV_small ha.2 hb.2 h
theorem basL_nb {a1 a2 b1 b2 l1 l2 h1 h2 : Int} (ha : rB5 a1 a2 = true) (hb : rB5 b1 b2 = true) {p : Int × Int} (h : p ∈ basL a1 a2 b1 b2 l1 l2 h1 h2) : NB 5 p.1 ∧ NB 5 p.2 := by
  obtain ⟨q1, q2, q3⟩ := basL_goo h
  have := basL_small ha hb h
  exact ⟨nb5 (by omega) (by omega), nb5 (by omega) (by omega)⟩
theorem atP_mem {L : List (Int × Int)} {i : Nat} (h : i < L.length) : atP L i ∈ L := by
  have := atP_get h []
  rw [List.append_nil] at this
  exact List.mem_of_getElem? this
theorem mids_mem {L : List (Int × Int)} {n : Nat} {p : Int × Int} : p ∈ midsN L n ↔ ∃ i j, i < n ∧ j < i ∧ p = midP (atP L i) (atP L j) := by
  unfold midsN rwMid
  simp only [List.mem_flatMap, List.mem_range, List.mem_map]
  constructor
  · rintro ⟨i, hi, j, hj, rfl⟩; exact ⟨i, j, hi, hj, rfl⟩
  · rintro ⟨i, j, hi, hj, rfl⟩; exact ⟨i, hi, j, hj, rfl⟩
theorem midP_goo {p q : Int × Int} (h : Goo p) (k : Goo q) : Goo (midP p q) := by
  obtain ⟨h1, h2, h3⟩ := h
  obtain ⟨k1, k2, k3⟩ := k
  unfold midP Goo
  simp only
  have m := Int.mul_pos h1 k1
  have m1 := Int.mul_nonneg h2 (Int.le_of_lt k1)
  have m2 := Int.mul_nonneg k2 (Int.le_of_lt h1)
  have m3 : p.1 * q.2 ≤ p.2 * q.2 := Int.mul_le_mul_of_nonneg_right h3 (Int.le_of_lt k1)
  have m4 : q.1 * p.2 ≤ q.2 * p.2 := Int.mul_le_mul_of_nonneg_right k3 (Int.le_of_lt h1)
  rw [Int.mul_comm q.2] at m4
  omega
theorem allF_cases {a1 a2 b1 b2 l1 l2 h1 h2 : Int} {p : Int × Int} (h : p ∈ allF a1 a2 b1 b2 l1 l2 h1 h2) : p ∈ basL a1 a2 b1 b2 l1 l2 h1 h2 ∨ ∃ q r, q ∈ basL a1 a2 b1 b2 l1 l2 h1 h2 ∧ r ∈ basL a1 a2 b1 b2 l1 l2 h1 h2 ∧ p = midP q r := by
  unfold allF at h
  rcases List.mem_append.1 h with h | h
  · exact .inl h
  · obtain ⟨i, j, hi, hj, rfl⟩ := mids_mem.1 h
    exact .inr ⟨_, _, atP_mem hi, atP_mem (by omega), rfl⟩
theorem allF_goo {a1 a2 b1 b2 l1 l2 h1 h2 : Int} {p : Int × Int} (h : p ∈ allF a1 a2 b1 b2 l1 l2 h1 h2) : Goo p := by
  rcases allF_cases h with h | ⟨q, r, hq, hr, rfl⟩
  · exact basL_goo h
  · exact midP_goo (basL_goo hq) (basL_goo hr)
theorem allF_nb {a1 a2 b1 b2 l1 l2 h1 h2 : Int} (ha : rB5 a1 a2 = true) (hb : rB5 b1 b2 = true) {p : Int × Int} (h : p ∈ allF a1 a2 b1 b2 l1 l2 h1 h2) : NB 11 p.1 ∧ NB 11 p.2 := by
  rcases allF_cases h with h | ⟨q, r, hq, hr, rfl⟩
  · obtain ⟨n1, n2⟩ := basL_nb ha hb h
    exact ⟨n1.up (by omega), n2.up (by omega)⟩
  · obtain ⟨n1, n2⟩ := basL_nb ha hb hq
    obtain ⟨m1, m2⟩ := basL_nb ha hb hr
    exact ⟨(n1.mul m2).add (m1.mul n2), (n2.mul m2).add (n2.mul m2)⟩
/-- a place is good just if it is within all four sides. -/
theorem wiB_iff {a b l h k : Int} {p : Int × Int} : wiB (2 * a * p.2 + p.1 * (2 * (b - a)) * 1) (1 * p.2) l h k = true ↔ Hol (2 * a - l) (2 * b - l) (!decide (k = 2)) p.1 p.2 ∧ Hol (h - 2 * a) (h - 2 * b) (decide (k = 1)) p.1 p.2 := by
  obtain ⟨n, d⟩ := p
  unfold wiB Hol
  simp only [Bool.and_eq_true, Bool.or_eq_true, decide_eq_true_eq]
  rw [ic_lt, ic_eq, ic_lt, ic_eq]
  have e1 : (2 * a - l) * (d - n) + (2 * b - l) * n = (2 * a * d + n * (2 * (b - a)) * 1) * 1 - l * (1 * d) := by grind
  have e2 : (h - 2 * a) * (d - n) + (h - 2 * b) * n = h * (1 * d) - (2 * a * d + n * (2 * (b - a)) * 1) * 1 := by grind
  rw [e1, e2]
  generalize (2 * a * d + n * (2 * (b - a)) * 1) * 1 = X
  generalize l * (1 * d) = Y
  generalize h * (1 * d) = Z
  constructor
  · rintro ⟨k1, k2⟩
    refine ⟨?_, ?_⟩
    · rcases k1 with k1 | ⟨k1, k3⟩
      · exact .inl (by omega)
      · exact .inr ⟨k3, by omega⟩
    · rcases k2 with k2 | ⟨k2, k3⟩
      · exact .inl (by omega)
      · exact .inr ⟨k3, by omega⟩
  · rintro ⟨k1, k2⟩
    refine ⟨?_, ?_⟩
    · rcases k1 with k1 | ⟨k3, k1⟩
      · exact .inl (by omega)
      · exact .inr ⟨by omega, k3⟩
    · rcases k2 with k2 | ⟨k3, k2⟩
      · exact .inl (by omega)
      · exact .inr ⟨by omega, k3⟩
theorem gooF_iff {a1 a2 b1 b2 l1 l2 h1 h2 k : Int} {p : Int × Int} (hp : Goo p) : gooF a1 a2 b1 b2 l1 l2 h1 h2 k p = true ↔ InP (cutV a1 a2 b1 b2 l1 l2 h1 h2 k) p.1 p.2 := by
  unfold gooF cutV
  rw [Bool.and_eq_true, wiB_iff, wiB_iff, cut4_in hp.1]
  constructor
  · rintro ⟨⟨g1, g2⟩, g3, g4⟩; exact ⟨hp.2, g1, g3, g2, g4⟩
  · rintro ⟨_, g1, g3, g2, g4⟩; exact ⟨⟨g1, g2⟩, g3, g4⟩
/-- where bounds come from. -/
def Cnd (u v n d : Int) : Prop := (0 < v - u ∧ n = -u ∧ d = v - u) ∨ (v - u < 0 ∧ n = u ∧ d = -(v - u))
theorem kp_from {S : Int → Int → Prop} {p : Pa} {u v : Int} {o : Bool} (h0 : S 0 1) (h1 : S 1 1) (hc : ∀ n d, Cnd u v n d → S n d) (hf : S p.f.n p.f.d) (ht : S p.t.n p.t.d) : S (kpB p u v o).f.n (kpB p u v o).f.d ∧ S (kpB p u v o).t.n (kpB p u v o).t.d := by
  unfold kpB
  by_cases q1 : 0 < v - u
  · rw [if_pos q1]
    refine ⟨?_, ht⟩
    rcases la_cases p.f ⟨-u, v - u, o⟩ with ⟨e, _⟩ | ⟨e, _⟩ <;> simp only [e]
    · exact hf
    · exact hc _ _ (.inl ⟨q1, rfl, rfl⟩)
  · rw [if_neg q1]
    by_cases q2 : v - u < 0
    · rw [if_pos q2]
      refine ⟨hf, ?_⟩
      rcases ea_cases p.t ⟨u, -(v - u), o⟩ with ⟨e, _⟩ | ⟨e, _⟩ <;> simp only [e]
      · exact ht
      · exact hc _ _ (.inr ⟨q2, rfl, rfl⟩)
    · rw [if_neg q2]
      split
      · exact ⟨h1, h0⟩
      · exact ⟨hf, ht⟩
theorem kp_ends {p : Pa} {u v : Int} {o : Bool} (df : 0 < p.f.d) (dt : 0 < p.t.d) (hf : 0 ≤ p.f.n) (ht : p.t.n ≤ p.t.d) : 0 ≤ (kpB p u v o).f.n ∧ (kpB p u v o).t.n ≤ (kpB p u v o).t.d := by
  unfold kpB
  by_cases q1 : 0 < v - u
  · rw [if_pos q1]
    refine ⟨?_, ht⟩
    rcases la_cases p.f ⟨-u, v - u, o⟩ with ⟨e, _⟩ | ⟨e, h⟩ <;> simp only [e]
    · exact hf
    · have hle : p.f.n * (v - u) ≤ -u * p.f.d := by
        rcases cm_tri p.f ⟨-u, v - u, o⟩ with ⟨t, _⟩ | ⟨t, _⟩ | ⟨_, c⟩
        · simp only at t; omega
        · simp only at t; omega
        · exact absurd (.inl c) h
      have m := Int.mul_nonneg hf (by omega : 0 ≤ v - u)
      have : 0 * p.f.d ≤ -u * p.f.d := by omega
      exact le_mul this df
  · rw [if_neg q1]
    by_cases q2 : v - u < 0
    · rw [if_pos q2]
      refine ⟨hf, ?_⟩
      rcases ea_cases p.t ⟨u, -(v - u), o⟩ with ⟨e, _⟩ | ⟨e, h⟩ <;> simp only [e]
      · exact ht
      · have hle : u * p.t.d ≤ p.t.n * -(v - u) := by
          rcases cm_tri p.t ⟨u, -(v - u), o⟩ with ⟨_, c⟩ | ⟨t, _⟩ | ⟨t, _⟩
          · exact absurd (.inl c) h
          · simp only at t; omega
          · simp only at t; omega
        have m : p.t.n * -(v - u) ≤ p.t.d * -(v - u) := Int.mul_le_mul_of_nonneg_right ht (by omega)
        have : u * p.t.d ≤ -(v - u) * p.t.d := by rw [Int.mul_comm (-(v - u))]; omega
        exact le_mul this dt
    · rw [if_neg q2]
      split
      · exact ⟨by decide, by decide⟩
      · exact ⟨hf, ht⟩
theorem cnd_low {a b l n d : Int} (h : Cnd (2 * a - l) (2 * b - l) n d) (h0 : 0 ≤ n) (h1 : n ≤ d) : (n, d) ∈ waV a b l := by
  unfold Cnd at h
  rcases waV_cases a b l with ⟨q, e⟩ | ⟨q, e⟩ <;> rw [e] <;> split
  · exfalso; omega
  · rw [List.mem_singleton, Prod.mk.injEq]; omega
  · exfalso; omega
  · rw [List.mem_singleton, Prod.mk.injEq]; omega
theorem cnd_high {a b l n d : Int} (h : Cnd (l - 2 * a) (l - 2 * b) n d) (h0 : 0 ≤ n) (h1 : n ≤ d) : (n, d) ∈ waV a b l := by
  unfold Cnd at h
  rcases waV_cases a b l with ⟨q, e⟩ | ⟨q, e⟩ <;> rw [e] <;> split
  · exfalso; omega
  · rw [List.mem_singleton, Prod.mk.injEq]; omega
  · exfalso; omega
  · rw [List.mem_singleton, Prod.mk.injEq]; omega
theorem cutV_ends (a1 a2 b1 b2 l1 l2 h1 h2 k : Int) (h : (cutV a1 a2 b1 b2 l1 l2 h1 h2 k).f.n * (cutV a1 a2 b1 b2 l1 l2 h1 h2 k).t.d ≤ (cutV a1 a2 b1 b2 l1 l2 h1 h2 k).t.n * (cutV a1 a2 b1 b2 l1 l2 h1 h2 k).f.d) :
    ((cutV a1 a2 b1 b2 l1 l2 h1 h2 k).f.n, (cutV a1 a2 b1 b2 l1 l2 h1 h2 k).f.d) ∈ basL a1 a2 b1 b2 l1 l2 h1 h2 ∧ ((cutV a1 a2 b1 b2 l1 l2 h1 h2 k).t.n, (cutV a1 a2 b1 b2 l1 l2 h1 h2 k).t.d) ∈ basL a1 a2 b1 b2 l1 l2 h1 h2 := by
  have hd : 0 < (cutV a1 a2 b1 b2 l1 l2 h1 h2 k).f.d ∧ 0 < (cutV a1 a2 b1 b2 l1 l2 h1 h2 k).t.d := cut4_d ..
  have key : ∀ n d, ((n = 0 ∧ d = 1) ∨ (n = 1 ∧ d = 1) ∨ Cnd (2 * a1 - l1) (2 * b1 - l1) n d ∨ Cnd (2 * a2 - l2) (2 * b2 - l2) n d ∨ Cnd (h1 - 2 * a1) (h1 - 2 * b1) n d ∨ Cnd (h2 - 2 * a2) (h2 - 2 * b2) n d) → 0 ≤ n → n ≤ d → (n, d) ∈ basL a1 a2 b1 b2 l1 l2 h1 h2 := by
    intro n d hs q0 q1
    unfold basL
    simp only [List.mem_append, List.mem_cons, List.not_mem_nil, or_false, Prod.mk.injEq]
    rcases hs with hs | hs | hs | hs | hs | hs
    · exact .inl (.inl (.inl (.inl (.inl hs))))
    · exact .inl (.inl (.inl (.inl (.inr hs))))
    · exact .inl (.inl (.inl (.inr (cnd_low hs q0 q1))))
    · exact .inl (.inr (cnd_low hs q0 q1))
    · exact .inl (.inl (.inr (cnd_high hs q0 q1)))
    · exact .inr (cnd_high hs q0 q1)
  generalize hS : (fun n d : Int => ((n = 0 ∧ d = 1) ∨ (n = 1 ∧ d = 1) ∨ Cnd (2 * a1 - l1) (2 * b1 - l1) n d ∨ Cnd (2 * a2 - l2) (2 * b2 - l2) n d ∨ Cnd (h1 - 2 * a1) (h1 - 2 * b1) n d ∨ Cnd (h2 - 2 * a2) (h2 - 2 * b2) n d)) = S
  have s0 : S 0 1 := by rw [← hS]; exact .inl ⟨rfl, rfl⟩
  have s1 : S 1 1 := by rw [← hS]; exact .inr (.inl ⟨rfl, rfl⟩)
  have c1 : ∀ n d, Cnd (2 * a1 - l1) (2 * b1 - l1) n d → S n d := fun n d h => by rw [← hS]; exact .inr (.inr (.inl h))
  have c2 : ∀ n d, Cnd (2 * a2 - l2) (2 * b2 - l2) n d → S n d := fun n d h => by rw [← hS]; exact .inr (.inr (.inr (.inl h)))
  have c3 : ∀ n d, Cnd (h1 - 2 * a1) (h1 - 2 * b1) n d → S n d := fun n d h => by rw [← hS]; exact .inr (.inr (.inr (.inr (.inl h))))
  have c4 : ∀ n d, Cnd (h2 - 2 * a2) (h2 - 2 * b2) n d → S n d := fun n d h => by rw [← hS]; exact .inr (.inr (.inr (.inr (.inr h))))
  have key' : ∀ n d, S n d → 0 ≤ n → n ≤ d → (n, d) ∈ basL a1 a2 b1 b2 l1 l2 h1 h2 := fun n d h => key n d (by rw [← hS] at h; exact h)
  have hs : S (cutV a1 a2 b1 b2 l1 l2 h1 h2 k).f.n (cutV a1 a2 b1 b2 l1 l2 h1 h2 k).f.d ∧ S (cutV a1 a2 b1 b2 l1 l2 h1 h2 k).t.n (cutV a1 a2 b1 b2 l1 l2 h1 h2 k).t.d := by
    unfold cutV cut4
    have k1 := kp_from (p := alB) (u := 2 * a1 - l1) (v := 2 * b1 - l1) (o := !decide (k = 2)) s0 s1 c1 s0 s1
    have k2 := kp_from (u := 2 * a2 - l2) (v := 2 * b2 - l2) (o := !decide (k = 2)) s0 s1 c2 k1.1 k1.2
    have k3 := kp_from (u := h1 - 2 * a1) (v := h1 - 2 * b1) (o := decide (k = 1)) s0 s1 c3 k2.1 k2.2
    exact kp_from s0 s1 c4 k3.1 k3.2
  have he : 0 ≤ (cutV a1 a2 b1 b2 l1 l2 h1 h2 k).f.n ∧ (cutV a1 a2 b1 b2 l1 l2 h1 h2 k).t.n ≤ (cutV a1 a2 b1 b2 l1 l2 h1 h2 k).t.d := by
    unfold cutV cut4
    have d1 := kp_d (p := alB) (u := 2 * a1 - l1) (v := 2 * b1 - l1) (own := !decide (k = 2)) (by decide) (by decide)
    have d2 := kp_d (u := 2 * a2 - l2) (v := 2 * b2 - l2) (own := !decide (k = 2)) d1.1 d1.2
    have d3 := kp_d (u := h1 - 2 * a1) (v := h1 - 2 * b1) (own := decide (k = 1)) d2.1 d2.2
    have k1 := kp_ends (p := alB) (u := 2 * a1 - l1) (v := 2 * b1 - l1) (o := !decide (k = 2)) (by decide) (by decide) (by decide) (by decide)
    have k2 := kp_ends (u := 2 * a2 - l2) (v := 2 * b2 - l2) (o := !decide (k = 2)) d1.1 d1.2 k1.1 k1.2
    have k3 := kp_ends (u := h1 - 2 * a1) (v := h1 - 2 * b1) (o := decide (k = 1)) d2.1 d2.2 k2.1 k2.2
    exact kp_ends d3.1 d3.2 k3.1 k3.2
  generalize cutV a1 a2 b1 b2 l1 l2 h1 h2 k = p at *
  clear hS s0 s1 c1 c2 c3 c4 key
  have m1 : p.t.n * p.f.d ≤ p.t.d * p.f.d := Int.mul_le_mul_of_nonneg_right he.2 (by omega)
  have m2 := Int.mul_nonneg he.1 (by omega : 0 ≤ p.t.d)
  refine ⟨key' _ _ hs.1 he.1 ?_, key' _ _ hs.2 ?_ he.2⟩
  · have : p.f.n * p.t.d ≤ p.f.d * p.t.d := by rw [Int.mul_comm p.f.d]; omega
    exact le_mul this hd.2
  · have : 0 * p.f.d ≤ p.t.n * p.f.d := by omega
    exact le_mul this hd.1
theorem allF_any (a1 a2 b1 b2 l1 l2 h1 h2 k : Int) : (allF a1 a2 b1 b2 l1 l2 h1 h2).any (gooF a1 a2 b1 b2 l1 l2 h1 h2 k) = anB (cutV a1 a2 b1 b2 l1 l2 h1 h2 k) := by
  have hd : 0 < (cutV a1 a2 b1 b2 l1 l2 h1 h2 k).f.d ∧ 0 < (cutV a1 a2 b1 b2 l1 l2 h1 h2 k).t.d := cut4_d ..
  rw [Bool.eq_iff_iff, List.any_eq_true]
  constructor
  · rintro ⟨p, hp, hg⟩
    rw [an_iff hd.1 hd.2]
    have hG := allF_goo hp
    exact ⟨p.1, p.2, hG.1, (gooF_iff hG).1 hg⟩
  · intro ha
    have ha' := ha
    unfold anB at ha
    simp only [Bool.or_eq_true, Bool.and_eq_true, decide_eq_true_eq] at ha
    rcases cm_tri (cutV a1 a2 b1 b2 l1 l2 h1 h2 k).f (cutV a1 a2 b1 b2 l1 l2 h1 h2 k).t with ⟨t, c⟩ | ⟨t, c⟩ | ⟨t, c⟩
    · obtain ⟨m1, m2⟩ := cutV_ends a1 a2 b1 b2 l1 l2 h1 h2 k (by omega)
      have hin := (mid_in hd.1 hd.2 t).2
      obtain ⟨i, hi⟩ := List.getElem?_of_mem m1
      obtain ⟨j, hj⟩ := List.getElem?_of_mem m2
      have li := (List.getElem?_eq_some_iff.1 hi).1
      have lj := (List.getElem?_eq_some_iff.1 hj).1
      have ei : atP (basL a1 a2 b1 b2 l1 l2 h1 h2) i = ((cutV a1 a2 b1 b2 l1 l2 h1 h2 k).f.n, (cutV a1 a2 b1 b2 l1 l2 h1 h2 k).f.d) := by
        have := atP_get li []
        rw [List.append_nil, hi] at this
        exact (Option.some.inj this).symm
      have ej : atP (basL a1 a2 b1 b2 l1 l2 h1 h2) j = ((cutV a1 a2 b1 b2 l1 l2 h1 h2 k).t.n, (cutV a1 a2 b1 b2 l1 l2 h1 h2 k).t.d) := by
        have := atP_get lj []
        rw [List.append_nil, hj] at this
        exact (Option.some.inj this).symm
      rcases Nat.lt_trichotomy i j with hij | hij | hij
      · have hm : midP (atP (basL a1 a2 b1 b2 l1 l2 h1 h2) j) (atP (basL a1 a2 b1 b2 l1 l2 h1 h2) i) ∈ allF a1 a2 b1 b2 l1 l2 h1 h2 := List.mem_append_right _ (mids_mem.2 ⟨j, i, lj, hij, rfl⟩)
        refine ⟨_, hm, (gooF_iff (allF_goo hm)).2 ?_⟩
        rw [ei, ej]
        unfold midP
        simp only
        unfold midN midD at hin
        rw [Int.add_comm, Int.mul_comm (cutV a1 a2 b1 b2 l1 l2 h1 h2 k).t.d]
        exact hin
      · exfalso
        subst hij
        rw [ei] at ej
        simp only [Prod.mk.injEq] at ej
        rw [← ej.1, ← ej.2] at t
        omega
      · have hm : midP (atP (basL a1 a2 b1 b2 l1 l2 h1 h2) i) (atP (basL a1 a2 b1 b2 l1 l2 h1 h2) j) ∈ allF a1 a2 b1 b2 l1 l2 h1 h2 := List.mem_append_right _ (mids_mem.2 ⟨i, j, li, hij, rfl⟩)
        refine ⟨_, hm, (gooF_iff (allF_goo hm)).2 ?_⟩
        rw [ei, ej]
        exact hin
    · obtain ⟨m1, m2⟩ := cutV_ends a1 a2 b1 b2 l1 l2 h1 h2 k (by omega)
      rcases ha with ha | ⟨⟨_, o1⟩, o2⟩
      · omega
      · have hm : ((cutV a1 a2 b1 b2 l1 l2 h1 h2 k).f.n, (cutV a1 a2 b1 b2 l1 l2 h1 h2 k).f.d) ∈ allF a1 a2 b1 b2 l1 l2 h1 h2 := List.mem_append_left _ m1
        exact ⟨_, hm, (gooF_iff (allF_goo hm)).2 ⟨.inr ⟨o1, rfl⟩, .inr ⟨o2, t⟩⟩⟩
    · rcases ha with ha | ⟨⟨ha, _⟩, _⟩ <;> omega
set_option maxRecDepth 100000 in
set_option maxHeartbeats 8000000 in
theorem p_r6Meets_no {a1 a2 b1 b2 l1 l2 h1 h2 k : Int} {r1 r2 r3 r4 : Bool} (R1 : PCall Try.prog 19 [vP a1 a2] (vB r1)) (R2 : PCall Try.prog 19 [vP b1 b2] (vB r2)) (K1 : PCall Try.prog 32 [vP l1 l2] (vB r3)) (K2 : PCall Try.prog 32 [vP h1 h2] (vB r4))
    (cs : r1 = false ∨ (r1 = true ∧ r2 = false) ∨ (r1 = true ∧ r2 = true ∧ r3 = false) ∨ (r1 = true ∧ r2 = true ∧ r3 = true ∧ r4 = false) ∨ (r1 = true ∧ r2 = true ∧ r3 = true ∧ r4 = true ∧ k < 0) ∨ (r1 = true ∧ r2 = true ∧ r3 = true ∧ r4 = true ∧ ¬ k < 0 ∧ 2 < k)) :
    PCall Try.prog 12 [vP a1 a2, vP b1 b2, vP l1 l2, vP h1 h2, vI k] (vB false) := by
  rcases cs with rfl | ⟨rfl, rfl⟩ | ⟨rfl, rfl, rfl⟩ | ⟨rfl, rfl, rfl, rfl⟩ | ⟨rfl, rfl, rfl, rfl, q1⟩ | ⟨rfl, rfl, rfl, rfl, q1, q2⟩
  all_goals
    refine pcall_body (f := 12) Try.func12 rfl rfl rfl rfl ?_
    (repeat (first | ((with_reducible apply al_q); exact rfl) | ((with_reducible apply al_loadP1); (iterate 5 exact rfl)) | ((with_reducible apply al_loadPN); (iterate 5 exact rfl)) | ((with_reducible apply al_fldP); (iterate 3 exact rfl)) | ((with_reducible apply al_idxS); (iterate 3 exact rfl); (first | decide | omega); (first | decide | omega); (first | assumption | rfl); exact rfl) | ((with_reducible apply al_idx); (iterate 3 exact rfl); omega; omega; exact rfl) | ((with_reducible apply al_add); (iterate 3 exact rfl); (first | exact i64_wrap (by omega) | assumption | rfl); exact rfl) | ((with_reducible apply al_len); (iterate 3 exact rfl)) | ((with_reducible apply al_bslice); (iterate 10 exact rfl)) | (refine al_call1 rfl rfl rfl (by (first | exact R1 | exact R2 | exact K1 | exact K2)) rfl ?_) | (refine al_call2 rfl rfl rfl rfl (by (first | exact R1 | exact R2 | exact K1 | exact K2)) rfl ?_) | (refine al_call3 rfl rfl rfl rfl rfl (by (first | exact R1 | exact R2 | exact K1 | exact K2)) rfl ?_) | (refine al_call4 rfl rfl rfl rfl rfl rfl (by (first | exact R1 | exact R2 | exact K1 | exact K2)) rfl ?_) | ((with_reducible apply al_guard_b (c := true)); exact rfl; exact rfl; (first | assumption | exact decide_eq_true (by omega) | (simp only [Bool.not_eq_true', decide_eq_false_iff_not, decide_eq_true_eq, Bool.not_eq_false']; omega))) | ((with_reducible apply al_guard_b (c := false)); exact rfl; exact rfl; (first | assumption | exact decide_eq_false (by omega) | (simp only [Bool.not_eq_true', decide_eq_false_iff_not, decide_eq_true_eq, Bool.not_eq_false']; omega))) | ((with_reducible apply al_bin); (iterate 5 exact rfl); (intro W; go_simp; try rfl); (intro W; go_simp; try rfl); exact rfl; exact rfl) | ((with_reducible apply al_un); exact rfl; exact rfl; (intro W; go_simp; try rfl); exact rfl; exact rfl) | ((with_reducible apply al_nilS); kernel_rfl) | ((with_reducible apply awp_region_draw); kernel_rfl; kernel_rfl; exact rfl) | ((with_reducible apply awp_seq)) | ((with_reducible apply athen_normal)) | ((with_reducible apply awp_region)) | ((with_reducible apply al_nil)) | ((with_reducible apply awp_ret)) | ((with_reducible apply awp_skip)) | ((with_reducible apply athen_ret)) | ((with_reducible apply awp_block)) | ((with_reducible apply ablock_normal)) | ((with_reducible apply ablock_ret)) | ((with_reducible apply ablock_same)) | ((with_reducible apply awp_exit)) | ((with_reducible apply athen_exit)) | ((with_reducible apply roll_succ)) | ((with_reducible apply ablock_ne); exact rfl) | ((with_reducible apply awp_cond_t); exact rfl) | ((with_reducible apply awp_cond_f); exact rfl) | ((with_reducible apply awp_cond_1); exact rfl; (first | assumption | exact decide_eq_true (by omega) | (simp only [Bool.not_eq_true', decide_eq_false_iff_not, decide_eq_true_eq, Bool.not_eq_false']; omega))) | ((with_reducible apply awp_cond_0); exact rfl; (first | assumption | exact decide_eq_false (by omega) | (simp only [Bool.not_eq_true', decide_eq_false_iff_not, decide_eq_true_eq, Bool.not_eq_false']; omega)))))
    (first | (refine apost_ret rfl (resl_tmp rfl resl_nil) ?_))
    exact AV.Le.refl _
theorem p_r6Meets {a1 a2 b1 b2 l1 l2 h1 h2 k : Int} : PCall Try.prog 12 [vP a1 a2, vP b1 b2, vP l1 l2, vP h1 h2, vI k] (vB (meB a1 a2 b1 b2 l1 l2 h1 h2 k)) := by
  unfold meB
  cases hr : meR a1 a2 b1 b2 l1 l2 h1 h2 k with
  | false =>
    refine p_r6Meets_no (p_r5Right rfl) (p_r5Right rfl) (p_r6right rfl) (p_r6right rfl) ?_
    unfold meR kd6 at hr
    cases q1 : rB5 a1 a2 with
    | false => exact .inl rfl
    | true =>
      cases q2 : rB5 b1 b2 with
      | false => exact .inr (.inl ⟨rfl, rfl⟩)
      | true =>
        cases q3 : co6 l1 l2 with
        | false => exact .inr (.inr (.inl ⟨rfl, rfl, rfl⟩))
        | true =>
          cases q4 : co6 h1 h2 with
          | false => exact .inr (.inr (.inr (.inl ⟨rfl, rfl, rfl, rfl⟩)))
          | true =>
            rw [q1, q2, q3, q4] at hr
            simp only [Bool.and_true, Bool.true_and, Bool.and_eq_false_iff, decide_eq_false_iff_not] at hr
            by_cases q5 : k < 0
            · exact .inr (.inr (.inr (.inr (.inl ⟨rfl, rfl, rfl, rfl, q5⟩))))
            · exact .inr (.inr (.inr (.inr (.inr ⟨rfl, rfl, rfl, rfl, q5, by omega⟩))))
  | true =>
    rw [Bool.true_and]
    rw [meR_iff] at hr
    obtain ⟨ra, rb, rl, rh, rk⟩ := hr
    have ia := rB5_iff.1 ra
    have ib := rB5_iff.1 rb
    have il := co6_iff.1 rl
    have ih := co6_iff.1 rh
    unfold kd6 at rk
    simp only [Bool.and_eq_true, decide_eq_true_eq] at rk
    refine p_r6Meets' (L := basL a1 a2 b1 b2 l1 l2 h1 h2) (F := allF a1 a2 b1 b2 l1 l2 h1 h2) (g := gooF a1 a2 b1 b2 l1 l2 h1 h2 k) (p_r5Right ra) (p_r5Right rb) (p_r6right rl) (p_r6right rh) (by omega) (by omega) (p_r6num (by omega) (by omega)) (p_r6num (by omega) (by omega))
      (p_r6ways ia.1 ib.1 il.1) (p_r6ways ia.1 ib.1 ih.1) (p_r6ways ia.2 ib.2 il.2) (p_r6ways ia.2 ib.2 ih.2) ⟨waV_length _ _ _, waV_length _ _ _, waV_length _ _ _, waV_length _ _ _⟩ rfl rfl (fun i j hi hj => ?_) (fun p hp => ?_) (allF_any ..)
    · obtain ⟨n1, n2⟩ := basL_nb ra rb (atP_mem hi)
      obtain ⟨m1, m2⟩ := basL_nb ra rb (atP_mem (Nat.lt_trans hj hi))
      exact ⟨p_r6sum (n1.up (by omega)) (n2.up (by omega)) (m1.up (by omega)) (m2.up (by omega)), p_rAdd ((n2.mul m2).up (by omega)) ((n2.mul m2).up (by omega))⟩
    · obtain ⟨n1, n2⟩ := allF_nb ra rb hp
      have t1 : NB 5 (1 : Int) := nb5 (by omega) (by omega)
      have x1 : NB 5 (2 * (b1 - a1)) := nb5 (by omega) (by omega)
      have x2 : NB 5 (2 * (b2 - a2)) := nb5 (by omega) (by omega)
      have y1 : NB 5 (2 * a1) := nb5 (by omega) (by omega)
      have y2 : NB 5 (2 * a2) := nb5 (by omega) (by omega)
      have z1 : NB 21 (2 * a1 * p.2) := (y1.mul n2).up (by omega)
      have z2 : NB 21 (p.1 * (2 * (b1 - a1)) * 1) := ((n1.mul x1).mul t1).up (by omega)
      have z3 : NB 21 (2 * a2 * p.2) := (y2.mul n2).up (by omega)
      have z4 : NB 21 (p.1 * (2 * (b2 - a2)) * 1) := ((n1.mul x2).mul t1).up (by omega)
      have z5 : NB 16 (1 * p.2) := (t1.mul n2).up (by omega)
      have u1 := z1.add z2
      have u2 := z3.add z4
      exact ⟨_, _, _, _, _, _, p_r6on ia.1 ib.1 (n1.up (by omega)) (n2.up (by omega)), p_r6within il.1 ih.1 (u1.up (by omega)) (z5.up (by omega)), p_r6on ia.2 ib.2 (n1.up (by omega)) (n2.up (by omega)), p_r6within il.2 ih.2 (u2.up (by omega)) (z5.up (by omega)), rfl⟩
end Go.Proofs.Ytfcehanpmbeegaa
