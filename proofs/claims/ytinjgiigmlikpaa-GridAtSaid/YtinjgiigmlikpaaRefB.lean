/-
  Numbers of the reference package: a sign, and a row of digits: contracts of base, digit, trim, size. My own text.
-/
import Derived.Test.YtinjgiigmlikpaaWideB
import Derived.Test.YtinjgiigmlikpaaRefN
import Derived.Deep.QuietTactic
import Derived.OwnWalk
import Derived.Laws.OwnMore
namespace Go.Proofs.Ytinjgiigmlikpaa
open Go.RowKit
set_option linter.unusedVariables false

/-- a slice of ints that reads as the row ds. -/
def Dg (w : World) (A : Option Addr) (l c : Nat) (ds : List Int) : Prop :=
  ds.length = l ∧ l ≤ c ∧ c ≤ 9223372036854775807 ∧ (0 < l → ∃ g, A = some ⟨g, 0, none⟩ ∧ g < w.heap.size ∧ ∀ j, j < l → w.cell? ⟨g, j, none⟩ = some (.int .i64 (ds.getD j 0)))
theorem Dg.call {w w' : World} {A : Option Addr} {l c : Nat} {ds : List Int} (h : Dg w A l c ds) (hb : Below w.heap.size w w') : Dg w' A l c ds := by
  obtain ⟨h1, h2, h3, k⟩ := h
  refine ⟨h1, h2, h3, fun hne => ?_⟩
  obtain ⟨g, rfl, hg, hc⟩ := k hne
  exact ⟨g, rfl, Nat.lt_of_lt_of_le hg hb.size, fun j hj => (hb.cell (p := ⟨g, j, none⟩) hg).trans (hc j hj)⟩
theorem Dg.alloc {w : World} {A : Option Addr} {l c : Nat} {ds : List Int} (h : Dg w A l c ds) (o : Obj) : Dg (w.alloc o) A l c ds := h.call ((Below.refl _ _).alloc (Nat.le_refl _) o)
theorem Dg.nil {w : World} {A : Option Addr} {c : Nat} (hc : c ≤ 9223372036854775807) : Dg w A 0 c [] := ⟨rfl, Nat.zero_le _, hc, fun h => absurd h (by omega)⟩
theorem Dg.take {w : World} {A : Option Addr} {l c : Nat} {ds : List Int} (h : Dg w A l c ds) {k : Nat} (hk : k ≤ l) : Dg w A k c (ds.take k) := by
  obtain ⟨h1, h2, h3, h4⟩ := h
  refine ⟨by rw [List.length_take]; omega, by omega, h3, fun hp => ?_⟩
  obtain ⟨g, e, hg, hc⟩ := h4 (by omega)
  refine ⟨g, e, hg, fun j hj => ?_⟩
  rw [hc j (by omega), List.getD_eq_getElem?_getD, List.getD_eq_getElem?_getD, List.getElem?_take_of_lt hj]
theorem Dg.own {w : World} {base : Nat} {v : Value} {n : Nat} {ds : List Int} (h : w.ownsRow base 3 1 v n (ds.map (Value.int .i64))) : ∃ A c, v = .slice A n c ∧ Dg w A n c ds := by
  have hl : ds.length = n := by have := h.1; simpa using this
  have hh := h
  rcases h.2 with ⟨rfl, rfl⟩ | ⟨g, cap, cur, rfl, hb, hg, hn, hm, hs, ht⟩
  · exact ⟨none, 0, rfl, hl, Nat.le_refl _, by omega, fun k => absurd k (by omega)⟩
  · refine ⟨_, cap, rfl, hl, hn, by simpa [maxLen] using hm, fun _ => ⟨g, rfl, (Array.getElem?_eq_some_iff.1 hg).1, fun j hj => ?_⟩⟩
    rw [hh.cellAt j (by omega), List.getElem?_map, List.getElem?_eq_getElem (by omega), List.getD_eq_getElem?_getD, List.getElem?_eq_getElem (by omega)]
    rfl
/-- A number of the reference package, in memory w: its sign, its slice; n: the number. -/
def IsN (w : World) (neg : Bool) (A : Option Addr) (l c : Nat) (n : Int) : Prop := ∃ ds, Dg w A l c ds ∧ Std neg ds n
theorem IsN.call {w w' : World} {neg : Bool} {A : Option Addr} {l c : Nat} {n : Int} (h : IsN w neg A l c n) (hb : Below w.heap.size w w') : IsN w' neg A l c n := by
  obtain ⟨ds, h1, h2⟩ := h
  exact ⟨ds, h1.call hb, h2⟩
theorem IsN.neg_iff {w : World} {neg : Bool} {A : Option Addr} {l c : Nat} {n : Int} (h : IsN w neg A l c n) : neg = decide (n < 0) := by
  obtain ⟨ds, h1, h2⟩ := h
  exact h2.neg_iff
theorem IsN.len {w : World} {neg : Bool} {A : Option Addr} {l c : Nat} {n : Int} (h : IsN w neg A l c n) {k : Nat} (hk : (n.natAbs : Int) < 10000 ^ k) : l ≤ k := by
  obtain ⟨ds, h1, h2⟩ := h
  rw [← h1.1]
  exact h2.len hk
/-- the number n comes back, in memory of its own; all elder memory is as it was. -/
def RN (n : Int) (w : World) (e : Ending) (w' : World) : Prop := ∃ neg A l c, e = .returned (.agg #[.bool neg, .slice A l c]) ∧ IsN w' neg A l c n ∧ Below w.heap.size w w'
/-- a row whose number is n comes back. -/
def RD (n : Int) (k : Nat) (w : World) (e : Ending) (w' : World) : Prop := ∃ A l c ds, e = .returned (.slice A l c) ∧ Dg w' A l c ds ∧ IsD ds ∧ dval ds = n ∧ l ≤ k ∧ Below w.heap.size w w'

/-- the slice lies in no block below b. -/
def Fr (b : Nat) (A : Option Addr) : Prop := ∀ a, A = some a → b ≤ a.block
/-- RN, in memory that is new. -/
def RNF (n : Int) (w : World) (e : Ending) (w' : World) : Prop := ∃ neg A l c, e = .returned (.agg #[.bool neg, .slice A l c]) ∧ IsN w' neg A l c n ∧ Below w.heap.size w w' ∧ Fr w.heap.size A
/-- RD, in memory that is new. -/
def RDF (n : Int) (k : Nat) (w : World) (e : Ending) (w' : World) : Prop := ∃ A l c ds, e = .returned (.slice A l c) ∧ Dg w' A l c ds ∧ IsD ds ∧ dval ds = n ∧ l ≤ k ∧ Below w.heap.size w w' ∧ Fr w.heap.size A
/-- RN, in the row that was given. -/
def RT (n : Int) (A : Option Addr) (c : Nat) (w : World) (e : Ending) (w' : World) : Prop := ∃ neg l, e = .returned (.agg #[.bool neg, .slice A l c]) ∧ IsN w' neg A l c n ∧ Below w.heap.size w w'
theorem RNF.rn {n : Int} {w w' : World} {e : Ending} (h : RNF n w e w') : RN n w e w' := by
  obtain ⟨x, A, l, c, h1, h2, h3, h4⟩ := h
  exact ⟨x, A, l, c, h1, h2, h3⟩
theorem RDF.rd {n : Int} {k : Nat} {w w' : World} {e : Ending} (h : RDF n k w e w') : RD n k w e w' := by
  obtain ⟨A, l, c, ds, h1, h2, h3, h4, h5, h6, h7⟩ := h
  exact ⟨A, l, c, ds, h1, h2, h3, h4, h5, h6⟩
theorem RT.rn {n : Int} {A : Option Addr} {c : Nat} {w w' : World} {e : Ending} (h : RT n A c w e w') : RN n w e w' := by
  obtain ⟨x, l, h1, h2, h3⟩ := h
  exact ⟨x, A, l, c, h1, h2, h3⟩
theorem Fr.own {w : World} {base : Nat} {t : TypeId} {A : Option Addr} {n c : Nat} {xs : List Value} (h : w.ownsRow base t 1 (.slice A n c) n xs) : Fr base A := fun a e => by
  subst e
  exact (h.lt a.block rfl).1
theorem base_any (w : World) : Calls Try.prog 74 #[] w fun e w' => e = .returned (.int .i64 10000) ∧ w = w' := by
  go_enter Try.func74, Try.ntmps74
  go_wp2
  go_ret
  exact ⟨rfl, rfl⟩
set_option maxHeartbeats 400000 in
theorem digit_any (A : Option Addr) (l c : Nat) (ds : List Int) (k : Nat) (w : World) (h : Dg w A l c ds) (hl : l ≤ 1000) (hk : k ≤ 1000) :
    Calls Try.prog 68 #[.slice A l c, .int .i64 k] w fun e w' => e = .returned (.int .i64 (ds.getD k 0)) ∧ w = w' := by
  obtain ⟨h1, h2, h3, h4⟩ := h
  by_cases hlt : k < l
  · obtain ⟨g, rfl, hg, hcell⟩ := h4 (by omega)
    have hk' := hcell k hlt
    generalize ds.getD k 0 = d at *
    clear h4 hcell h1
    go_enter Try.func68, Try.ntmps68
    go_wp2
    go_ret
    exact ⟨rfl, rfl⟩
  · have HR : Hid (ds.getD k 0 = 0) := by unfold Hid; simp [List.getD_eq_getElem?_getD, List.getElem?_eq_none (show ds.length ≤ k by omega)]
    clear h4 h1
    go_enter Try.func68, Try.ntmps68
    go_wp2
    go_ret
    rw [HR.out]
    exact ⟨rfl, rfl⟩
end Go.Proofs.Ytinjgiigmlikpaa
