/-
  Numbers of the reference package: a sign, and a row of digits: contracts of base, digit, trim, size. My own text.
  Contracts of the reference package: trim, size. My own text.
  Contracts of the reference package: size. My own text.
  Contracts of the reference package: plus, minus. My own text.
  Contracts of the reference package: minus. My own text.
  Contracts of the reference package: Neg, Cmp, Add. My own text.
  Contracts of the reference package: Cmp, Add. My own text.
-/
import Derived.Test.YtpopeipcjpfbaaaWideA
import Derived.Test.YtpopeipcjpfbaaaRefM
import Derived.Deep.QuietTactic
import Derived.OwnWalk
import Derived.Laws.OwnMore
import Derived.Maps.AppendAt
import Derived.IntWalk
namespace Go.Proofs.Ytpopeipcjpfbaaa
open Go.RowKit
set_option linter.unusedVariables false

/-- a slice of ints that reads as the row ds. -/
def Dg (w : World) (A : Option Addr) (l c : Nat) (ds : List Int) : Prop :=
  ds.length = l ∧ l ≤ c ∧ c ≤ 9223372036854775807 ∧ (0 < l → ∃ g, A = some ⟨g, 0, none⟩ ∧ g < w.heap.size ∧ ∀ j, j < l → w.cell? ⟨g, j, none⟩ = some (.int .i64 (ds.getD j 0)))
theorem Dg.call {w w' : World} {A : Option Addr} {l c : Nat} {ds : List Int} (h : Dg w A l c ds) (hb : Below w.heap.size w w') : Dg w' A l c ds := by
  obtain ⟨h1, h2, h3, k⟩ := h
  refine ⟨h1, h2, h3, fun hne => ?_⟩
  obtain ⟨g, rfl, hg, hc⟩ := k hne
  exact ⟨g, rfl, Nat.lt_of_lt_of_le hg hb.size, fun j hj => (hb.cell (p := ⟨g, j, none⟩) hg).trans (hc j hj)⟩
theorem Dg.alloc {w : World} {A : Option Addr} {l c : Nat} {ds : List Int} (h : Dg w A l c ds) (o : Obj) : Dg (w.alloc o) A l c ds := h.call ((Below.refl _ _).alloc (Nat.le_refl _) o)
theorem Dg.nil {w : World} {A : Option Addr} {c : Nat} (hc : c ≤ 9223372036854775807) : Dg w A 0 c [] := ⟨rfl, Nat.zero_le _, hc, fun h => absurd h (by omega)⟩
theorem Dg.take {w : World} {A : Option Addr} {l c : Nat} {ds : List Int} (h : Dg w A l c ds) {k : Nat} (hk : k ≤ l) : Dg w A k c (ds.take k) := by
  obtain ⟨h1, h2, h3, h4⟩ := h
  refine ⟨by rw [List.length_take]; omega, by omega, h3, fun hp => ?_⟩
  obtain ⟨g, e, hg, hc⟩ := h4 (by omega)
  refine ⟨g, e, hg, fun j hj => ?_⟩
  rw [hc j (by omega), List.getD_eq_getElem?_getD, List.getD_eq_getElem?_getD, List.getElem?_take_of_lt hj]
theorem Dg.own {w : World} {base : Nat} {v : Value} {n : Nat} {ds : List Int} (h : w.ownsRow base 3 1 v n (ds.map (Value.int .i64))) : ∃ A c, v = .slice A n c ∧ Dg w A n c ds := by
  have hl : ds.length = n := by have := h.1; simpa using this
  have hh := h
  rcases h.2 with ⟨rfl, rfl⟩ | ⟨g, cap, cur, rfl, hb, hg, hn, hm, hs, ht⟩
  · exact ⟨none, 0, rfl, hl, Nat.le_refl _, by omega, fun k => absurd k (by omega)⟩
  · refine ⟨_, cap, rfl, hl, hn, by simpa [maxLen] using hm, fun _ => ⟨g, rfl, (Array.getElem?_eq_some_iff.1 hg).1, fun j hj => ?_⟩⟩
    rw [hh.cellAt j (by omega), List.getElem?_map, List.getElem?_eq_getElem (by omega), List.getD_eq_getElem?_getD, List.getElem?_eq_getElem (by omega)]
    rfl
/-- A number of the reference package, in memory w: its sign, its slice; n: the number. -/
def IsN (w : World) (neg : Bool) (A : Option Addr) (l c : Nat) (n : Int) : Prop := ∃ ds, Dg w A l c ds ∧ Std neg ds n
theorem IsN.call {w w' : World} {neg : Bool} {A : Option Addr} {l c : Nat} {n : Int} (h : IsN w neg A l c n) (hb : Below w.heap.size w w') : IsN w' neg A l c n := by
  obtain ⟨ds, h1, h2⟩ := h
  exact ⟨ds, h1.call hb, h2⟩
theorem IsN.neg_iff {w : World} {neg : Bool} {A : Option Addr} {l c : Nat} {n : Int} (h : IsN w neg A l c n) : neg = decide (n < 0) := by
  obtain ⟨ds, h1, h2⟩ := h
  exact h2.neg_iff
theorem IsN.len {w : World} {neg : Bool} {A : Option Addr} {l c : Nat} {n : Int} (h : IsN w neg A l c n) {k : Nat} (hk : (n.natAbs : Int) < 10000 ^ k) : l ≤ k := by
  obtain ⟨ds, h1, h2⟩ := h
  rw [← h1.1]
  exact h2.len hk
/-- the number n comes back, in memory of its own; all elder memory is as it was. -/
def RN (n : Int) (w : World) (e : Ending) (w' : World) : Prop := ∃ neg A l c, e = .returned (.agg #[.bool neg, .slice A l c]) ∧ IsN w' neg A l c n ∧ Below w.heap.size w w'
/-- a row whose number is n comes back. -/
def RD (n : Int) (k : Nat) (w : World) (e : Ending) (w' : World) : Prop := ∃ A l c ds, e = .returned (.slice A l c) ∧ Dg w' A l c ds ∧ IsD ds ∧ dval ds = n ∧ l ≤ k ∧ Below w.heap.size w w'

/-- the slice lies in no block below b. -/
def Fr (b : Nat) (A : Option Addr) : Prop := ∀ a, A = some a → b ≤ a.block
/-- RN, in memory that is new. -/
def RNF (n : Int) (w : World) (e : Ending) (w' : World) : Prop := ∃ neg A l c, e = .returned (.agg #[.bool neg, .slice A l c]) ∧ IsN w' neg A l c n ∧ Below w.heap.size w w' ∧ Fr w.heap.size A
/-- RD, in memory that is new. -/
def RDF (n : Int) (k : Nat) (w : World) (e : Ending) (w' : World) : Prop := ∃ A l c ds, e = .returned (.slice A l c) ∧ Dg w' A l c ds ∧ IsD ds ∧ dval ds = n ∧ l ≤ k ∧ Below w.heap.size w w' ∧ Fr w.heap.size A
/-- RN, in the row that was given. -/
def RT (n : Int) (A : Option Addr) (c : Nat) (w : World) (e : Ending) (w' : World) : Prop := ∃ neg l, e = .returned (.agg #[.bool neg, .slice A l c]) ∧ IsN w' neg A l c n ∧ Below w.heap.size w w'
theorem RNF.rn {n : Int} {w w' : World} {e : Ending} (h : RNF n w e w') : RN n w e w' := by
  obtain ⟨x, A, l, c, h1, h2, h3, h4⟩ := h
  exact ⟨x, A, l, c, h1, h2, h3⟩
theorem RDF.rd {n : Int} {k : Nat} {w w' : World} {e : Ending} (h : RDF n k w e w') : RD n k w e w' := by
  obtain ⟨A, l, c, ds, h1, h2, h3, h4, h5, h6, h7⟩ := h
  exact ⟨A, l, c, ds, h1, h2, h3, h4, h5, h6⟩
theorem RT.rn {n : Int} {A : Option Addr} {c : Nat} {w w' : World} {e : Ending} (h : RT n A c w e w') : RN n w e w' := by
  obtain ⟨x, l, h1, h2, h3⟩ := h
  exact ⟨x, A, l, c, h1, h2, h3⟩
theorem Fr.own {w : World} {base : Nat} {t : TypeId} {A : Option Addr} {n c : Nat} {xs : List Value} (h : w.ownsRow base t 1 (.slice A n c) n xs) : Fr base A := fun a e => by
  subst e
  exact (h.lt a.block rfl).1
end Go.Proofs.Ytpopeipcjpfbaaa
namespace Go.Proofs.Ytpopeipcjpfbaaa
open Go.RowKit
set_option linter.unusedVariables false

def capOf : Value → Nat
  | .slice _ k _ => k
  | _ => 0
theorem rn_trim {neg : Bool} {A : Option Addr} {l c k : Nat} {ds : List Int} {w w' : World} (h : Dg w A l c ds) (hd : IsD ds) (hk : k ≤ l) (hv : dval (ds.take k) = dval ds) (hz : 0 < k → ds.getD (k - 1) 0 ≠ 0)
    (hb : Below w.heap.size w w') {x : Bool} (hx : x = (neg && decide (0 < k))) : RT (sg neg (dval ds)) A c w (.returned (.agg #[.bool x, .slice A k c])) w' := by
  have hl : (ds.take k).length = k := by rw [List.length_take, h.1]; omega
  have hn : NoZ (ds.take k) := by
    intro hp
    rw [hl] at hp ⊢
    rw [List.getD_eq_getElem?_getD, List.getElem?_take_of_lt (by omega), ← List.getD_eq_getElem?_getD]
    exact hz hp
  have hs := std_trim (neg := neg) hd hv hn
  rw [hl] at hs
  exact ⟨_, _, by rw [hx], ⟨_, (h.take hk).call hb, hs⟩, hb⟩
theorem trim_less {ds : List Int} {k l : Nat} (hl : ds.length = l) (hk : k + 1 ≤ l) (hv : dval (ds.take (k + 1)) = dval ds) (hz : ds.getD k 0 = 0) : dval (ds.take k) = dval ds := by
  rw [take_snoc (by omega), hz] at hv
  unfold dval at *
  rw [dvx_snoc] at hv
  simpa using hv
end Go.Proofs.Ytpopeipcjpfbaaa
namespace Go.Proofs.Ytpopeipcjpfbaaa
open Go.RowKit
set_option linter.unusedVariables false

theorem icmp_lt {a b : Int} (h : a < b) : icmp a b = -1 := by unfold icmp; rw [if_neg (by omega), if_pos h]
theorem icmp_gt {a b : Int} (h : b < a) : icmp a b = 1 := by unfold icmp; rw [if_neg (by omega), if_neg (by omega)]
theorem icmp_eq {a b : Int} (h : a = b) : icmp a b = 0 := by unfold icmp; rw [if_pos h]
end Go.Proofs.Ytpopeipcjpfbaaa
namespace Go.Proofs.Ytpopeipcjpfbaaa
open Go.RowKit
set_option linter.unusedVariables false

theorem info_int : (Try.prog.info? 3).map (fun i => (i.zero, i.size, i.bytes)) = some (some (.int .i64 0), 1, 8) := by kernel_rfl
/-- what a sum's round keeps. -/
structure PlusR (w wr : World) (ds es : List Int) (l m : Nat) (v : Value) (c : Int) (k : Nat) (os : List Int) : Prop where
  c0 : 0 ≤ c
  c1 : c ≤ 1
  len : os.length = k
  dg : IsD os
  val : dvx os (c + hi ds k + hi es k) = dval ds + dval es
  more : 0 < c → k ≤ l ∨ k ≤ m
  top : k ≤ l ∨ k ≤ m + 1 ∨ k ≤ l + 1
  own : wr.ownsRow w.heap.size 3 1 v k (os.map (Value.int .i64))
  below : Below w.heap.size w wr
theorem plus_start (w : World) (ds es : List Int) (l m : Nat) : PlusR w w ds es l m (.slice none 0 0) 0 0 [] :=
  ⟨by omega, by omega, rfl, IsD.nil, by show (0 : Int) + _ + _ = _; rw [hi_zero, hi_zero]; omega, fun h => absurd h (by omega), .inl (Nat.zero_le _), World.ownsRow_nil _ _ _ _, Below.refl _ _⟩
theorem plus_round {w wr w1 : World} {ds es os : List Int} {l m k : Nat} {v v' : Value} {c : Int} {o : Obj} (h : PlusR w wr ds es l m v c k os) (hl : ds.length = l) (hm : es.length = m) (hd : IsD ds) (he : IsD es)
    (hgo : k < l ∨ k < m ∨ 0 < c) {s : Int} (hs : s = c + ds.getD k 0 + es.getD k 0)
    (hown : w1.ownsRow w.heap.size 3 1 v' (k + 1) (os.map (Value.int .i64) ++ [.int .i64 (s % 10000)])) (hg : (wr.alloc o).grownBy w1 v.ownBlock) : PlusR w w1 ds es l m v' (s / 10000) (k + 1) (os ++ [s % 10000]) := by
  have g1 := hd.getD k
  have g2 := he.getD k
  have h0 := h.c0; have h1 := h.c1; have hmo := h.more
  have z1 : l ≤ k → ds.getD k 0 = 0 := fun q => by simp [List.getD_eq_getElem?_getD, List.getElem?_eq_none (show ds.length ≤ k by omega)]
  have z2 : m ≤ k → es.getD k 0 = 0 := fun q => by simp [List.getD_eq_getElem?_getD, List.getElem?_eq_none (show es.length ≤ k by omega)]
  refine ⟨by omega, by omega, by rw [List.length_append, h.len]; rfl, h.dg.snoc (by omega) (by omega), by rw [hs]; exact plus_step h.val, fun q => ?_, ?_, by rw [List.map_append]; exact hown, ?_⟩
  · by_cases q1 : k < l
    · exact .inl (by omega)
    · by_cases q2 : k < m
      · exact .inr (by omega)
      · have := z1 (by omega); have := z2 (by omega); omega
  · rcases hgo with q | q | q
    · exact .inl (by omega)
    · exact .inr (.inl (by omega))
    · have := hmo q; omega
  · refine (h.below.alloc h.below.size o).grown hg (by have := h.below.size; simp; omega) (fun j hj => (h.own.lt j hj).1)
theorem plus_end {w wr : World} {ds es os : List Int} {l m k : Nat} {v : Value} {c : Int} (h : PlusR w wr ds es l m v c k os) (hl : ds.length = l) (hm : es.length = m) (h1 : l ≤ k) (h2 : m ≤ k) (h3 : c ≤ 0) : RDF (dval ds + dval es) (max l m + 1) w (.returned v) wr := by
  obtain ⟨A, c', rfl, hD⟩ := Dg.own h.own
  have e : c = 0 := by have := h.c0; omega
  have hv := h.val
  rw [e, hi_end ds (by omega), hi_end es (by omega)] at hv
  exact ⟨A, k, c', os, rfl, hD, h.dg, hv, by have := h.top; omega, h.below, Fr.own h.own⟩
end Go.Proofs.Ytpopeipcjpfbaaa
namespace Go.Proofs.Ytpopeipcjpfbaaa
open Go.RowKit
set_option linter.unusedVariables false

theorem qt_left {P : Program} {f : FuncId} {args : Array Value} {w : World} {n : Nat} {v : Value}
    (h : Calls P f args (w.drewN n) fun e w' => e = .returned v ∧ w.drewN n = w') : Calls P f args (w.drewN n) fun e w'' => e = .returned v ∧ ∃ m, w'' = w.drewN m :=
  h.mono fun _ _ ⟨he, hm⟩ => ⟨he, n, hm.symm⟩
theorem Dg.drewN {w : World} {A : Option Addr} {l c : Nat} {ds : List Int} (h : Dg w A l c ds) (n : Nat) : Dg (w.drewN n) A l c ds := h
theorem bel_drewN {B : Nat} {a w : World} (h : Below B a w) (n : Nat) : Below B a (w.drewN n) := ⟨h.os, h.tape, h.output, h.size, h.block⟩
/-- what a difference's round keeps. -/
structure MinusR (w wr : World) (ds es : List Int) (l : Nat) (v : Value) (c : Int) (k : Nat) (os : List Int) : Prop where
  c0 : 0 ≤ c
  c1 : c ≤ 1
  len : os.length = k
  dg : IsD os
  val : dvx os (hi ds k - hi es k - c) = dval ds - dval es
  top : k ≤ l
  own : wr.ownsRow w.heap.size 3 1 v k (os.map (Value.int .i64))
  below : Below w.heap.size w wr
theorem minus_start (w : World) (ds es : List Int) (l : Nat) : MinusR w w ds es l (.slice none 0 0) 0 0 [] :=
  ⟨by omega, by omega, rfl, IsD.nil, by show hi ds 0 - hi es 0 - 0 = _; rw [hi_zero, hi_zero]; omega, Nat.zero_le _, World.ownsRow_nil _ _ _ _, Below.refl _ _⟩
theorem minus_round {w wr w1 : World} {ds es os : List Int} {l k : Nat} {v v' : Value} {c : Int} {o : Obj} (h : MinusR w wr ds es l v c k os)
    (hgo : k < l) {x c' : Int} (h0 : 0 ≤ x) (h1 : x < 10000) (hc0 : 0 ≤ c') (hc1 : c' ≤ 1) (hs : x - 10000 * c' = ds.getD k 0 - es.getD k 0 - c)
    (hown : w1.ownsRow w.heap.size 3 1 v' (k + 1) (os.map (Value.int .i64) ++ [.int .i64 x])) (hg : (wr.alloc o).grownBy w1 v.ownBlock) : MinusR w w1 ds es l v' c' (k + 1) (os ++ [x]) := by
  refine ⟨hc0, hc1, by rw [List.length_append, h.len]; rfl, h.dg.snoc h0 h1, minus_step h.val hs, by omega, by rw [List.map_append]; exact hown, ?_⟩
  exact (h.below.alloc h.below.size o).grown hg (by have := h.below.size; simp; omega) (fun j hj => (h.own.lt j hj).1)
theorem minus_end' {w wr : World} {ds es os : List Int} {l k : Nat} {v : Value} {c : Int} (h : MinusR w wr ds es l v c k os) (hl : ds.length = l) (he : IsD es) (h1 : l ≤ k) (hle : dval es ≤ dval ds) : RDF (dval ds - dval es) l w (.returned v) wr := by
  obtain ⟨A, c', rfl, hD⟩ := Dg.own h.own
  have hv := h.val
  have ht := h.top
  obtain rfl : k = ds.length := by omega
  exact ⟨A, _, c', os, rfl, hD, h.dg, minus_end h.dg he h.c0 hle hv, by omega, h.below, Fr.own h.own⟩
theorem MinusR.drewN {w wr : World} {ds es os : List Int} {l k : Nat} {v : Value} {c : Int} (h : MinusR w wr ds es l v c k os) (n : Nat) : MinusR w (wr.drewN n) ds es l v c k os :=
  ⟨h.c0, h.c1, h.len, h.dg, h.val, h.top, h.own, bel_drewN h.below n⟩
end Go.Proofs.Ytpopeipcjpfbaaa
namespace Go.Proofs.Ytpopeipcjpfbaaa
open Go.RowKit
set_option linter.unusedVariables false

theorem IsN.alloc {w : World} {neg : Bool} {A : Option Addr} {l c : Nat} {n : Int} (h : IsN w neg A l c n) (o : Obj) : IsN (w.alloc o) neg A l c n := h.call ((Below.refl _ _).alloc (Nat.le_refl _) o)
theorem IsN.drew {w : World} {neg : Bool} {A : Option Addr} {l c : Nat} {n : Int} (h : IsN w neg A l c n) : IsN w.drew neg A l c n := h.call ((Below.refl _ _).drew)
/-- a block of two cells, the first of which holds a bool. -/
def HasBB (w : World) (b : Nat) : Prop := ∃ x u, Box w b (.bool x) u
theorem HasBB.of {w : World} {b : Nat} {x : Bool} {u : Value} (h : Box w b (.bool x) u) : HasBB w b := ⟨x, u, h⟩
theorem HasBB.call {w w1 : World} {b : Nat} (h : HasBB w b) (hb : Below w.heap.size w w1) : HasBB w1 b := by
  obtain ⟨x, u, k⟩ := h
  exact ⟨x, u, k.call hb⟩
theorem HasBB.alloc {w : World} {b : Nat} (h : HasBB w b) (o : Obj) : HasBB (w.alloc o) b := by
  obtain ⟨x, u, k⟩ := h
  exact ⟨x, u, k.alloc o⟩
theorem HasBB.drew {w : World} {b : Nat} (h : HasBB w b) : HasBB w.drew b := by
  obtain ⟨x, u, k⟩ := h
  exact ⟨x, u, k.drew⟩
theorem HasBB.new {w : World} {b : Nat} {x : Bool} {u : Value} {t : TypeId} (e : b = w.heap.size) : HasBB (w.alloc (.cells #[.bool x, u] t)) b := ⟨x, u, Box.new e⟩
theorem HasBB.set {w : World} {b g : Nat} (h : HasBB w b) (o : Nat) {x : Value} (ne : g ≠ b) : HasBB (w.setCell ⟨g, o, none⟩ x) b := by
  obtain ⟨y, u, k⟩ := h
  exact ⟨y, u, k.set o ne⟩
theorem HasBB.put {w : World} {b : Nat} {x : Bool} {u : Value} (h : HasBB w b) : HasBB ((w.setCell ⟨b, 0, none⟩ (.bool x)).setCell ⟨b, 1, none⟩ u) b := by
  obtain ⟨y, v, k⟩ := h
  exact ⟨x, u, Box.put (HasBox.of k)⟩
theorem Dg.set {w : World} {A : Option Addr} {l c : Nat} {ds : List Int} (h : Dg w A l c ds) {b : Nat} {x : Bool} (hb : w.cell? ⟨b, 0, none⟩ = some (.bool x)) (o : Nat) (v : Value) : Dg (w.setCell ⟨b, o, none⟩ v) A l c ds := by
  obtain ⟨h1, h2, h3, h4⟩ := h
  refine ⟨h1, h2, h3, fun hp => ?_⟩
  obtain ⟨g, e, hg, hc⟩ := h4 hp
  have hne : g ≠ b := by
    rintro rfl
    have := hc 0 hp
    rw [hb] at this
    cases this
  refine ⟨g, e, by simpa [World.setCell] using hg, fun j hj => ?_⟩
  rw [World.cell?_setCell_other _ _ _ _ (fun e => hne (congrArg Addr.block e).symm)]
  exact hc j hj
theorem IsN.put {w : World} {neg : Bool} {A : Option Addr} {l c : Nat} {n : Int} {b : Nat} {x : Bool} {u : Value} (h : IsN w neg A l c n) (hb : HasBB w b) : IsN ((w.setCell ⟨b, 0, none⟩ (.bool x)).setCell ⟨b, 1, none⟩ u) neg A l c n := by
  obtain ⟨ds, hD, hS⟩ := h
  obtain ⟨y, v, ⟨k1, k2⟩, k3, k4⟩ := hb
  refine ⟨ds, (hD.set k1 _ _).set (x := x) ?_ _ _, hS⟩
  rw [World.cell?_setCell_same _ _ _ k1]
theorem sg_not (neg : Bool) (n : Int) : sg (!neg) n = -sg neg n := by cases neg <;> simp [sg]
end Go.Proofs.Ytpopeipcjpfbaaa
namespace Go.Proofs.Ytpopeipcjpfbaaa
open Go.RowKit
set_option linter.unusedVariables false

theorem icmp_neg (a b : Int) : icmp (-a) (-b) = icmp b a := by
  unfold icmp
  repeat' split
  all_goals omega
theorem Std.nonneg {ds : List Int} {n : Int} (h : Std false ds n) : 0 ≤ n := by rw [h.val]; exact dval_nonneg h.dg
theorem Std.below {ds : List Int} {n : Int} (h : Std true ds n) : n < 0 := by have := h.pos (h.sign rfl); rw [h.val]; simp [sg]; omega
end Go.Proofs.Ytpopeipcjpfbaaa
