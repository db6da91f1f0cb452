/-
  Numbers of the reference package: a sign, and a row of digits: contracts of base, digit, trim, size. My own text.
  Contracts of the reference package: trim, size. My own text.
  Contracts of the reference package: size. My own text.
  Contracts of the reference package: plus, minus. My own text.
  Contracts of the reference package: minus. My own text.
  Contracts of the reference package: Neg, Cmp, Add. My own text.
  Contracts of the reference package: Cmp, Add. My own text.
-/
import Derived.Test.YtfcehanpmbeegaaWideA
import Derived.Test.YtfcehanpmbeegaaRefM
import Derived.Deep.QuietTactic
import Derived.OwnWalk
import Derived.Laws.OwnMore
import Derived.Maps.AppendAt
import Derived.IntWalk
namespace Go.Proofs.Ytfcehanpmbeegaa
open Go.RowKit
set_option linter.unusedVariables false

/-- a slice of ints that reads as the row ds. -/
def Dg (w : World) (A : Option Addr) (l c : Nat) (ds : List Int) : Prop :=
  ds.length = l ∧ l ≤ c ∧ c ≤ 9223372036854775807 ∧ (0 < l → ∃ g, A = some ⟨g, 0, none⟩ ∧ g < w.heap.size ∧ ∀ j, j < l → w.cell? ⟨g, j, none⟩ = some (.int .i64 (ds.getD j 0)))
theorem Dg.call {w w' : World} {A : Option Addr} {l c : Nat} {ds : List Int} (h : Dg w A l c ds) (hb : Below w.heap.size w w') : Dg w' A l c ds := by
  obtain ⟨h1, h2, h3, k⟩ := h
  refine ⟨h1, h2, h3, fun hne => ?_⟩
  obtain ⟨g, rfl, hg, hc⟩ := k hne
  exact ⟨g, rfl, Nat.lt_of_lt_of_le hg hb.size, fun j hj => (hb.cell (p := ⟨g, j, none⟩) hg).trans (hc j hj)⟩
theorem Dg.alloc {w : World} {A : Option Addr} {l c : Nat} {ds : List Int} (h : Dg w A l c ds) (o : Obj) : Dg (w.alloc o) A l c ds := h.call ((Below.refl _ _).alloc (Nat.le_refl _) o)
theorem Dg.nil {w : World} {A : Option Addr} {c : Nat} (hc : c ≤ 9223372036854775807) : Dg w A 0 c [] := ⟨rfl, Nat.zero_le _, hc, fun h => absurd h (by omega)⟩
theorem Dg.take {w : World} {A : Option Addr} {l c : Nat} {ds : List Int} (h : Dg w A l c ds) {k : Nat} (hk : k ≤ l) : Dg w A k c (ds.take k) := by
  obtain ⟨h1, h2, h3, h4⟩ := h
  refine ⟨by rw [List.length_take]; omega, by omega, h3, fun hp => ?_⟩
  obtain ⟨g, e, hg, hc⟩ := h4 (by omega)
  refine ⟨g, e, hg, fun j hj => ?_⟩
  rw [hc j (by omega), List.getD_eq_getElem?_getD, List.getD_eq_getElem?_getD, List.getElem?_take_of_lt hj]
theorem Dg.own {w : World} {base : Nat} {v : Value} {n : Nat} {ds : List Int} (h : w.ownsRow base 3 1 v n (ds.map (Value.int .i64))) : ∃ A c, v = .slice A n c ∧ Dg w A n c ds := by
  have hl : ds.length = n := by have := h.1; simpa using this
  have hh := h
  rcases h.2 with ⟨rfl, rfl⟩ | ⟨g, cap, cur, rfl, hb, hg, hn, hm, hs, ht⟩
  · exact ⟨none, 0, rfl, hl, Nat.le_refl _, by omega, fun k => absurd k (by omega)⟩
  · refine ⟨_, cap, rfl, hl, hn, by simpa [maxLen] using hm, fun _ => ⟨g, rfl, (Array.getElem?_eq_some_iff.1 hg).1, fun j hj => ?_⟩⟩
    rw [hh.cellAt j (by omega), List.getElem?_map, List.getElem?_eq_getElem (by omega), List.getD_eq_getElem?_getD, List.getElem?_eq_getElem (by omega)]
    rfl
/-- A number of the reference package, in memory w: its sign, its slice; n: the number. -/
def IsN (w : World) (neg : Bool) (A : Option Addr) (l c : Nat) (n : Int) : Prop := ∃ ds, Dg w A l c ds ∧ Std neg ds n
theorem IsN.call {w w' : World} {neg : Bool} {A : Option Addr} {l c : Nat} {n : Int} (h : IsN w neg A l c n) (hb : Below w.heap.size w w') : IsN w' neg A l c n := by
  obtain ⟨ds, h1, h2⟩ := h
  exact ⟨ds, h1.call hb, h2⟩
theorem IsN.neg_iff {w : World} {neg : Bool} {A : Option Addr} {l c : Nat} {n : Int} (h : IsN w neg A l c n) : neg = decide (n < 0) := by
  obtain ⟨ds, h1, h2⟩ := h
  exact h2.neg_iff
theorem IsN.len {w : World} {neg : Bool} {A : Option Addr} {l c : Nat} {n : Int} (h : IsN w neg A l c n) {k : Nat} (hk : (n.natAbs : Int) < 10000 ^ k) : l ≤ k := by
  obtain ⟨ds, h1, h2⟩ := h
  rw [← h1.1]
  exact h2.len hk
/-- the number n comes back, in memory of its own; all elder memory is as it was. -/
def RN (n : Int) (w : World) (e : Ending) (w' : World) : Prop := ∃ neg A l c, e = .returned (.agg #[.bool neg, .slice A l c]) ∧ IsN w' neg A l c n ∧ Below w.heap.size w w'
/-- a row whose number is n comes back. -/
def RD (n : Int) (k : Nat) (w : World) (e : Ending) (w' : World) : Prop := ∃ A l c ds, e = .returned (.slice A l c) ∧ Dg w' A l c ds ∧ IsD ds ∧ dval ds = n ∧ l ≤ k ∧ Below w.heap.size w w'

/-- the slice lies in no block below b. -/
def Fr (b : Nat) (A : Option Addr) : Prop := ∀ a, A = some a → b ≤ a.block
/-- RN, in memory that is new. -/
def RNF (n : Int) (w : World) (e : Ending) (w' : World) : Prop := ∃ neg A l c, e = .returned (.agg #[.bool neg, .slice A l c]) ∧ IsN w' neg A l c n ∧ Below w.heap.size w w' ∧ Fr w.heap.size A
/-- RD, in memory that is new. -/
def RDF (n : Int) (k : Nat) (w : World) (e : Ending) (w' : World) : Prop := ∃ A l c ds, e = .returned (.slice A l c) ∧ Dg w' A l c ds ∧ IsD ds ∧ dval ds = n ∧ l ≤ k ∧ Below w.heap.size w w' ∧ Fr w.heap.size A
/-- RN, in the row that was given. -/
def RT (n : Int) (A : Option Addr) (c : Nat) (w : World) (e : Ending) (w' : World) : Prop := ∃ neg l, e = .returned (.agg #[.bool neg, .slice A l c]) ∧ IsN w' neg A l c n ∧ Below w.heap.size w w'
theorem RNF.rn {n : Int} {w w' : World} {e : Ending} (h : RNF n w e w') : RN n w e w' := by
  obtain ⟨x, A, l, c, h1, h2, h3, h4⟩ := h
  exact ⟨x, A, l, c, h1, h2, h3⟩
theorem RDF.rd {n : Int} {k : Nat} {w w' : World} {e : Ending} (h : RDF n k w e w') : RD n k w e w' := by
  obtain ⟨A, l, c, ds, h1, h2, h3, h4, h5, h6, h7⟩ := h
  exact ⟨A, l, c, ds, h1, h2, h3, h4, h5, h6⟩
theorem RT.rn {n : Int} {A : Option Addr} {c : Nat} {w w' : World} {e : Ending} (h : RT n A c w e w') : RN n w e w' := by
  obtain ⟨x, l, h1, h2, h3⟩ := h
  exact ⟨x, A, l, c, h1, h2, h3⟩
theorem Fr.own {w : World} {base : Nat} {t : TypeId} {A : Option Addr} {n c : Nat} {xs : List Value} (h : w.ownsRow base t 1 (.slice A n c) n xs) : Fr base A := fun a e => by
  subst e
  exact (h.lt a.block rfl).1
theorem base_any (w : World) : Calls Try.prog 65 #[] w fun e w' => e = .returned (.int .i64 10000) ∧ w = w' := by
  go_enter Try.func65, Try.ntmps65
  go_wp2
  go_ret
  exact ⟨rfl, rfl⟩
set_option maxHeartbeats 400000 in
theorem digit_any (A : Option Addr) (l c : Nat) (ds : List Int) (k : Nat) (w : World) (h : Dg w A l c ds) (hl : l ≤ 1000) (hk : k ≤ 1000) :
    Calls Try.prog 64 #[.slice A l c, .int .i64 k] w fun e w' => e = .returned (.int .i64 (ds.getD k 0)) ∧ w = w' := by
  obtain ⟨h1, h2, h3, h4⟩ := h
  by_cases hlt : k < l
  · obtain ⟨g, rfl, hg, hcell⟩ := h4 (by omega)
    have hk' := hcell k hlt
    generalize ds.getD k 0 = d at *
    clear h4 hcell h1
    go_enter Try.func64, Try.ntmps64
    go_wp2
    go_ret
    exact ⟨rfl, rfl⟩
  · have HR : Hid (ds.getD k 0 = 0) := by unfold Hid; simp [List.getD_eq_getElem?_getD, List.getElem?_eq_none (show ds.length ≤ k by omega)]
    clear h4 h1
    go_enter Try.func64, Try.ntmps64
    go_wp2
    go_ret
    rw [HR.out]
    exact ⟨rfl, rfl⟩
end Go.Proofs.Ytfcehanpmbeegaa
namespace Go.Proofs.Ytfcehanpmbeegaa
open Go.RowKit
set_option linter.unusedVariables false

def capOf : Value → Nat
  | .slice _ k _ => k
  | _ => 0
theorem rn_trim {neg : Bool} {A : Option Addr} {l c k : Nat} {ds : List Int} {w w' : World} (h : Dg w A l c ds) (hd : IsD ds) (hk : k ≤ l) (hv : dval (ds.take k) = dval ds) (hz : 0 < k → ds.getD (k - 1) 0 ≠ 0)
    (hb : Below w.heap.size w w') {x : Bool} (hx : x = (neg && decide (0 < k))) : RT (sg neg (dval ds)) A c w (.returned (.agg #[.bool x, .slice A k c])) w' := by
  have hl : (ds.take k).length = k := by rw [List.length_take, h.1]; omega
  have hn : NoZ (ds.take k) := by
    intro hp
    rw [hl] at hp ⊢
    rw [List.getD_eq_getElem?_getD, List.getElem?_take_of_lt (by omega), ← List.getD_eq_getElem?_getD]
    exact hz hp
  have hs := std_trim (neg := neg) hd hv hn
  rw [hl] at hs
  exact ⟨_, _, by rw [hx], ⟨_, (h.take hk).call hb, hs⟩, hb⟩
theorem trim_less {ds : List Int} {k l : Nat} (hl : ds.length = l) (hk : k + 1 ≤ l) (hv : dval (ds.take (k + 1)) = dval ds) (hz : ds.getD k 0 = 0) : dval (ds.take k) = dval ds := by
  rw [take_snoc (by omega), hz] at hv
  unfold dval at *
  rw [dvx_snoc] at hv
  simpa using hv
set_option maxHeartbeats 1000000 in
theorem trim_same (neg : Bool) (A : Option Addr) (l c : Nat) (ds : List Int) (w : World) (h : Dg w A l c ds) (hd : IsD ds) (hl : l ≤ 1000) :
    Calls Try.prog 51 #[.agg #[.bool neg, .slice A l c]] w (RT (sg neg (dval ds)) A c w) := by
  obtain ⟨h1, h2, h3, h4⟩ := id h
  have hlt : ∀ k, k + 1 ≤ l → ∃ g, A = some ⟨g, 0, none⟩ ∧ g < w.heap.size ∧ w.cell? ⟨g, k, none⟩ = some (.int .i64 (ds.getD k 0)) := fun k hk => by
    obtain ⟨g, e, hg, hc⟩ := h4 (by omega)
    exact ⟨g, e, hg, hc k (by omega)⟩
  have H1 := Lib.hid h1
  have HL := Lib.hid hlt
  clear h1 hlt h4
  go_enter Try.func51, Try.ntmps51
  go_wp2
  go_loop [3] (fun d => ∃ k : Nat, k ≤ l ∧ d = .slice A k c ∧ Hid (dval (ds.take k) = dval ds)) (fun d => capOf d)
  case atStart => exact ⟨l, Nat.le_refl _, rfl, by unfold Hid; rw [List.take_of_length_le (by rw [H1.out]; omega)]⟩
  case round =>
    obtain ⟨k, hk, rfl, hv⟩ := hrel
    rcases k with _ | k
    · go_wp2
      all_goals
        refine bodyPost_ret (v := .agg #[.bool false, .slice A 0 c]) (by simp only [results, Try.results51]; go_simp) rfl (rn_trim h hd hk hv.out (fun h => absurd h (by omega)) ?_ (by simp))
        (repeat (first | (with_reducible exact Below.refl _ _) | with_reducible assumption | (with_reducible refine below_alloc ?_ _) | (focus ((with_reducible refine below_set ?_ _ _ _ ?_); rotate_left; omega)) | (with_reducible refine Below.drew ?_)))
    · obtain ⟨g, rfl, hg, hc⟩ := HL.out k hk
      by_cases hz : ds.getD k 0 = 0
      · have hv' : Hid (dval (ds.take k) = dval ds) := trim_less H1.out hk hv.out hz
        rw [hz] at hc
        clear hz
        go_wp2
        go_round
        case rel => exact ⟨k, by omega, by simp, hv'⟩
        case measure => simp [capOf]
      · have hz' := Lib.hid hz
        have hne : (ds.getD k 0 == 0) = false := by simpa using hz
        clear hz
        generalize hdd : ds.getD k 0 = d at hc hne
        have HD := Lib.hid hdd
        clear hdd
        go_wp2
        · refine bodyPost_ret (v := .agg #[.bool true, .slice (some ⟨g, 0, none⟩) (k + 1) c]) (by simp only [results, Try.results51]; go_simp) rfl (rn_trim (neg := true) h hd hk hv.out (fun _ => hz'.out) ?_ (by simp))
          (repeat (first | (with_reducible exact Below.refl _ _) | with_reducible assumption | (with_reducible refine below_alloc ?_ _) | (focus ((with_reducible refine below_set ?_ _ _ _ ?_); rotate_left; omega)) | (with_reducible refine Below.drew ?_)))
        · refine bodyPost_ret (v := .agg #[.bool false, .slice (some ⟨g, 0, none⟩) (k + 1) c]) (by simp only [results, Try.results51]; go_simp) rfl (rn_trim (neg := false) h hd hk hv.out (fun _ => hz'.out) ?_ (by simp))
          (repeat (first | (with_reducible exact Below.refl _ _) | with_reducible assumption | (with_reducible refine below_alloc ?_ _) | (focus ((with_reducible refine below_set ?_ _ _ _ ?_); rotate_left; omega)) | (with_reducible refine Below.drew ?_)))
theorem trim_any (neg : Bool) (A : Option Addr) (l c : Nat) (ds : List Int) (w : World) (h : Dg w A l c ds) (hd : IsD ds) (hl : l ≤ 1000) :
    Calls Try.prog 51 #[.agg #[.bool neg, .slice A l c]] w (RN (sg neg (dval ds)) w) := (trim_same neg A l c ds w h hd hl).mono fun _ _ h => h.rn
theorem trim_short (neg : Bool) (A : Option Addr) (l c : Nat) (ds : List Int) (w : World) (h : Dg w A l c ds) (hd : IsD ds) (hl : l ≤ 1000) :
    Calls Try.prog 51 #[.agg #[.bool neg, .slice A l c]] w fun e w' => ∃ x l', e = .returned (.agg #[.bool x, .slice A l' c]) ∧ IsN w' x A l' c (sg neg (dval ds)) ∧ l' ≤ l ∧ Below w.heap.size w w' :=
  (trim_same neg A l c ds w h hd hl).mono fun _ _ ⟨x, l', h1, h2, h3⟩ => ⟨x, l', h1, h2, h2.len (by
    have a := dval_lt hd
    have b := dval_nonneg hd
    rw [h.1] at a
    cases neg <;> simp only [sg, if_true, Bool.false_eq_true, if_false] <;> omega), h3⟩
end Go.Proofs.Ytfcehanpmbeegaa
namespace Go.Proofs.Ytfcehanpmbeegaa
open Go.RowKit
set_option linter.unusedVariables false

theorem icmp_lt {a b : Int} (h : a < b) : icmp a b = -1 := by unfold icmp; rw [if_neg (by omega), if_pos h]
theorem icmp_gt {a b : Int} (h : b < a) : icmp a b = 1 := by unfold icmp; rw [if_neg (by omega), if_neg (by omega)]
theorem icmp_eq {a b : Int} (h : a = b) : icmp a b = 0 := by unfold icmp; rw [if_pos h]
set_option maxHeartbeats 1000000 in
theorem size_any (A B : Option Addr) (l c m d : Nat) (ds es : List Int) (w : World) (h : Dg w A l c ds) (k : Dg w B m d es) (hd : IsD ds) (he : IsD es) (hl : l ≤ 1000) (hm : m ≤ 1000) :
    Calls Try.prog 53 #[.slice A l c, .slice B m d] w fun e w' => e = .returned (.int .i64 (icmp (dval ds) (dval es))) ∧ w = w' := by
  have H1 := Lib.hid h.1
  have H2 := Lib.hid k.1
  have hd' := Lib.hid hd
  have he' := Lib.hid he
  have hs := Lib.hid h
  have ks := Lib.hid k
  clear hd he h k
  go_enter Try.func53, Try.ntmps53
  go_wp2
  all_goals
    go_loop [5] (fun i => ∃ k : Nat, i = .int .i64 ((k : Int) - 1) ∧ k ≤ 1000 ∧ Hid (hi ds k = hi es k)) (fun i => (intOf i + 1).toNat)
    case atStart => first
      | exact ⟨l, rfl, by omega, by unfold Hid; rw [hi_end ds (by rw [H1.out]; omega), hi_end es (by rw [H2.out]; omega)]⟩
      | exact ⟨m, rfl, by omega, by unfold Hid; rw [hi_end ds (by rw [H1.out]; omega), hi_end es (by rw [H2.out]; omega)]⟩
    case round =>
      obtain ⟨k, rfl, hk, hh⟩ := hrel
      rcases k with _ | k
      · rw [show (((0 : Nat) : Int) - 1) = -1 from rfl]
        go_wp2
        go_ret
        exact ⟨ret_int (icmp_eq hh.out).symm, rfl⟩
      · rw [show (((k + 1 : Nat) : Int) - 1) = (k : Int) by omega]
        have g1 := hd'.out.getD k
        have g2 := he'.out.getD k
        have e1 := fun h => size_lt k hd'.out he'.out h hh.out
        have e2 := fun h => size_lt k he'.out hd'.out h hh.out.symm
        have e3 : ds.getD k 0 = es.getD k 0 → hi ds k = hi es k := fun h => by rw [hi_step ds k, hi_step es k, h, hh.out]
        have c1 := fun w h => digit_any A l c ds k w h hl (by omega)
        have c2 := fun w h => digit_any B m d es k w h hm (by omega)
        have E1 := Lib.hid e1
        have E2 := Lib.hid e2
        have E3 := Lib.hid e3
        have C1 := Lib.hid c1
        have C2 := Lib.hid c2
        clear e1 e2 e3 c1 c2
        generalize ds.getD k 0 = x at *
        generalize es.getD k 0 = y at *
        go_wp2_with (go_at_call 64; first | ((with_reducible refine (C1.out _ hs.out).mono ?_); rintro e w' ⟨rfl, rfl⟩) | ((with_reducible refine (C2.out _ ks.out).mono ?_); rintro e w' ⟨rfl, rfl⟩))
        · go_ret
          exact ⟨ret_int (icmp_lt (E1.out (by assumption))).symm, rfl⟩
        · go_ret
          exact ⟨ret_int (icmp_gt (E2.out (by assumption))).symm, rfl⟩
        · go_round
          case rel => exact ⟨k, rfl, by omega, E3.out (by omega)⟩
          case measure => simp [intOf]
end Go.Proofs.Ytfcehanpmbeegaa
namespace Go.Proofs.Ytfcehanpmbeegaa
open Go.RowKit
set_option linter.unusedVariables false

theorem info_int : (Try.prog.info? 3).map (fun i => (i.zero, i.size, i.bytes)) = some (some (.int .i64 0), 1, 8) := by kernel_rfl
/-- what a sum's round keeps. -/
structure PlusR (w wr : World) (ds es : List Int) (l m : Nat) (v : Value) (c : Int) (k : Nat) (os : List Int) : Prop where
  c0 : 0 ≤ c
  c1 : c ≤ 1
  len : os.length = k
  dg : IsD os
  val : dvx os (c + hi ds k + hi es k) = dval ds + dval es
  more : 0 < c → k ≤ l ∨ k ≤ m
  top : k ≤ l ∨ k ≤ m + 1 ∨ k ≤ l + 1
  own : wr.ownsRow w.heap.size 3 1 v k (os.map (Value.int .i64))
  below : Below w.heap.size w wr
theorem plus_start (w : World) (ds es : List Int) (l m : Nat) : PlusR w w ds es l m (.slice none 0 0) 0 0 [] :=
  ⟨by omega, by omega, rfl, IsD.nil, by show (0 : Int) + _ + _ = _; rw [hi_zero, hi_zero]; omega, fun h => absurd h (by omega), .inl (Nat.zero_le _), World.ownsRow_nil _ _ _ _, Below.refl _ _⟩
theorem plus_round {w wr w1 : World} {ds es os : List Int} {l m k : Nat} {v v' : Value} {c : Int} {o : Obj} (h : PlusR w wr ds es l m v c k os) (hl : ds.length = l) (hm : es.length = m) (hd : IsD ds) (he : IsD es)
    (hgo : k < l ∨ k < m ∨ 0 < c) {s : Int} (hs : s = c + ds.getD k 0 + es.getD k 0)
    (hown : w1.ownsRow w.heap.size 3 1 v' (k + 1) (os.map (Value.int .i64) ++ [.int .i64 (s % 10000)])) (hg : (wr.alloc o).grownBy w1 v.ownBlock) : PlusR w w1 ds es l m v' (s / 10000) (k + 1) (os ++ [s % 10000]) := by
  have g1 := hd.getD k
  have g2 := he.getD k
  have h0 := h.c0; have h1 := h.c1; have hmo := h.more
  have z1 : l ≤ k → ds.getD k 0 = 0 := fun q => by simp [List.getD_eq_getElem?_getD, List.getElem?_eq_none (show ds.length ≤ k by omega)]
  have z2 : m ≤ k → es.getD k 0 = 0 := fun q => by simp [List.getD_eq_getElem?_getD, List.getElem?_eq_none (show es.length ≤ k by omega)]
  refine ⟨by omega, by omega, by rw [List.length_append, h.len]; rfl, h.dg.snoc (by omega) (by omega), by rw [hs]; exact plus_step h.val, fun q => ?_, ?_, by rw [List.map_append]; exact hown, ?_⟩
  · by_cases q1 : k < l
    · exact .inl (by omega)
    · by_cases q2 : k < m
      · exact .inr (by omega)
      · have := z1 (by omega); have := z2 (by omega); omega
  · rcases hgo with q | q | q
    · exact .inl (by omega)
    · exact .inr (.inl (by omega))
    · have := hmo q; omega
  · refine (h.below.alloc h.below.size o).grown hg (by have := h.below.size; simp; omega) (fun j hj => (h.own.lt j hj).1)
theorem plus_end {w wr : World} {ds es os : List Int} {l m k : Nat} {v : Value} {c : Int} (h : PlusR w wr ds es l m v c k os) (hl : ds.length = l) (hm : es.length = m) (h1 : l ≤ k) (h2 : m ≤ k) (h3 : c ≤ 0) : RDF (dval ds + dval es) (max l m + 1) w (.returned v) wr := by
  obtain ⟨A, c', rfl, hD⟩ := Dg.own h.own
  have e : c = 0 := by have := h.c0; omega
  have hv := h.val
  rw [e, hi_end ds (by omega), hi_end es (by omega)] at hv
  exact ⟨A, k, c', os, rfl, hD, h.dg, hv, by have := h.top; omega, h.below, Fr.own h.own⟩
set_option maxHeartbeats 1000000 in
set_option maxRecDepth 100000 in
theorem rplus_new (A B : Option Addr) (l c m d : Nat) (ds es : List Int) (w : World) (h : Dg w A l c ds) (k : Dg w B m d es) (hd : IsD ds) (he : IsD es) (hl : l ≤ 900) (hm : m ≤ 900) :
    Calls Try.prog 52 #[.slice A l c, .slice B m d] w (RDF (dval ds + dval es) (max l m + 1) w) := by
  obtain ⟨i0, hi0, hz0, hz1, hz2⟩ := info_parts info_int
  have H1 := Lib.hid h.1
  have H2 := Lib.hid k.1
  have hd' := Lib.hid hd
  have he' := Lib.hid he
  have hs := Lib.hid h
  have ks := Lib.hid k
  have I0 := Lib.hid hi0
  have I1 := Lib.hid hz0
  have I2 := Lib.hid hz1
  have I3 := Lib.hid hz2
  clear hd he h k hi0 hz0 hz1 hz2
  go_enter Try.func52, Try.ntmps52
  go_wp2
  go_loopw [5, 6, 7] (fun v c i wr => ∃ (k : Nat) (cc : Int) (os : List Int), c = .int .i64 cc ∧ i = .int .i64 k ∧ PlusR w wr ds es l m v cc k os) (fun _ _ i _ => 2000 - (intOf i).toNat)
  case atStart => exact ⟨0, 0, [], rfl, rfl, plus_start w ds es l m⟩
  case round =>
    obtain ⟨k, cc, os, rfl, rfl, hr⟩ := hrel
    have b0 := hr.c0
    have b1 := hr.c1
    have b2 := hr.top
    have b3 := hr.more
    have HR := Lib.hid hr
    have C1 := Lib.hid (fun w h => digit_any A l c ds k w h (by omega) (by omega))
    have C2 := Lib.hid (fun w h => digit_any B m d es k w h (by omega) (by omega))
    have g1 := hd'.out.getD k
    have g2 := he'.out.getD k
    have hD1 := Lib.hid (hs.out.call hr.below)
    have hD2 := Lib.hid (ks.out.call hr.below)
    clear hr
    have N := Lib.hid (fun (w1 : World) (v' : Value) (o : Obj) hgo hown hg => plus_round (w1 := w1) (v' := v') (o := o) HR.out H1.out H2.out hd'.out he'.out hgo rfl hown hg)
    generalize ds.getD k 0 = x at *
    generalize es.getD k 0 = y at *
    by_cases hgo : k < l ∨ k < m ∨ 0 < cc
    · have hgo' := Lib.hid hgo
      have HO := Lib.hid HR.out.own
      have q0 : 0 ≤ cc + x + y := by omega
      have hsz := HR.out.below.size
      have M := Lib.hid (fun w1 v' o => N.out w1 v' o hgo'.out)
      clear N
      have hcs : (l < m ∧ k < m) ∨ (l < m ∧ m ≤ k ∧ 0 < cc) ∨ (m ≤ l ∧ k < l) ∨ (m ≤ l ∧ l ≤ k ∧ 0 < cc) := by omega
      rcases hcs with ⟨t1, t2⟩ | ⟨t1, t2, t3⟩ | ⟨t1, t2⟩ | ⟨t1, t2, t3⟩
      all_goals
        go_wp2_with (first
          | (go_at_call 64; first | ((with_reducible refine (C1.out _ hD1.out).mono ?_); rintro e w' ⟨rfl, rfl⟩) | ((with_reducible refine (C2.out _ hD2.out).mono ?_); rintro e w' ⟨rfl, rfl⟩))
          | (go_at_call 65; (with_reducible refine (base_any _).mono ?_); rintro e w' ⟨rfl, rfl⟩)
          | (at_builtin; refine wpList_append_own _ rfl _ _ 58 rfl w.heap.size 3 i0 (.int .i64 0) 1 8 Try.underlying58 I0.out I1.out I2.out I3.out rfl (by decide) _ _ _ rfl (HO.out.alloc _) ⟨wr.heap.size, 0, none⟩ 1 1 [.int .i64 ((cc + x + y) % 10000)] rfl rfl (cell_one_new _ _ _) (by simp [Value.oneCell']) (by simp only [maxLen]; omega) (by omega) (by simp; omega) ?_; intro v' w1 hown' hgrow hiff; clear hiff; have R := Lib.hid (M.out w1 v' _ hown' hgrow); clear hown' hgrow))
        all_goals first
          | (exfalso; omega)
          | (refine ⟨⟨k + 1, _, _, rfl, by go_num, R.out⟩, ?_⟩; simp [intOf]; omega)
    · clear N
      have t3 : cc ≤ 0 := by omega
      have t4 : l ≤ k := by omega
      have t5 : m ≤ k := by omega
      rcases Nat.lt_or_ge l m with hlm | hlm
      all_goals
        go_wp2
        all_goals first
          | (exfalso; omega)
          | (go_ret; exact plus_end HR.out H1.out H2.out t4 t5 t3)
end Go.Proofs.Ytfcehanpmbeegaa
namespace Go.Proofs.Ytfcehanpmbeegaa
open Go.RowKit
set_option linter.unusedVariables false

theorem qt_left {P : Program} {f : FuncId} {args : Array Value} {w : World} {n : Nat} {v : Value}
    (h : Calls P f args (w.drewN n) fun e w' => e = .returned v ∧ w.drewN n = w') : Calls P f args (w.drewN n) fun e w'' => e = .returned v ∧ ∃ m, w'' = w.drewN m :=
  h.mono fun _ _ ⟨he, hm⟩ => ⟨he, n, hm.symm⟩
theorem Dg.drewN {w : World} {A : Option Addr} {l c : Nat} {ds : List Int} (h : Dg w A l c ds) (n : Nat) : Dg (w.drewN n) A l c ds := h
theorem bel_drewN {B : Nat} {a w : World} (h : Below B a w) (n : Nat) : Below B a (w.drewN n) := ⟨h.os, h.tape, h.output, h.size, h.block⟩
/-- what a difference's round keeps. -/
structure MinusR (w wr : World) (ds es : List Int) (l : Nat) (v : Value) (c : Int) (k : Nat) (os : List Int) : Prop where
  c0 : 0 ≤ c
  c1 : c ≤ 1
  len : os.length = k
  dg : IsD os
  val : dvx os (hi ds k - hi es k - c) = dval ds - dval es
  top : k ≤ l
  own : wr.ownsRow w.heap.size 3 1 v k (os.map (Value.int .i64))
  below : Below w.heap.size w wr
theorem minus_start (w : World) (ds es : List Int) (l : Nat) : MinusR w w ds es l (.slice none 0 0) 0 0 [] :=
  ⟨by omega, by omega, rfl, IsD.nil, by show hi ds 0 - hi es 0 - 0 = _; rw [hi_zero, hi_zero]; omega, Nat.zero_le _, World.ownsRow_nil _ _ _ _, Below.refl _ _⟩
theorem minus_round {w wr w1 : World} {ds es os : List Int} {l k : Nat} {v v' : Value} {c : Int} {o : Obj} (h : MinusR w wr ds es l v c k os)
    (hgo : k < l) {x c' : Int} (h0 : 0 ≤ x) (h1 : x < 10000) (hc0 : 0 ≤ c') (hc1 : c' ≤ 1) (hs : x - 10000 * c' = ds.getD k 0 - es.getD k 0 - c)
    (hown : w1.ownsRow w.heap.size 3 1 v' (k + 1) (os.map (Value.int .i64) ++ [.int .i64 x])) (hg : (wr.alloc o).grownBy w1 v.ownBlock) : MinusR w w1 ds es l v' c' (k + 1) (os ++ [x]) := by
  refine ⟨hc0, hc1, by rw [List.length_append, h.len]; rfl, h.dg.snoc h0 h1, minus_step h.val hs, by omega, by rw [List.map_append]; exact hown, ?_⟩
  exact (h.below.alloc h.below.size o).grown hg (by have := h.below.size; simp; omega) (fun j hj => (h.own.lt j hj).1)
theorem minus_end' {w wr : World} {ds es os : List Int} {l k : Nat} {v : Value} {c : Int} (h : MinusR w wr ds es l v c k os) (hl : ds.length = l) (he : IsD es) (h1 : l ≤ k) (hle : dval es ≤ dval ds) : RDF (dval ds - dval es) l w (.returned v) wr := by
  obtain ⟨A, c', rfl, hD⟩ := Dg.own h.own
  have hv := h.val
  have ht := h.top
  obtain rfl : k = ds.length := by omega
  exact ⟨A, _, c', os, rfl, hD, h.dg, minus_end h.dg he h.c0 hle hv, by omega, h.below, Fr.own h.own⟩
theorem MinusR.drewN {w wr : World} {ds es os : List Int} {l k : Nat} {v : Value} {c : Int} (h : MinusR w wr ds es l v c k os) (n : Nat) : MinusR w (wr.drewN n) ds es l v c k os :=
  ⟨h.c0, h.c1, h.len, h.dg, h.val, h.top, h.own, bel_drewN h.below n⟩
set_option maxHeartbeats 1000000 in
set_option maxRecDepth 100000 in
theorem rminus_new (A B : Option Addr) (l c m d : Nat) (ds es : List Int) (w : World) (h : Dg w A l c ds) (k : Dg w B m d es) (hd : IsD ds) (he : IsD es) (hl : l ≤ 900) (hm : m ≤ 900) (hle : dval es ≤ dval ds) :
    Calls Try.prog 54 #[.slice A l c, .slice B m d] w (RDF (dval ds - dval es) l w) := by
  obtain ⟨i0, hi0, hz0, hz1, hz2⟩ := info_parts info_int
  have H1 := Lib.hid h.1
  have hd' := Lib.hid hd
  have he' := Lib.hid he
  have hs := Lib.hid h
  have ks := Lib.hid k
  have I0 := Lib.hid hi0
  have I1 := Lib.hid hz0
  have I2 := Lib.hid hz1
  have I3 := Lib.hid hz2
  have HL := Lib.hid hle
  clear hd he h k hi0 hz0 hz1 hz2 hle
  go_enter Try.func54, Try.ntmps54
  go_wp2
  go_loopw [5, 6, 7] (fun v c i wr => ∃ (k : Nat) (cc : Int) (os : List Int), c = .int .i64 cc ∧ i = .int .i64 k ∧ MinusR w wr ds es l v cc k os) (fun _ _ i _ => l - (intOf i).toNat)
  case atStart => exact ⟨0, 0, [], rfl, rfl, minus_start w ds es l⟩
  case round =>
    obtain ⟨k, cc, os, rfl, rfl, hr⟩ := hrel
    have b0 := hr.c0
    have b1 := hr.c1
    have b2 := hr.top
    have HR := Lib.hid hr
    have C2 := Lib.hid (fun w h => digit_any B m d es k w h (by omega) (by omega))
    have g1 := hd'.out.getD k
    have g2 := he'.out.getD k
    have hD2 := Lib.hid (ks.out.call hr.below)
    have hD1 := hs.out.call hr.below
    have HO := Lib.hid hr.own
    have hsz := hr.below.size
    by_cases hgo : k < l
    · obtain ⟨x1, x2, x3, h4⟩ := hD1
      obtain ⟨g, rfl, hg, hcell⟩ := h4 (by omega)
      have hck := hcell k hgo
      clear h4 hcell hr x1 x2 x3
      generalize hX : ds.getD k 0 = x at hck g1
      generalize hY : es.getD k 0 = y at g2 C2
      replace hX := Lib.hid hX
      replace hY := Lib.hid hY
      have k0 : (0 : Int) ≤ (k : Int) := by omega
      have k1 : (k : Int) < (l : Int) := by omega
      have s1 : IntKind.i64.wrap (x - y) = x - y := IntWalk.i64_in _ (by omega)
      have s2 : IntKind.i64.wrap (x - y - cc) = x - y - cc := IntWalk.i64_in _ (by omega)
      go_wp2_with fail
      go_quiet ((go_at_call 64; exact qt_left (C2.out _ (hD2.out.drewN _))))
      clear s1 s2 hck hg
      have HQ := HR.out.drewN nq
      generalize wr.drewN nq = wq at *
      clear HR hD2 HO hsz C2
      have HO := Lib.hid HQ.own
      have hsz := HQ.below.size
      have N := Lib.hid (fun (w1 : World) (v' : Value) (o : Obj) (z c' : Int) h0 h1 hc0 hc1 hs hown hg => minus_round (w1 := w1) (v' := v') (o := o) (x := z) (c' := c') HQ hgo h0 h1 hc0 hc1 hs hown hg)
      clear HQ
      rw [hX.out, hY.out] at N
      by_cases hneg : x - y - cc < 0
      · have M := Lib.hid (fun (w1 : World) (v' : Value) (o : Obj) hown hg => N.out w1 v' o (x - y - cc + 10000) 1 (by omega) (by omega) (by omega) (by omega) (by omega) hown hg)
        clear N
        go_wp2_with (first
          | (go_at_call 65; (with_reducible refine (base_any _).mono ?_); rintro e w' ⟨rfl, rfl⟩)
          | (at_builtin; refine wpList_append_own _ rfl _ _ 58 rfl w.heap.size 3 i0 (.int .i64 0) 1 8 Try.underlying58 I0.out I1.out I2.out I3.out rfl (by decide) _ _ _ rfl (HO.out.alloc _) ⟨wq.heap.size, 0, none⟩ 1 1 [.int .i64 (x - y - cc + 10000)] rfl rfl (cell_one_new _ _ _) (by simp [Value.oneCell']) (by simp only [maxLen]; omega) (by omega) (by simp; omega) ?_; intro v' w1 hown' hgrow hiff; clear hiff; have R := Lib.hid (M.out w1 v' _ hown' hgrow); clear hown' hgrow))
        refine ⟨⟨k + 1, _, _, rfl, by go_num, R.out⟩, ?_⟩
        simp [intOf]; omega
      · have M := Lib.hid (fun (w1 : World) (v' : Value) (o : Obj) hown hg => N.out w1 v' o (x - y - cc) 0 (by omega) (by omega) (by omega) (by omega) (by omega) hown hg)
        clear N
        go_wp2_with (first
          | (go_at_call 65; (with_reducible refine (base_any _).mono ?_); rintro e w' ⟨rfl, rfl⟩)
          | (at_builtin; refine wpList_append_own _ rfl _ _ 58 rfl w.heap.size 3 i0 (.int .i64 0) 1 8 Try.underlying58 I0.out I1.out I2.out I3.out rfl (by decide) _ _ _ rfl (HO.out.alloc _) ⟨wq.heap.size, 0, none⟩ 1 1 [.int .i64 (x - y - cc)] rfl rfl (cell_one_new _ _ _) (by simp [Value.oneCell']) (by simp only [maxLen]; omega) (by omega) (by simp; omega) ?_; intro v' w1 hown' hgrow hiff; clear hiff; have R := Lib.hid (M.out w1 v' _ hown' hgrow); clear hown' hgrow))
        refine ⟨⟨k + 1, _, _, rfl, by go_num, R.out⟩, ?_⟩
        simp [intOf]; omega
    · clear hD1 hr
      go_wp2
      go_ret
      exact minus_end' HR.out H1.out he'.out (by omega) HL.out
end Go.Proofs.Ytfcehanpmbeegaa
namespace Go.Proofs.Ytfcehanpmbeegaa
open Go.RowKit
set_option linter.unusedVariables false

theorem IsN.alloc {w : World} {neg : Bool} {A : Option Addr} {l c : Nat} {n : Int} (h : IsN w neg A l c n) (o : Obj) : IsN (w.alloc o) neg A l c n := h.call ((Below.refl _ _).alloc (Nat.le_refl _) o)
theorem IsN.drew {w : World} {neg : Bool} {A : Option Addr} {l c : Nat} {n : Int} (h : IsN w neg A l c n) : IsN w.drew neg A l c n := h.call ((Below.refl _ _).drew)
/-- a block of two cells, the first of which holds a bool. -/
def HasBB (w : World) (b : Nat) : Prop := ∃ x u, Box w b (.bool x) u
theorem HasBB.of {w : World} {b : Nat} {x : Bool} {u : Value} (h : Box w b (.bool x) u) : HasBB w b := ⟨x, u, h⟩
theorem HasBB.call {w w1 : World} {b : Nat} (h : HasBB w b) (hb : Below w.heap.size w w1) : HasBB w1 b := by
  obtain ⟨x, u, k⟩ := h
  exact ⟨x, u, k.call hb⟩
theorem HasBB.alloc {w : World} {b : Nat} (h : HasBB w b) (o : Obj) : HasBB (w.alloc o) b := by
  obtain ⟨x, u, k⟩ := h
  exact ⟨x, u, k.alloc o⟩
theorem HasBB.drew {w : World} {b : Nat} (h : HasBB w b) : HasBB w.drew b := by
  obtain ⟨x, u, k⟩ := h
  exact ⟨x, u, k.drew⟩
theorem HasBB.new {w : World} {b : Nat} {x : Bool} {u : Value} {t : TypeId} (e : b = w.heap.size) : HasBB (w.alloc (.cells #[.bool x, u] t)) b := ⟨x, u, Box.new e⟩
theorem HasBB.set {w : World} {b g : Nat} (h : HasBB w b) (o : Nat) {x : Value} (ne : g ≠ b) : HasBB (w.setCell ⟨g, o, none⟩ x) b := by
  obtain ⟨y, u, k⟩ := h
  exact ⟨y, u, k.set o ne⟩
theorem HasBB.put {w : World} {b : Nat} {x : Bool} {u : Value} (h : HasBB w b) : HasBB ((w.setCell ⟨b, 0, none⟩ (.bool x)).setCell ⟨b, 1, none⟩ u) b := by
  obtain ⟨y, v, k⟩ := h
  exact ⟨x, u, Box.put (HasBox.of k)⟩
theorem Dg.set {w : World} {A : Option Addr} {l c : Nat} {ds : List Int} (h : Dg w A l c ds) {b : Nat} {x : Bool} (hb : w.cell? ⟨b, 0, none⟩ = some (.bool x)) (o : Nat) (v : Value) : Dg (w.setCell ⟨b, o, none⟩ v) A l c ds := by
  obtain ⟨h1, h2, h3, h4⟩ := h
  refine ⟨h1, h2, h3, fun hp => ?_⟩
  obtain ⟨g, e, hg, hc⟩ := h4 hp
  have hne : g ≠ b := by
    rintro rfl
    have := hc 0 hp
    rw [hb] at this
    cases this
  refine ⟨g, e, by simpa [World.setCell] using hg, fun j hj => ?_⟩
  rw [World.cell?_setCell_other _ _ _ _ (fun e => hne (congrArg Addr.block e).symm)]
  exact hc j hj
theorem IsN.put {w : World} {neg : Bool} {A : Option Addr} {l c : Nat} {n : Int} {b : Nat} {x : Bool} {u : Value} (h : IsN w neg A l c n) (hb : HasBB w b) : IsN ((w.setCell ⟨b, 0, none⟩ (.bool x)).setCell ⟨b, 1, none⟩ u) neg A l c n := by
  obtain ⟨ds, hD, hS⟩ := h
  obtain ⟨y, v, ⟨k1, k2⟩, k3, k4⟩ := hb
  refine ⟨ds, (hD.set k1 _ _).set (x := x) ?_ _ _, hS⟩
  rw [World.cell?_setCell_same _ _ _ k1]
theorem sg_not (neg : Bool) (n : Int) : sg (!neg) n = -sg neg n := by cases neg <;> simp [sg]
set_option maxHeartbeats 400000 in
theorem rNeg_same (neg : Bool) (A : Option Addr) (l c : Nat) (n : Int) (w : World) (h : IsN w neg A l c n) (hl : l ≤ 1000) :
    Calls Try.prog 58 #[.agg #[.bool neg, .slice A l c]] w fun e w' => ∃ x l', e = .returned (.agg #[.bool x, .slice A l' c]) ∧ IsN w' x A l' c (-n) ∧ l' ≤ l ∧ Below w.heap.size w w' := by
  obtain ⟨ds, hD, hS⟩ := h
  have hv : Hid (sg (!neg) (dval ds) = -n) := by unfold Hid; rw [sg_not, hS.val]
  have hd := Lib.hid hS.dg
  clear hS
  go_enter Try.func58, Try.ntmps58
  go_wp2_with (go_at_call 51; refine (trim_short _ _ _ _ ds _ ((hD.alloc _).alloc _) hd.out hl).mono ?_; rintro e w1 ⟨x1, l1, rfl, h1, hl1, hb⟩; have c_hb_0_0 := Below.cell hb (p := ⟨w.heap.size, 0, none⟩) (by first | (simp; done) | (simp; omega)); have f_hb_0_0 := Below.frozen hb (p := ⟨w.heap.size, 0, none⟩) (by first | (simp; done) | (simp; omega)); have c_hb_0_1 := Below.cell hb (p := ⟨w.heap.size, 1, none⟩) (by first | (simp; done) | (simp; omega)); have f_hb_0_1 := Below.frozen hb (p := ⟨w.heap.size, 1, none⟩) (by first | (simp; done) | (simp; omega)); have c_hb_1_0 := Below.cell hb (p := ⟨w.heap.size + 1, 0, none⟩) (by first | (simp; done) | (simp; omega)); have f_hb_1_0 := Below.frozen hb (p := ⟨w.heap.size + 1, 0, none⟩) (by first | (simp; done) | (simp; omega)); have c_hb_1_1 := Below.cell hb (p := ⟨w.heap.size + 1, 1, none⟩) (by first | (simp; done) | (simp; omega)); have f_hb_1_1 := Below.frozen hb (p := ⟨w.heap.size + 1, 1, none⟩) (by first | (simp; done) | (simp; omega)); have hz_hb := Below.size hb; (try simp at hz_hb); have ne_hb_0 : ¬ w1.heap.size = w.heap.size := (by omega); have ne_hb_1 : ¬ w1.heap.size = w.heap.size + 1 := (by omega))
  rw [hv.out] at h1
  refine bodyPost_ret (v := .agg #[.bool x1, .slice A l1 c]) (by simp only [results, Try.results58]; go_simp) rfl ⟨_, _, rfl, ?_, hl1, ?_⟩
  · (repeat (first | with_reducible assumption | (with_reducible refine IsN.alloc ?_ _) | (with_reducible refine IsN.drew ?_) | (with_reducible refine IsN.put ?_ ?_) | (with_reducible refine HasBB.put ?_) | (focus ((with_reducible apply HasBB.of); with_reducible assumption)) | (focus ((with_reducible refine HasBB.new ?_); simp; done)) | (with_reducible refine HasBB.drew ?_) | (with_reducible refine HasBB.alloc ?_ _) | (focus ((with_reducible refine HasBB.set ?_ _ ?_); rotate_left; omega)) | (with_reducible refine IsN.call ?_ hb) | (with_reducible refine HasBB.call ?_ hb)))
  · (repeat (first | (with_reducible exact Below.refl _ _) | with_reducible assumption | (with_reducible refine below_alloc ?_ _) | (focus ((with_reducible refine below_set ?_ _ _ _ ?_); rotate_left; omega)) | (with_reducible refine Below.drew ?_) | (with_reducible refine below_call ?_ hb)))
theorem rNeg_any (neg : Bool) (A : Option Addr) (l c : Nat) (n : Int) (w : World) (h : IsN w neg A l c n) (hl : l ≤ 1000) :
    Calls Try.prog 58 #[.agg #[.bool neg, .slice A l c]] w (RN (-n) w) := (rNeg_same neg A l c n w h hl).mono fun _ _ ⟨x, l', h1, h2, h3, h4⟩ => ⟨x, A, l', c, h1, h2, h4⟩
end Go.Proofs.Ytfcehanpmbeegaa
namespace Go.Proofs.Ytfcehanpmbeegaa
open Go.RowKit
set_option linter.unusedVariables false

theorem icmp_neg (a b : Int) : icmp (-a) (-b) = icmp b a := by
  unfold icmp
  repeat' split
  all_goals omega
theorem Std.nonneg {ds : List Int} {n : Int} (h : Std false ds n) : 0 ≤ n := by rw [h.val]; exact dval_nonneg h.dg
theorem Std.below {ds : List Int} {n : Int} (h : Std true ds n) : n < 0 := by have := h.pos (h.sign rfl); rw [h.val]; simp [sg]; omega
set_option maxHeartbeats 1000000 in
theorem rCmp_any (x y : Bool) (A B : Option Addr) (l c l' c' : Nat) (n m : Int) (w : World) (h : IsN w x A l c n) (k : IsN w y B l' c' m) (hl : l ≤ 1000) (hl' : l' ≤ 1000) :
    Calls Try.prog 57 #[.agg #[.bool x, .slice A l c], .agg #[.bool y, .slice B l' c']] w (RV (.int .i64 (icmp n m)) w) := by
  obtain ⟨ds, hD, hS⟩ := h
  obtain ⟨es, hE, hT⟩ := k
  have hd := Lib.hid hS.dg
  have he := Lib.hid hT.dg
  have C1 := Lib.hid (fun w h1 h2 => size_any A B l c l' c' ds es w h1 h2 hd.out he.out hl hl')
  have C2 := Lib.hid (fun w h1 h2 => size_any B A l' c' l c es ds w h1 h2 he.out hd.out hl' hl)
  have D1 := Lib.hid hD
  have D2 := Lib.hid hE
  clear hD hE
  cases x <;> cases y
  · have hv : Hid (icmp (dval ds) (dval es) = icmp n m) := by unfold Hid; rw [hS.val, hT.val]; rfl
    clear hS hT
    go_enter Try.func57, Try.ntmps57
    go_wp2_with (go_at_call 53; refine (C1.out _ ((D1.out.alloc _).alloc _) ((D2.out.alloc _).alloc _)).mono ?_; rintro e w1 ⟨rfl, rfl⟩)
    go_ret
    exact ⟨ret_int hv.out, by (repeat (first | (with_reducible exact Below.refl _ _) | with_reducible assumption | (with_reducible refine below_alloc ?_ _) | (focus ((with_reducible refine below_set ?_ _ _ _ ?_); rotate_left; omega)) | (with_reducible refine Below.drew ?_)))⟩
  · have hv : Hid (icmp n m = 1) := icmp_gt (by have := hS.nonneg; have := hT.below; omega)
    clear hS hT
    go_enter Try.func57, Try.ntmps57
    go_wp2
    go_ret
    exact ⟨ret_int hv.out.symm, by (repeat (first | (with_reducible exact Below.refl _ _) | with_reducible assumption | (with_reducible refine below_alloc ?_ _) | (focus ((with_reducible refine below_set ?_ _ _ _ ?_); rotate_left; omega)) | (with_reducible refine Below.drew ?_)))⟩
  · have hv : Hid (icmp n m = -1) := icmp_lt (by have := hS.below; have := hT.nonneg; omega)
    clear hS hT
    go_enter Try.func57, Try.ntmps57
    go_wp2
    go_ret
    exact ⟨ret_int hv.out.symm, by (repeat (first | (with_reducible exact Below.refl _ _) | with_reducible assumption | (with_reducible refine below_alloc ?_ _) | (focus ((with_reducible refine below_set ?_ _ _ _ ?_); rotate_left; omega)) | (with_reducible refine Below.drew ?_)))⟩
  · have hv : Hid (icmp (dval es) (dval ds) = icmp n m) := by unfold Hid; rw [hS.val, hT.val]; simp only [sg_true]; rw [icmp_neg]
    clear hS hT
    go_enter Try.func57, Try.ntmps57
    go_wp2_with (go_at_call 53; refine (C2.out _ ((D2.out.alloc _).alloc _) ((D1.out.alloc _).alloc _)).mono ?_; rintro e w1 ⟨rfl, rfl⟩)
    go_ret
    exact ⟨ret_int hv.out, by (repeat (first | (with_reducible exact Below.refl _ _) | with_reducible assumption | (with_reducible refine below_alloc ?_ _) | (focus ((with_reducible refine below_set ?_ _ _ _ ?_); rotate_left; omega)) | (with_reducible refine Below.drew ?_)))⟩
end Go.Proofs.Ytfcehanpmbeegaa
