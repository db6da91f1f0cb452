/-
  Contracts of the reference package: trim, size. My own text.
-/
import Derived.Test.YtinjgiigmlikpaaRefB
namespace Go.Proofs.Ytinjgiigmlikpaa
open Go.RowKit
set_option linter.unusedVariables false

def capOf : Value → Nat
  | .slice _ k _ => k
  | _ => 0
theorem rn_trim {neg : Bool} {A : Option Addr} {l c k : Nat} {ds : List Int} {w w' : World} (h : Dg w A l c ds) (hd : IsD ds) (hk : k ≤ l) (hv : dval (ds.take k) = dval ds) (hz : 0 < k → ds.getD (k - 1) 0 ≠ 0)
    (hb : Below w.heap.size w w') {x : Bool} (hx : x = (neg && decide (0 < k))) : RT (sg neg (dval ds)) A c w (.returned (.agg #[.bool x, .slice A k c])) w' := by
  have hl : (ds.take k).length = k := by rw [List.length_take, h.1]; omega
  have hn : NoZ (ds.take k) := by
    intro hp
    rw [hl] at hp ⊢
    rw [List.getD_eq_getElem?_getD, List.getElem?_take_of_lt (by omega), ← List.getD_eq_getElem?_getD]
    exact hz hp
  have hs := std_trim (neg := neg) hd hv hn
  rw [hl] at hs
  exact ⟨_, _, by rw [hx], ⟨_, (h.take hk).call hb, hs⟩, hb⟩
theorem trim_less {ds : List Int} {k l : Nat} (hl : ds.length = l) (hk : k + 1 ≤ l) (hv : dval (ds.take (k + 1)) = dval ds) (hz : ds.getD k 0 = 0) : dval (ds.take k) = dval ds := by
  rw [take_snoc (by omega), hz] at hv
  unfold dval at *
  rw [dvx_snoc] at hv
  simpa using hv
set_option maxHeartbeats 1000000 in
theorem trim_same (neg : Bool) (A : Option Addr) (l c : Nat) (ds : List Int) (w : World) (h : Dg w A l c ds) (hd : IsD ds) (hl : l ≤ 1000) :
    Calls Try.prog 48 #[.agg #[.bool neg, .slice A l c]] w (RT (sg neg (dval ds)) A c w) := by
  obtain ⟨h1, h2, h3, h4⟩ := id h
  have hlt : ∀ k, k + 1 ≤ l → ∃ g, A = some ⟨g, 0, none⟩ ∧ g < w.heap.size ∧ w.cell? ⟨g, k, none⟩ = some (.int .i64 (ds.getD k 0)) := fun k hk => by
    obtain ⟨g, e, hg, hc⟩ := h4 (by omega)
    exact ⟨g, e, hg, hc k (by omega)⟩
  have H1 := Lib.hid h1
  have HL := Lib.hid hlt
  clear h1 hlt h4
  go_enter Try.func48, Try.ntmps48
  go_wp2
  go_loop [3] (fun d => ∃ k : Nat, k ≤ l ∧ d = .slice A k c ∧ Hid (dval (ds.take k) = dval ds)) (fun d => capOf d)
  case atStart => exact ⟨l, Nat.le_refl _, rfl, by unfold Hid; rw [List.take_of_length_le (by rw [H1.out]; omega)]⟩
  case round =>
    obtain ⟨k, hk, rfl, hv⟩ := hrel
    rcases k with _ | k
    · go_wp2
      all_goals
        refine bodyPost_ret (v := .agg #[.bool false, .slice A 0 c]) (by simp only [results, Try.results48]; go_simp) rfl (rn_trim h hd hk hv.out (fun h => absurd h (by omega)) ?_ (by simp))
        (repeat (first | (with_reducible exact Below.refl _ _) | with_reducible assumption | (with_reducible refine below_alloc ?_ _) | (focus ((with_reducible refine below_set ?_ _ _ _ ?_); rotate_left; omega)) | (with_reducible refine Below.drew ?_)))
    · obtain ⟨g, rfl, hg, hc⟩ := HL.out k hk
      by_cases hz : ds.getD k 0 = 0
      · have hv' : Hid (dval (ds.take k) = dval ds) := trim_less H1.out hk hv.out hz
        rw [hz] at hc
        clear hz
        go_wp2
        go_round
        case rel => exact ⟨k, by omega, by simp, hv'⟩
        case measure => simp [capOf]
      · have hz' := Lib.hid hz
        have hne : (ds.getD k 0 == 0) = false := by simpa using hz
        clear hz
        generalize hdd : ds.getD k 0 = d at hc hne
        have HD := Lib.hid hdd
        clear hdd
        go_wp2
        · refine bodyPost_ret (v := .agg #[.bool true, .slice (some ⟨g, 0, none⟩) (k + 1) c]) (by simp only [results, Try.results48]; go_simp) rfl (rn_trim (neg := true) h hd hk hv.out (fun _ => hz'.out) ?_ (by simp))
          (repeat (first | (with_reducible exact Below.refl _ _) | with_reducible assumption | (with_reducible refine below_alloc ?_ _) | (focus ((with_reducible refine below_set ?_ _ _ _ ?_); rotate_left; omega)) | (with_reducible refine Below.drew ?_)))
        · refine bodyPost_ret (v := .agg #[.bool false, .slice (some ⟨g, 0, none⟩) (k + 1) c]) (by simp only [results, Try.results48]; go_simp) rfl (rn_trim (neg := false) h hd hk hv.out (fun _ => hz'.out) ?_ (by simp))
          (repeat (first | (with_reducible exact Below.refl _ _) | with_reducible assumption | (with_reducible refine below_alloc ?_ _) | (focus ((with_reducible refine below_set ?_ _ _ _ ?_); rotate_left; omega)) | (with_reducible refine Below.drew ?_)))
theorem trim_any (neg : Bool) (A : Option Addr) (l c : Nat) (ds : List Int) (w : World) (h : Dg w A l c ds) (hd : IsD ds) (hl : l ≤ 1000) :
    Calls Try.prog 48 #[.agg #[.bool neg, .slice A l c]] w (RN (sg neg (dval ds)) w) := (trim_same neg A l c ds w h hd hl).mono fun _ _ h => h.rn
theorem trim_short (neg : Bool) (A : Option Addr) (l c : Nat) (ds : List Int) (w : World) (h : Dg w A l c ds) (hd : IsD ds) (hl : l ≤ 1000) :
    Calls Try.prog 48 #[.agg #[.bool neg, .slice A l c]] w fun e w' => ∃ x l', e = .returned (.agg #[.bool x, .slice A l' c]) ∧ IsN w' x A l' c (sg neg (dval ds)) ∧ l' ≤ l ∧ Below w.heap.size w w' :=
  (trim_same neg A l c ds w h hd hl).mono fun _ _ ⟨x, l', h1, h2, h3⟩ => ⟨x, l', h1, h2, h2.len (by
    have a := dval_lt hd
    have b := dval_nonneg hd
    rw [h.1] at a
    cases neg <;> simp only [sg, if_true, Bool.false_eq_true, if_false] <;> omega), h3⟩
end Go.Proofs.Ytinjgiigmlikpaa
