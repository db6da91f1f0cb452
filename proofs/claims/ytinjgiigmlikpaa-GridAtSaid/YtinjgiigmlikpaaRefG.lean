/-
  Contracts of the reference package: Neg, Cmp, Add. My own text.
-/
import Derived.Test.YtinjgiigmlikpaaRefF
namespace Go.Proofs.Ytinjgiigmlikpaa
open Go.RowKit
set_option linter.unusedVariables false

theorem IsN.alloc {w : World} {neg : Bool} {A : Option Addr} {l c : Nat} {n : Int} (h : IsN w neg A l c n) (o : Obj) : IsN (w.alloc o) neg A l c n := h.call ((Below.refl _ _).alloc (Nat.le_refl _) o)
theorem IsN.drew {w : World} {neg : Bool} {A : Option Addr} {l c : Nat} {n : Int} (h : IsN w neg A l c n) : IsN w.drew neg A l c n := h.call ((Below.refl _ _).drew)
/-- a block of two cells, the first of which holds a bool. -/
def HasBB (w : World) (b : Nat) : Prop := ∃ x u, Box w b (.bool x) u
theorem HasBB.of {w : World} {b : Nat} {x : Bool} {u : Value} (h : Box w b (.bool x) u) : HasBB w b := ⟨x, u, h⟩
theorem HasBB.call {w w1 : World} {b : Nat} (h : HasBB w b) (hb : Below w.heap.size w w1) : HasBB w1 b := by
  obtain ⟨x, u, k⟩ := h
  exact ⟨x, u, k.call hb⟩
theorem HasBB.alloc {w : World} {b : Nat} (h : HasBB w b) (o : Obj) : HasBB (w.alloc o) b := by
  obtain ⟨x, u, k⟩ := h
  exact ⟨x, u, k.alloc o⟩
theorem HasBB.drew {w : World} {b : Nat} (h : HasBB w b) : HasBB w.drew b := by
  obtain ⟨x, u, k⟩ := h
  exact ⟨x, u, k.drew⟩
theorem HasBB.new {w : World} {b : Nat} {x : Bool} {u : Value} {t : TypeId} (e : b = w.heap.size) : HasBB (w.alloc (.cells #[.bool x, u] t)) b := ⟨x, u, Box.new e⟩
theorem HasBB.set {w : World} {b g : Nat} (h : HasBB w b) (o : Nat) {x : Value} (ne : g ≠ b) : HasBB (w.setCell ⟨g, o, none⟩ x) b := by
  obtain ⟨y, u, k⟩ := h
  exact ⟨y, u, k.set o ne⟩
theorem HasBB.put {w : World} {b : Nat} {x : Bool} {u : Value} (h : HasBB w b) : HasBB ((w.setCell ⟨b, 0, none⟩ (.bool x)).setCell ⟨b, 1, none⟩ u) b := by
  obtain ⟨y, v, k⟩ := h
  exact ⟨x, u, Box.put (HasBox.of k)⟩
theorem Dg.set {w : World} {A : Option Addr} {l c : Nat} {ds : List Int} (h : Dg w A l c ds) {b : Nat} {x : Bool} (hb : w.cell? ⟨b, 0, none⟩ = some (.bool x)) (o : Nat) (v : Value) : Dg (w.setCell ⟨b, o, none⟩ v) A l c ds := by
  obtain ⟨h1, h2, h3, h4⟩ := h
  refine ⟨h1, h2, h3, fun hp => ?_⟩
  obtain ⟨g, e, hg, hc⟩ := h4 hp
  have hne : g ≠ b := by
    rintro rfl
    have := hc 0 hp
    rw [hb] at this
    cases this
  refine ⟨g, e, by simpa [World.setCell] using hg, fun j hj => ?_⟩
  rw [World.cell?_setCell_other _ _ _ _ (fun e => hne (congrArg Addr.block e).symm)]
  exact hc j hj
theorem IsN.put {w : World} {neg : Bool} {A : Option Addr} {l c : Nat} {n : Int} {b : Nat} {x : Bool} {u : Value} (h : IsN w neg A l c n) (hb : HasBB w b) : IsN ((w.setCell ⟨b, 0, none⟩ (.bool x)).setCell ⟨b, 1, none⟩ u) neg A l c n := by
  obtain ⟨ds, hD, hS⟩ := h
  obtain ⟨y, v, ⟨k1, k2⟩, k3, k4⟩ := hb
  refine ⟨ds, (hD.set k1 _ _).set (x := x) ?_ _ _, hS⟩
  rw [World.cell?_setCell_same _ _ _ k1]
theorem sg_not (neg : Bool) (n : Int) : sg (!neg) n = -sg neg n := by cases neg <;> simp [sg]
set_option maxHeartbeats 400000 in
theorem rNeg_same (neg : Bool) (A : Option Addr) (l c : Nat) (n : Int) (w : World) (h : IsN w neg A l c n) (hl : l ≤ 1000) :
    Calls Try.prog 17 #[.agg #[.bool neg, .slice A l c]] w fun e w' => ∃ x l', e = .returned (.agg #[.bool x, .slice A l' c]) ∧ IsN w' x A l' c (-n) ∧ l' ≤ l ∧ Below w.heap.size w w' := by
  obtain ⟨ds, hD, hS⟩ := h
  have hv : Hid (sg (!neg) (dval ds) = -n) := by unfold Hid; rw [sg_not, hS.val]
  have hd := Lib.hid hS.dg
  clear hS
  go_enter Try.func17, Try.ntmps17
  go_wp2_with (go_at_call 48; refine (trim_short _ _ _ _ ds _ ((hD.alloc _).alloc _) hd.out hl).mono ?_; rintro e w1 ⟨x1, l1, rfl, h1, hl1, hb⟩; have c_hb_0_0 := Below.cell hb (p := ⟨w.heap.size, 0, none⟩) (by first | (simp; done) | (simp; omega)); have f_hb_0_0 := Below.frozen hb (p := ⟨w.heap.size, 0, none⟩) (by first | (simp; done) | (simp; omega)); have c_hb_0_1 := Below.cell hb (p := ⟨w.heap.size, 1, none⟩) (by first | (simp; done) | (simp; omega)); have f_hb_0_1 := Below.frozen hb (p := ⟨w.heap.size, 1, none⟩) (by first | (simp; done) | (simp; omega)); have c_hb_1_0 := Below.cell hb (p := ⟨w.heap.size + 1, 0, none⟩) (by first | (simp; done) | (simp; omega)); have f_hb_1_0 := Below.frozen hb (p := ⟨w.heap.size + 1, 0, none⟩) (by first | (simp; done) | (simp; omega)); have c_hb_1_1 := Below.cell hb (p := ⟨w.heap.size + 1, 1, none⟩) (by first | (simp; done) | (simp; omega)); have f_hb_1_1 := Below.frozen hb (p := ⟨w.heap.size + 1, 1, none⟩) (by first | (simp; done) | (simp; omega)); have hz_hb := Below.size hb; (try simp at hz_hb); have ne_hb_0 : ¬ w1.heap.size = w.heap.size := (by omega); have ne_hb_1 : ¬ w1.heap.size = w.heap.size + 1 := (by omega))
  rw [hv.out] at h1
  refine bodyPost_ret (v := .agg #[.bool x1, .slice A l1 c]) (by simp only [results, Try.results17]; go_simp) rfl ⟨_, _, rfl, ?_, hl1, ?_⟩
  · (repeat (first | with_reducible assumption | (with_reducible refine IsN.alloc ?_ _) | (with_reducible refine IsN.drew ?_) | (with_reducible refine IsN.put ?_ ?_) | (with_reducible refine HasBB.put ?_) | (focus ((with_reducible apply HasBB.of); with_reducible assumption)) | (focus ((with_reducible refine HasBB.new ?_); simp; done)) | (with_reducible refine HasBB.drew ?_) | (with_reducible refine HasBB.alloc ?_ _) | (focus ((with_reducible refine HasBB.set ?_ _ ?_); rotate_left; omega)) | (with_reducible refine IsN.call ?_ hb) | (with_reducible refine HasBB.call ?_ hb)))
  · (repeat (first | (with_reducible exact Below.refl _ _) | with_reducible assumption | (with_reducible refine below_alloc ?_ _) | (focus ((with_reducible refine below_set ?_ _ _ _ ?_); rotate_left; omega)) | (with_reducible refine Below.drew ?_) | (with_reducible refine below_call ?_ hb)))
theorem rNeg_any (neg : Bool) (A : Option Addr) (l c : Nat) (n : Int) (w : World) (h : IsN w neg A l c n) (hl : l ≤ 1000) :
    Calls Try.prog 17 #[.agg #[.bool neg, .slice A l c]] w (RN (-n) w) := (rNeg_same neg A l c n w h hl).mono fun _ _ ⟨x, l', h1, h2, h3, h4⟩ => ⟨x, A, l', c, h1, h2, h4⟩
end Go.Proofs.Ytinjgiigmlikpaa
