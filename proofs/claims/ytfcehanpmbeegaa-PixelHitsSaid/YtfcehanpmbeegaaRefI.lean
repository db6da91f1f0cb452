/-
  Contracts of the reference package: Add. My own text.
  Contracts of the reference package: Of, Unsigned. My own text.
  Contracts of the reference package: Of. My own text.
  Contracts of the reference package: Power. My own text.
-/
import Derived.Test.YtfcehanpmbeegaaRefB
namespace Go.Proofs.Ytfcehanpmbeegaa
open Go.RowKit
set_option linter.unusedVariables false

theorem icmp_ge {a b : Int} : (icmp a b ≥ 0) ↔ b ≤ a := by
  unfold icmp
  repeat' split
  all_goals omega
theorem icmp_bd (a b : Int) : -1 ≤ icmp a b ∧ icmp a b ≤ 1 := by
  unfold icmp
  repeat' split
  all_goals omega
set_option maxHeartbeats 2000000 in
theorem rAdd_same (x : Bool) (A B : Option Addr) (l c l' c' : Nat) (n m : Int) (w : World) (h : IsN w x A l c n) (k : IsN w x B l' c' m) (hl : l ≤ 900) (hl' : l' ≤ 900) :
    Calls Try.prog 36 #[.agg #[.bool x, .slice A l c], .agg #[.bool x, .slice B l' c']] w (RNF (n + m) w) := by
  obtain ⟨ds, hD, hS⟩ := h
  obtain ⟨es, hE, hT⟩ := k
  have hv : Hid (sg x (dval ds + dval es) = n + m) := by unfold Hid; rw [hS.val, hT.val]; cases x <;> simp [sg]; omega
  have C1 := Lib.hid (fun w h1 h2 => rplus_new A B l c l' c' ds es w h1 h2 hS.dg hT.dg hl hl')
  have D1 := Lib.hid (((hD.alloc (.cells #[.bool x, .slice A l c] 60)).alloc (.cells #[.bool x, .slice B l' c'] 60)).alloc (.cells #[.bool false, .slice none 0 0] 60))
  have D2 := Lib.hid (((hE.alloc (.cells #[.bool x, .slice A l c] 60)).alloc (.cells #[.bool x, .slice B l' c'] 60)).alloc (.cells #[.bool false, .slice none 0 0] 60))
  clear hD hE hS hT
  have n2 : ¬ (w.heap.size + 1 + 1 = w.heap.size) := by omega
  go_enter Try.func36, Try.ntmps36
  go_wp2_with fail
  go_region_held3 (fun w' => w'.cell? ⟨w.heap.size, 0, none⟩ = some (.bool x) ∧ w'.cell? ⟨w.heap.size, 1, none⟩ = some (.slice A l c) ∧ w'.cell? ⟨w.heap.size + 1, 1, none⟩ = some (.slice B l' c')) (go_keep)
    (first
      | (go_at_call 52; ((with_reducible refine (C1.out _ (D1.out.call ((Below.refl _ _).drew)) (D2.out.call ((Below.refl _ _).drew))).mono ?_); rintro e w1 ⟨A1, l1, c1, os, rfl, hO, hOd, hOv, hOl, hb1, hF⟩; have c_hb1_0_0 := Below.cell hb1 (p := ⟨w.heap.size, 0, none⟩) (by first | (simp; done) | (simp; omega)); have f_hb1_0_0 := Below.frozen hb1 (p := ⟨w.heap.size, 0, none⟩) (by first | (simp; done) | (simp; omega)); have c_hb1_0_1 := Below.cell hb1 (p := ⟨w.heap.size, 1, none⟩) (by first | (simp; done) | (simp; omega)); have f_hb1_0_1 := Below.frozen hb1 (p := ⟨w.heap.size, 1, none⟩) (by first | (simp; done) | (simp; omega)); have c_hb1_1_0 := Below.cell hb1 (p := ⟨w.heap.size + 1, 0, none⟩) (by first | (simp; done) | (simp; omega)); have f_hb1_1_0 := Below.frozen hb1 (p := ⟨w.heap.size + 1, 0, none⟩) (by first | (simp; done) | (simp; omega)); have c_hb1_1_1 := Below.cell hb1 (p := ⟨w.heap.size + 1, 1, none⟩) (by first | (simp; done) | (simp; omega)); have f_hb1_1_1 := Below.frozen hb1 (p := ⟨w.heap.size + 1, 1, none⟩) (by first | (simp; done) | (simp; omega)); have c_hb1_2_0 := Below.cell hb1 (p := ⟨w.heap.size + 1 + 1, 0, none⟩) (by first | (simp; done) | (simp; omega)); have f_hb1_2_0 := Below.frozen hb1 (p := ⟨w.heap.size + 1 + 1, 0, none⟩) (by first | (simp; done) | (simp; omega)); have c_hb1_2_1 := Below.cell hb1 (p := ⟨w.heap.size + 1 + 1, 1, none⟩) (by first | (simp; done) | (simp; omega)); have f_hb1_2_1 := Below.frozen hb1 (p := ⟨w.heap.size + 1 + 1, 1, none⟩) (by first | (simp; done) | (simp; omega)); have hz_hb1 := Below.size hb1; (try simp at hz_hb1); have ne_hb1_0 : ¬ w1.heap.size = w.heap.size := (by omega); have ne_hb1_1 : ¬ w1.heap.size = w.heap.size + 1 := (by omega); have ne_hb1_2 : ¬ w1.heap.size = w.heap.size + 1 + 1 := (by omega); replace hOv := Lib.hid hOv))
      | (go_at_call 51; ((with_reducible refine (trim_same _ _ _ _ os _ hO hOd (by omega)).mono ?_); rintro e w2 ⟨x2, l2, rfl, h2, hb2⟩; rw [hOv.out, hv.out] at h2; have c_hb2_0_0 := Below.cell hb2 (p := ⟨w.heap.size, 0, none⟩) (by first | (simp; done) | (simp; omega)); have f_hb2_0_0 := Below.frozen hb2 (p := ⟨w.heap.size, 0, none⟩) (by first | (simp; done) | (simp; omega)); have c_hb2_0_1 := Below.cell hb2 (p := ⟨w.heap.size, 1, none⟩) (by first | (simp; done) | (simp; omega)); have f_hb2_0_1 := Below.frozen hb2 (p := ⟨w.heap.size, 1, none⟩) (by first | (simp; done) | (simp; omega)); have c_hb2_1_0 := Below.cell hb2 (p := ⟨w.heap.size + 1, 0, none⟩) (by first | (simp; done) | (simp; omega)); have f_hb2_1_0 := Below.frozen hb2 (p := ⟨w.heap.size + 1, 0, none⟩) (by first | (simp; done) | (simp; omega)); have c_hb2_1_1 := Below.cell hb2 (p := ⟨w.heap.size + 1, 1, none⟩) (by first | (simp; done) | (simp; omega)); have f_hb2_1_1 := Below.frozen hb2 (p := ⟨w.heap.size + 1, 1, none⟩) (by first | (simp; done) | (simp; omega)); have c_hb2_2_0 := Below.cell hb2 (p := ⟨w.heap.size + 1 + 1, 0, none⟩) (by first | (simp; done) | (simp; omega)); have f_hb2_2_0 := Below.frozen hb2 (p := ⟨w.heap.size + 1 + 1, 0, none⟩) (by first | (simp; done) | (simp; omega)); have c_hb2_2_1 := Below.cell hb2 (p := ⟨w.heap.size + 1 + 1, 1, none⟩) (by first | (simp; done) | (simp; omega)); have f_hb2_2_1 := Below.frozen hb2 (p := ⟨w.heap.size + 1 + 1, 1, none⟩) (by first | (simp; done) | (simp; omega)); have hz_hb2 := Below.size hb2; (try simp at hz_hb2); have ne_hb2_0 : ¬ w2.heap.size = w.heap.size := (by omega); have ne_hb2_1 : ¬ w2.heap.size = w.heap.size + 1 := (by omega); have ne_hb2_2 : ¬ w2.heap.size = w.heap.size + 1 + 1 := (by omega))))
  go_wp2_with fail
  refine bodyPost_ret (v := .agg #[.bool x2, .slice A1 l2 c1]) (by simp only [results, Try.results36]; go_simp) rfl ⟨_, _, _, _, rfl, ?_, ?_, fun a e => Nat.le_trans (by simp; omega) (hF a e)⟩
  · (repeat (first | with_reducible assumption | (with_reducible refine IsN.alloc ?_ _) | (with_reducible refine IsN.drew ?_) | (with_reducible refine IsN.put ?_ ?_) | (with_reducible refine HasBB.put ?_) | (focus ((with_reducible apply HasBB.of); with_reducible assumption)) | (focus ((with_reducible refine HasBB.new ?_); simp; done)) | (with_reducible refine HasBB.drew ?_) | (with_reducible refine HasBB.alloc ?_ _) | (focus ((with_reducible refine HasBB.set ?_ _ ?_); rotate_left; omega)) | (with_reducible refine IsN.call ?_ hb2) | (with_reducible refine HasBB.call ?_ hb2) | (with_reducible refine IsN.call ?_ hb1) | (with_reducible refine HasBB.call ?_ hb1)))
  · (repeat (first | (with_reducible exact Below.refl _ _) | with_reducible assumption | (with_reducible refine below_alloc ?_ _) | (focus ((with_reducible refine below_set ?_ _ _ _ ?_); rotate_left; omega)) | (with_reducible refine Below.drew ?_) | (with_reducible refine below_call ?_ hb2) | (with_reducible refine below_call ?_ hb1)))
set_option maxHeartbeats 2000000 in
theorem rAdd_ge (x y : Bool) (A B : Option Addr) (l c l' c' : Nat) (n m : Int) (w : World) (h : IsN w x A l c n) (k : IsN w y B l' c' m) (hl : l ≤ 900) (hl' : l' ≤ 900) (hxy : (x == y) = false) (hle : m.natAbs ≤ n.natAbs) :
    Calls Try.prog 36 #[.agg #[.bool x, .slice A l c], .agg #[.bool y, .slice B l' c']] w (RNF (n + m) w) := by
  obtain ⟨ds, hD, hS⟩ := h
  obtain ⟨es, hE, hT⟩ := k
  replace hle : dval es ≤ dval ds := by have := hS.abs; have := hT.abs; omega
  have hv : Hid (sg x (dval ds - dval es) = n + m) := by unfold Hid; rw [hS.val, hT.val]; cases x <;> cases y <;> simp [sg] at hxy ⊢ <;> omega
  have C0 := Lib.hid (fun w h1 h2 => size_any A B l c l' c' ds es w h1 h2 hS.dg hT.dg (by omega) (by omega))
  have C1 := Lib.hid (fun w h1 h2 => rminus_new A B l c l' c' ds es w h1 h2 hS.dg hT.dg hl hl' (by omega))
  have HI := icmp_ge (a := dval ds) (b := dval es)
  have D1 := Lib.hid (((hD.alloc (.cells #[.bool x, .slice A l c] 60)).alloc (.cells #[.bool y, .slice B l' c'] 60)).alloc (.cells #[.bool false, .slice none 0 0] 60))
  have D2 := Lib.hid (((hE.alloc (.cells #[.bool x, .slice A l c] 60)).alloc (.cells #[.bool y, .slice B l' c'] 60)).alloc (.cells #[.bool false, .slice none 0 0] 60))
  have n2 : ¬ (w.heap.size + 1 + 1 = w.heap.size) := by omega
  have n3 : ¬ (w.heap.size + 1 = w.heap.size) := by omega
  have I1 : 0 ≤ icmp (dval ds) (dval es) := by omega
  clear hD hE hS hT HI hle
  generalize icmp (dval ds) (dval es) = ic at *
  go_enter Try.func36, Try.ntmps36
  go_wp2_with (go_at_call 53; ((with_reducible refine (C0.out _ D1.out D2.out).mono ?_); rintro e w0 ⟨rfl, rfl⟩))
  go_region_held3 (fun w' => w'.cell? ⟨w.heap.size, 0, none⟩ = some (.bool x) ∧ w'.cell? ⟨w.heap.size, 1, none⟩ = some (.slice A l c) ∧ w'.cell? ⟨w.heap.size + 1, 1, none⟩ = some (.slice B l' c')) (go_keep)
    (first
      | (go_at_call 54; ((with_reducible refine (C1.out _ (D1.out.call ((Below.refl _ _).drew)) (D2.out.call ((Below.refl _ _).drew))).mono ?_); rintro e w1 ⟨A1, l1, c1, os, rfl, hO, hOd, hOv, hOl, hb1, hF⟩; have c_hb1_0_0 := Below.cell hb1 (p := ⟨w.heap.size, 0, none⟩) (by first | (simp; done) | (simp; omega)); have f_hb1_0_0 := Below.frozen hb1 (p := ⟨w.heap.size, 0, none⟩) (by first | (simp; done) | (simp; omega)); have c_hb1_0_1 := Below.cell hb1 (p := ⟨w.heap.size, 1, none⟩) (by first | (simp; done) | (simp; omega)); have f_hb1_0_1 := Below.frozen hb1 (p := ⟨w.heap.size, 1, none⟩) (by first | (simp; done) | (simp; omega)); have c_hb1_1_0 := Below.cell hb1 (p := ⟨w.heap.size + 1, 0, none⟩) (by first | (simp; done) | (simp; omega)); have f_hb1_1_0 := Below.frozen hb1 (p := ⟨w.heap.size + 1, 0, none⟩) (by first | (simp; done) | (simp; omega)); have c_hb1_1_1 := Below.cell hb1 (p := ⟨w.heap.size + 1, 1, none⟩) (by first | (simp; done) | (simp; omega)); have f_hb1_1_1 := Below.frozen hb1 (p := ⟨w.heap.size + 1, 1, none⟩) (by first | (simp; done) | (simp; omega)); have c_hb1_2_0 := Below.cell hb1 (p := ⟨w.heap.size + 1 + 1, 0, none⟩) (by first | (simp; done) | (simp; omega)); have f_hb1_2_0 := Below.frozen hb1 (p := ⟨w.heap.size + 1 + 1, 0, none⟩) (by first | (simp; done) | (simp; omega)); have c_hb1_2_1 := Below.cell hb1 (p := ⟨w.heap.size + 1 + 1, 1, none⟩) (by first | (simp; done) | (simp; omega)); have f_hb1_2_1 := Below.frozen hb1 (p := ⟨w.heap.size + 1 + 1, 1, none⟩) (by first | (simp; done) | (simp; omega)); have hz_hb1 := Below.size hb1; (try simp at hz_hb1); have ne_hb1_0 : ¬ w1.heap.size = w.heap.size := (by omega); have ne_hb1_1 : ¬ w1.heap.size = w.heap.size + 1 := (by omega); have ne_hb1_2 : ¬ w1.heap.size = w.heap.size + 1 + 1 := (by omega); replace hOv := Lib.hid hOv))
      | (go_at_call 51; ((with_reducible refine (trim_same _ _ _ _ os _ hO hOd (by omega)).mono ?_); rintro e w2 ⟨x2, l2, rfl, h2, hb2⟩; rw [hOv.out, hv.out] at h2; have c_hb2_0_0 := Below.cell hb2 (p := ⟨w.heap.size, 0, none⟩) (by first | (simp; done) | (simp; omega)); have f_hb2_0_0 := Below.frozen hb2 (p := ⟨w.heap.size, 0, none⟩) (by first | (simp; done) | (simp; omega)); have c_hb2_0_1 := Below.cell hb2 (p := ⟨w.heap.size, 1, none⟩) (by first | (simp; done) | (simp; omega)); have f_hb2_0_1 := Below.frozen hb2 (p := ⟨w.heap.size, 1, none⟩) (by first | (simp; done) | (simp; omega)); have c_hb2_1_0 := Below.cell hb2 (p := ⟨w.heap.size + 1, 0, none⟩) (by first | (simp; done) | (simp; omega)); have f_hb2_1_0 := Below.frozen hb2 (p := ⟨w.heap.size + 1, 0, none⟩) (by first | (simp; done) | (simp; omega)); have c_hb2_1_1 := Below.cell hb2 (p := ⟨w.heap.size + 1, 1, none⟩) (by first | (simp; done) | (simp; omega)); have f_hb2_1_1 := Below.frozen hb2 (p := ⟨w.heap.size + 1, 1, none⟩) (by first | (simp; done) | (simp; omega)); have c_hb2_2_0 := Below.cell hb2 (p := ⟨w.heap.size + 1 + 1, 0, none⟩) (by first | (simp; done) | (simp; omega)); have f_hb2_2_0 := Below.frozen hb2 (p := ⟨w.heap.size + 1 + 1, 0, none⟩) (by first | (simp; done) | (simp; omega)); have c_hb2_2_1 := Below.cell hb2 (p := ⟨w.heap.size + 1 + 1, 1, none⟩) (by first | (simp; done) | (simp; omega)); have f_hb2_2_1 := Below.frozen hb2 (p := ⟨w.heap.size + 1 + 1, 1, none⟩) (by first | (simp; done) | (simp; omega)); have hz_hb2 := Below.size hb2; (try simp at hz_hb2); have ne_hb2_0 : ¬ w2.heap.size = w.heap.size := (by omega); have ne_hb2_1 : ¬ w2.heap.size = w.heap.size + 1 := (by omega); have ne_hb2_2 : ¬ w2.heap.size = w.heap.size + 1 + 1 := (by omega))))
  go_wp2_with fail
  refine bodyPost_ret (v := .agg #[.bool x2, .slice A1 l2 c1]) (by simp only [results, Try.results36]; go_simp) rfl ⟨_, _, _, _, rfl, ?_, ?_, fun a e => Nat.le_trans (by simp; omega) (hF a e)⟩
  · (repeat (first | with_reducible assumption | (with_reducible refine IsN.alloc ?_ _) | (with_reducible refine IsN.drew ?_) | (with_reducible refine IsN.put ?_ ?_) | (with_reducible refine HasBB.put ?_) | (focus ((with_reducible apply HasBB.of); with_reducible assumption)) | (focus ((with_reducible refine HasBB.new ?_); simp; done)) | (with_reducible refine HasBB.drew ?_) | (with_reducible refine HasBB.alloc ?_ _) | (focus ((with_reducible refine HasBB.set ?_ _ ?_); rotate_left; omega)) | (with_reducible refine IsN.call ?_ hb2) | (with_reducible refine HasBB.call ?_ hb2) | (with_reducible refine IsN.call ?_ hb1) | (with_reducible refine HasBB.call ?_ hb1)))
  · (repeat (first | (with_reducible exact Below.refl _ _) | with_reducible assumption | (with_reducible refine below_alloc ?_ _) | (focus ((with_reducible refine below_set ?_ _ _ _ ?_); rotate_left; omega)) | (with_reducible refine Below.drew ?_) | (with_reducible refine below_call ?_ hb2) | (with_reducible refine below_call ?_ hb1)))
set_option maxHeartbeats 2000000 in
theorem rAdd_lt (x y : Bool) (A B : Option Addr) (l c l' c' : Nat) (n m : Int) (w : World) (h : IsN w x A l c n) (k : IsN w y B l' c' m) (hl : l ≤ 900) (hl' : l' ≤ 900) (hxy : (x == y) = false) (hle : n.natAbs < m.natAbs) :
    Calls Try.prog 36 #[.agg #[.bool x, .slice A l c], .agg #[.bool y, .slice B l' c']] w (RNF (n + m) w) := by
  obtain ⟨ds, hD, hS⟩ := h
  obtain ⟨es, hE, hT⟩ := k
  replace hle : dval ds < dval es := by have := hS.abs; have := hT.abs; omega
  have hv : Hid (sg y (dval es - dval ds) = n + m) := by unfold Hid; rw [hS.val, hT.val]; cases x <;> cases y <;> simp [sg] at hxy ⊢ <;> omega
  have C0 := Lib.hid (fun w h1 h2 => size_any A B l c l' c' ds es w h1 h2 hS.dg hT.dg (by omega) (by omega))
  have C1 := Lib.hid (fun w h1 h2 => rminus_new B A l' c' l c es ds w h2 h1 hT.dg hS.dg hl' hl (by omega))
  have HI := icmp_ge (a := dval ds) (b := dval es)
  have D1 := Lib.hid (((hD.alloc (.cells #[.bool x, .slice A l c] 60)).alloc (.cells #[.bool y, .slice B l' c'] 60)).alloc (.cells #[.bool false, .slice none 0 0] 60))
  have D2 := Lib.hid (((hE.alloc (.cells #[.bool x, .slice A l c] 60)).alloc (.cells #[.bool y, .slice B l' c'] 60)).alloc (.cells #[.bool false, .slice none 0 0] 60))
  have n2 : ¬ (w.heap.size + 1 + 1 = w.heap.size) := by omega
  have n3 : ¬ (w.heap.size + 1 = w.heap.size) := by omega
  have I1 : icmp (dval ds) (dval es) < 0 := by omega
  clear hD hE hS hT HI hle
  generalize icmp (dval ds) (dval es) = ic at *
  go_enter Try.func36, Try.ntmps36
  go_wp2_with (go_at_call 53; ((with_reducible refine (C0.out _ D1.out D2.out).mono ?_); rintro e w0 ⟨rfl, rfl⟩))
  go_region_held3 (fun w' => w'.cell? ⟨w.heap.size + 1, 0, none⟩ = some (.bool y) ∧ w'.cell? ⟨w.heap.size, 1, none⟩ = some (.slice A l c) ∧ w'.cell? ⟨w.heap.size + 1, 1, none⟩ = some (.slice B l' c')) (go_keep)
    (first
      | (go_at_call 54; ((with_reducible refine (C1.out _ (D1.out.call ((Below.refl _ _).drew)) (D2.out.call ((Below.refl _ _).drew))).mono ?_); rintro e w1 ⟨A1, l1, c1, os, rfl, hO, hOd, hOv, hOl, hb1, hF⟩; have c_hb1_0_0 := Below.cell hb1 (p := ⟨w.heap.size, 0, none⟩) (by first | (simp; done) | (simp; omega)); have f_hb1_0_0 := Below.frozen hb1 (p := ⟨w.heap.size, 0, none⟩) (by first | (simp; done) | (simp; omega)); have c_hb1_0_1 := Below.cell hb1 (p := ⟨w.heap.size, 1, none⟩) (by first | (simp; done) | (simp; omega)); have f_hb1_0_1 := Below.frozen hb1 (p := ⟨w.heap.size, 1, none⟩) (by first | (simp; done) | (simp; omega)); have c_hb1_1_0 := Below.cell hb1 (p := ⟨w.heap.size + 1, 0, none⟩) (by first | (simp; done) | (simp; omega)); have f_hb1_1_0 := Below.frozen hb1 (p := ⟨w.heap.size + 1, 0, none⟩) (by first | (simp; done) | (simp; omega)); have c_hb1_1_1 := Below.cell hb1 (p := ⟨w.heap.size + 1, 1, none⟩) (by first | (simp; done) | (simp; omega)); have f_hb1_1_1 := Below.frozen hb1 (p := ⟨w.heap.size + 1, 1, none⟩) (by first | (simp; done) | (simp; omega)); have c_hb1_2_0 := Below.cell hb1 (p := ⟨w.heap.size + 1 + 1, 0, none⟩) (by first | (simp; done) | (simp; omega)); have f_hb1_2_0 := Below.frozen hb1 (p := ⟨w.heap.size + 1 + 1, 0, none⟩) (by first | (simp; done) | (simp; omega)); have c_hb1_2_1 := Below.cell hb1 (p := ⟨w.heap.size + 1 + 1, 1, none⟩) (by first | (simp; done) | (simp; omega)); have f_hb1_2_1 := Below.frozen hb1 (p := ⟨w.heap.size + 1 + 1, 1, none⟩) (by first | (simp; done) | (simp; omega)); have hz_hb1 := Below.size hb1; (try simp at hz_hb1); have ne_hb1_0 : ¬ w1.heap.size = w.heap.size := (by omega); have ne_hb1_1 : ¬ w1.heap.size = w.heap.size + 1 := (by omega); have ne_hb1_2 : ¬ w1.heap.size = w.heap.size + 1 + 1 := (by omega); replace hOv := Lib.hid hOv))
      | (go_at_call 51; ((with_reducible refine (trim_same _ _ _ _ os _ hO hOd (by omega)).mono ?_); rintro e w2 ⟨x2, l2, rfl, h2, hb2⟩; rw [hOv.out, hv.out] at h2; have c_hb2_0_0 := Below.cell hb2 (p := ⟨w.heap.size, 0, none⟩) (by first | (simp; done) | (simp; omega)); have f_hb2_0_0 := Below.frozen hb2 (p := ⟨w.heap.size, 0, none⟩) (by first | (simp; done) | (simp; omega)); have c_hb2_0_1 := Below.cell hb2 (p := ⟨w.heap.size, 1, none⟩) (by first | (simp; done) | (simp; omega)); have f_hb2_0_1 := Below.frozen hb2 (p := ⟨w.heap.size, 1, none⟩) (by first | (simp; done) | (simp; omega)); have c_hb2_1_0 := Below.cell hb2 (p := ⟨w.heap.size + 1, 0, none⟩) (by first | (simp; done) | (simp; omega)); have f_hb2_1_0 := Below.frozen hb2 (p := ⟨w.heap.size + 1, 0, none⟩) (by first | (simp; done) | (simp; omega)); have c_hb2_1_1 := Below.cell hb2 (p := ⟨w.heap.size + 1, 1, none⟩) (by first | (simp; done) | (simp; omega)); have f_hb2_1_1 := Below.frozen hb2 (p := ⟨w.heap.size + 1, 1, none⟩) (by first | (simp; done) | (simp; omega)); have c_hb2_2_0 := Below.cell hb2 (p := ⟨w.heap.size + 1 + 1, 0, none⟩) (by first | (simp; done) | (simp; omega)); have f_hb2_2_0 := Below.frozen hb2 (p := ⟨w.heap.size + 1 + 1, 0, none⟩) (by first | (simp; done) | (simp; omega)); have c_hb2_2_1 := Below.cell hb2 (p := ⟨w.heap.size + 1 + 1, 1, none⟩) (by first | (simp; done) | (simp; omega)); have f_hb2_2_1 := Below.frozen hb2 (p := ⟨w.heap.size + 1 + 1, 1, none⟩) (by first | (simp; done) | (simp; omega)); have hz_hb2 := Below.size hb2; (try simp at hz_hb2); have ne_hb2_0 : ¬ w2.heap.size = w.heap.size := (by omega); have ne_hb2_1 : ¬ w2.heap.size = w.heap.size + 1 := (by omega); have ne_hb2_2 : ¬ w2.heap.size = w.heap.size + 1 + 1 := (by omega))))
  go_wp2_with fail
  refine bodyPost_ret (v := .agg #[.bool x2, .slice A1 l2 c1]) (by simp only [results, Try.results36]; go_simp) rfl ⟨_, _, _, _, rfl, ?_, ?_, fun a e => Nat.le_trans (by simp; omega) (hF a e)⟩
  · (repeat (first | with_reducible assumption | (with_reducible refine IsN.alloc ?_ _) | (with_reducible refine IsN.drew ?_) | (with_reducible refine IsN.put ?_ ?_) | (with_reducible refine HasBB.put ?_) | (focus ((with_reducible apply HasBB.of); with_reducible assumption)) | (focus ((with_reducible refine HasBB.new ?_); simp; done)) | (with_reducible refine HasBB.drew ?_) | (with_reducible refine HasBB.alloc ?_ _) | (focus ((with_reducible refine HasBB.set ?_ _ ?_); rotate_left; omega)) | (with_reducible refine IsN.call ?_ hb2) | (with_reducible refine HasBB.call ?_ hb2) | (with_reducible refine IsN.call ?_ hb1) | (with_reducible refine HasBB.call ?_ hb1)))
  · (repeat (first | (with_reducible exact Below.refl _ _) | with_reducible assumption | (with_reducible refine below_alloc ?_ _) | (focus ((with_reducible refine below_set ?_ _ _ _ ?_); rotate_left; omega)) | (with_reducible refine Below.drew ?_) | (with_reducible refine below_call ?_ hb2) | (with_reducible refine below_call ?_ hb1)))
theorem rAdd_new (x y : Bool) (A B : Option Addr) (l c l' c' : Nat) (n m : Int) (w : World) (h : IsN w x A l c n) (k : IsN w y B l' c' m) (hl : l ≤ 900) (hl' : l' ≤ 900) :
    Calls Try.prog 36 #[.agg #[.bool x, .slice A l c], .agg #[.bool y, .slice B l' c']] w (RNF (n + m) w) := by
  by_cases e : x = y
  · subst e
    exact rAdd_same x A B l c l' c' n m w h k hl hl'
  · have hxy : (x == y) = false := by simpa using e
    rcases Nat.lt_or_ge n.natAbs m.natAbs with q | q
    · exact rAdd_lt x y A B l c l' c' n m w h k hl hl' hxy q
    · exact rAdd_ge x y A B l c l' c' n m w h k hl hl' hxy q
theorem rAdd_any (x y : Bool) (A B : Option Addr) (l c l' c' : Nat) (n m : Int) (w : World) (h : IsN w x A l c n) (k : IsN w y B l' c' m) (hl : l ≤ 900) (hl' : l' ≤ 900) :
    Calls Try.prog 36 #[.agg #[.bool x, .slice A l c], .agg #[.bool y, .slice B l' c']] w (RN (n + m) w) := (rAdd_new x y A B l c l' c' n m w h k hl hl').mono fun _ _ h => h.rn
end Go.Proofs.Ytfcehanpmbeegaa
namespace Go.Proofs.Ytfcehanpmbeegaa
open Go.RowKit
set_option linter.unusedVariables false

theorem dvx_ge {os : List Int} (h : IsD os) {y : Int} (hy : 0 ≤ y) : (10000 : Int) ^ os.length * y ≤ dvx os y := by
  induction os with
  | nil => simp [dvx]
  | cons d ds ih =>
    have h1 := h.head
    have h2 := ih h.tail
    rw [List.length_cons, Int.pow_succ, dvx, Int.mul_comm (10000 ^ ds.length) 10000, Int.mul_assoc]
    omega
/-- what the rounds of Of and Unsigned keep: N: the number without its sign; z: what is left of it. -/
structure OfR (w wr : World) (x : Bool) (N : Nat) (v : Value) (k : Nat) (os : List Int) (z : Nat) : Prop where
  b0 : Box wr w.heap.size (.bool false) (.slice none 0 0)
  b1 : Box wr (w.heap.size + 1) (.bool x) v
  own : wr.ownsRow (w.heap.size + 2) 3 1 v k (os.map (Value.int .i64))
  len : os.length = k
  dg : IsD os
  val : dvx os z = N
  nm : z = 0 → NoZ os
  below : Below w.heap.size w wr
theorem OfR.short {w wr : World} {x : Bool} {N : Nat} {v : Value} {k : Nat} {os : List Int} {z : Nat} (h : OfR w wr x N v k os z) (hN : N < 100000000000000000000) (hz : 0 < z) : k < 5 := by
  rcases Nat.lt_or_ge k 5 with q | q
  · exact q
  · exfalso
    have h1 := dvx_ge h.dg (y := z) (by omega)
    rw [h.val, h.len] at h1
    have h2 : (10000 : Int) ^ 5 ≤ 10000 ^ k := pow_mono q
    have h3 : (10000 : Int) ^ k * 1 ≤ 10000 ^ k * z := Int.mul_le_mul_of_nonneg_left (by omega) (Int.le_of_lt (pow_pos' k))
    have h4 : (10000 : Int) ^ 5 = 100000000000000000000 := by decide
    omega
theorem of_round {w wr w1 : World} {x : Bool} {N : Nat} {v v' : Value} {k : Nat} {os : List Int} {z : Nat} {o : Obj} (h : OfR w wr x N v k os z) (hz : 0 < z)
    (hown : w1.ownsRow (w.heap.size + 2) 3 1 v' (k + 1) (os.map (Value.int .i64) ++ [.int .i64 ((z % 10000 : Nat) : Int)])) (hg : (wr.alloc o).grownBy w1 v.ownBlock) :
    Box w1 (w.heap.size + 1) (.bool x) v ∧ OfR w (w1.setCell ⟨w.heap.size + 1, 1, none⟩ v') x N v' (k + 1) (os ++ [((z % 10000 : Nat) : Int)]) (z / 10000) := by
  have hb0 := h.b0.lt
  have hb1 := h.b1.lt
  have hne : ∀ j, j < w.heap.size + 2 → some j ≠ v.ownBlock := fun j hj e => by have := h.own.lt j e.symm; omega
  have keep : ∀ (b : Nat) (u u' : Value), b < w.heap.size + 2 → Box wr b u u' → Box w1 b u u' := fun b u u' hb hB => by
    have hlt := hB.lt
    obtain ⟨⟨c1, c2⟩, f1, f2⟩ := hB
    have hblk := hg.block b (by simp; omega) (hne b hb)
    refine ⟨⟨?_, ?_⟩, ?_, ?_⟩
    · rw [World.cell?_of_block (w := wr.alloc o) (a := ⟨b, 0, none⟩) hblk, World.cell?_alloc_lt _ _ _ (by omega)]; exact c1
    · rw [World.cell?_of_block (w := wr.alloc o) (a := ⟨b, 1, none⟩) hblk, World.cell?_alloc_lt _ _ _ (by omega)]; exact c2
    · rw [World.frozen?_of_block (w := wr.alloc o) (a := ⟨b, 0, none⟩) hblk, World.frozen?_alloc_past _ _ _ (by omega)]; exact f1
    · rw [World.frozen?_of_block (w := wr.alloc o) (a := ⟨b, 1, none⟩) hblk, World.frozen?_alloc_past _ _ _ (by omega)]; exact f2
  have k1 := keep _ _ _ (by omega) h.b1
  refine ⟨k1, ⟨(keep _ _ _ (by omega) h.b0).set _ (by omega), ?_, ?_, by rw [List.length_append, h.len]; rfl, h.dg.snoc (by omega) (by omega), ?_, fun q => ?_, ?_⟩⟩
  · obtain ⟨⟨c1, c2⟩, f1, f2⟩ := k1
    refine ⟨⟨?_, World.cell?_setCell_same _ _ _ c2⟩, ?_, ?_⟩
    · rw [World.cell?_setCell_other _ _ _ _ (by simp)]; exact c1
    · go_simp
    · go_simp
  · rw [List.map_append]; exact ownsRow_setCell_below hown (by simp) _
  · rw [dvx_snoc, ← h.val]; congr 1; omega
  · intro hp
    rw [List.length_append]
    simp
    omega
  · refine (((h.below.alloc h.below.size o).grown hg (by have := h.below.size; simp; omega) (fun j hj => by have := (h.own.lt j hj).1; omega))).setCell (by simp) _
theorem of_std {x : Bool} {N : Nat} {os : List Int} (hd : IsD os) (hv : dvx os 0 = N) (hn : NoZ os) {n : Int} (hx : n = sg x N) (hs : x = true → 0 < N) : Std x os n := by
  refine ⟨hd, hn, fun q e => ?_, by rw [hx]; unfold dval; rw [hv]⟩
  have := hs q
  rw [e] at hv
  simp [dvx] at hv
  omega
theorem of_end {w wr : World} {x : Bool} {N : Nat} {v : Value} {k : Nat} {os : List Int} {z : Nat} (h : OfR w wr x N v k os z) (hz : z = 0) {n : Int} (hx : n = sg x N) (hs : x = true → 0 < N) :
    ∃ A c, v = .slice A k c ∧ IsN wr x A k c n ∧ Fr (w.heap.size + 2) A := by
  obtain ⟨A, c, rfl, hD⟩ := Dg.own h.own
  have hF := Fr.own h.own
  have hv := h.val
  have hn := h.nm hz
  rw [hz] at hv
  exact ⟨A, c, rfl, ⟨os, hD, of_std h.dg hv hn hx hs⟩, hF⟩
theorem tdiv_abs (z : Int) : (z.tdiv 10000).natAbs = z.natAbs / 10000 := by rw [Int.natAbs_tdiv]; rfl
theorem tmod_abs (z : Int) : (z.tmod 10000).natAbs = z.natAbs % 10000 := by rw [Int.natAbs_tmod]; rfl
end Go.Proofs.Ytfcehanpmbeegaa
namespace Go.Proofs.Ytfcehanpmbeegaa
open Go.RowKit
set_option linter.unusedVariables false

theorem of_st (w : World) (x : Bool) (n : Nat) : OfR w ((w.alloc (.cells #[.bool false, .slice none 0 0] 60)).alloc (.cells #[.bool x, .slice none 0 0] 60)) x n (.slice none 0 0) 0 [] n :=
  ⟨(Box.new rfl).alloc _, Box.new (by simp), World.ownsRow_nil _ _ _ _, rfl, IsD.nil, rfl, fun _ => nm_nil, by (repeat (first | (with_reducible exact Below.refl _ _) | with_reducible assumption | (with_reducible refine below_alloc ?_ _) | (focus ((with_reducible refine below_set ?_ _ _ _ ?_); rotate_left; omega)) | (with_reducible refine Below.drew ?_)))⟩
set_option maxHeartbeats 1000000 in
set_option maxRecDepth 100000 in
theorem of_pos (n : Nat) (w : World) (h : n < 9223372036854775808) : Calls Try.prog 41 #[.int .i64 n] w (RNF n w) := by
  obtain ⟨i0, hi0, hz0, hz1, hz2⟩ := info_parts info_int
  have I0 := Lib.hid hi0
  have I1 := Lib.hid hz0
  have I2 := Lib.hid hz1
  have I3 := Lib.hid hz2
  clear hi0 hz0 hz1 hz2
  have ST := Lib.hid (of_st w false n)
  have hd : decide ((n : Int) < 0) = false := decide_eq_false (by omega)
  go_enter Try.func41, Try.ntmps41
  go_wp2
  go_loopw [0] (fun i wr => ∃ (z k : Nat) (v : Value) (os : List Int), i = .int .i64 z ∧ z ≤ n ∧ OfR w wr false n v k os z) (fun i _ => (intOf i).toNat)
  case atStart => exact ⟨n, 0, _, [], rfl, Nat.le_refl _, ST.out⟩
  case round =>
    obtain ⟨z, k, v, os, rfl, hzn, hr⟩ := hrel
    obtain ⟨⟨c1, c2⟩, f1, f2⟩ := id hr.b1
    obtain ⟨⟨c3, c4⟩, f3, f4⟩ := id hr.b0
    have HO := Lib.hid hr.own
    have HR := Lib.hid hr
    have hsz := hr.b1.lt
    by_cases hz : z = 0
    · obtain ⟨A, c, rfl, hN, hF⟩ := of_end hr hz (n := n) rfl (fun h => by cases h)
      have HB := Lib.hid hr.below
      have HB0 := Lib.hid hr.b0
      subst hz
      clear hr
      go_wp2
      refine bodyPost_ret (v := .agg #[.bool false, .slice A k c]) (by simp only [results, Try.results41]; go_simp) rfl ⟨_, _, _, _, rfl, ?_, ?_, fun a e => Nat.le_trans (by omega) (hF a e)⟩
      · exact hN.put (HasBB.of HB0.out)
      · exact below_set (below_set HB.out _ _ _ (by omega)) _ _ _ (by omega)
    · have hz0 : 0 < z := by omega
      have hk5 := hr.short (by omega) hz0
      have hne : ((z : Int) != 0) = true := by simpa using hz
      have N := Lib.hid (fun (w1 : World) (v' : Value) (o : Obj) hown hg => of_round (w1 := w1) (v' := v') (o := o) HR.out hz0 hown hg)
      clear hr hz
      go_wp2_with (at_builtin; refine wpList_append_own _ rfl _ _ 58 rfl (w.heap.size + 2) 3 i0 (.int .i64 0) 1 8 Try.underlying58 I0.out I1.out I2.out I3.out rfl (by decide) _ _ _ rfl (HO.out.alloc _) ⟨wr.heap.size, 0, none⟩ 1 1 [.int .i64 ((z % 10000 : Nat) : Int)] rfl rfl (cell_one_new _ _ _) (by simp [Value.oneCell']) (by simp only [maxLen]; omega) (by omega) (by simp; omega) ?_; intro v' w1 hown' hgrow hiff; clear hiff; have R := N.out w1 v' _ hown' hgrow; clear hown' hgrow c1 c2 f1 f2 c3 c4 f3 f4; obtain ⟨⟨⟨c1, c2⟩, f1, f2⟩, R⟩ := R; obtain ⟨A', c', rfl, hDD⟩ := Dg.own R.own; clear hDD; replace R := Lib.hid R)
      refine ⟨⟨z / 10000, k + 1, _, _, by go_num, by omega, R.out⟩, ?_⟩
      simp [intOf]; omega
theorem neg_tmod (y : Nat) : (-(y : Int)).tmod 10000 = -((y : Int) % 10000) := by rw [Int.neg_tmod, Int.tmod_eq_emod_of_nonneg (by omega)]
theorem neg_tdiv (y : Nat) : (-(y : Int)).tdiv 10000 = -((y : Int) / 10000) := by rw [Int.neg_tdiv, Int.tdiv_eq_ediv_of_nonneg (by omega)]
set_option maxHeartbeats 1000000 in
set_option maxRecDepth 100000 in
theorem of_neg (n : Nat) (w : World) (h : n ≤ 9223372036854775808) (h0 : 0 < n) : Calls Try.prog 41 #[.int .i64 (-(n : Int))] w (RNF (-(n : Int)) w) := by
  obtain ⟨i0, hi0, hz0, hz1, hz2⟩ := info_parts info_int
  have I0 := Lib.hid hi0
  have I1 := Lib.hid hz0
  have I2 := Lib.hid hz1
  have I3 := Lib.hid hz2
  clear hi0 hz0 hz1 hz2
  have ST := Lib.hid (of_st w true n)
  have hd : decide (-(n : Int) < 0) = true := decide_eq_true (by omega)
  go_enter Try.func41, Try.ntmps41
  go_wp2
  go_loopw [0] (fun i wr => ∃ (z k : Nat) (v : Value) (os : List Int), i = .int .i64 (-(z : Int)) ∧ z ≤ n ∧ OfR w wr true n v k os z) (fun i _ => (-intOf i).toNat)
  case atStart => exact ⟨n, 0, _, [], rfl, Nat.le_refl _, ST.out⟩
  case round =>
    obtain ⟨z, k, v, os, rfl, hzn, hr⟩ := hrel
    obtain ⟨⟨c1, c2⟩, f1, f2⟩ := id hr.b1
    obtain ⟨⟨c3, c4⟩, f3, f4⟩ := id hr.b0
    have HO := Lib.hid hr.own
    have HR := Lib.hid hr
    have hsz := hr.b1.lt
    by_cases hz : z = 0
    · obtain ⟨A, c, rfl, hN, hF⟩ := of_end hr hz (n := -(n : Int)) rfl (fun _ => h0)
      have HB := Lib.hid hr.below
      have HB0 := Lib.hid hr.b0
      subst hz
      clear hr
      rw [show (-(((0 : Nat)) : Int)) = 0 from rfl]
      go_wp2
      refine bodyPost_ret (v := .agg #[.bool true, .slice A k c]) (by simp only [results, Try.results41]; go_simp) rfl ⟨_, _, _, _, rfl, ?_, ?_, fun a e => Nat.le_trans (by omega) (hF a e)⟩
      · exact hN.put (HasBB.of HB0.out)
      · exact below_set (below_set HB.out _ _ _ (by omega)) _ _ _ (by omega)
    · have hz0 : 0 < z := by omega
      have hk5 := hr.short (by omega) hz0
      have hne : (-(z : Int) != 0) = true := by simpa using hz
      have N := Lib.hid (fun (w1 : World) (v' : Value) (o : Obj) hown hg => of_round (w1 := w1) (v' := v') (o := o) HR.out hz0 hown hg)
      have t1 := neg_tmod z
      have t2 := neg_tdiv z
      clear hr hz
      by_cases hm : (z : Int) % 10000 = 0
      · have hmn : z % 10000 = 0 := by omega
        replace N : Hid (∀ (w1 : World) (v' : Value) (o : Obj), w1.ownsRow (w.heap.size + 2) 3 1 v' (k + 1) (os.map (Value.int .i64) ++ [.int .i64 0]) → (wr.alloc o).grownBy w1 v.ownBlock → Box w1 (w.heap.size + 1) (.bool true) v ∧ OfR w (w1.setCell ⟨w.heap.size + 1, 1, none⟩ v') true n v' (k + 1) (os ++ [0]) (z / 10000)) := by
          intro w1 v' o h1 h2
          have := N.out w1 v' o
          rw [hmn] at this
          exact this h1 h2
        rw [hm] at t1
        rw [show (-(0 : Int)) = 0 from rfl] at t1
        clear hm hmn
        go_wp2_with (at_builtin; refine wpList_append_own _ rfl _ _ 58 rfl (w.heap.size + 2) 3 i0 (.int .i64 0) 1 8 Try.underlying58 I0.out I1.out I2.out I3.out rfl (by decide) _ _ _ rfl (HO.out.alloc _) ⟨wr.heap.size, 0, none⟩ 1 1 [.int .i64 0] rfl rfl (cell_one_new _ _ _) (by simp [Value.oneCell']) (by simp only [maxLen]; omega) (by omega) (by simp; omega) ?_; intro v' w1 hown' hgrow hiff; clear hiff; have R := N.out w1 v' _ hown' hgrow; clear hown' hgrow c1 c2 f1 f2 c3 c4 f3 f4; obtain ⟨⟨⟨c1, c2⟩, f1, f2⟩, R⟩ := R; obtain ⟨A', c', rfl, hDD⟩ := Dg.own R.own; clear hDD; replace R := Lib.hid R)
        refine ⟨⟨z / 10000, k + 1, _, _, by go_num, by omega, R.out⟩, ?_⟩
        simp [intOf]; omega
      · have hm' : (0 : Int) < (z : Int) % 10000 := by omega
        clear hm
        go_wp2_with (at_builtin; refine wpList_append_own _ rfl _ _ 58 rfl (w.heap.size + 2) 3 i0 (.int .i64 0) 1 8 Try.underlying58 I0.out I1.out I2.out I3.out rfl (by decide) _ _ _ rfl (HO.out.alloc _) ⟨wr.heap.size, 0, none⟩ 1 1 [.int .i64 ((z % 10000 : Nat) : Int)] rfl rfl (cell_one_new _ _ _) (by simp [Value.oneCell']) (by simp only [maxLen]; omega) (by omega) (by simp; omega) ?_; intro v' w1 hown' hgrow hiff; clear hiff; have R := N.out w1 v' _ hown' hgrow; clear hown' hgrow c1 c2 f1 f2 c3 c4 f3 f4; obtain ⟨⟨⟨c1, c2⟩, f1, f2⟩, R⟩ := R; obtain ⟨A', c', rfl, hDD⟩ := Dg.own R.own; clear hDD; replace R := Lib.hid R)
        refine ⟨⟨z / 10000, k + 1, _, _, by go_num, by omega, R.out⟩, ?_⟩
        simp [intOf]; omega
theorem rOf_new (n : Int) (w : World) (h0 : -9223372036854775808 ≤ n) (h1 : n < 9223372036854775808) : Calls Try.prog 41 #[.int .i64 n] w (RNF n w) := by
  rcases Int.lt_or_le n 0 with q | q
  · obtain ⟨m, rfl⟩ : ∃ m : Nat, n = -(m : Int) := ⟨n.natAbs, by omega⟩
    exact of_neg m w (by omega) (by omega)
  · obtain ⟨m, rfl⟩ := Int.eq_ofNat_of_zero_le q
    exact of_pos m w (by omega)
theorem rOf_any (n : Int) (w : World) (h0 : -9223372036854775808 ≤ n) (h1 : n < 9223372036854775808) : Calls Try.prog 41 #[.int .i64 n] w (RN n w) := (rOf_new n w h0 h1).mono fun _ _ h => h.rn
end Go.Proofs.Ytfcehanpmbeegaa
namespace Go.Proofs.Ytfcehanpmbeegaa
open Go.RowKit
set_option linter.unusedVariables false

theorem pow2_bd (j : Nat) : (0 : Int) < 2 ^ j ∧ (2 : Int) ^ j < 10000 ^ (j + 1) := by
  induction j with
  | zero => decide
  | succ j ih => rw [Int.pow_succ, Int.pow_succ (10000 : Int) (j + 1)]; omega
theorem pow2_abs (j : Nat) : (((2 : Int) ^ j).natAbs : Int) < 10000 ^ (j + 1) := by have := pow2_bd j; omega
theorem pow2_double (j : Nat) : (2 : Int) ^ j + 2 ^ j = 2 ^ (j + 1) := by rw [Int.pow_succ]; omega
set_option maxHeartbeats 1000000 in
set_option maxRecDepth 100000 in
theorem rPower_new (k : Nat) (w : World) (hk : k ≤ 800) : Calls Try.prog 56 #[.int .i64 k] w (RNF (2 ^ k) w) := by
  go_enter Try.func56, Try.ntmps56
  go_wp2_with fail
  refine (rOf_new 1 _ (by omega) (by omega)).mono ?_
  rintro e w1 ⟨x1, A1, l1, c1, rfl, h1, hb1, hF1⟩
  replace hF1 : Hid (Fr w.heap.size A1) := fun a e => Nat.le_trans (by simp) (hF1 a e)
  have B0 : Box w1 w.heap.size (.bool false) (.slice none 0 0) := (Box.new rfl).call hb1
  have z1 := Lib.hid hb1.size
  have bl1 : Below w.heap.size w w1 := below_call (below_alloc (Below.refl _ _) _) hb1
  clear hb1
  go_wp2_with fail
  go_loopw [4] (fun i wr => ∃ (j : Nat) (x : Bool) (A : Option Addr) (l c : Nat), i = .int .i64 j ∧ j ≤ k ∧ Box wr w.heap.size (.bool false) (.slice none 0 0) ∧ Box wr w1.heap.size (.bool x) (.slice A l c) ∧ IsN wr x A l c (2 ^ j) ∧ Below w.heap.size w wr ∧ Hid (Fr w.heap.size A)) (fun i _ => k - (intOf i).toNat)
  case atStart =>
    refine ⟨0, x1, A1, l1, c1, rfl, Nat.zero_le _, B0.alloc _, Box.new rfl, ?_, below_alloc bl1 _, hF1⟩
    exact h1.alloc _
  case round =>
    obtain ⟨j, x, A, l, c, rfl, hj, hB0, hB1, hN, hbl, hFA⟩ := hrel
    clear hF1
    have hl := hN.len (pow2_abs j)
    obtain ⟨⟨p1, p2⟩, p3, p4⟩ := id hB1
    obtain ⟨⟨q1, q2⟩, q3, q4⟩ := id hB0
    have hlt : w.heap.size < w1.heap.size := by have := z1.out; simp at this; omega
    by_cases hjk : j < k
    · go_wp2_with (go_at_call 36; ((with_reducible refine (rAdd_new _ _ _ _ _ _ _ _ _ _ _ hN hN (by omega) (by omega)).mono ?_); rintro e w2 ⟨x2, A2, l2, c2, rfl, h2, hb2, hF2⟩; replace hF2 : Hid (Fr w.heap.size A2) := (fun a e => Nat.le_trans hbl.size (hF2 a e)); clear hFA; rw [pow2_double] at h2; clear p1 p2 p3 p4 q1 q2 q3 q4; have hB1' := hB1.call hb2; have hB0' := hB0.call hb2; obtain ⟨⟨p1, p2⟩, p3, p4⟩ := id hB1'))
      refine ⟨⟨j + 1, x2, A2, l2, c2, by go_num, by omega, (hB0'.set _ (by omega)).set _ (by omega), Box.put (HasBox.of hB1'), h2.put (HasBB.of hB1'), ?_, hF2⟩, ?_⟩
      · exact below_set (below_set (below_call hbl hb2) _ _ _ (by omega)) _ _ _ (by omega)
      · simp [intOf]; omega
    · obtain rfl : j = k := by omega
      go_wp2
      refine bodyPost_ret (v := .agg #[.bool x, .slice A l c]) (by simp only [results, Try.results56]; go_simp) rfl ⟨_, _, _, _, rfl, ?_, ?_, hFA⟩
      · exact hN.put (HasBB.of hB0)
      · exact below_set (below_set hbl _ _ _ (by omega)) _ _ _ (by omega)
theorem rPower_any (k : Nat) (w : World) (hk : k ≤ 800) : Calls Try.prog 56 #[.int .i64 k] w (RN (2 ^ k) w) := (rPower_new k w hk).mono fun _ _ h => h.rn
end Go.Proofs.Ytfcehanpmbeegaa
