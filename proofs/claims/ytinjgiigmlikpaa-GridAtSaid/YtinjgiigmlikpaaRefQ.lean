/-
  Contracts of the reference package: Wide, Fits. My own text.
-/
import Derived.Test.YtinjgiigmlikpaaRefP
namespace Go.Proofs.Ytinjgiigmlikpaa
open Go.RowKit
set_option linter.unusedVariables false

theorem ten10 : (10000 : Int) ^ 10 = 10000000000000000000000000000000000000000 := by decide
theorem IsN.len10 {w : World} {neg : Bool} {A : Option Addr} {l c : Nat} {n : Int} (h : IsN w neg A l c n) (h0 : -10000000000000000000000000000000000000000 < n) (h1 : n < 10000000000000000000000000000000000000000) : l ≤ 10 := h.len (by rw [ten10]; omega)
theorem pow64r : (2 : Int) ^ 64 = 18446744073709551616 := by decide
theorem pow127 : (2 : Int) ^ 127 = 170141183460469231731687303715884105728 := by decide
set_option maxHeartbeats 1000000 in
set_option maxRecDepth 100000 in
theorem Wide_any (h l n : Int) (w : World) (H : IsW h l n) : Calls Try.prog 46 #[.int .i64 h, .int .u64 l] w (RN n w) := by
  obtain ⟨⟨b1, b2⟩, ⟨b3, b4⟩, e⟩ := H
  obtain ⟨L, rfl⟩ := Int.eq_ofNat_of_zero_le b3
  have hn := Lib.hid e
  have C1 := Lib.hid (fun w => rOf_any h w b1 b2)
  have C2 : Hid (∀ w, Calls Try.prog 49 #[.int .i64 64] w (RN 18446744073709551616 w)) := fun w => by have := rPower_any 64 w (by omega); rw [pow64r] at this; exact this
  have C3 := Lib.hid (fun w => unsigned_any L w (by omega))
  have k1 : -10000000000000000000000000000000000000000 < h * 18446744073709551616 ∧ h * 18446744073709551616 < 10000000000000000000000000000000000000000 := by omega
  have k2 : -10000000000000000000000000000000000000000 < h ∧ h < 10000000000000000000000000000000000000000 := by omega
  have k3 : -10000000000000000000000000000000000000000 < (L : Int) ∧ (L : Int) < 10000000000000000000000000000000000000000 := by omega
  have K1 := Lib.hid k1
  have K2 := Lib.hid k2
  have K3 := Lib.hid k3
  clear e b1 b2 b3 b4 k1 k2 k3
  go_enter Try.func46, Try.ntmps46
  go_wp2_with fail
  refine (C1.out _).mono ?_
  rintro e w1 ⟨x1, A1, l1, c1, rfl, h1, hb1⟩
  go_wp2_with fail
  refine (C2.out _).mono ?_
  rintro e w2 ⟨x2, A2, l2, c2, rfl, h2, hb2⟩
  replace h1 := h1.call hb2
  go_wp2_with fail
  refine (rMul_any _ _ _ _ _ _ _ _ _ _ _ h1 h2 (Nat.le_trans (h1.len10 K2.out.1 K2.out.2) (by omega)) (Nat.le_trans (h2.len10 (by omega) (by omega)) (by omega))).mono ?_
  rintro e w3 ⟨x3, A3, l3, c3, rfl, h3, hb3⟩
  go_wp2_with fail
  refine (C3.out _).mono ?_
  rintro e w4 ⟨x4, A4, l4, c4, rfl, h4, hb4⟩
  replace h3 := h3.call hb4
  go_wp2_with fail
  refine (rAdd_any _ _ _ _ _ _ _ _ _ _ _ h3 h4 (Nat.le_trans (h3.len10 K1.out.1 K1.out.2) (by omega)) (Nat.le_trans (h4.len10 K3.out.1 K3.out.2) (by omega))).mono ?_
  rintro e w5 ⟨x5, A5, l5, c5, rfl, h5, hb5⟩
  rw [← hn.out] at h5
  have BX : Box w5 w.heap.size (.bool false) (.slice none 0 0) := (((((Box.new rfl).call hb1).call hb2).call hb3).call hb4).call hb5
  have bl : Below w.heap.size w w5 := below_call (below_call (below_call (below_call (below_call (below_alloc (Below.refl _ _) _) hb1) hb2) hb3) hb4) hb5
  clear hb1 hb2 hb3 hb4 hb5
  obtain ⟨⟨p1, p2⟩, p3, p4⟩ := id BX
  go_wp2_with fail
  refine bodyPost_ret (v := .agg #[.bool x5, .slice A5 l5 c5]) (by simp only [results, Try.results46]; go_simp) rfl ⟨_, _, _, _, rfl, ?_, ?_⟩
  · exact h5.put (HasBB.of BX)
  · exact below_set (below_set bl _ _ _ (by omega)) _ _ _ (by omega)
end Go.Proofs.Ytinjgiigmlikpaa
