/-
  Contracts of the reference package: size. My own text.
-/
import Derived.Test.YtinjgiigmlikpaaRefC
namespace Go.Proofs.Ytinjgiigmlikpaa
open Go.RowKit
set_option linter.unusedVariables false

theorem icmp_lt {a b : Int} (h : a < b) : icmp a b = -1 := by unfold icmp; rw [if_neg (by omega), if_pos h]
theorem icmp_gt {a b : Int} (h : b < a) : icmp a b = 1 := by unfold icmp; rw [if_neg (by omega), if_neg (by omega)]
theorem icmp_eq {a b : Int} (h : a = b) : icmp a b = 0 := by unfold icmp; rw [if_pos h]
set_option maxHeartbeats 1000000 in
theorem size_any (A B : Option Addr) (l c m d : Nat) (ds es : List Int) (w : World) (h : Dg w A l c ds) (k : Dg w B m d es) (hd : IsD ds) (he : IsD es) (hl : l ≤ 1000) (hm : m ≤ 1000) :
    Calls Try.prog 47 #[.slice A l c, .slice B m d] w fun e w' => e = .returned (.int .i64 (icmp (dval ds) (dval es))) ∧ w = w' := by
  have H1 := Lib.hid h.1
  have H2 := Lib.hid k.1
  have hd' := Lib.hid hd
  have he' := Lib.hid he
  have hs := Lib.hid h
  have ks := Lib.hid k
  clear hd he h k
  go_enter Try.func47, Try.ntmps47
  go_wp2
  all_goals
    go_loop [5] (fun i => ∃ k : Nat, i = .int .i64 ((k : Int) - 1) ∧ k ≤ 1000 ∧ Hid (hi ds k = hi es k)) (fun i => (intOf i + 1).toNat)
    case atStart => first
      | exact ⟨l, rfl, by omega, by unfold Hid; rw [hi_end ds (by rw [H1.out]; omega), hi_end es (by rw [H2.out]; omega)]⟩
      | exact ⟨m, rfl, by omega, by unfold Hid; rw [hi_end ds (by rw [H1.out]; omega), hi_end es (by rw [H2.out]; omega)]⟩
    case round =>
      obtain ⟨k, rfl, hk, hh⟩ := hrel
      rcases k with _ | k
      · rw [show (((0 : Nat) : Int) - 1) = -1 from rfl]
        go_wp2
        go_ret
        exact ⟨ret_int (icmp_eq hh.out).symm, rfl⟩
      · rw [show (((k + 1 : Nat) : Int) - 1) = (k : Int) by omega]
        have g1 := hd'.out.getD k
        have g2 := he'.out.getD k
        have e1 := fun h => size_lt k hd'.out he'.out h hh.out
        have e2 := fun h => size_lt k he'.out hd'.out h hh.out.symm
        have e3 : ds.getD k 0 = es.getD k 0 → hi ds k = hi es k := fun h => by rw [hi_step ds k, hi_step es k, h, hh.out]
        have c1 := fun w h => digit_any A l c ds k w h hl (by omega)
        have c2 := fun w h => digit_any B m d es k w h hm (by omega)
        have E1 := Lib.hid e1
        have E2 := Lib.hid e2
        have E3 := Lib.hid e3
        have C1 := Lib.hid c1
        have C2 := Lib.hid c2
        clear e1 e2 e3 c1 c2
        generalize ds.getD k 0 = x at *
        generalize es.getD k 0 = y at *
        go_wp2_with (go_at_call 68; first | ((with_reducible refine (C1.out _ hs.out).mono ?_); rintro e w' ⟨rfl, rfl⟩) | ((with_reducible refine (C2.out _ ks.out).mono ?_); rintro e w' ⟨rfl, rfl⟩))
        · go_ret
          exact ⟨ret_int (icmp_lt (E1.out (by assumption))).symm, rfl⟩
        · go_ret
          exact ⟨ret_int (icmp_gt (E2.out (by assumption))).symm, rfl⟩
        · go_round
          case rel => exact ⟨k, rfl, by omega, E3.out (by omega)⟩
          case measure => simp [intOf]
end Go.Proofs.Ytinjgiigmlikpaa
