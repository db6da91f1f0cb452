/-
  math/bits.Div64: the quotient, and what is left. My own text.
-/
import Derived.Test.YtinjgiigmlikpaaWideF
import Derived.Test.YtinjgiigmlikpaaDivM
import Derived.Deep.QuietTactic
import Derived.Deep.DeepCutAuto
import Derived.Deep.CutBlock
namespace Go.Proofs.Ytinjgiigmlikpaa
open Go.RowKit
set_option linter.unusedVariables false

theorem below_drewN {w W : World} (h : Below w.heap.size w W) (n : Nat) : Below w.heap.size w (W.drewN n) := ⟨h.os, h.tape, h.output, h.size, h.block⟩
def RLz (y : Int) (w : World) (e : Ending) (w' : World) : Prop := ∃ s : Int, e = .returned (.int .i64 s) ∧ Lz y s ∧ w = w'
theorem lz_any (y : Int) (w : World) (h0 : 0 < y) (h1 : y < 18446744073709551616) : Calls Try.prog 88 #[.int .u64 y] w (RLz y w) := by
  refine (Try.bits_LeadingZeros64 y w (by omega) (by omega)).mono ?_
  rintro e w' ⟨rfl, rfl⟩
  exact ⟨_, rfl, lz_of y h0 h1, rfl⟩
theorem ret_pair {a b c d : Int} (h : a = c) (k : b = d) : Ending.returned (.tuple #[.int .u64 a, .int .u64 b]) = .returned (.tuple #[.int .u64 c, .int .u64 d]) := by rw [h, k]
def RDiv (q r : Int) (w : World) (e : Ending) (w' : World) : Prop := e = .returned (.tuple #[.int .u64 q, .int .u64 r]) ∧ Below w.heap.size w w'
set_option maxHeartbeats 1000000 in
set_option maxRecDepth 100000 in
theorem div64_zero (lo y : Int) (w : World) (l : 0 ≤ lo ∧ lo < 18446744073709551616) (y0 : 0 < y) (y1 : y < 18446744073709551616) :
    Calls Try.prog 82 #[.int .u64 0, .int .u64 lo, .int .u64 y] w (RDiv (lo / y) (lo % y) w) := by
  have n0 : (y == 0) = false := by simp; omega
  have n1 : decide (y ≤ 0) = false := by simp; omega
  obtain ⟨l0, l1⟩ := l
  go_enter Try.func82, Try.ntmps82
  go_wp2
  go_quiet (fail)
  go_wp2
  go_ret2
  exact ⟨rfl, below_drewN (Below.refl _ _) _⟩
set_option maxHeartbeats 4000000 in
set_option maxRecDepth 100000 in
theorem div64_main (hi lo y : Int) (w : World) (h0 : 0 < hi) (h1 : hi < y) (l : 0 ≤ lo ∧ lo < 18446744073709551616) (y1 : y < 18446744073709551616) :
    Calls Try.prog 82 #[.int .u64 hi, .int .u64 lo, .int .u64 y] w (RDiv ((hi * 18446744073709551616 + lo) / y) ((hi * 18446744073709551616 + lo) % y) w) := by
  have n0 : (y == 0) = false := by simp; omega
  have n1 : decide (y ≤ hi) = false := by simp; omega
  have n2 : (hi == 0) = false := by simp; omega
  go_enter Try.func82, Try.ntmps82
  go_wp2_with fail
  refine (lz_any y _ (by omega) y1).mono ?_
  rintro e w1 ⟨s, rfl, hs, rfl⟩
  have hs0 := hs.s0; have hs1 := hs.s1
  have hws : IntKind.u64.wrap s = s := by rw [IntKind.wrap_u64]; omega
  have hnm := nm_of (Int.le_of_lt h0) h1 l hs
  generalize hU : bits .or .u64 (IntKind.u64.wrap (hi * 2 ^ s.toNat)) (lo / 2 ^ (64 - s).toNat) = U at hnm
  generalize hV : IntKind.u64.wrap (lo * 2 ^ s.toNat) = V at hnm
  generalize hY : IntKind.u64.wrap (y * 2 ^ s.toNat) = Y at hnm
  have hkn := hnm.kn hs
  have hquo := hnm.quo hs
  have hY2 : 0 ≤ Y ∧ Y < 18446744073709551616 := by have := hkn.a0; have := hkn.a1; omega
  have hbY := and32 Y hY2
  have hbV := and32 V ⟨hnm.v0, hnm.v1⟩
  have two := hkn.two (V % 4294967296) (by omega)
  rw [hquo.1] at two
  have hYe : Y / 4294967296 * 4294967296 + Y % 4294967296 = Y := by omega
  have rest1 := hkn.rest
  have kn2 := hkn.next (V % 4294967296) (by omega)
  have rest2 := kn2.rest
  rw [hYe] at rest1 rest2
  have dv : 0 ≤ V % 4294967296 ∧ V % 4294967296 < 4294967296 := by omega
  generalize hd : V / 4294967296 = d at *
  generalize he : V % 4294967296 = e at *
  generalize ha : Y / 4294967296 = a at *
  generalize hb : Y % 4294967296 = b at *
  have a0 := hkn.a0; have a1 := hkn.a1; have b0 := hkn.b0; have b1 := hkn.b1; have u0 := hkn.u0; have d0 := hkn.d0; have d1 := hkn.d1
  have u1 : U < 18446744073709551616 := by have := hkn.u1; omega
  have az : (a == 0) = false := by simp; omega
  have HQ := Lib.hid two; have HQ2 := Lib.hid hquo.2; have HK := Lib.hid hkn; have HK2 := Lib.hid kn2
  have q1b := hkn.qlt; have q1a := hkn.q0; have q2b := kn2.qlt; have q2a := kn2.q0
  have t1 := hkn.init; have t1b := hkn.init_lt
  have i1 := t1.q_lt hkn
  have i2 : 0 ≤ U / a := t1.q0
  have i3 : IntKind.u64.wrap (U / a * a) = U / a * a := by
    have := t1.sum; have := t1.r0; rw [IntKind.wrap_u64]
    have : 0 ≤ U / a * a := Int.mul_nonneg i2 (by omega)
    omega
  have i4 := t1.r0
  have i7 : 0 ≤ U / a * a := Int.mul_nonneg i2 (by omega)
  obtain ⟨m1, hm1⟩ : ∃ m, m = U / a * a := ⟨_, rfl⟩
  rw [← hm1] at i4 i7 t1 t1b
  have i3' : IntKind.u64.wrap (U / a * a) = m1 := by rw [i3, hm1]
  obtain ⟨i5, i6⟩ := t1b
  have T1 := Lib.hid t1
  generalize hQ1 : kq U d a b = Q1 at *
  generalize hU2 : kr U d a b = U2 at *
  have HQ1 := Lib.hid hQ1
  have HR1 := Lib.hid rest1; have HR2 := Lib.hid rest2
  clear two hquo hkn kn2 hnm hYe dv hY2 h1 h0 l y1 i3 hm1 t1 hQ1 hU2 rest1 rest2
  go_upto_block 0 with fail
  go_cut [15, 16] (fun s15 s16 wx => w = wx ∧ s15 = .int .u64 Q1 ∧ ∃ r, s16 = .int .u64 r)
  case first =>
    go_wp2_with fail
    go_loop [15, 16] (fun s15 s16 => ∃ q r : Int, s15 = .int .u64 q ∧ s16 = .int .u64 r ∧ KTry U d a b q r ∧ r < 4294967296) (fun s15 _ => (intOf s15).toNat)
    case atStart => exact ⟨_, _, rfl, rfl, T1.out, i6⟩
    case round =>
      obtain ⟨q, r, rfl, rfl, ht, hr⟩ := hrel
      have hq := ht.q_lt HK.out
      have hq0 := ht.q0
      have hr0 := ht.r0
      by_cases hb : 4294967296 ≤ q
      · obtain ⟨hdn, hq1⟩ := ht.down HK.out (.inl hb)
        have HD := Lib.hid hdn
        clear hdn
        by_cases hx : 4294967296 ≤ r + a
        · have hout := HD.out.out HK.out hx
          rw [HQ1.out] at hout
          have HO := Lib.hid hout
          clear hout
          go_wp2_with fail
          go_meet
          exact ⟨rfl, congrArg _ HO.out, _, rfl⟩
        · go_wp2_with fail
          go_round
          case rel => exact ⟨_, _, rfl, rfl, HD.out, by omega⟩
          case measure => simp [intOf]; omega
      · have hml := ht.mul_lt HK.out (by omega)
        obtain ⟨P, hP⟩ : ∃ P, P = q * b := ⟨_, rfl⟩
        rw [← hP] at hml
        have hPw : IntKind.u64.wrap (q * b) = P := by rw [← hP, IntKind.wrap_u64]; omega
        have HP := Lib.hid hP
        clear hP
        by_cases hc : 4294967296 * r + d < P
        · obtain ⟨hdn, hq1⟩ := ht.down HK.out (.inr (by rw [← HP.out]; exact hc))
          have HD := Lib.hid hdn
          clear hdn
          by_cases hx : 4294967296 ≤ r + a
          · have hout := HD.out.out HK.out hx
            rw [HQ1.out] at hout
            have HO := Lib.hid hout
            clear hout
            go_wp2_with fail
            go_meet
            exact ⟨rfl, congrArg _ HO.out, _, rfl⟩
          · go_wp2_with fail
            go_round
            case rel => exact ⟨_, _, rfl, rfl, HD.out, by omega⟩
            case measure => simp [intOf]; omega
        · have hout := ht.done HK.out (by rw [← HP.out]; omega)
          rw [HQ1.out] at hout
          have HO := Lib.hid hout
          clear hout
          go_wp2_with fail
          go_meet
          exact ⟨rfl, congrArg _ HO.out, _, rfl⟩
  case rest =>
    obtain ⟨rfl, rfl, r1, rfl⟩ := hcut
    have rest1 := HR1.out
    have v0 := HK2.out.u0
    have v1 : U2 < 18446744073709551616 := by have := HK2.out.u1; omega
    have e0 := HK2.out.d0; have e1 := HK2.out.d1
    have t2 := HK2.out.init; have t2b := HK2.out.init_lt
    have j1 := t2.q_lt HK2.out
    have j2 : 0 ≤ U2 / a := t2.q0
    have j3 : IntKind.u64.wrap (U2 / a * a) = U2 / a * a := by
      have := t2.sum; have := t2.r0; rw [IntKind.wrap_u64]
      have : 0 ≤ U2 / a * a := Int.mul_nonneg j2 (by omega)
      omega
    have j4 := t2.r0
    have j7 : 0 ≤ U2 / a * a := Int.mul_nonneg j2 (by omega)
    obtain ⟨m2, hm2⟩ : ∃ m, m = U2 / a * a := ⟨_, rfl⟩
    rw [← hm2] at j4 j7 t2 t2b
    have j3' : IntKind.u64.wrap (U2 / a * a) = m2 := by rw [j3, hm2]
    obtain ⟨j5, j6⟩ := t2b
    have T2 := Lib.hid t2
    obtain ⟨Q2, hQ2⟩ : ∃ Q, Q = kq U2 e a b := ⟨_, rfl⟩
    have HQ2e := Lib.hid hQ2.symm
    have q2a := HK2.out.q0; have q2b := HK2.out.qlt
    rw [← hQ2] at q2a q2b
    clear j3 hm2 t2 hQ2
    go_upto_block 2 with fail
    go_cut [18, 16] (fun s18 s16 wx => w = wx ∧ s18 = .int .u64 Q2 ∧ ∃ r, s16 = .int .u64 r)
    case first =>
      go_wp2_with fail
      go_loop [18, 16] (fun s18 s16 => ∃ q r : Int, s18 = .int .u64 q ∧ s16 = .int .u64 r ∧ KTry U2 e a b q r ∧ r < 4294967296) (fun s18 _ => (intOf s18).toNat)
      case atStart => exact ⟨_, _, rfl, rfl, T2.out, j6⟩
      case round =>
        obtain ⟨q, r, rfl, rfl, ht, hr⟩ := hrel
        have hq := ht.q_lt HK2.out
        have hq0 := ht.q0
        have hr0 := ht.r0
        by_cases hb : 4294967296 ≤ q
        · obtain ⟨hdn, hq1⟩ := ht.down HK2.out (.inl hb)
          have HD := Lib.hid hdn
          clear hdn
          by_cases hx : 4294967296 ≤ r + a
          · have hout := HD.out.out HK2.out hx
            rw [HQ2e.out] at hout
            have HO := Lib.hid hout
            clear hout
            go_wp2_with fail
            go_meet
            exact ⟨rfl, congrArg _ HO.out, _, rfl⟩
          · go_wp2_with fail
            go_round
            case rel => exact ⟨_, _, rfl, rfl, HD.out, by omega⟩
            case measure => simp [intOf]; omega
        · have hml := ht.mul_lt HK2.out (by omega)
          obtain ⟨P, hP⟩ : ∃ P, P = q * b := ⟨_, rfl⟩
          rw [← hP] at hml
          have hPw : IntKind.u64.wrap (q * b) = P := by rw [← hP, IntKind.wrap_u64]; omega
          have HP := Lib.hid hP
          clear hP
          by_cases hc : 4294967296 * r + e < P
          · obtain ⟨hdn, hq1⟩ := ht.down HK2.out (.inr (by rw [← HP.out]; exact hc))
            have HD := Lib.hid hdn
            clear hdn
            by_cases hx : 4294967296 ≤ r + a
            · have hout := HD.out.out HK2.out hx
              rw [HQ2e.out] at hout
              have HO := Lib.hid hout
              clear hout
              go_wp2_with fail
              go_meet
              exact ⟨rfl, congrArg _ HO.out, _, rfl⟩
            · go_wp2_with fail
              go_round
              case rel => exact ⟨_, _, rfl, rfl, HD.out, by omega⟩
              case measure => simp [intOf]; omega
          · have hout := ht.done HK2.out (by rw [← HP.out]; omega)
            rw [HQ2e.out] at hout
            have HO := Lib.hid hout
            clear hout
            go_wp2_with fail
            go_meet
            exact ⟨rfl, congrArg _ HO.out, _, rfl⟩
    case rest =>
      obtain ⟨rfl, rfl, r2, rfl⟩ := hcut
      have rest2 := HR2.out
      rw [HQ2e.out] at rest2
      have fin := HQ.out
      have fin2 := HQ2.out
      rw [HQ2e.out] at fin
      rw [← fin.2] at fin2
      have FIN1 := Lib.hid fin.1
      have FIN2 := Lib.hid fin2
      generalize kr U2 e a b = R at *
      clear fin fin2
      go_wp2
      go_ret2
      exact ⟨ret_pair FIN1.out FIN2.out, Below.refl _ _⟩
theorem div64_any (hi lo y : Int) (w : World) (h0 : 0 ≤ hi) (h1 : hi < y) (l : 0 ≤ lo ∧ lo < 18446744073709551616) (y1 : y < 18446744073709551616) :
    Calls Try.prog 82 #[.int .u64 hi, .int .u64 lo, .int .u64 y] w (RDiv ((hi * 18446744073709551616 + lo) / y) ((hi * 18446744073709551616 + lo) % y) w) := by
  by_cases h : hi = 0
  · subst h
    rw [Int.zero_mul, Int.zero_add]
    exact div64_zero lo y w l (by omega) y1
  · exact div64_main hi lo y w (by omega) h1 l y1
end Go.Proofs.Ytinjgiigmlikpaa
