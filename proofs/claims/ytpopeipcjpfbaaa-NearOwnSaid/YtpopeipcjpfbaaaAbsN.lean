/-
  Calls of packages wide and frac, and of the reference packages, by values. My own text.
-/
import Derived.Test.YtpopeipcjpfbaaaAbsE
import Derived.Test.YtpopeipcjpfbaaaAbsX
import Derived.Test.YtpopeipcjpfbaaaRefO
import Derived.Test.YtpopeipcjpfbaaaWideC
import Derived.Test.YtpopeipcjpfbaaaFracA
namespace Go.Proofs.Ytpopeipcjpfbaaa
open Go.RowKit
set_option linter.unusedVariables false
set_option linter.unusedSimpArgs false
/-! Ints -/
def hiW (n : Int) : Int := n / 18446744073709551616
def loW (n : Int) : Int := n % 18446744073709551616
abbrev iw (n : Int) : AW := .agg [.c (.int .i64 (hiW n)), .c (.int .u64 (loW n))]
abbrev wv (n : Int) : AV := .w (iw n)
theorem isW_hl {n : Int} (h : fits n = true) : IsW (hiW n) (loW n) n := by
  unfold fits at h
  rw [decide_eq_true_eq] at h
  unfold IsW hiW loW
  omega
theorem isW_is {H L n : Int} (h : IsW H L n) : H = hiW n ∧ L = loW n := by
  obtain ⟨a, b, rfl⟩ := h
  unfold hiW loW
  omega
theorem hiW_zero : hiW 0 = 0 := by decide
theorem loW_zero : loW 0 = 0 := by decide
@[go_sem] theorem eqW_hl (n m : Int) : eqW (hiW n) (loW n) (hiW m) (loW m) = decide (n = m) := by
  unfold eqW hiW loW
  rw [Bool.eq_iff_iff]
  simp
  omega
@[go_sem] theorem eqW_h0 (n : Int) : eqW (hiW n) (loW n) 0 0 = decide (n = 0) := by
  have := eqW_hl n 0
  rwa [hiW_zero, loW_zero] at this
theorem fits_small {n : Int} (h0 : -9223372036854775808 ≤ n) (h1 : n < 9223372036854775808) : fits n = true := by unfold fits; rw [decide_eq_true_eq]; omega
/-- 'z, and true', or zero, and false. -/
abbrev wf (z : Int) : AV := .tup [iw (if fits z then z else 0), .one (.c (.bool (fits z)))]
theorem rwf_ev {z : Int} {w w' : World} {e : Ending} (h : RWF z w e w') : e = .returned (.tuple #[.agg #[.int .i64 (hiW (if fits z then z else 0)), .int .u64 (loW (if fits z then z else 0))], .bool (fits z)]) ∧ Below w.heap.size w w' := by
  obtain ⟨H, L, he, hw, hb⟩ := h
  obtain ⟨rfl, rfl⟩ := isW_is hw
  exact ⟨he, hb⟩
/-! numbers of the reference package -/
theorem IsN.frame {w w' : World} {neg : Bool} {A : Option Addr} {l c : Nat} {n : Int} (h : IsN w neg A l c n) (hf : ∀ a, A = some a → 0 < l → w'.heap[a.block]? = w.heap[a.block]?) : IsN w' neg A l c n := by
  obtain ⟨ds, ⟨h1, h2, h3, h4⟩, hS⟩ := h
  refine ⟨ds, ⟨h1, h2, h3, fun hp => ?_⟩, hS⟩
  obtain ⟨g, rfl, hg, hc⟩ := h4 hp
  have e := hf _ rfl hp
  refine ⟨g, rfl, ?_, fun j hj => ?_⟩
  · have h5 : w.heap[g]? = some w.heap[g] := Array.getElem?_eq_getElem hg
    have h6 : w'.heap[g]? = some w.heap[g] := e.trans h5
    exact (Array.getElem?_eq_some_iff.1 h6).1
  · have e' : w'.heap[(⟨g, j, none⟩ : Addr).block]? = w.heap[(⟨g, j, none⟩ : Addr).block]? := e
    rw [World.cell?_of_block (w := w) e']; exact hc j hj
def NumP (n : Int) : SP where
  holds w v := ∃ A l c, v = .slice A l c ∧ IsN w (decide (n < 0)) A l c n
  foot w v b := ∃ A l c a, v = .slice A l c ∧ 0 < l ∧ A = some a ∧ a.block = b
  frame w w' v := by
    rintro ⟨A, l, c, rfl, h⟩ hf
    exact ⟨⟨A, l, c, rfl, h.frame fun a ha hl => hf a.block ⟨A, l, c, a, rfl, hl, ha, rfl⟩⟩, fun b hb => hb⟩
  old w v b := by
    rintro ⟨A, l, c, rfl, ds, ⟨h1, h2, h3, h4⟩, hS⟩ ⟨A', l', c', a, e, hl, ha, hb⟩
    cases e
    obtain ⟨g, rfl, hg, hc⟩ := h4 hl
    cases ha
    subst hb
    exact hg
  cell w v := by rintro ⟨A, l, c, rfl, h⟩; rfl
abbrev ni (n : Int) : AW := .agg [.c (.bool (decide (n < 0))), .p (NumP n)]
abbrev nv (n : Int) : AV := .w (ni n)
theorem ni_of {U : Nat → Prop} {ρ : Nat → Nat} {w : World} {x : Bool} {A : Option Addr} {l c : Nat} {n : Int} (h : IsN w x A l c n) (hU : ∀ a, A = some a → 0 < l → U a.block) : RpW U ρ w (ni n) (.agg #[.bool x, .slice A l c]) := by
  obtain rfl := h.neg_iff
  refine ⟨[.bool (decide (n < 0)), .slice A l c], rfl, rfl, fun i y v hy hv => ?_⟩
  match i with
  | 0 => simp at hy hv; subst hy; subst hv; exact ⟨rfl, rfl⟩
  | 1 =>
    simp at hy hv
    subst hy; subst hv
    refine ⟨⟨A, l, c, rfl, h⟩, ?_⟩
    rintro b ⟨A', l', c', a, e, hl, ha, hb⟩
    cases e
    subst hb
    exact hU a ha hl
  | i + 2 => simp at hy
theorem ni_is {U : Nat → Prop} {ρ : Nat → Nat} {w : World} {v : Value} {n : Int} (h : RpW U ρ w (ni n) v) : ∃ A l c, v = .agg #[.bool (decide (n < 0)), .slice A l c] ∧ IsN w (decide (n < 0)) A l c n ∧ ∀ a, A = some a → 0 < l → U a.block := by
  obtain ⟨vs, rfl, hl, hv⟩ := h
  match vs, hl with
  | [x, y], _ =>
    have h0 := hv 0 _ x rfl rfl
    have h1 := hv 1 _ y rfl rfl
    obtain ⟨rfl, _⟩ := h0
    obtain ⟨⟨A, l, c, rfl, h⟩, hf⟩ := h1
    exact ⟨A, l, c, rfl, h, fun a ha hl => hf a.block ⟨A, l, c, a, rfl, hl, ha, rfl⟩⟩
/-- n has no more than k digits. -/
def NB (k : Nat) (n : Int) : Prop := (n.natAbs : Int) < 10000 ^ k
theorem NB.len {w : World} {x : Bool} {A : Option Addr} {l c k : Nat} {n : Int} (b : NB k n) (h : IsN w x A l c n) : l ≤ k := h.len b
theorem NB.up {k j : Nat} {n : Int} (b : NB k n) (h : k ≤ j) : NB j n := by
  unfold NB at *
  have : (10000 : Int) ^ k ≤ 10000 ^ j := by
    have := Nat.pow_le_pow_right (show 0 < 10000 by decide) h
    have e1 : ((10000 : Int) ^ k) = ((10000 ^ k : Nat) : Int) := by simp
    have e2 : ((10000 : Int) ^ j) = ((10000 ^ j : Nat) : Int) := by simp
    rw [e1, e2]; omega
  omega
theorem pow10_pos (k : Nat) : (0 : Int) < 10000 ^ k := Int.pow_pos (by decide)
theorem NB.of_fits {n : Int} (h : fits n = true) : NB 10 n := by
  unfold fits at h
  rw [decide_eq_true_eq] at h
  unfold NB
  rw [ten10]
  omega
theorem NB.add {k : Nat} {n m : Int} (a : NB k n) (b : NB k m) : NB (k + 1) (n + m) := by
  unfold NB at *
  rw [Int.pow_succ]
  omega
theorem NB.neg {k : Nat} {n : Int} (a : NB k n) : NB k (-n) := by unfold NB at *; rw [Int.natAbs_neg]; exact a
theorem NB.mul {k j : Nat} {n m : Int} (a : NB k n) (b : NB j m) : NB (k + j) (n * m) := by
  unfold NB at *
  rw [Int.natAbs_mul, Int.pow_add, Int.natCast_mul]
  exact Int.mul_lt_mul' (Int.le_of_lt a) b (by omega) (pow10_pos k)
theorem NB.pow2 (k : Nat) : NB (k + 1) (2 ^ k) := by unfold NB; exact pow2_abs k
theorem closed_nv (n : Int) : (nv n).closedB = true := rfl
/-- a call of two numbers, or one. -/
theorem rn_ev {U : Nat → Prop} {n : Int} {w w' : World} {e : Ending} (h : RNF n w e w') (hU : ∀ b, w.heap.size ≤ b → U b) : ∃ v, e = .returned v ∧ RpV U id w' (nv n) v ∧ Below w.heap.size w w' := by
  obtain ⟨x, A, l, c, he, hN, hb, hF⟩ := h
  exact ⟨_, he, ni_of hN fun a ha _ => hU _ (hF a ha), hb⟩
theorem pcall_n2 {f : FuncId} {n m : Int} {r : AV} (cr : r.closedB = true)
    (h : ∀ (U : Nat → Prop) (W : World) (A : Option Addr) (l c : Nat) (B : Option Addr) (l' c' : Nat), IsN W (decide (n < 0)) A l c n → IsN W (decide (m < 0)) B l' c' m →
      Calls Try.prog f #[.agg #[.bool (decide (n < 0)), .slice A l c], .agg #[.bool (decide (m < 0)), .slice B l' c']] W fun e W' => ∃ v, e = .returned v ∧ RpV (fun b => U b ∨ W.heap.size ≤ b) id W' r v ∧ Below W.heap.size W W') : PCall Try.prog f [nv n, nv m] r := by
  refine ⟨fun x hx => AV.closed_of (by simp at hx; rcases hx with rfl | rfl <;> rfl), AV.closed_of cr, fun U W vs hvs => ?_⟩
  match vs, hvs with
  | [], hvs => exact absurd hvs.1 (by simp)
  | [_], hvs => exact absurd hvs.1 (by simp)
  | [v1, v2], hvs =>
    obtain ⟨A, l, c, rfl, k1, _⟩ := ni_is (hvs.2 0 _ _ rfl rfl)
    obtain ⟨B, l', c', rfl, k2, _⟩ := ni_is (hvs.2 1 _ _ rfl rfl)
    exact h U W A l c B l' c' k1 k2
  | _ :: _ :: _ :: _, hvs => exact absurd hvs.1 (by simp)
theorem pcall_n1 {f : FuncId} {n : Int} {r : AV} (cr : r.closedB = true)
    (h : ∀ (U : Nat → Prop) (W : World) (A : Option Addr) (l c : Nat), IsN W (decide (n < 0)) A l c n → (∀ a, A = some a → 0 < l → U a.block) →
      Calls Try.prog f #[.agg #[.bool (decide (n < 0)), .slice A l c]] W fun e W' => ∃ v, e = .returned v ∧ RpV (fun b => U b ∨ W.heap.size ≤ b) id W' r v ∧ Below W.heap.size W W') : PCall Try.prog f [nv n] r := by
  refine ⟨fun x hx => AV.closed_of (by simp at hx; subst hx; rfl), AV.closed_of cr, fun U W vs hvs => ?_⟩
  match vs, hvs with
  | [], hvs => exact absurd hvs.1 (by simp)
  | [v1], hvs =>
    obtain ⟨A, l, c, rfl, k1, hf⟩ := ni_is (hvs.2 0 _ _ rfl rfl)
    exact h U W A l c k1 hf
  | _ :: _ :: _, hvs => exact absurd hvs.1 (by simp)
end Go.Proofs.Ytpopeipcjpfbaaa
