/-
  My own texts, without what this claim does not need. My own text.
-/
import Derived.Test.YtlglajaonmpljaaProg
import Derived.ProofKit
import Derived.OpenShut
import Derived.Deep.DeepHandedRow
import Derived.Lib.LaidTab
import Derived.Lib.SmallJoins
import Derived.Laws.BytesArg
import Derived.Test.YtlglajaonmpljaaChDriftK3
namespace Go.Proofs.Ytlglajaonmpljaa
set_option linter.unusedVariables false
/-- a place on the way: n over d, left itself or not. -/
structure Bd where
  n : Int
  d : Int
  own : Bool
structure Pa where
  f : Bd
  t : Bd
def cmB (x y : Bd) : Int := icmp (x.n * y.d) (y.n * x.d)
def laB (x y : Bd) : Bd := if 0 < cmB x y ∨ (cmB x y = 0 ∧ y.own = true) then x else y
def eaB (x y : Bd) : Bd := if cmB x y < 0 ∨ (cmB x y = 0 ∧ y.own = true) then x else y
def kpB (p : Pa) (u v : Int) (own : Bool) : Pa :=
  if 0 < v - u then ⟨laB p.f ⟨-u, v - u, own⟩, p.t⟩
  else if v - u < 0 then ⟨p.f, eaB p.t ⟨u, -(v - u), own⟩⟩
  else if u < 0 ∨ (u = 0 ∧ own = false) then ⟨⟨1, 1, false⟩, ⟨0, 1, false⟩⟩ else p
def anB (p : Pa) : Bool := decide (cmB p.f p.t < 0) || (decide (cmB p.f p.t = 0) && p.f.own && p.t.own)
def alB : Pa := ⟨⟨0, 1, true⟩, ⟨1, 1, true⟩⟩
theorem ic_lt (x y : Int) : icmp x y < 0 ↔ x < y := by unfold icmp; split <;> (try split) <;> omega
theorem ic_gt (x y : Int) : 0 < icmp x y ↔ y < x := by unfold icmp; split <;> (try split) <;> omega
theorem ic_eq (x y : Int) : icmp x y = 0 ↔ x = y := by unfold icmp; split <;> (try split) <;> omega
/-- is n over d not ahead of a bound; not behind it? -/
def Aft (x : Bd) (n d : Int) : Prop := x.n * d < n * x.d ∨ (x.own = true ∧ x.n * d = n * x.d)
def Bef (y : Bd) (n d : Int) : Prop := n * y.d < y.n * d ∨ (y.own = true ∧ n * y.d = y.n * d)
def InP (p : Pa) (n d : Int) : Prop := Aft p.f n d ∧ Bef p.t n d
theorem mul_lt {a b c : Int} (h : a < b) (hc : 0 < c) : a * c < b * c := Int.mul_lt_mul_of_pos_right h hc
theorem lt_mul {a b c : Int} (h : a * c < b * c) (hc : 0 < c) : a < b := Int.lt_of_mul_lt_mul_right h (by omega)
theorem le_mul {a b c : Int} (h : a * c ≤ b * c) (hc : 0 < c) : a ≤ b := Int.le_of_mul_le_mul_right h hc
theorem eq_mul {a b c : Int} (h : a * c = b * c) (hc : 0 < c) : a = b := Int.eq_of_mul_eq_mul_right (by omega) h
/-- fractions: no greater, no greater. -/
theorem fr_ll {a b c d e f : Int} (hb : 0 < b) (hd : 0 < d) (hf : 0 < f) (h : a * d < c * b) (k : c * f < e * d) : a * f < e * b := by
  have h1 := mul_lt h hf
  have h2 := mul_lt k hb
  refine lt_mul (c := d) ?_ hd
  have e1 : a * d * f = a * f * d := by grind
  have e2 : c * b * f = c * f * b := by grind
  have e3 : e * d * b = e * b * d := by grind
  omega
theorem fr_el {a b c d e f : Int} (hb : 0 < b) (hd : 0 < d) (hf : 0 < f) (h : a * d = c * b) (k : c * f < e * d) : a * f < e * b := by
  have h2 := mul_lt k hb
  refine lt_mul (c := d) ?_ hd
  have e1 : a * d * f = a * f * d := by grind
  have e2 : c * b * f = c * f * b := by grind
  have e3 : e * d * b = e * b * d := by grind
  have h1 : a * d * f = c * b * f := by rw [h]
  omega
theorem fr_le {a b c d e f : Int} (hb : 0 < b) (hd : 0 < d) (hf : 0 < f) (h : a * d < c * b) (k : c * f = e * d) : a * f < e * b := by
  have h1 := mul_lt h hf
  refine lt_mul (c := d) ?_ hd
  have e1 : a * d * f = a * f * d := by grind
  have e2 : c * b * f = c * f * b := by grind
  have e3 : e * d * b = e * b * d := by grind
  have h2 : c * f * b = e * d * b := by rw [k]
  omega
theorem fr_ee {a b c d e f : Int} (hb : 0 < b) (hd : 0 < d) (hf : 0 < f) (h : a * d = c * b) (k : c * f = e * d) : a * f = e * b := by
  refine eq_mul (c := d) ?_ hd
  have e1 : a * d * f = a * f * d := by grind
  have e2 : c * b * f = c * f * b := by grind
  have e3 : e * d * b = e * b * d := by grind
  have h1 : a * d * f = c * b * f := by rw [h]
  have h2 : c * f * b = e * d * b := by rw [k]
  omega
theorem cm_tri (x y : Bd) : (x.n * y.d < y.n * x.d ∧ cmB x y < 0) ∨ (x.n * y.d = y.n * x.d ∧ cmB x y = 0) ∨ (y.n * x.d < x.n * y.d ∧ 0 < cmB x y) := by
  have h1 := ic_lt (x.n * y.d) (y.n * x.d)
  have h2 := ic_gt (x.n * y.d) (y.n * x.d)
  have h3 := ic_eq (x.n * y.d) (y.n * x.d)
  unfold cmB
  omega
theorem la_cases (x y : Bd) : (laB x y = x ∧ (0 < cmB x y ∨ (cmB x y = 0 ∧ y.own = true))) ∨ (laB x y = y ∧ ¬ (0 < cmB x y ∨ (cmB x y = 0 ∧ y.own = true))) := by
  unfold laB
  split
  · rename_i h; exact .inl ⟨rfl, h⟩
  · rename_i h; exact .inr ⟨rfl, h⟩
theorem ea_cases (x y : Bd) : (eaB x y = x ∧ (cmB x y < 0 ∨ (cmB x y = 0 ∧ y.own = true))) ∨ (eaB x y = y ∧ ¬ (cmB x y < 0 ∨ (cmB x y = 0 ∧ y.own = true))) := by
  unfold eaB
  split
  · rename_i h; exact .inl ⟨rfl, h⟩
  · rename_i h; exact .inr ⟨rfl, h⟩
theorem aft_la {x y : Bd} {n d : Int} (hx : 0 < x.d) (hy : 0 < y.d) (hd : 0 < d) : Aft (laB x y) n d ↔ Aft x n d ∧ Aft y n d := by
  unfold Aft
  rcases la_cases x y with ⟨e, h⟩ | ⟨e, h⟩ <;> rw [e] <;> rcases cm_tri x y with ⟨t, c⟩ | ⟨t, c⟩ | ⟨t, c⟩
  · omega
  · have ho : y.own = true := by rcases h with h | ⟨_, h⟩ <;> first | exact h | (exfalso; omega)
    refine ⟨fun k => ⟨k, ?_⟩, fun k => k.1⟩
    rcases k with k | ⟨_, k⟩
    · exact .inl (fr_el hy hx hd t.symm k)
    · exact .inr ⟨ho, fr_ee hy hx hd t.symm k⟩
  · refine ⟨fun k => ⟨k, ?_⟩, fun k => k.1⟩
    rcases k with k | ⟨_, k⟩
    · exact .inl (fr_ll hy hx hd t k)
    · exact .inl (fr_le hy hx hd t k)
  · refine ⟨fun k => ⟨?_, k⟩, fun k => k.2⟩
    rcases k with k | ⟨_, k⟩
    · exact .inl (fr_ll hx hy hd t k)
    · exact .inl (fr_le hx hy hd t k)
  · refine ⟨fun k => ⟨?_, k⟩, fun k => k.2⟩
    have ho : ¬ y.own = true := fun q => h (.inr ⟨c, q⟩)
    rcases k with k | ⟨q, k⟩
    · exact .inl (fr_el hx hy hd t k)
    · exact absurd q ho
  · omega
theorem bef_ea {x y : Bd} {n d : Int} (hx : 0 < x.d) (hy : 0 < y.d) (hd : 0 < d) : Bef (eaB x y) n d ↔ Bef x n d ∧ Bef y n d := by
  unfold Bef
  rcases ea_cases x y with ⟨e, h⟩ | ⟨e, h⟩ <;> rw [e] <;> rcases cm_tri x y with ⟨t, c⟩ | ⟨t, c⟩ | ⟨t, c⟩
  · refine ⟨fun k => ⟨k, ?_⟩, fun k => k.1⟩
    rcases k with k | ⟨_, k⟩
    · exact .inl (fr_ll hd hx hy k t)
    · exact .inl (fr_el hd hx hy k t)
  · have ho : y.own = true := by rcases h with h | ⟨_, h⟩ <;> first | exact h | (exfalso; omega)
    refine ⟨fun k => ⟨k, ?_⟩, fun k => k.1⟩
    rcases k with k | ⟨_, k⟩
    · exact .inl (fr_le hd hx hy k t)
    · exact .inr ⟨ho, fr_ee hd hx hy k t⟩
  · omega
  · omega
  · refine ⟨fun k => ⟨?_, k⟩, fun k => k.2⟩
    have ho : ¬ y.own = true := fun q => h (.inr ⟨c, q⟩)
    rcases k with k | ⟨q, k⟩
    · exact .inl (fr_le hd hy hx k t.symm)
    · exact absurd q ho
  · refine ⟨fun k => ⟨?_, k⟩, fun k => k.2⟩
    rcases k with k | ⟨_, k⟩
    · exact .inl (fr_ll hd hy hx k t)
    · exact .inl (fr_el hd hy hx k t)
/-- what goes evenly from u to v is above 0 at n over d, or is 0 there, if that is own. -/
def Hol (u v : Int) (own : Bool) (n d : Int) : Prop := 0 < u * (d - n) + v * n ∨ (own = true ∧ u * (d - n) + v * n = 0)
theorem kp_in {p : Pa} {u v n d : Int} {own : Bool} (hf : 0 < p.f.d) (ht : 0 < p.t.d) (hd : 0 < d) : InP (kpB p u v own) n d ↔ InP p n d ∧ Hol u v own n d := by
  have e0 : u * (d - n) + v * n = (v - u) * n + u * d := by grind
  unfold kpB
  by_cases h1 : 0 < v - u
  · rw [if_pos h1]
    unfold InP
    rw [aft_la hf h1 hd]
    have : Aft ⟨-u, v - u, own⟩ n d ↔ Hol u v own n d := by
      unfold Aft Hol
      simp only
      have e1 : -u * d = -(u * d) := by grind
      have e2 : n * (v - u) = (v - u) * n := by grind
      rw [e0, e1, e2]
      constructor
      · rintro (k | ⟨k, l⟩)
        · exact .inl (by omega)
        · exact .inr ⟨k, by omega⟩
      · rintro (k | ⟨k, l⟩)
        · exact .inl (by omega)
        · exact .inr ⟨k, by omega⟩
    rw [this]
    constructor
    · rintro ⟨⟨a, b⟩, c⟩; exact ⟨⟨a, c⟩, b⟩
    · rintro ⟨⟨a, c⟩, b⟩; exact ⟨⟨a, b⟩, c⟩
  · rw [if_neg h1]
    by_cases h2 : v - u < 0
    · rw [if_pos h2]
      unfold InP
      have hq : (0 : Int) < -(v - u) := by omega
      rw [bef_ea ht hq hd]
      have : Bef ⟨u, -(v - u), own⟩ n d ↔ Hol u v own n d := by
        unfold Bef Hol
        simp only
        have e2 : n * -(v - u) = -((v - u) * n) := by grind
        rw [e0, e2]
        constructor
        · rintro (k | ⟨k, l⟩)
          · exact .inl (by omega)
          · exact .inr ⟨k, by omega⟩
        · rintro (k | ⟨k, l⟩)
          · exact .inl (by omega)
          · exact .inr ⟨k, by omega⟩
      rw [this]
      constructor
      · rintro ⟨a, b, c⟩; exact ⟨⟨a, b⟩, c⟩
      · rintro ⟨⟨a, b⟩, c⟩; exact ⟨a, b, c⟩
    · rw [if_neg h2]
      have e3 : v - u = 0 := by omega
      have e4 : u * (d - n) + v * n = u * d := by rw [e0, e3]; omega
      by_cases h3 : u < 0 ∨ (u = 0 ∧ own = false)
      · rw [if_pos h3]
        have hno : ¬ Hol u v own n d := by
          unfold Hol
          rw [e4]
          rcases h3 with h3 | ⟨rfl, rfl⟩
          · have := mul_lt h3 hd
            omega
          · simp
        refine ⟨fun k => absurd k ?_, fun k => absurd k.2 hno⟩
        unfold InP Aft Bef
        simp
        omega
      · rw [if_neg h3]
        have hyes : Hol u v own n d := by
          unfold Hol
          rw [e4]
          by_cases h4 : u = 0
          · subst h4
            right
            refine ⟨?_, by simp⟩
            cases own with
            | true => rfl
            | false => exact absurd (.inr ⟨rfl, rfl⟩) h3
          · left
            have : 0 < u := by omega
            have := mul_lt this hd
            omega
        exact ⟨fun k => ⟨k, hyes⟩, fun k => k.1⟩
theorem la_d {x y : Bd} (hx : 0 < x.d) (hy : 0 < y.d) : 0 < (laB x y).d := by unfold laB; split <;> assumption
theorem ea_d {x y : Bd} (hx : 0 < x.d) (hy : 0 < y.d) : 0 < (eaB x y).d := by unfold eaB; split <;> assumption
theorem kp_d {p : Pa} {u v : Int} {own : Bool} (hf : 0 < p.f.d) (ht : 0 < p.t.d) : 0 < (kpB p u v own).f.d ∧ 0 < (kpB p u v own).t.d := by
  unfold kpB
  by_cases h1 : 0 < v - u
  · rw [if_pos h1]; exact ⟨la_d hf h1, ht⟩
  · rw [if_neg h1]
    by_cases h2 : v - u < 0
    · rw [if_pos h2]; exact ⟨hf, ea_d ht (by simp only; omega)⟩
    · rw [if_neg h2]
      split
      · exact ⟨by decide, by decide⟩
      · exact ⟨hf, ht⟩
/-- the middle of two. -/
def midN (x y : Bd) : Int := x.n * y.d + y.n * x.d
def midD (x y : Bd) : Int := x.d * y.d + x.d * y.d
theorem mid_in {p : Pa} (hf : 0 < p.f.d) (ht : 0 < p.t.d) (h : p.f.n * p.t.d < p.t.n * p.f.d) : 0 < midD p.f p.t ∧ InP p (midN p.f p.t) (midD p.f p.t) := by
  unfold midN midD InP Aft Bef
  have hm : 0 < p.f.d * p.t.d := Int.mul_pos hf ht
  refine ⟨by omega, .inl ?_, .inl ?_⟩
  · have := mul_lt h hf
    grind
  · have := mul_lt h ht
    grind
theorem an_iff {p : Pa} (hf : 0 < p.f.d) (ht : 0 < p.t.d) : anB p = true ↔ ∃ n d, 0 < d ∧ InP p n d := by
  unfold anB
  simp only [Bool.or_eq_true, Bool.and_eq_true, decide_eq_true_eq]
  constructor
  · intro h
    rcases cm_tri p.f p.t with ⟨t, c⟩ | ⟨t, c⟩ | ⟨t, c⟩
    · obtain ⟨h1, h2⟩ := mid_in hf ht t
      exact ⟨_, _, h1, h2⟩
    · rcases h with h | ⟨⟨_, h1⟩, h2⟩
      · omega
      · exact ⟨p.f.n, p.f.d, hf, .inr ⟨h1, rfl⟩, .inr ⟨h2, t⟩⟩
    · rcases h with h | ⟨⟨h, _⟩, _⟩ <;> omega
  · rintro ⟨n, d, hd, h1, h2⟩
    rcases cm_tri p.f p.t with ⟨t, c⟩ | ⟨t, c⟩ | ⟨t, c⟩
    · exact .inl c
    · right
      refine ⟨⟨c, ?_⟩, ?_⟩
      · rcases h1 with h1 | ⟨h1, _⟩
        · exfalso
          rcases h2 with h2 | ⟨_, h2⟩
          · have := fr_ll hf hd ht h1 h2; omega
          · have := fr_le hf hd ht h1 h2; omega
        · exact h1
      · rcases h2 with h2 | ⟨h2, _⟩
        · exfalso
          rcases h1 with h1 | ⟨_, h1⟩
          · have := fr_ll hf hd ht h1 h2; omega
          · have := fr_el hf hd ht h1 h2; omega
        · exact h2
    · exfalso
      rcases h1 with h1 | ⟨_, h1⟩ <;> rcases h2 with h2 | ⟨_, h2⟩
      · have := fr_ll hf hd ht h1 h2; omega
      · have := fr_le hf hd ht h1 h2; omega
      · have := fr_el hf hd ht h1 h2; omega
      · have := fr_ee hf hd ht h1 h2; omega
/-- the four cuts. -/
def cut4 (u1 v1 u2 v2 u3 v3 u4 v4 : Int) (o p : Bool) : Pa := kpB (kpB (kpB (kpB alB u1 v1 o) u2 v2 o) u3 v3 p) u4 v4 p
theorem cut4_d (u1 v1 u2 v2 u3 v3 u4 v4 : Int) (o p : Bool) : 0 < (cut4 u1 v1 u2 v2 u3 v3 u4 v4 o p).f.d ∧ 0 < (cut4 u1 v1 u2 v2 u3 v3 u4 v4 o p).t.d := by
  unfold cut4
  have h1 := kp_d (p := alB) (u := u1) (v := v1) (own := o) (by decide) (by decide)
  have h2 := kp_d (u := u2) (v := v2) (own := o) h1.1 h1.2
  have h3 := kp_d (u := u3) (v := v3) (own := p) h2.1 h2.2
  exact kp_d (u := u4) (v := v4) (own := p) h3.1 h3.2
theorem al_in {n d : Int} (hd : 0 < d) : InP alB n d ↔ 0 ≤ n ∧ n ≤ d := by
  unfold InP Aft Bef alB
  simp
  omega
theorem cut4_in {u1 v1 u2 v2 u3 v3 u4 v4 n d : Int} {o p : Bool} (hd : 0 < d) : InP (cut4 u1 v1 u2 v2 u3 v3 u4 v4 o p) n d ↔ (0 ≤ n ∧ n ≤ d) ∧ Hol u1 v1 o n d ∧ Hol u2 v2 o n d ∧ Hol u3 v3 p n d ∧ Hol u4 v4 p n d := by
  unfold cut4
  have h1 := kp_d (p := alB) (u := u1) (v := v1) (own := o) (by decide) (by decide)
  have h2 := kp_d (u := u2) (v := v2) (own := o) h1.1 h1.2
  have h3 := kp_d (u := u3) (v := v3) (own := p) h2.1 h2.2
  rw [kp_in h3.1 h3.2 hd, kp_in h2.1 h2.2 hd, kp_in h1.1 h1.2 hd, kp_in (by decide) (by decide) hd, al_in hd]
  simp only [and_assoc]
/-- the segment has a place in the box. -/
def Met (u1 v1 u2 v2 u3 v3 u4 v4 : Int) (o p : Bool) : Prop := ∃ n d, 0 < d ∧ (0 ≤ n ∧ n ≤ d) ∧ Hol u1 v1 o n d ∧ Hol u2 v2 o n d ∧ Hol u3 v3 p n d ∧ Hol u4 v4 p n d
theorem cut4_any (u1 v1 u2 v2 u3 v3 u4 v4 : Int) (o p : Bool) : anB (cut4 u1 v1 u2 v2 u3 v3 u4 v4 o p) = true ↔ Met u1 v1 u2 v2 u3 v3 u4 v4 o p := by
  obtain ⟨h1, h2⟩ := cut4_d u1 v1 u2 v2 u3 v3 u4 v4 o p
  rw [an_iff h1 h2]
  constructor
  · rintro ⟨n, d, hd, h⟩; exact ⟨n, d, hd, (cut4_in hd).1 h⟩
  · rintro ⟨n, d, hd, h⟩; exact ⟨n, d, hd, (cut4_in hd).2 h⟩
end Go.Proofs.Ytlglajaonmpljaa

namespace Go.Proofs.Ytlglajaonmpljaa
open Go.RowKit
set_option linter.unusedVariables false
set_option linter.unusedSimpArgs false
def fB5 (n : Int) : Bool := decide (-134217728 ≤ n) && decide (n ≤ 134217728)
set_option maxRecDepth 100000 in
set_option maxHeartbeats 4000000 in
theorem p_far5 {n : Int} {b : Bool} (hb : fB5 n = b) : PCall Try.prog 57 [vI n] (vB b) := by
  have cs : (-134217728 ≤ n ∧ n ≤ 134217728 ∧ b = true) ∨ (-134217728 ≤ n ∧ ¬ n ≤ 134217728 ∧ b = false) ∨ (¬ -134217728 ≤ n ∧ b = false) := by
    rw [← hb]; unfold fB5
    by_cases h1 : -134217728 ≤ n <;> by_cases h2 : n ≤ 134217728 <;> simp [h1, h2]
  clear hb
  rcases cs with ⟨h1, h2, rfl⟩ | ⟨h1, h2, rfl⟩ | ⟨h1, rfl⟩
  all_goals
    refine pcall_body (f := 57) Try.func57 rfl rfl rfl rfl ?_
    (repeat (first | ((with_reducible apply al_q); exact rfl) | ((with_reducible apply al_guard_b (c := true)); exact rfl; exact rfl; (first | assumption | exact decide_eq_true (by omega) | (simp only [Bool.not_eq_true', decide_eq_false_iff_not, decide_eq_true_eq, Bool.not_eq_false']; (first | done | omega)))) | ((with_reducible apply al_guard_b (c := false)); exact rfl; exact rfl; (first | assumption | exact decide_eq_false (by omega) | (simp only [Bool.not_eq_true', decide_eq_false_iff_not, decide_eq_true_eq, Bool.not_eq_false']; (first | done | omega)))) | ((with_reducible apply awp_seq)) | ((with_reducible apply athen_normal)) | ((with_reducible apply awp_region)) | ((with_reducible apply al_nil)) | ((with_reducible apply awp_ret))))
    (first | (refine apost_ret rfl (resl_tmp rfl resl_nil) ?_))
    first | exact AV.Le.refl _ | exact AV.Le.of_eq (by rw [decide_eq_true h2]; rfl) | exact AV.Le.of_eq (by rw [decide_eq_false h2]; rfl)
theorem rB5_f (x y : Int) : rB5 x y = (fB5 x && fB5 y) := by
  unfold rB5 fB5
  rw [Bool.eq_iff_iff]
  simp only [Bool.and_eq_true, decide_eq_true_eq]
  omega
set_option maxRecDepth 100000 in
set_option maxHeartbeats 4000000 in
theorem p_cRight {x y : Int} {b : Bool} (hb : rB5 x y = b) : PCall Try.prog 46 [vP x y] (vB b) := by
  have C1 := p_far5 (n := x) rfl
  have C2 := p_far5 (n := y) rfl
  rw [rB5_f] at hb
  cases q1 : fB5 x <;> cases q2 : fB5 y <;> rw [q1] at C1 <;> rw [q2] at C2 <;> rw [q1, q2] at hb <;> subst hb <;> clear q1 q2
  all_goals
    refine pcall_body (f := 46) Try.func46 rfl rfl rfl rfl ?_
    (repeat (first | ((with_reducible apply al_q); exact rfl) | (refine al_call1 rfl rfl rfl (by (first | exact C1 | exact C2)) rfl ?_) | ((with_reducible apply awp_seq)) | ((with_reducible apply athen_normal)) | ((with_reducible apply awp_region)) | ((with_reducible apply al_nil)) | ((with_reducible apply awp_ret))))
    (first | (refine apost_ret rfl (resl_tmp rfl resl_nil) ?_))
    exact AV.Le.refl _
end Go.Proofs.Ytlglajaonmpljaa

namespace Go.Proofs.Ytlglajaonmpljaa
open Go.RowKit
set_option linter.unusedVariables false
set_option linter.unusedSimpArgs false
theorem p_Compare {n m : Int} : PCall Try.prog 89 [vI n, vI m] (vI (icmp n m)) :=
  pcall_ev [.int .i64 n, .int .i64 m] (.int .i64 (icmp n m)) rfl rfl rfl rfl rfl fun W => Compare_any n m W
/-- a bound, as a value. -/
abbrev vBd (n d : Int) (o : Bool) : AV := .w (.agg [.c (.int .i64 n), .c (.int .i64 d), .c (.bool o)])
abbrev vBdB (x : Bd) : AV := vBd x.n x.d x.own
/-- numbers small enough for products. -/
def BdOK (x : Bd) : Prop := (-2000000000 ≤ x.n ∧ x.n ≤ 2000000000) ∧ 0 < x.d ∧ x.d ≤ 2000000000
theorem mul_bd2 {x y : Int} (h1 : -2000000000 ≤ x) (h2 : x ≤ 2000000000) (h3 : 0 ≤ y) (h4 : y ≤ 2000000000) : -4000000000000000000 ≤ x * y ∧ x * y ≤ 4000000000000000000 := by
  have a1 : x * y ≤ 2000000000 * y := Int.mul_le_mul_of_nonneg_right h2 h3
  have a2 : -2000000000 * y ≤ x * y := Int.mul_le_mul_of_nonneg_right h1 h3
  omega
theorem bd_wrap {x y : Bd} (hx : BdOK x) (hy : BdOK y) : IntKind.i64.wrap (x.n * y.d) = x.n * y.d := by
  obtain ⟨⟨a1, a2⟩, a3, a4⟩ := hx
  obtain ⟨⟨b1, b2⟩, b3, b4⟩ := hy
  have := mul_bd2 a1 a2 (by omega : (0 : Int) ≤ y.d) b4
  exact i64_wrap (by omega)
set_option maxRecDepth 100000 in
set_option maxHeartbeats 4000000 in
theorem p_xcompare' {n d m e c : Int} {o q : Bool} (C1 : PCall Try.prog 89 [vI (n * e), vI (m * d)] (vI c)) (w1 : IntKind.i64.wrap (n * e) = n * e) (w2 : IntKind.i64.wrap (m * d) = m * d) : PCall Try.prog 84 [vBd n d o, vBd m e q] (vI c) := by
  refine pcall_body (f := 84) Try.func84 rfl rfl rfl rfl ?_
  (repeat (first | ((with_reducible apply al_q); exact rfl) | ((with_reducible apply al_mul); (iterate 3 exact rfl); (first | exact i64_wrap (by omega) | assumption | rfl); exact rfl) | (refine al_call2 rfl rfl rfl rfl (by (first | exact C1)) rfl ?_) | ((with_reducible apply awp_seq)) | ((with_reducible apply athen_normal)) | ((with_reducible apply awp_region)) | ((with_reducible apply al_nil)) | ((with_reducible apply awp_ret))))
  (first | (refine apost_ret rfl (resl_tmp rfl resl_nil) ?_))
  exact AV.Le.refl _
theorem p_xcompare {x y : Bd} (hx : BdOK x) (hy : BdOK y) : PCall Try.prog 84 [vBdB x, vBdB y] (vI (cmB x y)) :=
  p_xcompare' p_Compare (bd_wrap hx hy) (bd_wrap hy hx)
set_option maxRecDepth 100000 in
set_option maxHeartbeats 4000000 in
theorem p_later' {n d m e c : Int} {o q : Bool} {r1 r2 : Int} {r3 : Bool} (C1 : PCall Try.prog 84 [vBd n d o, vBd m e q] (vI c)) (cs : (0 < c ∧ r1 = n ∧ r2 = d ∧ r3 = o) ∨ (¬ 0 < c ∧ c = 0 ∧ q = true ∧ r1 = n ∧ r2 = d ∧ r3 = o) ∨ (¬ 0 < c ∧ c = 0 ∧ q = false ∧ r1 = m ∧ r2 = e ∧ r3 = q) ∨ (¬ 0 < c ∧ ¬ c = 0 ∧ r1 = m ∧ r2 = e ∧ r3 = q)) : PCall Try.prog 87 [vBd n d o, vBd m e q] (vBd r1 r2 r3) := by
  rcases cs with ⟨q1, rfl, rfl, rfl⟩ | ⟨q1, q2, rfl, rfl, rfl, rfl⟩ | ⟨q1, q2, rfl, rfl, rfl, rfl⟩ | ⟨q1, q2, rfl, rfl, rfl⟩
  all_goals
    refine pcall_body (f := 87) Try.func87 rfl rfl rfl rfl ?_
    (repeat (first | ((with_reducible apply al_q); exact rfl) | (refine al_call2 rfl rfl rfl rfl (by (first | exact C1)) rfl ?_) | ((with_reducible apply al_guard_b (c := true)); exact rfl; exact rfl; (first | assumption | exact decide_eq_true (by omega) | (simp only [Bool.not_eq_true', decide_eq_false_iff_not, decide_eq_true_eq, Bool.not_eq_false']; (first | done | omega)))) | ((with_reducible apply al_guard_b (c := false)); exact rfl; exact rfl; (first | assumption | exact decide_eq_false (by omega) | (simp only [Bool.not_eq_true', decide_eq_false_iff_not, decide_eq_true_eq, Bool.not_eq_false']; (first | done | omega)))) | ((with_reducible apply awp_seq)) | ((with_reducible apply athen_normal)) | ((with_reducible apply awp_region)) | ((with_reducible apply al_nil)) | ((with_reducible apply awp_ret)) | ((with_reducible apply awp_skip)) | ((with_reducible apply athen_ret)) | ((with_reducible apply awp_cond_t); exact rfl) | ((with_reducible apply awp_cond_f); exact rfl)))
    (first | (refine apost_ret rfl (resl_agg rfl rfl rfl resl_nil) ?_) | (refine apost_ret rfl (resl_one rfl rfl rfl resl_nil) ?_))
    exact AV.Le.refl _
theorem p_later {x y : Bd} (hx : BdOK x) (hy : BdOK y) : PCall Try.prog 87 [vBdB x, vBdB y] (vBdB (laB x y)) := by
  refine p_later' (p_xcompare hx hy) ?_
  rcases la_cases x y with ⟨e, h⟩ | ⟨e, h⟩ <;> rw [e]
  · by_cases h1 : 0 < cmB x y
    · exact .inl ⟨h1, rfl, rfl, rfl⟩
    · rcases h with h | ⟨h, k⟩
      · exact absurd h h1
      · exact .inr (.inl ⟨h1, h, k, rfl, rfl, rfl⟩)
  · have h1 : ¬ 0 < cmB x y := fun k => h (.inl k)
    by_cases h2 : cmB x y = 0
    · refine .inr (.inr (.inl ⟨h1, h2, ?_, rfl, rfl, rfl⟩))
      cases hy : y.own with
      | false => rfl
      | true => exact absurd (.inr ⟨h2, hy⟩) h
    · exact .inr (.inr (.inr ⟨h1, h2, rfl, rfl, rfl⟩))
set_option maxRecDepth 100000 in
set_option maxHeartbeats 4000000 in
theorem p_earlier' {n d m e c : Int} {o q : Bool} {r1 r2 : Int} {r3 : Bool} (C1 : PCall Try.prog 84 [vBd n d o, vBd m e q] (vI c)) (cs : (c < 0 ∧ r1 = n ∧ r2 = d ∧ r3 = o) ∨ (¬ c < 0 ∧ c = 0 ∧ q = true ∧ r1 = n ∧ r2 = d ∧ r3 = o) ∨ (¬ c < 0 ∧ c = 0 ∧ q = false ∧ r1 = m ∧ r2 = e ∧ r3 = q) ∨ (¬ c < 0 ∧ ¬ c = 0 ∧ r1 = m ∧ r2 = e ∧ r3 = q)) : PCall Try.prog 88 [vBd n d o, vBd m e q] (vBd r1 r2 r3) := by
  rcases cs with ⟨q1, rfl, rfl, rfl⟩ | ⟨q1, q2, rfl, rfl, rfl, rfl⟩ | ⟨q1, q2, rfl, rfl, rfl, rfl⟩ | ⟨q1, q2, rfl, rfl, rfl⟩
  all_goals
    refine pcall_body (f := 88) Try.func88 rfl rfl rfl rfl ?_
    (repeat (first | ((with_reducible apply al_q); exact rfl) | (refine al_call2 rfl rfl rfl rfl (by (first | exact C1)) rfl ?_) | ((with_reducible apply al_guard_b (c := true)); exact rfl; exact rfl; (first | assumption | exact decide_eq_true (by omega) | (simp only [Bool.not_eq_true', decide_eq_false_iff_not, decide_eq_true_eq, Bool.not_eq_false']; (first | done | omega)))) | ((with_reducible apply al_guard_b (c := false)); exact rfl; exact rfl; (first | assumption | exact decide_eq_false (by omega) | (simp only [Bool.not_eq_true', decide_eq_false_iff_not, decide_eq_true_eq, Bool.not_eq_false']; (first | done | omega)))) | ((with_reducible apply awp_seq)) | ((with_reducible apply athen_normal)) | ((with_reducible apply awp_region)) | ((with_reducible apply al_nil)) | ((with_reducible apply awp_ret)) | ((with_reducible apply awp_skip)) | ((with_reducible apply athen_ret)) | ((with_reducible apply awp_cond_t); exact rfl) | ((with_reducible apply awp_cond_f); exact rfl)))
    (first | (refine apost_ret rfl (resl_agg rfl rfl rfl resl_nil) ?_) | (refine apost_ret rfl (resl_one rfl rfl rfl resl_nil) ?_))
    exact AV.Le.refl _
theorem p_earlier {x y : Bd} (hx : BdOK x) (hy : BdOK y) : PCall Try.prog 88 [vBdB x, vBdB y] (vBdB (eaB x y)) := by
  refine p_earlier' (p_xcompare hx hy) ?_
  rcases ea_cases x y with ⟨e, h⟩ | ⟨e, h⟩ <;> rw [e]
  · by_cases h1 : cmB x y < 0
    · exact .inl ⟨h1, rfl, rfl, rfl⟩
    · rcases h with h | ⟨h, k⟩
      · exact absurd h h1
      · exact .inr (.inl ⟨h1, h, k, rfl, rfl, rfl⟩)
  · have h1 : ¬ cmB x y < 0 := fun k => h (.inl k)
    by_cases h2 : cmB x y = 0
    · refine .inr (.inr (.inl ⟨h1, h2, ?_, rfl, rfl, rfl⟩))
      cases hy : y.own with
      | false => rfl
      | true => exact absurd (.inr ⟨h2, hy⟩) h
    · exact .inr (.inr (.inr ⟨h1, h2, rfl, rfl, rfl⟩))
/-- what is left of a segment, as a value. -/
abbrev vPart (a1 a2 b1 b2 n d : Int) (o : Bool) (m e : Int) (q : Bool) : AV := .w (.agg [.c (.int .i64 a1), .c (.int .i64 a2), .c (.int .i64 b1), .c (.int .i64 b2), .c (.int .i64 n), .c (.int .i64 d), .c (.bool o), .c (.int .i64 m), .c (.int .i64 e), .c (.bool q)])
abbrev vPaB (a1 a2 b1 b2 : Int) (p : Pa) : AV := vPart a1 a2 b1 b2 p.f.n p.f.d p.f.own p.t.n p.t.d p.t.own
def PaOK (p : Pa) : Prop := BdOK p.f ∧ BdOK p.t
set_option maxRecDepth 100000 in
set_option maxHeartbeats 4000000 in
theorem p_keep' {a1 a2 b1 b2 n d m e u v : Int} {o q w : Bool} {n' d' m' e' : Int} {o' q' : Bool} (hu : -1100000000 ≤ u ∧ u ≤ 1100000000) (hv : -1100000000 ≤ v ∧ v ≤ 1100000000)
    (cs : (0 < v - u ∧ PCall Try.prog 87 [vBd n d o, vBd (-u) (v - u) w] (vBd n' d' o') ∧ m' = m ∧ e' = e ∧ q' = q) ∨ (¬ 0 < v - u ∧ v - u < 0 ∧ PCall Try.prog 88 [vBd m e q, vBd u (-(v - u)) w] (vBd m' e' q') ∧ n' = n ∧ d' = d ∧ o' = o)
      ∨ (¬ 0 < v - u ∧ ¬ v - u < 0 ∧ u < 0 ∧ n' = 1 ∧ d' = 1 ∧ o' = false ∧ m' = 0 ∧ e' = 1 ∧ q' = false) ∨ (¬ 0 < v - u ∧ ¬ v - u < 0 ∧ ¬ u < 0 ∧ u = 0 ∧ w = false ∧ n' = 1 ∧ d' = 1 ∧ o' = false ∧ m' = 0 ∧ e' = 1 ∧ q' = false)
      ∨ (¬ 0 < v - u ∧ ¬ v - u < 0 ∧ ¬ u < 0 ∧ u = 0 ∧ w = true ∧ n' = n ∧ d' = d ∧ o' = o ∧ m' = m ∧ e' = e ∧ q' = q) ∨ (¬ 0 < v - u ∧ ¬ v - u < 0 ∧ ¬ u < 0 ∧ ¬ u = 0 ∧ n' = n ∧ d' = d ∧ o' = o ∧ m' = m ∧ e' = e ∧ q' = q)) :
    PCall Try.prog 83 [vPart a1 a2 b1 b2 n d o m e q, vI u, vI v, vB w] (vPart a1 a2 b1 b2 n' d' o' m' e' q') := by
  rcases cs with ⟨q1, C1, rfl, rfl, rfl⟩ | ⟨q1, q2, C1, rfl, rfl, rfl⟩ | ⟨q1, q2, q3, rfl, rfl, rfl, rfl, rfl, rfl⟩ | ⟨q1, q2, q3, q4, rfl, rfl, rfl, rfl, rfl, rfl, rfl⟩ | ⟨q1, q2, q3, q4, rfl, rfl, rfl, rfl, rfl, rfl, rfl⟩ | ⟨q1, q2, q3, q4, rfl, rfl, rfl, rfl, rfl, rfl⟩
  · refine pcall_body (f := 83) Try.func83 rfl rfl rfl rfl ?_
    (repeat (first | ((with_reducible apply al_q); exact rfl) | ((with_reducible apply al_sub); (iterate 3 exact rfl); (first | exact i64_wrap (by omega) | assumption | rfl); exact rfl) | ((with_reducible apply al_neg); exact rfl; exact rfl; (first | exact i64_wrap (by omega) | assumption | rfl); exact rfl) | (refine al_call2 rfl rfl rfl rfl (by (first | exact C1)) rfl ?_) | ((with_reducible apply awp_seq)) | ((with_reducible apply athen_normal)) | ((with_reducible apply awp_region)) | ((with_reducible apply al_nil)) | ((with_reducible apply awp_ret)) | ((with_reducible apply awp_block)) | ((with_reducible apply ablock_normal)) | ((with_reducible apply awp_cond_1); exact rfl; (first | assumption | exact decide_eq_true (by omega) | (simp only [Bool.not_eq_true', decide_eq_false_iff_not, decide_eq_true_eq, Bool.not_eq_false']; (first | done | omega))))))
    (first | (refine apost_ret rfl (resl_agg rfl rfl rfl resl_nil) ?_) | (refine apost_ret rfl (resl_one rfl rfl rfl resl_nil) ?_))
    exact AV.Le.refl _
  · refine pcall_body (f := 83) Try.func83 rfl rfl rfl rfl ?_
    (repeat (first | ((with_reducible apply al_q); exact rfl) | ((with_reducible apply al_sub); (iterate 3 exact rfl); (first | exact i64_wrap (by omega) | assumption | rfl); exact rfl) | ((with_reducible apply al_neg); exact rfl; exact rfl; (first | exact i64_wrap (by omega) | assumption | rfl); exact rfl) | (refine al_call2 rfl rfl rfl rfl (by (first | exact C1)) rfl ?_) | ((with_reducible apply awp_seq)) | ((with_reducible apply athen_normal)) | ((with_reducible apply awp_region)) | ((with_reducible apply al_nil)) | ((with_reducible apply awp_ret)) | ((with_reducible apply awp_block)) | ((with_reducible apply ablock_normal)) | ((with_reducible apply awp_cond_1); exact rfl; (first | assumption | exact decide_eq_true (by omega) | (simp only [Bool.not_eq_true', decide_eq_false_iff_not, decide_eq_true_eq, Bool.not_eq_false']; (first | done | omega)))) | ((with_reducible apply awp_cond_0); exact rfl; (first | assumption | exact decide_eq_false (by omega) | (simp only [Bool.not_eq_true', decide_eq_false_iff_not, decide_eq_true_eq, Bool.not_eq_false']; (first | done | omega))))))
    (first | (refine apost_ret rfl (resl_agg rfl rfl rfl resl_nil) ?_) | (refine apost_ret rfl (resl_one rfl rfl rfl resl_nil) ?_))
    exact AV.Le.refl _
  all_goals
    refine pcall_body (f := 83) Try.func83 rfl rfl rfl rfl ?_
    (repeat (first | ((with_reducible apply al_q); exact rfl) | ((with_reducible apply al_sub); (iterate 3 exact rfl); (first | exact i64_wrap (by omega) | assumption | rfl); exact rfl) | ((with_reducible apply al_guard_b (c := true)); exact rfl; exact rfl; (first | assumption | exact decide_eq_true (by omega) | (simp only [Bool.not_eq_true', decide_eq_false_iff_not, decide_eq_true_eq, Bool.not_eq_false']; (first | done | omega)))) | ((with_reducible apply al_guard_b (c := false)); exact rfl; exact rfl; (first | assumption | exact decide_eq_false (by omega) | (simp only [Bool.not_eq_true', decide_eq_false_iff_not, decide_eq_true_eq, Bool.not_eq_false']; (first | done | omega)))) | ((with_reducible apply awp_seq)) | ((with_reducible apply athen_normal)) | ((with_reducible apply awp_region)) | ((with_reducible apply al_nil)) | ((with_reducible apply awp_ret)) | ((with_reducible apply awp_skip)) | ((with_reducible apply awp_block)) | ((with_reducible apply ablock_normal)) | ((with_reducible apply awp_cond_t); exact rfl) | ((with_reducible apply awp_cond_f); exact rfl) | ((with_reducible apply awp_cond_1); exact rfl; (first | assumption | exact decide_eq_true (by omega) | (simp only [Bool.not_eq_true', decide_eq_false_iff_not, decide_eq_true_eq, Bool.not_eq_false']; (first | done | omega)))) | ((with_reducible apply awp_cond_0); exact rfl; (first | assumption | exact decide_eq_false (by omega) | (simp only [Bool.not_eq_true', decide_eq_false_iff_not, decide_eq_true_eq, Bool.not_eq_false']; (first | done | omega))))))
    (first | (refine apost_ret rfl (resl_agg rfl rfl rfl resl_nil) ?_) | (refine apost_ret rfl (resl_one rfl rfl rfl resl_nil) ?_))
    exact AV.Le.refl _
theorem la_ok {x y : Bd} (hx : BdOK x) (hy : BdOK y) : BdOK (laB x y) := by unfold laB; split <;> assumption
theorem ea_ok {x y : Bd} (hx : BdOK x) (hy : BdOK y) : BdOK (eaB x y) := by unfold eaB; split <;> assumption
theorem kp_ok {p : Pa} {u v : Int} {w : Bool} (hp : PaOK p) (hu : -900000000 ≤ u ∧ u ≤ 900000000) (hv : -900000000 ≤ v ∧ v ≤ 900000000) : PaOK (kpB p u v w) := by
  unfold kpB
  by_cases h1 : 0 < v - u
  · rw [if_pos h1]; exact ⟨la_ok hp.1 ⟨by simp only; omega, by simp only; omega⟩, hp.2⟩
  · rw [if_neg h1]
    by_cases h2 : v - u < 0
    · rw [if_pos h2]; exact ⟨hp.1, ea_ok hp.2 ⟨by simp only; omega, by simp only; omega⟩⟩
    · rw [if_neg h2]
      split
      · exact ⟨⟨by decide, by decide⟩, ⟨by decide, by decide⟩⟩
      · exact hp
theorem p_keep {a1 a2 b1 b2 u v : Int} {w : Bool} {p : Pa} (hp : PaOK p) (hu : -900000000 ≤ u ∧ u ≤ 900000000) (hv : -900000000 ≤ v ∧ v ≤ 900000000) : PCall Try.prog 83 [vPaB a1 a2 b1 b2 p, vI u, vI v, vB w] (vPaB a1 a2 b1 b2 (kpB p u v w)) := by
  refine p_keep' (by omega) (by omega) ?_
  unfold kpB
  by_cases h1 : 0 < v - u
  · rw [if_pos h1]
    exact .inl ⟨h1, p_later hp.1 (y := ⟨-u, v - u, w⟩) ⟨by simp only; omega, by simp only; omega⟩, rfl, rfl, rfl⟩
  · rw [if_neg h1]
    by_cases h2 : v - u < 0
    · rw [if_pos h2]
      exact .inr (.inl ⟨h1, h2, p_earlier hp.2 (y := ⟨u, -(v - u), w⟩) ⟨by simp only; omega, by simp only; omega⟩, rfl, rfl, rfl⟩)
    · rw [if_neg h2]
      by_cases h3 : u < 0
      · rw [if_pos (.inl h3)]
        exact .inr (.inr (.inl ⟨h1, h2, h3, rfl, rfl, rfl, rfl, rfl, rfl⟩))
      · by_cases h4 : u = 0
        · cases w with
          | false => rw [if_pos (.inr ⟨h4, rfl⟩)]; exact .inr (.inr (.inr (.inl ⟨h1, h2, h3, h4, rfl, rfl, rfl, rfl, rfl, rfl, rfl⟩)))
          | true => rw [if_neg (by simp [h3])]; exact .inr (.inr (.inr (.inr (.inl ⟨h1, h2, h3, h4, rfl, rfl, rfl, rfl, rfl, rfl, rfl⟩))))
        · rw [if_neg (by simp [h3, h4])]
          exact .inr (.inr (.inr (.inr (.inr ⟨h1, h2, h3, h4, rfl, rfl, rfl, rfl, rfl, rfl⟩))))
end Go.Proofs.Ytlglajaonmpljaa

namespace Go.Proofs.Ytlglajaonmpljaa
open Go.RowKit
set_option linter.unusedVariables false
set_option linter.unusedSimpArgs false
instance iPixB_1 : IPart Try.prog 111 4 false 1 := ⟨by kernel_rfl⟩
abbrev vBox (l1 l2 h1 h2 : Int) (o p : Bool) : AV := .w (.agg [.c (.int .i64 l1), .c (.int .i64 l2), .c (.int .i64 h1), .c (.int .i64 h2), .c (.bool o), .c (.bool p)])
/-- a corner's number may be so great. -/
def cb6 (n : Int) : Bool := decide (-536870912 ≤ n) && decide (n ≤ 536870912)
theorem cb6_iff {n : Int} : cb6 n = true ↔ -536870912 ≤ n ∧ n ≤ 536870912 := by unfold cb6; simp
def co6 (x y : Int) : Bool := cb6 x && cb6 y
theorem co6_iff {x y : Int} : co6 x y = true ↔ (-536870912 ≤ x ∧ x ≤ 536870912) ∧ -536870912 ≤ y ∧ y ≤ 536870912 := by unfold co6; rw [Bool.and_eq_true, cb6_iff, cb6_iff]
def kd6 (k : Int) : Bool := decide (0 ≤ k) && decide (k ≤ 2)
set_option maxRecDepth 100000 in
set_option maxHeartbeats 4000000 in
theorem p_cutLeft {a1 a2 b1 b2 l1 l2 h1 h2 n d m e n' d' m' e' : Int} {o p q r q' r' : Bool} (ha : -134217728 ≤ a1 ∧ a1 ≤ 134217728) (hb : -134217728 ≤ b1 ∧ b1 ≤ 134217728) (hl : -536870912 ≤ l1 ∧ l1 ≤ 536870912)
    (C1 : PCall Try.prog 83 [vPart a1 a2 b1 b2 n d q m e r, vI (2 * a1 - l1), vI (2 * b1 - l1), vB o] (vPart a1 a2 b1 b2 n' d' q' m' e' r')) : PCall Try.prog 61 [vBox l1 l2 h1 h2 o p, vPart a1 a2 b1 b2 n d q m e r] (vPart a1 a2 b1 b2 n' d' q' m' e' r') := by
  refine pcall_body (f := 61) Try.func61 rfl rfl rfl rfl ?_
  (repeat (first | ((with_reducible apply al_q); exact rfl) | ((with_reducible apply al_sub); (iterate 3 exact rfl); (first | exact i64_wrap (by omega) | assumption | rfl); exact rfl) | ((with_reducible apply al_mul); (iterate 3 exact rfl); (first | exact i64_wrap (by omega) | assumption | rfl); exact rfl) | (refine al_call4 rfl rfl rfl rfl rfl rfl (by (first | exact C1)) rfl ?_) | ((with_reducible apply awp_seq)) | ((with_reducible apply athen_normal)) | ((with_reducible apply awp_region)) | ((with_reducible apply al_nil)) | ((with_reducible apply awp_ret))))
  (first | (refine apost_ret rfl (resl_agg rfl rfl rfl resl_nil) ?_) | (refine apost_ret rfl (resl_one rfl rfl rfl resl_nil) ?_))
  exact AV.Le.refl _
set_option maxRecDepth 100000 in
set_option maxHeartbeats 4000000 in
theorem p_cutBelow {a1 a2 b1 b2 l1 l2 h1 h2 n d m e n' d' m' e' : Int} {o p q r q' r' : Bool} (ha : -134217728 ≤ a2 ∧ a2 ≤ 134217728) (hb : -134217728 ≤ b2 ∧ b2 ≤ 134217728) (hl : -536870912 ≤ l2 ∧ l2 ≤ 536870912)
    (C1 : PCall Try.prog 83 [vPart a1 a2 b1 b2 n d q m e r, vI (2 * a2 - l2), vI (2 * b2 - l2), vB o] (vPart a1 a2 b1 b2 n' d' q' m' e' r')) : PCall Try.prog 62 [vBox l1 l2 h1 h2 o p, vPart a1 a2 b1 b2 n d q m e r] (vPart a1 a2 b1 b2 n' d' q' m' e' r') := by
  refine pcall_body (f := 62) Try.func62 rfl rfl rfl rfl ?_
  (repeat (first | ((with_reducible apply al_q); exact rfl) | ((with_reducible apply al_sub); (iterate 3 exact rfl); (first | exact i64_wrap (by omega) | assumption | rfl); exact rfl) | ((with_reducible apply al_mul); (iterate 3 exact rfl); (first | exact i64_wrap (by omega) | assumption | rfl); exact rfl) | (refine al_call4 rfl rfl rfl rfl rfl rfl (by (first | exact C1)) rfl ?_) | ((with_reducible apply awp_seq)) | ((with_reducible apply athen_normal)) | ((with_reducible apply awp_region)) | ((with_reducible apply al_nil)) | ((with_reducible apply awp_ret))))
  (first | (refine apost_ret rfl (resl_agg rfl rfl rfl resl_nil) ?_) | (refine apost_ret rfl (resl_one rfl rfl rfl resl_nil) ?_))
  exact AV.Le.refl _
set_option maxRecDepth 100000 in
set_option maxHeartbeats 4000000 in
theorem p_cutRight {a1 a2 b1 b2 l1 l2 h1 h2 n d m e n' d' m' e' : Int} {o p q r q' r' : Bool} (ha : -134217728 ≤ a1 ∧ a1 ≤ 134217728) (hb : -134217728 ≤ b1 ∧ b1 ≤ 134217728) (hl : -536870912 ≤ h1 ∧ h1 ≤ 536870912)
    (C1 : PCall Try.prog 83 [vPart a1 a2 b1 b2 n d q m e r, vI (h1 - 2 * a1), vI (h1 - 2 * b1), vB p] (vPart a1 a2 b1 b2 n' d' q' m' e' r')) : PCall Try.prog 63 [vBox l1 l2 h1 h2 o p, vPart a1 a2 b1 b2 n d q m e r] (vPart a1 a2 b1 b2 n' d' q' m' e' r') := by
  refine pcall_body (f := 63) Try.func63 rfl rfl rfl rfl ?_
  (repeat (first | ((with_reducible apply al_q); exact rfl) | ((with_reducible apply al_sub); (iterate 3 exact rfl); (first | exact i64_wrap (by omega) | assumption | rfl); exact rfl) | ((with_reducible apply al_mul); (iterate 3 exact rfl); (first | exact i64_wrap (by omega) | assumption | rfl); exact rfl) | (refine al_call4 rfl rfl rfl rfl rfl rfl (by (first | exact C1)) rfl ?_) | ((with_reducible apply awp_seq)) | ((with_reducible apply athen_normal)) | ((with_reducible apply awp_region)) | ((with_reducible apply al_nil)) | ((with_reducible apply awp_ret))))
  (first | (refine apost_ret rfl (resl_agg rfl rfl rfl resl_nil) ?_) | (refine apost_ret rfl (resl_one rfl rfl rfl resl_nil) ?_))
  exact AV.Le.refl _
set_option maxRecDepth 100000 in
set_option maxHeartbeats 4000000 in
theorem p_cutAbove {a1 a2 b1 b2 l1 l2 h1 h2 n d m e n' d' m' e' : Int} {o p q r q' r' : Bool} (ha : -134217728 ≤ a2 ∧ a2 ≤ 134217728) (hb : -134217728 ≤ b2 ∧ b2 ≤ 134217728) (hl : -536870912 ≤ h2 ∧ h2 ≤ 536870912)
    (C1 : PCall Try.prog 83 [vPart a1 a2 b1 b2 n d q m e r, vI (h2 - 2 * a2), vI (h2 - 2 * b2), vB p] (vPart a1 a2 b1 b2 n' d' q' m' e' r')) : PCall Try.prog 64 [vBox l1 l2 h1 h2 o p, vPart a1 a2 b1 b2 n d q m e r] (vPart a1 a2 b1 b2 n' d' q' m' e' r') := by
  refine pcall_body (f := 64) Try.func64 rfl rfl rfl rfl ?_
  (repeat (first | ((with_reducible apply al_q); exact rfl) | ((with_reducible apply al_sub); (iterate 3 exact rfl); (first | exact i64_wrap (by omega) | assumption | rfl); exact rfl) | ((with_reducible apply al_mul); (iterate 3 exact rfl); (first | exact i64_wrap (by omega) | assumption | rfl); exact rfl) | (refine al_call4 rfl rfl rfl rfl rfl rfl (by (first | exact C1)) rfl ?_) | ((with_reducible apply awp_seq)) | ((with_reducible apply athen_normal)) | ((with_reducible apply awp_region)) | ((with_reducible apply al_nil)) | ((with_reducible apply awp_ret))))
  (first | (refine apost_ret rfl (resl_agg rfl rfl rfl resl_nil) ?_) | (refine apost_ret rfl (resl_one rfl rfl rfl resl_nil) ?_))
  exact AV.Le.refl _
set_option maxRecDepth 100000 in
set_option maxHeartbeats 4000000 in
theorem p_allOf {a1 a2 b1 b2 : Int} : PCall Try.prog 60 [vP a1 a2, vP b1 b2] (vPaB a1 a2 b1 b2 alB) := by
  refine pcall_body (f := 60) Try.func60 rfl rfl rfl rfl ?_
  (repeat (first | ((with_reducible apply al_q); exact rfl) | ((with_reducible apply awp_seq)) | ((with_reducible apply athen_normal)) | ((with_reducible apply awp_region)) | ((with_reducible apply al_nil)) | ((with_reducible apply awp_ret))))
  (first | (refine apost_ret rfl (resl_agg rfl rfl rfl resl_nil) ?_) | (refine apost_ret rfl (resl_one rfl rfl rfl resl_nil) ?_))
  exact AV.Le.refl _
set_option maxRecDepth 100000 in
set_option maxHeartbeats 4000000 in
theorem p_hasAny' {a1 a2 b1 b2 n d m e c : Int} {o q r : Bool} (C1 : PCall Try.prog 84 [vBd n d o, vBd m e q] (vI c)) (cs : (c < 0 ∧ r = true) ∨ (¬ c < 0 ∧ c = 0 ∧ o = true ∧ r = q) ∨ (¬ c < 0 ∧ c = 0 ∧ o = false ∧ r = false) ∨ (¬ c < 0 ∧ ¬ c = 0 ∧ r = false)) : PCall Try.prog 65 [vPart a1 a2 b1 b2 n d o m e q] (vB r) := by
  rcases cs with ⟨q1, rfl⟩ | ⟨q1, q2, rfl, rfl⟩ | ⟨q1, q2, rfl, rfl⟩ | ⟨q1, q2, rfl⟩
  all_goals
    refine pcall_body (f := 65) Try.func65 rfl rfl rfl rfl ?_
    (repeat (first | ((with_reducible apply al_q); exact rfl) | (refine al_call2 rfl rfl rfl rfl (by (first | exact C1)) rfl ?_) | ((with_reducible apply al_guard_b (c := true)); exact rfl; exact rfl; (first | assumption | exact decide_eq_true (by omega) | (simp only [Bool.not_eq_true', decide_eq_false_iff_not, decide_eq_true_eq, Bool.not_eq_false']; (first | done | omega)))) | ((with_reducible apply al_guard_b (c := false)); exact rfl; exact rfl; (first | assumption | exact decide_eq_false (by omega) | (simp only [Bool.not_eq_true', decide_eq_false_iff_not, decide_eq_true_eq, Bool.not_eq_false']; (first | done | omega)))) | ((with_reducible apply awp_seq)) | ((with_reducible apply athen_normal)) | ((with_reducible apply awp_region)) | ((with_reducible apply al_nil)) | ((with_reducible apply awp_ret))))
    (first | (refine apost_ret rfl (resl_tmp rfl resl_nil) ?_))
    exact AV.Le.refl _
theorem p_hasAny {a1 a2 b1 b2 : Int} {p : Pa} (hp : PaOK p) : PCall Try.prog 65 [vPaB a1 a2 b1 b2 p] (vB (anB p)) := by
  refine p_hasAny' (p_xcompare hp.1 hp.2) ?_
  unfold anB
  by_cases h1 : cmB p.f p.t < 0
  · exact .inl ⟨h1, by rw [decide_eq_true h1]; rfl⟩
  · rw [decide_eq_false h1]
    by_cases h2 : cmB p.f p.t = 0
    · rw [decide_eq_true h2]
      cases h3 : p.f.own with
      | true => exact .inr (.inl ⟨h1, h2, rfl, rfl⟩)
      | false => exact .inr (.inr (.inl ⟨h1, h2, rfl, rfl⟩))
    · exact .inr (.inr (.inr ⟨h1, h2, by rw [decide_eq_false h2]; rfl⟩))
set_option maxRecDepth 100000 in
set_option maxHeartbeats 4000000 in
theorem p_far6 {n : Int} {b : Bool} (hb : cb6 n = b) : PCall Try.prog 82 [vI n] (vB b) := by
  have cs : (-536870912 ≤ n ∧ n ≤ 536870912 ∧ b = true) ∨ (-536870912 ≤ n ∧ ¬ n ≤ 536870912 ∧ b = false) ∨ (¬ -536870912 ≤ n ∧ b = false) := by
    rw [← hb]; unfold cb6
    by_cases h1 : -536870912 ≤ n <;> by_cases h2 : n ≤ 536870912 <;> simp [h1, h2]
  clear hb
  rcases cs with ⟨h1, h2, rfl⟩ | ⟨h1, h2, rfl⟩ | ⟨h1, rfl⟩
  all_goals
    refine pcall_body (f := 82) Try.func82 rfl rfl rfl rfl ?_
    (repeat (first | ((with_reducible apply al_q); exact rfl) | ((with_reducible apply al_guard_b (c := true)); exact rfl; exact rfl; (first | assumption | exact decide_eq_true (by omega) | (simp only [Bool.not_eq_true', decide_eq_false_iff_not, decide_eq_true_eq, Bool.not_eq_false']; (first | done | omega)))) | ((with_reducible apply al_guard_b (c := false)); exact rfl; exact rfl; (first | assumption | exact decide_eq_false (by omega) | (simp only [Bool.not_eq_true', decide_eq_false_iff_not, decide_eq_true_eq, Bool.not_eq_false']; (first | done | omega)))) | ((with_reducible apply awp_seq)) | ((with_reducible apply athen_normal)) | ((with_reducible apply awp_region)) | ((with_reducible apply al_nil)) | ((with_reducible apply awp_ret))))
    (first | (refine apost_ret rfl (resl_tmp rfl resl_nil) ?_))
    first | exact AV.Le.refl _ | exact AV.Le.of_eq (by rw [decide_eq_true h2]; rfl) | exact AV.Le.of_eq (by rw [decide_eq_false h2]; rfl)
set_option maxRecDepth 100000 in
set_option maxHeartbeats 4000000 in
theorem p_isCorner {x y : Int} {b : Bool} (hb : co6 x y = b) : PCall Try.prog 58 [vP x y] (vB b) := by
  have C1 := p_far6 (n := x) rfl
  have C2 := p_far6 (n := y) rfl
  unfold co6 at hb
  cases q1 : cb6 x <;> cases q2 : cb6 y <;> rw [q1] at C1 <;> rw [q2] at C2 <;> rw [q1, q2] at hb <;> subst hb <;> clear q1 q2
  all_goals
    refine pcall_body (f := 58) Try.func58 rfl rfl rfl rfl ?_
    (repeat (first | ((with_reducible apply al_q); exact rfl) | (refine al_call1 rfl rfl rfl (by (first | exact C1 | exact C2)) rfl ?_) | ((with_reducible apply awp_seq)) | ((with_reducible apply athen_normal)) | ((with_reducible apply awp_region)) | ((with_reducible apply al_nil)) | ((with_reducible apply awp_ret))))
    (first | (refine apost_ret rfl (resl_tmp rfl resl_nil) ?_))
    exact AV.Le.refl _
set_option maxRecDepth 100000 in
set_option maxHeartbeats 4000000 in
theorem p_isKind {k : Int} {b : Bool} (hb : kd6 k = b) : PCall Try.prog 59 [vI k] (vB b) := by
  have cs : (k = 0 ∧ b = true) ∨ (¬ k = 0 ∧ k = 1 ∧ b = true) ∨ (¬ k = 0 ∧ ¬ k = 1 ∧ k = 2 ∧ b = true) ∨ (¬ k = 0 ∧ ¬ k = 1 ∧ ¬ k = 2 ∧ b = false) := by
    rw [← hb]; unfold kd6
    by_cases h1 : k = 0
    · exact .inl ⟨h1, by subst h1; rfl⟩
    · by_cases h2 : k = 1
      · exact .inr (.inl ⟨h1, h2, by subst h2; rfl⟩)
      · by_cases h3 : k = 2
        · exact .inr (.inr (.inl ⟨h1, h2, h3, by subst h3; rfl⟩))
        · refine .inr (.inr (.inr ⟨h1, h2, h3, ?_⟩))
          rw [Bool.and_eq_false_iff, decide_eq_false_iff_not, decide_eq_false_iff_not]
          omega
  clear hb
  rcases cs with ⟨h1, rfl⟩ | ⟨h1, h2, rfl⟩ | ⟨h1, h2, h3, rfl⟩ | ⟨h1, h2, h3, rfl⟩
  all_goals
    refine pcall_body (f := 59) Try.func59 rfl rfl rfl rfl ?_
    (repeat (first | ((with_reducible apply al_q); exact rfl) | ((with_reducible apply al_guard_b (c := true)); exact rfl; exact rfl; (first | assumption | exact decide_eq_true (by omega) | (simp only [Bool.not_eq_true', decide_eq_false_iff_not, decide_eq_true_eq, Bool.not_eq_false']; (first | done | omega)))) | ((with_reducible apply al_guard_b (c := false)); exact rfl; exact rfl; (first | assumption | exact decide_eq_false (by omega) | (simp only [Bool.not_eq_true', decide_eq_false_iff_not, decide_eq_true_eq, Bool.not_eq_false']; (first | done | omega)))) | ((with_reducible apply awp_seq)) | ((with_reducible apply athen_normal)) | ((with_reducible apply awp_region)) | ((with_reducible apply al_nil)) | ((with_reducible apply awp_ret))))
    (first | (refine apost_ret rfl (resl_tmp rfl resl_nil) ?_))
    first | exact AV.Le.refl _ | exact AV.Le.of_eq (by rw [decide_eq_true h3]; rfl) | exact AV.Le.of_eq (by rw [decide_eq_false h3]; rfl)
set_option maxRecDepth 100000 in
set_option maxHeartbeats 8000000 in
theorem p_Meets' {a1 a2 b1 b2 l1 l2 h1 h2 k : Int} {o p r : Bool} {n1 d1 m1 e1 n2 d2 m2 e2 n3 d3 m3 e3 n4 d4 m4 e4 : Int} {q1 r1 q2 r2 q3 r3 q4 r4 : Bool} (R1 : PCall Try.prog 46 [vP a1 a2] (vB true)) (R2 : PCall Try.prog 46 [vP b1 b2] (vB true)) (K1 : PCall Try.prog 58 [vP l1 l2] (vB true)) (K2 : PCall Try.prog 58 [vP h1 h2] (vB true)) (K3 : PCall Try.prog 59 [vI k] (vB true))
    (eo : (!decide (k = 2)) = o) (ep : decide (k = 1) = p) (A0 : PCall Try.prog 60 [vP a1 a2, vP b1 b2] (vPart a1 a2 b1 b2 0 1 true 1 1 true))
    (C1 : PCall Try.prog 61 [vBox l1 l2 h1 h2 o p, vPart a1 a2 b1 b2 0 1 true 1 1 true] (vPart a1 a2 b1 b2 n1 d1 q1 m1 e1 r1))
    (C2 : PCall Try.prog 62 [vBox l1 l2 h1 h2 o p, vPart a1 a2 b1 b2 n1 d1 q1 m1 e1 r1] (vPart a1 a2 b1 b2 n2 d2 q2 m2 e2 r2))
    (C3 : PCall Try.prog 63 [vBox l1 l2 h1 h2 o p, vPart a1 a2 b1 b2 n2 d2 q2 m2 e2 r2] (vPart a1 a2 b1 b2 n3 d3 q3 m3 e3 r3))
    (C4 : PCall Try.prog 64 [vBox l1 l2 h1 h2 o p, vPart a1 a2 b1 b2 n3 d3 q3 m3 e3 r3] (vPart a1 a2 b1 b2 n4 d4 q4 m4 e4 r4))
    (H1 : PCall Try.prog 65 [vPart a1 a2 b1 b2 n4 d4 q4 m4 e4 r4] (vB r)) :
    PCall Try.prog 47 [vP a1 a2, vP b1 b2, vP l1 l2, vP h1 h2, vI k] (vB r) := by
  subst eo
  subst ep
  refine pcall_body (f := 47) Try.func47 rfl rfl rfl rfl ?_
  (repeat (first | ((with_reducible apply al_q); exact rfl) | ((with_reducible apply al_mkfnb); (iterate 4 exact rfl)) | (refine al_call1 rfl rfl rfl (by (first | exact R1 | exact R2 | exact K1 | exact K2 | exact K3 | exact A0)) rfl ?_) | (refine al_call2 rfl rfl rfl rfl (by (first | exact R1 | exact R2 | exact K1 | exact K2 | exact K3 | exact A0)) rfl ?_) | ((with_reducible apply awp_seq)) | ((with_reducible apply athen_normal)) | ((with_reducible apply awp_region)) | ((with_reducible apply al_nil)) | ((with_reducible apply awp_skip)) | ((with_reducible apply awp_block)) | ((with_reducible apply awp_cond_f); exact rfl)))
  refine awp_roll 5 ?_
  (repeat (first | ((with_reducible apply al_q); exact rfl) | ((with_reducible apply al_add); (iterate 3 exact rfl); (first | exact i64_wrap (by omega) | assumption | rfl); exact rfl) | ((with_reducible apply al_indexV1); (iterate 3 exact rfl); (first | decide | omega); (first | decide | omega); (first | assumption | rfl); exact rfl) | (refine al_call1 rfl rfl rfl (by (first | exact C1 | exact C2 | exact C3 | exact C4 | exact H1)) rfl ?_) | (refine al_callb (bs := [_]) (args := [_]) rfl rfl rfl rfl (by (first | exact C1 | exact C2 | exact C3 | exact C4 | exact H1)) rfl ?_) | ((with_reducible apply awp_seq)) | ((with_reducible apply athen_normal)) | ((with_reducible apply awp_region)) | ((with_reducible apply al_nil)) | ((with_reducible apply awp_ret)) | ((with_reducible apply awp_skip)) | ((with_reducible apply awp_block)) | ((with_reducible apply ablock_normal)) | ((with_reducible apply ablock_same)) | ((with_reducible apply awp_exit)) | ((with_reducible apply athen_exit)) | ((with_reducible apply roll_succ)) | ((with_reducible apply awp_cond_t); exact rfl) | ((with_reducible apply awp_cond_f); exact rfl)))
  (first | (refine apost_ret rfl (resl_tmp rfl resl_nil) ?_))
  exact AV.Le.refl _
end Go.Proofs.Ytlglajaonmpljaa

namespace Go.Proofs.Ytlglajaonmpljaa
open Go.RowKit
set_option linter.unusedVariables false
set_option linter.unusedSimpArgs false
theorem nb5 {n : Int} (h0 : -9223372036854775808 ≤ n) (h1 : n < 9223372036854775808) : NB 5 n := by unfold NB; omega
set_option maxRecDepth 100000 in
set_option maxHeartbeats 4000000 in
theorem p_r6num {n : Int} (h0 : -9223372036854775808 ≤ n) (h1 : n < 9223372036854775808) : PCall Try.prog 73 [vI n] (nv n) := by
  have C1 := p_rOf h0 h1
  clear h0 h1
  refine pcall_body (f := 73) Try.func73 rfl rfl rfl rfl ?_
  (repeat (first | ((with_reducible apply al_q); exact rfl) | (refine al_call1 rfl rfl rfl (by (first | exact C1)) rfl ?_) | ((with_reducible apply awp_seq)) | ((with_reducible apply athen_normal)) | ((with_reducible apply awp_region)) | ((with_reducible apply al_nil)) | ((with_reducible apply awp_ret))))
  (first | (refine apost_ret rfl (resl_agg rfl rfl rfl resl_nil) ?_) | (refine apost_ret rfl (resl_one rfl rfl rfl resl_nil) ?_))
  exact AV.Le.refl _
set_option maxRecDepth 100000 in
set_option maxHeartbeats 4000000 in
theorem p_r6sum {n d m e : Int} (h1 : NB 100 n) (h2 : NB 100 d) (h3 : NB 100 m) (h4 : NB 100 e) : PCall Try.prog 75 [rfv n d, rfv m e] (rfv (n * e + m * d) (d * e)) := by
  have C1 := p_rMul (n := n) (m := e) (h1.up (by omega)) (h4.up (by omega))
  have C2 := p_rMul (n := m) (m := d) (h3.up (by omega)) (h2.up (by omega))
  have C3 := p_rAdd (n := n * e) (m := m * d) ((h1.mul h4).up (by omega)) ((h3.mul h2).up (by omega))
  have C4 := p_rMul (n := d) (m := e) (h2.up (by omega)) (h4.up (by omega))
  clear h1 h2 h3 h4
  refine pcall_body (f := 75) Try.func75 rfl rfl rfl rfl ?_
  (repeat (first | ((with_reducible apply al_q); exact rfl) | (refine al_call2 rfl rfl rfl rfl (by (first | exact C1 | exact C2 | exact C3 | exact C4)) rfl ?_) | ((with_reducible apply al_nilS); kernel_rfl) | ((with_reducible apply awp_region_draw); kernel_rfl; kernel_rfl; exact rfl) | ((with_reducible apply awp_seq)) | ((with_reducible apply athen_normal)) | ((with_reducible apply awp_region)) | ((with_reducible apply al_nil)) | ((with_reducible apply awp_ret))))
  (first | (refine apost_ret rfl (resl_agg rfl rfl rfl resl_nil) ?_) | (refine apost_ret rfl (resl_one rfl rfl rfl resl_nil) ?_))
  exact AV.Le.refl _
set_option maxRecDepth 100000 in
set_option maxHeartbeats 4000000 in
theorem p_r6on {a b n d : Int} (ha : -134217728 ≤ a ∧ a ≤ 134217728) (hb : -134217728 ≤ b ∧ b ≤ 134217728) (h1 : NB 50 n) (h2 : NB 50 d) : PCall Try.prog 78 [vI a, vI b, rfv n d] (rfv (2 * a * d + n * (2 * (b - a)) * 1) (1 * d)) := by
  have C1 := p_r6num (n := 2 * (b - a)) (by omega) (by omega)
  have C2 := p_r6num (n := 2 * a) (by omega) (by omega)
  have C3 := p_r6num (n := 1) (by omega) (by omega)
  have k1 : NB 5 (2 * (b - a)) := nb5 (by omega) (by omega)
  have k2 : NB 5 (2 * a) := nb5 (by omega) (by omega)
  have k3 : NB 5 (1 : Int) := nb5 (by omega) (by omega)
  have C4 := p_rMul (n := n) (m := 2 * (b - a)) (h1.up (by omega)) (k1.up (by omega))
  have C5 := p_r6sum (n := 2 * a) (d := 1) (m := n * (2 * (b - a))) (e := d) (k2.up (by omega)) (k3.up (by omega)) ((h1.mul k1).up (by omega)) (h2.up (by omega))
  clear h1 h2 k1 k2 k3
  refine pcall_body (f := 78) Try.func78 rfl rfl rfl rfl ?_
  (repeat (first | ((with_reducible apply al_q); exact rfl) | ((with_reducible apply al_sub); (iterate 3 exact rfl); (first | exact i64_wrap (by omega) | assumption | rfl); exact rfl) | ((with_reducible apply al_mul); (iterate 3 exact rfl); (first | exact i64_wrap (by omega) | assumption | rfl); exact rfl) | (refine al_call1 rfl rfl rfl (by (first | exact C1 | exact C2 | exact C3 | exact C4 | exact C5)) rfl ?_) | (refine al_call2 rfl rfl rfl rfl (by (first | exact C1 | exact C2 | exact C3 | exact C4 | exact C5)) rfl ?_) | ((with_reducible apply al_nilS); kernel_rfl) | ((with_reducible apply awp_region_draw); kernel_rfl; kernel_rfl; exact rfl) | ((with_reducible apply awp_seq)) | ((with_reducible apply athen_normal)) | ((with_reducible apply awp_region)) | ((with_reducible apply al_nil)) | ((with_reducible apply awp_ret))))
  (first | (refine apost_ret rfl (resl_agg rfl rfl rfl resl_nil) ?_) | (refine apost_ret rfl (resl_one rfl rfl rfl resl_nil) ?_))
  exact AV.Le.refl _
/-- is a number (twice, as a fraction) from low to high? -/
def wiB (x y low high kind : Int) : Bool := (decide (icmp (low * y) (x * 1) < 0) || (decide (icmp (low * y) (x * 1) = 0) && !decide (kind = 2))) && (decide (icmp (x * 1) (high * y) < 0) || (decide (icmp (x * 1) (high * y) = 0) && decide (kind = 1)))
set_option maxRecDepth 100000 in
set_option maxHeartbeats 8000000 in
theorem p_r6within' {x y low high kind c1 c2 : Int} {r : Bool} (C1 : PCall Try.prog 73 [vI low] (nv low)) (C2 : PCall Try.prog 73 [vI high] (nv high)) (C3 : PCall Try.prog 73 [vI 1] (nv 1))
    (D1 : PCall Try.prog 30 [rfv low 1, rfv x y] (vI c1)) (D2 : PCall Try.prog 30 [rfv x y, rfv high 1] (vI c2))
    (cs : ((c1 < 0 ∨ (¬ c1 < 0 ∧ c1 = 0 ∧ ¬ kind = 2)) ∧ ((c2 < 0 ∧ r = true) ∨ (¬ c2 < 0 ∧ c2 = 0 ∧ kind = 1 ∧ r = true) ∨ (¬ c2 < 0 ∧ c2 = 0 ∧ ¬ kind = 1 ∧ r = false) ∨ (¬ c2 < 0 ∧ ¬ c2 = 0 ∧ r = false))) ∨ (¬ c1 < 0 ∧ c1 = 0 ∧ kind = 2 ∧ r = false) ∨ (¬ c1 < 0 ∧ ¬ c1 = 0 ∧ r = false)) : PCall Try.prog 77 [rfv x y, vI low, vI high, vI kind] (vB r) := by
  rcases cs with ⟨q1 | ⟨q1, q2, q3⟩, ⟨g1, rfl⟩ | ⟨g1, g2, g3, rfl⟩ | ⟨g1, g2, g3, rfl⟩ | ⟨g1, g2, rfl⟩⟩ | ⟨q1, q2, q3, rfl⟩ | ⟨q1, q2, rfl⟩
  all_goals
    try (have q4 : (!decide (kind = 2)) = true := by simp [q3])
    try (have q4 : (!decide (kind = 2)) = false := by simp [q3])
    try (have g4 := decide_eq_true g3)
    try (have g4 := decide_eq_false g3)
    refine pcall_body (f := 77) Try.func77 rfl rfl rfl rfl ?_
    (repeat (first | ((with_reducible apply al_q); exact rfl) | (refine al_call1 rfl rfl rfl (by (first | exact C1 | exact C2 | exact C3 | exact D1 | exact D2)) rfl ?_) | (refine al_call2 rfl rfl rfl rfl (by (first | exact C1 | exact C2 | exact C3 | exact D1 | exact D2)) rfl ?_) | ((with_reducible apply al_guard_b (c := true)); exact rfl; exact rfl; (first | assumption | exact decide_eq_true (by omega) | (simp only [Bool.not_eq_true', decide_eq_false_iff_not, decide_eq_true_eq, Bool.not_eq_false']; (first | done | omega)))) | ((with_reducible apply al_guard_b (c := false)); exact rfl; exact rfl; (first | assumption | exact decide_eq_false (by omega) | (simp only [Bool.not_eq_true', decide_eq_false_iff_not, decide_eq_true_eq, Bool.not_eq_false']; (first | done | omega)))) | ((with_reducible apply al_nilS); kernel_rfl) | ((with_reducible apply awp_region_draw); kernel_rfl; kernel_rfl; exact rfl) | ((with_reducible apply awp_seq)) | ((with_reducible apply athen_normal)) | ((with_reducible apply awp_region)) | ((with_reducible apply al_nil)) | ((with_reducible apply awp_ret))))
    (first | (refine apost_ret rfl (resl_tmp rfl resl_nil) ?_))
    first | exact AV.Le.refl _ | exact AV.Le.of_eq (by rw [g4]; rfl)
theorem p_r6within {x y low high kind : Int} (hl : -536870912 ≤ low ∧ low ≤ 536870912) (hh : -536870912 ≤ high ∧ high ≤ 536870912) (h1 : NB 150 x) (h2 : NB 150 y) : PCall Try.prog 77 [rfv x y, vI low, vI high, vI kind] (vB (wiB x y low high kind)) := by
  have k1 : NB 5 low := nb5 (by omega) (by omega)
  have k2 : NB 5 high := nb5 (by omega) (by omega)
  have k3 : NB 5 (1 : Int) := nb5 (by omega) (by omega)
  refine p_r6within' (p_r6num (by omega) (by omega)) (p_r6num (by omega) (by omega)) (p_r6num (by omega) (by omega)) (p_r2Cmp (k1.up (by omega)) (k3.up (by omega)) (h1.up (by omega)) (h2.up (by omega))) (p_r2Cmp (h1.up (by omega)) (h2.up (by omega)) (k2.up (by omega)) (k3.up (by omega))) ?_
  unfold wiB
  generalize icmp (low * y) (x * 1) = c1
  generalize icmp (x * 1) (high * y) = c2
  by_cases q1 : c1 < 0 <;> by_cases q2 : c1 = 0 <;> by_cases q3 : kind = 2 <;> by_cases g1 : c2 < 0 <;> by_cases g2 : c2 = 0 <;> by_cases g3 : kind = 1 <;> simp [q1, q2, q3, g1, g2, g3] <;> omega
set_option maxRecDepth 100000 in
set_option maxHeartbeats 4000000 in
theorem p_r6right {x y : Int} {b : Bool} (hb : co6 x y = b) : PCall Try.prog 72 [vP x y] (vB b) := by
  have cs : (x ≤ 536870912 ∧ -536870912 ≤ x ∧ y ≤ 536870912 ∧ -536870912 ≤ y ∧ b = true) ∨ (x ≤ 536870912 ∧ -536870912 ≤ x ∧ y ≤ 536870912 ∧ ¬ -536870912 ≤ y ∧ b = false) ∨ (x ≤ 536870912 ∧ -536870912 ≤ x ∧ ¬ y ≤ 536870912 ∧ b = false) ∨ (x ≤ 536870912 ∧ ¬ -536870912 ≤ x ∧ b = false) ∨ (¬ x ≤ 536870912 ∧ b = false) := by
    rw [← hb]; unfold co6 cb6
    by_cases q1 : x ≤ 536870912 <;> by_cases q2 : y ≤ 536870912 <;> by_cases q3 : -536870912 ≤ x <;> by_cases q4 : -536870912 ≤ y <;> simp [q1, q2, q3, q4]
  clear hb
  rcases cs with ⟨q1, q2, q3, q4, rfl⟩ | ⟨q1, q2, q3, q4, rfl⟩ | ⟨q1, q2, q3, rfl⟩ | ⟨q1, q2, rfl⟩ | ⟨q1, rfl⟩
  all_goals
    refine pcall_body (f := 72) Try.func72 rfl rfl rfl rfl ?_
    (repeat (first | ((with_reducible apply al_q); exact rfl) | ((with_reducible apply al_guard_b (c := true)); exact rfl; exact rfl; (first | assumption | exact decide_eq_true (by omega) | (simp only [Bool.not_eq_true', decide_eq_false_iff_not, decide_eq_true_eq, Bool.not_eq_false']; (first | done | omega)))) | ((with_reducible apply al_guard_b (c := false)); exact rfl; exact rfl; (first | assumption | exact decide_eq_false (by omega) | (simp only [Bool.not_eq_true', decide_eq_false_iff_not, decide_eq_true_eq, Bool.not_eq_false']; (first | done | omega)))) | ((with_reducible apply awp_seq)) | ((with_reducible apply athen_normal)) | ((with_reducible apply awp_region)) | ((with_reducible apply al_nil)) | ((with_reducible apply awp_ret))))
    (first | (refine apost_ret rfl (resl_tmp rfl resl_nil) ?_))
    first | exact AV.Le.refl _ | exact AV.Le.of_eq (by rw [decide_eq_true q4]; rfl) | exact AV.Le.of_eq (by rw [decide_eq_false q4]; rfl)
/-- the cells of fractions. -/
def frC : List (Int × Int) → List AC
  | [] => []
  | (n, d) :: l => .c (.bool (decide (n < 0))) :: .p (NumP n) :: .c (.bool (decide (d < 0))) :: .p (NumP d) :: frC l
theorem frC_length : ∀ (l : List (Int × Int)), (frC l).length = l.length * 4
  | [] => rfl
  | (n, d) :: l => by simp [frC, frC_length l]; omega
theorem frC_append : ∀ (l k : List (Int × Int)), frC l ++ frC k = frC (l ++ k)
  | [], k => rfl
  | (n, d) :: l, k => by simp [frC, frC_append l k]
theorem frC_closed : ∀ (l : List (Int × Int)), (frC l).all AC.closedB = true
  | [] => rfl
  | (n, d) :: l => by simp only [frC, List.all_cons, frC_closed l]; rfl
theorem frC_at : ∀ {l : List (Int × Int)} {i : Nat} {n d : Int}, l[i]? = some (n, d) → ((frC l).drop (i * 4)).take 4 = [.c (.bool (decide (n < 0))), .p (NumP n), .c (.bool (decide (d < 0))), .p (NumP d)]
  | [], i, n, d, h => by simp at h
  | (m, e) :: l, 0, n, d, h => by simp at h; obtain ⟨rfl, rfl⟩ := h; rfl
  | (m, e) :: l, i + 1, n, d, h => by
    have := frC_at (l := l) (i := i) (n := n) (d := d) (by simpa using h)
    rw [← this]
    rw [show (i + 1) * 4 = i * 4 + 4 by omega, ← List.drop_drop]
    simp only [frC]
    congr 1
    rw [List.drop_drop, Nat.add_comm, ← List.drop_drop]
    rfl
abbrev vFs (l : List (Int × Int)) : AV := vS 4 l.length (frC l)
/-- how far on the way a number is as great as a limit. -/
def waV (a b lim : Int) : List (Int × Int) :=
  let n := lim - 2 * a
  let d := 2 * (b - a)
  let n' := if d < 0 then -n else n
  let d' := if d < 0 then -d else d
  if d' = 0 ∨ n' < 0 ∨ d' < n' then [] else [(n', d')]
theorem nil_leP (z : Nat) : AV.Le (vC (.slice none 0 0)) (vS z 0 []) := fun U ρ W v ⟨h, _⟩ => by
  subst h
  exact ⟨⟨none, 0, rfl, Nat.le_refl _, by simp, fun h => absurd h (by omega)⟩, fun b ⟨c', a', q, hn, hb⟩ => by cases q⟩
set_option maxRecDepth 100000 in
set_option maxHeartbeats 8000000 in
theorem p_r6ways {a b lim : Int} (ha : -134217728 ≤ a ∧ a ≤ 134217728) (hb : -134217728 ≤ b ∧ b ≤ 134217728) (hl : -536870912 ≤ lim ∧ lim ≤ 536870912) : PCall Try.prog 74 [vI a, vI b, vI lim] (vFs (waV a b lim)) := by
  unfold waV
  obtain ⟨n, hn⟩ : ∃ n, lim - 2 * a = n := ⟨_, rfl⟩
  obtain ⟨d, hd⟩ : ∃ d, 2 * (b - a) = d := ⟨_, rfl⟩
  simp only [hn, hd]
  have bn : -1000000000 ≤ n ∧ n ≤ 1000000000 := by omega
  have bd : -1000000000 ≤ d ∧ d ≤ 1000000000 := by omega
  have w1 : IntKind.i64.wrap (lim - 2 * a) = n := by rw [hn]; exact i64_wrap (by omega)
  have w2 : IntKind.i64.wrap (2 * (b - a)) = d := by rw [hd]; exact i64_wrap (by omega)
  have w3 : IntKind.i64.wrap (2 * a) = 2 * a := i64_wrap (by omega)
  have w4 : IntKind.i64.wrap (b - a) = b - a := i64_wrap (by omega)
  clear ha hb hl hn hd
  by_cases q : d < 0
  · rw [if_pos q, if_pos q]
    have N1 := p_r6num (n := -n) (by omega) (by omega)
    have N2 := p_r6num (n := -d) (by omega) (by omega)
    by_cases q1 : -d = 0
    · omega
    · by_cases q2 : -n < 0
      · rw [if_pos (by omega)]
        refine pcall_body (f := 74) Try.func74 rfl rfl rfl rfl ?_
        (repeat (first | ((with_reducible apply al_q); exact rfl) | ((with_reducible apply al_sub); (iterate 3 exact rfl); (first | exact i64_wrap (by omega) | assumption | rfl); exact rfl) | ((with_reducible apply al_mul); (iterate 3 exact rfl); (first | exact i64_wrap (by omega) | assumption | rfl); exact rfl) | ((with_reducible apply al_neg); exact rfl; exact rfl; (first | exact i64_wrap (by omega) | assumption | rfl); exact rfl) | ((with_reducible apply al_guard_b (c := true)); exact rfl; exact rfl; (first | assumption | exact decide_eq_true (by omega) | (simp only [Bool.not_eq_true', decide_eq_false_iff_not, decide_eq_true_eq, Bool.not_eq_false']; (first | done | omega)))) | ((with_reducible apply al_guard_b (c := false)); exact rfl; exact rfl; (first | assumption | exact decide_eq_false (by omega) | (simp only [Bool.not_eq_true', decide_eq_false_iff_not, decide_eq_true_eq, Bool.not_eq_false']; (first | done | omega)))) | ((with_reducible apply awp_seq)) | ((with_reducible apply athen_normal)) | ((with_reducible apply awp_region)) | ((with_reducible apply al_nil)) | ((with_reducible apply awp_ret)) | ((with_reducible apply athen_ret)) | ((with_reducible apply awp_cond_t); exact rfl) | ((with_reducible apply awp_cond_1); exact rfl; (first | assumption | exact decide_eq_true (by omega) | (simp only [Bool.not_eq_true', decide_eq_false_iff_not, decide_eq_true_eq, Bool.not_eq_false']; (first | done | omega))))))
        (first | (refine apost_ret rfl (resl_tmp rfl resl_nil) ?_))
        exact nil_leP 4
      · by_cases q3 : -d < -n
        · rw [if_pos (by omega)]
          refine pcall_body (f := 74) Try.func74 rfl rfl rfl rfl ?_
          (repeat (first | ((with_reducible apply al_q); exact rfl) | ((with_reducible apply al_sub); (iterate 3 exact rfl); (first | exact i64_wrap (by omega) | assumption | rfl); exact rfl) | ((with_reducible apply al_mul); (iterate 3 exact rfl); (first | exact i64_wrap (by omega) | assumption | rfl); exact rfl) | ((with_reducible apply al_neg); exact rfl; exact rfl; (first | exact i64_wrap (by omega) | assumption | rfl); exact rfl) | ((with_reducible apply al_guard_b (c := false)); exact rfl; exact rfl; (first | assumption | exact decide_eq_false (by omega) | (simp only [Bool.not_eq_true', decide_eq_false_iff_not, decide_eq_true_eq, Bool.not_eq_false']; (first | done | omega)))) | ((with_reducible apply awp_seq)) | ((with_reducible apply athen_normal)) | ((with_reducible apply awp_region)) | ((with_reducible apply al_nil)) | ((with_reducible apply awp_ret)) | ((with_reducible apply athen_ret)) | ((with_reducible apply awp_cond_1); exact rfl; (first | assumption | exact decide_eq_true (by omega) | (simp only [Bool.not_eq_true', decide_eq_false_iff_not, decide_eq_true_eq, Bool.not_eq_false']; (first | done | omega))))))
          (first | (refine apost_ret rfl (resl_tmp rfl resl_nil) ?_))
          exact nil_leP 4
        · rw [if_neg (by omega)]
          refine pcall_body (f := 74) Try.func74 rfl rfl rfl rfl ?_
          (repeat (first | ((with_reducible apply al_q); exact rfl) | ((with_reducible apply al_sub); (iterate 3 exact rfl); (first | exact i64_wrap (by omega) | assumption | rfl); exact rfl) | ((with_reducible apply al_mul); (iterate 3 exact rfl); (first | exact i64_wrap (by omega) | assumption | rfl); exact rfl) | ((with_reducible apply al_neg); exact rfl; exact rfl; (first | exact i64_wrap (by omega) | assumption | rfl); exact rfl) | ((with_reducible apply al_bslice); (iterate 10 exact rfl)) | (refine al_call1 rfl rfl rfl (by (first | exact N1 | exact N2)) rfl ?_) | ((with_reducible apply al_guard_b (c := false)); exact rfl; exact rfl; (first | assumption | exact decide_eq_false (by omega) | (simp only [Bool.not_eq_true', decide_eq_false_iff_not, decide_eq_true_eq, Bool.not_eq_false']; (first | done | omega)))) | ((with_reducible apply awp_seq)) | ((with_reducible apply athen_normal)) | ((with_reducible apply awp_region)) | ((with_reducible apply al_nil)) | ((with_reducible apply awp_ret)) | ((with_reducible apply awp_skip)) | ((with_reducible apply awp_cond_1); exact rfl; (first | assumption | exact decide_eq_true (by omega) | (simp only [Bool.not_eq_true', decide_eq_false_iff_not, decide_eq_true_eq, Bool.not_eq_false']; (first | done | omega)))) | ((with_reducible apply awp_cond_0); exact rfl; (first | assumption | exact decide_eq_false (by omega) | (simp only [Bool.not_eq_true', decide_eq_false_iff_not, decide_eq_true_eq, Bool.not_eq_false']; (first | done | omega))))))
          (first | (refine apost_ret rfl (resl_tmp rfl resl_nil) ?_))
          exact AV.Le.refl _
  · rw [if_neg q, if_neg q]
    have N1 := p_r6num (n := n) (by omega) (by omega)
    have N2 := p_r6num (n := d) (by omega) (by omega)
    by_cases q1 : d = 0
    · rw [if_pos (by omega)]
      refine pcall_body (f := 74) Try.func74 rfl rfl rfl rfl ?_
      (repeat (first | ((with_reducible apply al_q); exact rfl) | ((with_reducible apply al_sub); (iterate 3 exact rfl); (first | exact i64_wrap (by omega) | assumption | rfl); exact rfl) | ((with_reducible apply al_mul); (iterate 3 exact rfl); (first | exact i64_wrap (by omega) | assumption | rfl); exact rfl) | ((with_reducible apply al_guard_b (c := true)); exact rfl; exact rfl; (first | assumption | exact decide_eq_true (by omega) | (simp only [Bool.not_eq_true', decide_eq_false_iff_not, decide_eq_true_eq, Bool.not_eq_false']; (first | done | omega)))) | ((with_reducible apply awp_seq)) | ((with_reducible apply athen_normal)) | ((with_reducible apply awp_region)) | ((with_reducible apply al_nil)) | ((with_reducible apply awp_ret)) | ((with_reducible apply awp_skip)) | ((with_reducible apply athen_ret)) | ((with_reducible apply awp_cond_t); exact rfl) | ((with_reducible apply awp_cond_0); exact rfl; (first | assumption | exact decide_eq_false (by omega) | (simp only [Bool.not_eq_true', decide_eq_false_iff_not, decide_eq_true_eq, Bool.not_eq_false']; (first | done | omega))))))
      (first | (refine apost_ret rfl (resl_tmp rfl resl_nil) ?_))
      exact nil_leP 4
    · by_cases q2 : n < 0
      · rw [if_pos (by omega)]
        refine pcall_body (f := 74) Try.func74 rfl rfl rfl rfl ?_
        (repeat (first | ((with_reducible apply al_q); exact rfl) | ((with_reducible apply al_sub); (iterate 3 exact rfl); (first | exact i64_wrap (by omega) | assumption | rfl); exact rfl) | ((with_reducible apply al_mul); (iterate 3 exact rfl); (first | exact i64_wrap (by omega) | assumption | rfl); exact rfl) | ((with_reducible apply al_guard_b (c := true)); exact rfl; exact rfl; (first | assumption | exact decide_eq_true (by omega) | (simp only [Bool.not_eq_true', decide_eq_false_iff_not, decide_eq_true_eq, Bool.not_eq_false']; (first | done | omega)))) | ((with_reducible apply al_guard_b (c := false)); exact rfl; exact rfl; (first | assumption | exact decide_eq_false (by omega) | (simp only [Bool.not_eq_true', decide_eq_false_iff_not, decide_eq_true_eq, Bool.not_eq_false']; (first | done | omega)))) | ((with_reducible apply awp_seq)) | ((with_reducible apply athen_normal)) | ((with_reducible apply awp_region)) | ((with_reducible apply al_nil)) | ((with_reducible apply awp_ret)) | ((with_reducible apply awp_skip)) | ((with_reducible apply athen_ret)) | ((with_reducible apply awp_cond_t); exact rfl) | ((with_reducible apply awp_cond_0); exact rfl; (first | assumption | exact decide_eq_false (by omega) | (simp only [Bool.not_eq_true', decide_eq_false_iff_not, decide_eq_true_eq, Bool.not_eq_false']; (first | done | omega))))))
        (first | (refine apost_ret rfl (resl_tmp rfl resl_nil) ?_))
        exact nil_leP 4
      · by_cases q3 : d < n
        · rw [if_pos (by omega)]
          refine pcall_body (f := 74) Try.func74 rfl rfl rfl rfl ?_
          (repeat (first | ((with_reducible apply al_q); exact rfl) | ((with_reducible apply al_sub); (iterate 3 exact rfl); (first | exact i64_wrap (by omega) | assumption | rfl); exact rfl) | ((with_reducible apply al_mul); (iterate 3 exact rfl); (first | exact i64_wrap (by omega) | assumption | rfl); exact rfl) | ((with_reducible apply al_guard_b (c := false)); exact rfl; exact rfl; (first | assumption | exact decide_eq_false (by omega) | (simp only [Bool.not_eq_true', decide_eq_false_iff_not, decide_eq_true_eq, Bool.not_eq_false']; (first | done | omega)))) | ((with_reducible apply awp_seq)) | ((with_reducible apply athen_normal)) | ((with_reducible apply awp_region)) | ((with_reducible apply al_nil)) | ((with_reducible apply awp_ret)) | ((with_reducible apply awp_skip)) | ((with_reducible apply athen_ret)) | ((with_reducible apply awp_cond_1); exact rfl; (first | assumption | exact decide_eq_true (by omega) | (simp only [Bool.not_eq_true', decide_eq_false_iff_not, decide_eq_true_eq, Bool.not_eq_false']; (first | done | omega)))) | ((with_reducible apply awp_cond_0); exact rfl; (first | assumption | exact decide_eq_false (by omega) | (simp only [Bool.not_eq_true', decide_eq_false_iff_not, decide_eq_true_eq, Bool.not_eq_false']; (first | done | omega))))))
          (first | (refine apost_ret rfl (resl_tmp rfl resl_nil) ?_))
          exact nil_leP 4
        · rw [if_neg (by omega)]
          refine pcall_body (f := 74) Try.func74 rfl rfl rfl rfl ?_
          (repeat (first | ((with_reducible apply al_q); exact rfl) | ((with_reducible apply al_sub); (iterate 3 exact rfl); (first | exact i64_wrap (by omega) | assumption | rfl); exact rfl) | ((with_reducible apply al_mul); (iterate 3 exact rfl); (first | exact i64_wrap (by omega) | assumption | rfl); exact rfl) | ((with_reducible apply al_bslice); (iterate 10 exact rfl)) | (refine al_call1 rfl rfl rfl (by (first | exact N1 | exact N2)) rfl ?_) | ((with_reducible apply al_guard_b (c := false)); exact rfl; exact rfl; (first | assumption | exact decide_eq_false (by omega) | (simp only [Bool.not_eq_true', decide_eq_false_iff_not, decide_eq_true_eq, Bool.not_eq_false']; (first | done | omega)))) | ((with_reducible apply awp_seq)) | ((with_reducible apply athen_normal)) | ((with_reducible apply awp_region)) | ((with_reducible apply al_nil)) | ((with_reducible apply awp_ret)) | ((with_reducible apply awp_skip)) | ((with_reducible apply awp_cond_0); exact rfl; (first | assumption | exact decide_eq_false (by omega) | (simp only [Bool.not_eq_true', decide_eq_false_iff_not, decide_eq_true_eq, Bool.not_eq_false']; (first | done | omega))))))
          (first | (refine apost_ret rfl (resl_tmp rfl resl_nil) ?_))
          exact AV.Le.refl _
end Go.Proofs.Ytlglajaonmpljaa

namespace Go.Proofs.Ytlglajaonmpljaa
open Go.RowKit
set_option linter.unusedVariables false
set_option linter.unusedSimpArgs false
instance iPixS_1 : RowTy Try.prog 117 69 4 64 := ⟨by kernel_rfl⟩
/-- the middle of two fractions, as it is written. -/
def midP (p q : Int × Int) : Int × Int := (p.1 * q.2 + q.1 * p.2, p.2 * q.2 + p.2 * q.2)
def atP (L : List (Int × Int)) (i : Nat) : Int × Int := L.getD i (0, 1)
def rwMid (L : List (Int × Int)) (i k : Nat) : List (Int × Int) := (List.range k).map fun j => midP (atP L i) (atP L j)
def midsN (L : List (Int × Int)) (i : Nat) : List (Int × Int) := (List.range i).flatMap fun j => rwMid L j j
theorem rwMid_succ (L : List (Int × Int)) (i k : Nat) : rwMid L i (k + 1) = rwMid L i k ++ [midP (atP L i) (atP L k)] := by
  unfold rwMid; rw [List.range_succ, List.map_append]; rfl
theorem midsN_succ (L : List (Int × Int)) (i : Nat) : midsN L (i + 1) = midsN L i ++ rwMid L i i := by
  unfold midsN; rw [List.range_succ, List.flatMap_append]; simp
theorem rwMid_length (L : List (Int × Int)) (i k : Nat) : (rwMid L i k).length = k := by simp [rwMid]
theorem midsN_length (L : List (Int × Int)) : ∀ (i : Nat), i ≤ 10 → (midsN L i).length ≤ 10 * i
  | 0, _ => by simp [midsN]
  | i + 1, h => by rw [midsN_succ, List.length_append, rwMid_length]; have := midsN_length L i (by omega); omega
abbrev ptM (a1 a2 b1 b2 l1 l2 h1 h2 : Int) : List (Nat × List AC) := [(5, [.c (.int .i64 a1), .c (.int .i64 a2)]), (6, [.c (.int .i64 b1), .c (.int .i64 b2)]), (7, [.c (.int .i64 l1), .c (.int .i64 l2)]), (8, [.c (.int .i64 h1), .c (.int .i64 h2)])]
abbrev frRow (v : Value) (C : List (Int × Int)) : HRow := ⟨69, 4, v, C.length, frC C⟩
def MeO (L : List (Int × Int)) (N a1 a2 b1 b2 l1 l2 h1 h2 kind : Int) (m : Nat) (R : Rws) (ts : List (Nat × AV)) (ms : List (Nat × List AC)) : Prop :=
  ∃ (i : Nat) (v : Value) (j : Int), i ≤ L.length ∧ m = L.length - i ∧ j = i ∧ R = row1 0 (frRow v (L ++ midsN L i))
    ∧ ts = [(4, vI kind), (5, vO 5 0), (6, vO 6 0), (7, vO 7 0), (8, vO 8 0), (11, vC v), (12, vI N), (13, vI j)] ∧ ms = ptM a1 a2 b1 b2 l1 l2 h1 h2
def MeN (L : List (Int × Int)) (N a1 a2 b1 b2 l1 l2 h1 h2 kind : Int) (i : Nat) (ji : Int) (m : Nat) (R : Rws) (ts : List (Nat × AV)) (ms : List (Nat × List AC)) : Prop :=
  ∃ (k : Nat) (v : Value) (j : Int), k ≤ i ∧ m = i - k ∧ j = k ∧ R = row1 0 (frRow v (L ++ midsN L i ++ rwMid L i k))
    ∧ ts = [(4, vI kind), (5, vO 5 0), (6, vO 6 0), (7, vO 7 0), (8, vO 8 0), (11, vC v), (12, vI N), (13, vI ji), (14, vI j)] ∧ ms = ptM a1 a2 b1 b2 l1 l2 h1 h2
def MeF (F : List (Int × Int)) (g : Int × Int → Bool) (a1 a2 b1 b2 l1 l2 h1 h2 kind : Int) (m : Nat) (ts : List (Nat × AV)) (ms : List (Nat × List AC)) : Prop :=
  ∃ (i : Nat) (j : Int), i ≤ F.length ∧ m = F.length - i ∧ j = i ∧ (F.take i).any g = false
    ∧ ts = [(4, vI kind), (5, vO 5 0), (6, vO 6 0), (7, vO 7 0), (8, vO 8 0), (11, vFs F), (16, vI j)] ∧ ms = ptM a1 a2 b1 b2 l1 l2 h1 h2
theorem frC_fact {C : List (Int × Int)} {i : Nat} {j : Int} {p : Int × Int} (hj : j = i) (h : C[i]? = some p) : j.toNat * 4 + 4 ≤ (frC C).length ∧ ((frC C).drop (j.toNat * 4)).take 4 = [.c (.bool (decide (p.1 < 0))), .p (NumP p.1), .c (.bool (decide (p.2 < 0))), .p (NumP p.2)] := by
  subst hj
  obtain ⟨n, d⟩ := p
  have hlt : i < C.length := (List.getElem?_eq_some_iff.1 h).1
  rw [Int.toNat_natCast]
  exact ⟨by rw [frC_length]; omega, frC_at h⟩
theorem atP_get {L : List (Int × Int)} {i : Nat} (h : i < L.length) (M : List (Int × Int)) : (L ++ M)[i]? = some (atP L i) := by
  rw [List.getElem?_append_left h]
  unfold atP
  simp [h]
set_option maxRecDepth 100000 in
set_option maxHeartbeats 16000000 in
theorem p_r6Meets' {a1 a2 b1 b2 l1 l2 h1 h2 kind : Int} {w1 w2 w3 w4 L F : List (Int × Int)} {g : Int × Int → Bool} {res : Bool} (R1 : PCall Try.prog 10 [vP a1 a2] (vB true)) (R2 : PCall Try.prog 10 [vP b1 b2] (vB true)) (R3 : PCall Try.prog 72 [vP l1 l2] (vB true)) (R4 : PCall Try.prog 72 [vP h1 h2] (vB true)) (k0 : ¬ kind < 0) (k1 : ¬ 2 < kind)
    (N0 : PCall Try.prog 73 [vI 0] (nv 0)) (N1 : PCall Try.prog 73 [vI 1] (nv 1))
    (W1 : PCall Try.prog 74 [vI a1, vI b1, vI l1] (vFs w1)) (W2 : PCall Try.prog 74 [vI a1, vI b1, vI h1] (vFs w2)) (W3 : PCall Try.prog 74 [vI a2, vI b2, vI l2] (vFs w3)) (W4 : PCall Try.prog 74 [vI a2, vI b2, vI h2] (vFs w4))
    (lw : w1.length ≤ 1 ∧ w2.length ≤ 1 ∧ w3.length ≤ 1 ∧ w4.length ≤ 1) (eL : L = [(0, 1), (1, 1)] ++ w1 ++ w2 ++ w3 ++ w4) (eF : F = L ++ midsN L L.length)
    (S : ∀ i k, i < L.length → k < i → PCall Try.prog 75 [rfv (atP L i).1 (atP L i).2, rfv (atP L k).1 (atP L k).2] (rfv ((atP L i).1 * (atP L k).2 + (atP L k).1 * (atP L i).2) ((atP L i).2 * (atP L k).2)) ∧ PCall Try.prog 76 [nv ((atP L i).2 * (atP L k).2), nv ((atP L i).2 * (atP L k).2)] (nv ((atP L i).2 * (atP L k).2 + (atP L i).2 * (atP L k).2)))
    (G : ∀ p ∈ F, ∃ X1 Y1 X2 Y2 g1 g2, PCall Try.prog 78 [vI a1, vI b1, rfv p.1 p.2] (rfv X1 Y1) ∧ PCall Try.prog 77 [rfv X1 Y1, vI l1, vI h1, vI kind] (vB g1) ∧ PCall Try.prog 78 [vI a2, vI b2, rfv p.1 p.2] (rfv X2 Y2) ∧ PCall Try.prog 77 [rfv X2 Y2, vI l2, vI h2, vI kind] (vB g2) ∧ g p = (g1 && g2))
    (hres : F.any g = res) : PCall Try.prog 53 [vP a1 a2, vP b1 b2, vP l1 l2, vP h1 h2, vI kind] (vB res) := by
  have nL : L.length = 2 + w1.length + w2.length + w3.length + w4.length := by rw [eL]; simp; omega
  have cL : frC L = [.c (.bool (decide ((0 : Int) < 0))), .p (NumP 0), .c (.bool (decide ((1 : Int) < 0))), .p (NumP 1), .c (.bool (decide ((1 : Int) < 0))), .p (NumP 1), .c (.bool (decide ((1 : Int) < 0))), .p (NumP 1)] ++ frC w1 ++ frC w2 ++ frC w3 ++ frC w4 := by
    rw [eL, ← frC_append, ← frC_append, ← frC_append, ← frC_append]; rfl
  have x1 : maxLen = 9223372036854775807 := rfl
  refine pcall_body (f := 53) Try.func53 rfl rfl rfl rfl ?_
  refine awp_rows ?_
  (repeat (first | ((with_reducible apply rwp_seq)) | ((with_reducible apply rthen_normal)) | ((with_reducible apply rwp_region)) | ((with_reducible apply hs_nil)) | ((with_reducible apply rwp_skip)) | ((with_reducible apply rwp_cond_0); exact rfl; (first | assumption | exact decide_eq_false (by omega) | (simp only [Bool.not_eq_true', decide_eq_false_iff_not, decide_eq_true_eq, Bool.not_eq_false']; (first | done | omega)) | exact rfl)) | ((with_reducible apply hs_c); exact rfl; (repeat (first | ((with_reducible apply al_q); exact rfl) | (refine al_call1 rfl rfl rfl (by (first | exact R1 | exact R2 | exact R3 | exact R4 | exact N0 | exact N1)) rfl ?_) | ((with_reducible apply al_guard_b (c := false)); exact rfl; exact rfl; (first | assumption | exact decide_eq_false (by omega) | (simp only [Bool.not_eq_true', decide_eq_false_iff_not, decide_eq_true_eq, Bool.not_eq_false']; (first | done | omega)))))); (with_reducible apply al_nil))))
  refine hs_new 0 rfl rfl rfl rfl rfl rfl rfl rfl ?h3 rfl rfl rfl (fun v1 hv1 => ?_)
  case h3 => decide
  (repeat (first | ((with_reducible apply rwp_draw (id := 4) [0,1,2,3,4,5,6,7,9,10,11,12,13,14,8,15,16,17]); kernel_rfl; kernel_rfl; exact rfl) | ((with_reducible apply rwp_seq)) | ((with_reducible apply rthen_normal)) | ((with_reducible apply hs_nil)) | ((with_reducible apply hs_c); exact rfl; (repeat (first | ((with_reducible apply al_q); exact rfl) | (refine al_call3 rfl rfl rfl rfl rfl (by (first | exact W1)) rfl ?_))); (with_reducible apply al_nil))))
  refine hs_app 0 rfl rfl rfl rfl (.inr ?q0) ?q1 ?q2 (frC_closed _) rfl (fun v2 hv2 => ?_)
  case q0 => show 0 < 2; omega
  case q1 => show 2 + w1.length ≤ maxLen; omega
  case q2 => show (2 + w1.length) * 64 ≤ 140737488355328; omega
  (repeat (first | ((with_reducible apply hs_c); exact rfl; (repeat (first | (refine al_call3 rfl rfl rfl rfl rfl (by (first | exact W2)) rfl ?_))); (with_reducible apply al_nil))))
  refine hs_app 0 rfl rfl rfl rfl (.inr ?q0) ?q1 ?q2 (frC_closed _) rfl (fun v3 hv3 => ?_)
  case q0 => show 0 < 2 + w1.length; omega
  case q1 => show 2 + w1.length + w2.length ≤ maxLen; omega
  case q2 => show (2 + w1.length + w2.length) * 64 ≤ 140737488355328; omega
  (repeat (first | ((with_reducible apply hs_nilS); kernel_rfl) | ((with_reducible apply rwp_draw (id := 5) [0,1,2,3,4,5,6,7,9,10,11,12,13,14,8,15,16,17]); kernel_rfl; kernel_rfl; exact rfl) | ((with_reducible apply rwp_seq)) | ((with_reducible apply rthen_normal)) | ((with_reducible apply hs_c); exact rfl; (repeat (first | ((with_reducible apply al_q); exact rfl) | (refine al_call3 rfl rfl rfl rfl rfl (by (first | exact W3)) rfl ?_))); (with_reducible apply al_nil))))
  refine hs_app 0 rfl rfl rfl rfl (.inr ?q0) ?q1 ?q2 (frC_closed _) rfl (fun v4 hv4 => ?_)
  case q0 => show 0 < 2 + w1.length + w2.length; omega
  case q1 => show 2 + w1.length + w2.length + w3.length ≤ maxLen; omega
  case q2 => show (2 + w1.length + w2.length + w3.length) * 64 ≤ 140737488355328; omega
  (repeat (first | ((with_reducible apply hs_c); exact rfl; (repeat (first | (refine al_call3 rfl rfl rfl rfl rfl (by (first | exact W4)) rfl ?_))); (with_reducible apply al_nil))))
  refine hs_app 0 rfl rfl rfl rfl (.inr ?q0) ?q1 ?q2 (frC_closed _) rfl (fun v5 hv5 => ?_)
  case q0 => show 0 < 2 + w1.length + w2.length + w3.length; omega
  case q1 => show 2 + w1.length + w2.length + w3.length + w4.length ≤ maxLen; omega
  case q2 => show (2 + w1.length + w2.length + w3.length + w4.length) * 64 ≤ 140737488355328; omega
  (repeat (first | ((with_reducible apply hs_nilS); kernel_rfl) | ((with_reducible apply rwp_seq)) | ((with_reducible apply rthen_normal)) | ((with_reducible apply rwp_region)) | ((with_reducible apply hs_nil)) | ((with_reducible apply rwp_block)) | ((with_reducible apply hs_c); exact rfl; (repeat (first | ((with_reducible apply al_q); exact rfl))); (with_reducible apply al_nil)) | ((with_reducible apply hs_len 0); (iterate 4 exact rfl); kernel_rfl; exact rfl)))
  clear R1 R2 R3 R4 N0 N1 W1 W2 W3 W4
  have hN : ((2 + w1.length + w2.length + w3.length + w4.length : Nat) : Int) = (L.length : Int) := by rw [nL]
  have b6 : L.length ≤ 6 := by omega
  have e0 : frRow v5 (L ++ midsN L 0) = ⟨69, 4, v5, 2 + w1.length + w2.length + w3.length + w4.length, [.c (.bool (decide ((0 : Int) < 0))), .p (NumP 0), .c (.bool (decide ((1 : Int) < 0))), .p (NumP 1), .c (.bool (decide ((1 : Int) < 0))), .p (NumP 1), .c (.bool (decide ((1 : Int) < 0))), .p (NumP 1)] ++ frC w1 ++ frC w2 ++ frC w3 ++ frC w4⟩ := by
    unfold frRow; rw [← cL, ← nL]; simp [midsN]
  refine rwp_loopL 154 (MeO L ((2 + w1.length + w2.length + w3.length + w4.length : Nat) : Int) a1 a2 b1 b2 l1 l2 h1 h2 kind) L.length (row1 0 (frRow v5 (L ++ midsN L 0))) _ _ ⟨0, v5, 0, Nat.zero_le _, rfl, rfl, rfl, rfl, rfl⟩ ?hl rfl ⟨rfl, rfl, rfl, rfl, rfl, rfl, rfl, rfl, trivial⟩ ⟨rfl, rfl, rfl, rfl, trivial⟩ rfl ?_
  case hl => rw [e0]; exact row1_le _ _ _
  clear e0 hv1 hv2 hv3 hv4 hv5 cL eL lw
  generalize ((2 + w1.length + w2.length + w3.length + w4.length : Nat) : Int) = N at *
  clear nL
  rintro m R ts ms ⟨i, v, j, hi, rfl, hj, rfl, rfl, rfl⟩ hok
  clear hok
  by_cases hq : i < L.length
  · have q' : j < N := by omega
    clear G hres
    (repeat (first | ((with_reducible apply rwp_seq)) | ((with_reducible apply rthen_normal)) | ((with_reducible apply rwp_region)) | ((with_reducible apply hs_nil)) | ((with_reducible apply rwp_skip)) | ((with_reducible apply rwp_block)) | ((with_reducible apply rwp_cond_1); exact rfl; (first | assumption | exact decide_eq_true (by omega) | (simp only [Bool.not_eq_true', decide_eq_false_iff_not, decide_eq_true_eq, Bool.not_eq_false']; (first | done | omega)) | exact rfl)) | ((with_reducible apply hs_c); exact rfl; (repeat (first | ((with_reducible apply al_q); exact rfl))); (with_reducible apply al_nil))))
    refine rwp_loopL 154 (MeN L N a1 a2 b1 b2 l1 l2 h1 h2 kind i j) i (row1 0 (frRow v (L ++ midsN L i ++ rwMid L i 0))) _ _ ⟨0, v, 0, Nat.zero_le _, rfl, rfl, rfl, rfl, rfl⟩ ?hl rfl ⟨rfl, rfl, rfl, rfl, rfl, rfl, rfl, rfl, rfl, trivial⟩ ⟨rfl, rfl, rfl, rfl, trivial⟩ rfl ?_
    case hl => rw [show rwMid L i 0 = [] by rfl, List.append_nil]; exact RLe.refl _
    rintro m R ts ms ⟨k, v', j', hk, rfl, hj', rfl, rfl, rfl⟩ hok
    clear hok
    by_cases hq2 : k < i
    · have q2 : j' < j := by omega
      have g1 : (L ++ midsN L i ++ rwMid L i k)[i]? = some (atP L i) := by rw [List.append_assoc]; exact atP_get hq _
      have g2 : (L ++ midsN L i ++ rwMid L i k)[k]? = some (atP L k) := by rw [List.append_assoc]; exact atP_get (by omega) _
      have Z1 := frC_fact hj g1
      have Z2 := frC_fact hj' g2
      have ln : (L ++ midsN L i ++ rwMid L i k).length ≤ 200 ∧ i < (L ++ midsN L i ++ rwMid L i k).length := by
        rw [List.length_append, List.length_append, rwMid_length]
        have := midsN_length L i (by omega)
        omega
      have e3 : ∀ v'', frRow v'' (L ++ midsN L i ++ rwMid L i (k + 1)) = ⟨69, 4, v'', (L ++ midsN L i ++ rwMid L i k).length + 1, frC (L ++ midsN L i ++ rwMid L i k) ++ frC [midP (atP L i) (atP L k)]⟩ := fun v'' => by
        unfold frRow
        rw [rwMid_succ, ← List.append_assoc, frC_append, List.length_append]
        rfl
      obtain ⟨S1, S2⟩ := S i k hq hq2
      clear S g1 g2
      unfold midP at e3
      generalize L ++ midsN L i ++ rwMid L i k = C at *
      generalize atP L i = p1 at *
      generalize atP L k = p2 at *
      obtain ⟨n1, d1⟩ := p1
      obtain ⟨n2, d2⟩ := p2
      simp only at S1 S2 Z1 Z2 e3
      have f0 : 0 < C.length := by omega
      have f1 : 0 ≤ j ∧ 0 ≤ j' := by omega
      have f2 : j < (C.length : Int) := by omega
      have f3 : j' < (C.length : Int) := by omega
      (repeat (first | ((with_reducible apply hs_nilS); kernel_rfl) | ((with_reducible apply rwp_draw (id := 13) [9,0,1,2,3,4,5,6,7,8,10]); kernel_rfl; kernel_rfl; exact rfl) | ((with_reducible apply rwp_draw (id := 14) [0,1,2,3,4,5,6,7,8,9,10,11]); kernel_rfl; kernel_rfl; exact rfl) | ((with_reducible apply rwp_seq)) | ((with_reducible apply rthen_normal)) | ((with_reducible apply rwp_region)) | ((with_reducible apply hs_nil)) | ((with_reducible apply rwp_skip)) | ((with_reducible apply rwp_block)) | ((with_reducible apply rwp_cond_1); exact rfl; (first | assumption | exact decide_eq_true (by omega) | (simp only [Bool.not_eq_true', decide_eq_false_iff_not, decide_eq_true_eq, Bool.not_eq_false']; (first | done | omega)) | exact rfl)) | ((with_reducible apply hs_c); exact rfl; (repeat (first | ((with_reducible apply al_q); exact rfl) | ((with_reducible apply al_bslice); (iterate 10 exact rfl)) | (refine al_call2 rfl rfl rfl rfl (by (first | exact S1 | exact S2)) rfl ?_))); (with_reducible apply al_nil)) | ((with_reducible apply hs_idx 0); (iterate 4 exact rfl); (first | omega); (first | assumption | omega); exact rfl; kernel_rfl; exact rfl) | ((with_reducible apply hs_loadN 0); (iterate 3 exact rfl); (first | assumption | omega); assumption; exact rfl; kernel_rfl; exact rfl)))
      refine hs_app 0 rfl rfl rfl rfl (.inr ?q0) ?q1 ?q2 rfl rfl (fun v'' hv'' => ?_)
      case q0 => exact f0
      case q1 => show C.length + 1 ≤ maxLen; omega
      case q2 => show (C.length + 1) * 64 ≤ 140737488355328; omega
      (repeat (first | ((with_reducible apply hs_nilS); kernel_rfl) | ((with_reducible apply rthen_normal)) | ((with_reducible apply rwp_region)) | ((with_reducible apply hs_nil)) | ((with_reducible apply rblock_normal)) | ((with_reducible apply hs_c); exact rfl; (repeat (first | ((with_reducible apply al_q); exact rfl) | ((with_reducible apply al_add); (iterate 3 exact rfl); (first | exact i64_wrap (by omega) | assumption | rfl); exact rfl))); (with_reducible apply al_nil))))
      exact ⟨i - (k + 1), row1 0 (frRow v'' (L ++ midsN L i ++ rwMid L i (k + 1))), _, _, by omega, ⟨k + 1, v'', j' + 1, by omega, rfl, by omega, rfl, rfl, rfl⟩, by rw [e3]; exact row1_le _ _ _, rfl, ⟨rfl, rfl, rfl, rfl, rfl, rfl, rfl, rfl, rfl, trivial⟩, ⟨rfl, rfl, rfl, rfl, trivial⟩, rfl⟩
    · have q2 : ¬ j' < j := by omega
      have hki : k = i := by omega
      subst hki
      clear S
      (repeat (first | ((with_reducible apply rwp_seq)) | ((with_reducible apply rthen_normal)) | ((with_reducible apply rwp_region)) | ((with_reducible apply hs_nil)) | ((with_reducible apply rblock_normal)) | ((with_reducible apply rblock_same)) | ((with_reducible apply rwp_exit)) | ((with_reducible apply rthen_exit)) | ((with_reducible apply rwp_cond_0); exact rfl; (first | assumption | exact decide_eq_false (by omega) | (simp only [Bool.not_eq_true', decide_eq_false_iff_not, decide_eq_true_eq, Bool.not_eq_false']; (first | done | omega)) | exact rfl)) | ((with_reducible apply hs_c); exact rfl; (repeat (first | ((with_reducible apply al_q); exact rfl) | ((with_reducible apply al_add); (iterate 3 exact rfl); (first | exact i64_wrap (by omega) | assumption | rfl); exact rfl))); (with_reducible apply al_nil))))
      exact ⟨L.length - (k + 1), row1 0 (frRow v' (L ++ midsN L (k + 1))), _, _, by omega, ⟨k + 1, v', j + 1, by omega, rfl, by omega, rfl, rfl, rfl⟩, by rw [midsN_succ, ← List.append_assoc]; exact RLe.refl _, rfl, ⟨rfl, rfl, rfl, rfl, rfl, rfl, rfl, rfl, trivial⟩, ⟨rfl, rfl, rfl, rfl, trivial⟩, rfl⟩
  · have q' : ¬ j < N := by omega
    have hi' : i = L.length := by omega
    subst hi'
    have lF : F.length ≤ 100 := by
      have := midsN_length L L.length (by omega)
      rw [eF, List.length_append]; omega
    rw [← eF]
    clear S eF
    (repeat (first | ((with_reducible apply rwp_seq)) | ((with_reducible apply rthen_normal)) | ((with_reducible apply rwp_region)) | ((with_reducible apply hs_nil)) | ((with_reducible apply rwp_block)) | ((with_reducible apply rblock_same)) | ((with_reducible apply rwp_exit)) | ((with_reducible apply rthen_exit)) | ((with_reducible apply rwp_cond_0); exact rfl; (first | assumption | exact decide_eq_false (by omega) | (simp only [Bool.not_eq_true', decide_eq_false_iff_not, decide_eq_true_eq, Bool.not_eq_false']; (first | done | omega)) | exact rfl)) | ((with_reducible apply hs_c); exact rfl; (repeat (first | ((with_reducible apply al_q); exact rfl))); (with_reducible apply al_nil))))
    refine rwp_cool 0 11 (frRow v F) rfl rfl ?_
    refine rwp_awp ?_
    refine awp_loopL 154 (MeF F g a1 a2 b1 b2 l1 l2 h1 h2 kind) F.length _ _ ⟨0, 0, Nat.zero_le _, rfl, rfl, by simp, rfl, rfl⟩ rfl ⟨rfl, rfl, rfl, rfl, rfl, rfl, rfl, trivial⟩ ⟨rfl, rfl, rfl, rfl, trivial⟩ rfl ?_
    rintro m ts ms ⟨i, ji, hi, rfl, hji, hno, rfl, rfl⟩ hok
    clear hok
    by_cases hq3 : i < F.length
    · have q3 : ji < (F.length : Int) := by omega
      have q4 : 0 ≤ ji := by omega
      obtain ⟨p, hp⟩ : ∃ p, F[i]? = some p := ⟨_, List.getElem?_eq_getElem hq3⟩
      have Z := (frC_fact hji hp).2
      obtain ⟨X1, Y1, X2, Y2, c1, c2, O1, I1, O2, I2, hg⟩ := G p (List.mem_of_getElem? hp)
      have ht : F.take (i + 1) = F.take i ++ [p] := by rw [List.take_add_one, hp]; rfl
      have hg' : g p = true → F.any g = true := fun h => List.any_eq_true.2 ⟨p, List.mem_of_getElem? hp, h⟩
      clear G hp
      obtain ⟨n, d⟩ := p
      simp only at O1 O2 Z
      cases c1 with
      | false =>
        have hn : (F.take (i + 1)).any g = false := by rw [ht, List.any_append, hno]; simp [hg]
        clear hres hg' ht hg
        (repeat (first | ((with_reducible apply al_q); exact rfl) | ((with_reducible apply al_loadPN); (iterate 5 exact rfl)) | ((with_reducible apply al_idxS); (iterate 3 exact rfl); (first | decide | omega); (first | decide | omega); (first | assumption | rfl); exact rfl) | ((with_reducible apply al_add); (iterate 3 exact rfl); (first | exact i64_wrap (by omega) | assumption | rfl); exact rfl) | ((with_reducible apply al_len); (iterate 3 exact rfl)) | (refine al_call3 rfl rfl rfl rfl rfl (by (first | exact O1 | exact I1)) rfl ?_) | (refine al_call4 rfl rfl rfl rfl rfl rfl (by (first | exact O1 | exact I1)) rfl ?_) | ((with_reducible apply al_nilS); kernel_rfl) | ((with_reducible apply awp_region_draw); kernel_rfl; kernel_rfl; exact rfl) | ((with_reducible apply awp_seq)) | ((with_reducible apply athen_normal)) | ((with_reducible apply awp_region)) | ((with_reducible apply al_nil)) | ((with_reducible apply awp_skip)) | ((with_reducible apply awp_block)) | ((with_reducible apply ablock_normal)) | ((with_reducible apply awp_cond_f); exact rfl) | ((with_reducible apply awp_cond_1); exact rfl; (first | assumption | exact decide_eq_true (by omega) | (simp only [Bool.not_eq_true', decide_eq_false_iff_not, decide_eq_true_eq, Bool.not_eq_false']; (first | done | omega))))))
        exact ⟨F.length - (i + 1), _, _, by omega, ⟨i + 1, ji + 1, by omega, rfl, by omega, hn, rfl, rfl⟩, rfl, ⟨rfl, rfl, rfl, rfl, rfl, rfl, rfl, trivial⟩, ⟨rfl, rfl, rfl, rfl, trivial⟩, rfl⟩
      | true =>
        cases c2 with
        | false =>
          have hn : (F.take (i + 1)).any g = false := by rw [ht, List.any_append, hno]; simp [hg]
          clear hres hg' ht hg
          (repeat (first | ((with_reducible apply al_q); exact rfl) | ((with_reducible apply al_loadPN); (iterate 5 exact rfl)) | ((with_reducible apply al_idxS); (iterate 3 exact rfl); (first | decide | omega); (first | decide | omega); (first | assumption | rfl); exact rfl) | ((with_reducible apply al_add); (iterate 3 exact rfl); (first | exact i64_wrap (by omega) | assumption | rfl); exact rfl) | ((with_reducible apply al_len); (iterate 3 exact rfl)) | (refine al_call3 rfl rfl rfl rfl rfl (by (first | exact O1 | exact I1 | exact O2 | exact I2)) rfl ?_) | (refine al_call4 rfl rfl rfl rfl rfl rfl (by (first | exact O1 | exact I1 | exact O2 | exact I2)) rfl ?_) | ((with_reducible apply al_nilS); kernel_rfl) | ((with_reducible apply awp_region_draw); kernel_rfl; kernel_rfl; exact rfl) | ((with_reducible apply awp_seq)) | ((with_reducible apply athen_normal)) | ((with_reducible apply awp_region)) | ((with_reducible apply al_nil)) | ((with_reducible apply awp_skip)) | ((with_reducible apply awp_block)) | ((with_reducible apply ablock_normal)) | ((with_reducible apply awp_cond_f); exact rfl) | ((with_reducible apply awp_cond_1); exact rfl; (first | assumption | exact decide_eq_true (by omega) | (simp only [Bool.not_eq_true', decide_eq_false_iff_not, decide_eq_true_eq, Bool.not_eq_false']; (first | done | omega))))))
          exact ⟨F.length - (i + 1), _, _, by omega, ⟨i + 1, ji + 1, by omega, rfl, by omega, hn, rfl, rfl⟩, rfl, ⟨rfl, rfl, rfl, rfl, rfl, rfl, rfl, trivial⟩, ⟨rfl, rfl, rfl, rfl, trivial⟩, rfl⟩
        | true =>
          have hr : res = true := by rw [← hres]; exact hg' (by rw [hg]; rfl)
          clear hres hg' ht hg
          subst hr
          (repeat (first | ((with_reducible apply al_q); exact rfl) | ((with_reducible apply al_loadPN); (iterate 5 exact rfl)) | ((with_reducible apply al_idxS); (iterate 3 exact rfl); (first | decide | omega); (first | decide | omega); (first | assumption | rfl); exact rfl) | ((with_reducible apply al_len); (iterate 3 exact rfl)) | (refine al_call3 rfl rfl rfl rfl rfl (by (first | exact O1 | exact I1 | exact O2 | exact I2)) rfl ?_) | (refine al_call4 rfl rfl rfl rfl rfl rfl (by (first | exact O1 | exact I1 | exact O2 | exact I2)) rfl ?_) | ((with_reducible apply al_nilS); kernel_rfl) | ((with_reducible apply awp_region_draw); kernel_rfl; kernel_rfl; exact rfl) | ((with_reducible apply awp_seq)) | ((with_reducible apply athen_normal)) | ((with_reducible apply awp_region)) | ((with_reducible apply al_nil)) | ((with_reducible apply awp_ret)) | ((with_reducible apply awp_skip)) | ((with_reducible apply athen_ret)) | ((with_reducible apply awp_block)) | ((with_reducible apply ablock_ret)) | ((with_reducible apply awp_cond_t); exact rfl) | ((with_reducible apply awp_cond_1); exact rfl; (first | assumption | exact decide_eq_true (by omega) | (simp only [Bool.not_eq_true', decide_eq_false_iff_not, decide_eq_true_eq, Bool.not_eq_false']; (first | done | omega))))))
          (repeat (first | ((with_reducible apply rthen_ret)) | ((with_reducible apply rblock_ret))))
          (first | (refine apost_ret rfl (resl_tmp rfl resl_nil) ?_))
          exact AV.Le.refl _
    · have q3 : ¬ ji < (F.length : Int) := by omega
      have hr : res = false := by
        rw [← hres, ← hno, List.take_of_length_le (by omega)]
      clear hres G
      subst hr
      (repeat (first | ((with_reducible apply al_q); exact rfl) | ((with_reducible apply al_len); (iterate 3 exact rfl)) | ((with_reducible apply awp_seq)) | ((with_reducible apply athen_normal)) | ((with_reducible apply awp_region)) | ((with_reducible apply al_nil)) | ((with_reducible apply awp_exit)) | ((with_reducible apply athen_exit)) | ((with_reducible apply awp_cond_0); exact rfl; (first | assumption | exact decide_eq_false (by omega) | (simp only [Bool.not_eq_true', decide_eq_false_iff_not, decide_eq_true_eq, Bool.not_eq_false']; (first | done | omega))))))
      (repeat (first | ((with_reducible apply rwp_seq)) | ((with_reducible apply rthen_normal)) | ((with_reducible apply rwp_region)) | ((with_reducible apply hs_nil)) | ((with_reducible apply rwp_ret)) | ((with_reducible apply rblock_same)) | ((with_reducible apply hs_c); exact rfl; (repeat (first | ((with_reducible apply al_q); exact rfl))); (with_reducible apply al_nil))))
      (first | (refine apost_ret rfl (resl_tmp rfl resl_nil) ?_))
      exact AV.Le.refl _
end Go.Proofs.Ytlglajaonmpljaa

namespace Go.Proofs.Ytlglajaonmpljaa
open Go.RowKit
set_option linter.unusedVariables false
set_option linter.unusedSimpArgs false
/-- what Meets answers. -/
def cutV (a1 a2 b1 b2 l1 l2 h1 h2 k : Int) : Pa := cut4 (2 * a1 - l1) (2 * b1 - l1) (2 * a2 - l2) (2 * b2 - l2) (h1 - 2 * a1) (h1 - 2 * b1) (h2 - 2 * a2) (h2 - 2 * b2) (!decide (k = 2)) (decide (k = 1))
def meR (a1 a2 b1 b2 l1 l2 h1 h2 k : Int) : Bool := rB5 a1 a2 && rB5 b1 b2 && co6 l1 l2 && co6 h1 h2 && kd6 k
def meB (a1 a2 b1 b2 l1 l2 h1 h2 k : Int) : Bool := meR a1 a2 b1 b2 l1 l2 h1 h2 k && anB (cutV a1 a2 b1 b2 l1 l2 h1 h2 k)
set_option maxRecDepth 100000 in
set_option maxHeartbeats 8000000 in
theorem p_Meets_no {a1 a2 b1 b2 l1 l2 h1 h2 k : Int} {r1 r2 r3 r4 r5 : Bool} (R1 : PCall Try.prog 46 [vP a1 a2] (vB r1)) (R2 : PCall Try.prog 46 [vP b1 b2] (vB r2)) (K1 : PCall Try.prog 58 [vP l1 l2] (vB r3)) (K2 : PCall Try.prog 58 [vP h1 h2] (vB r4)) (K3 : PCall Try.prog 59 [vI k] (vB r5)) (h : (r1 && r2 && r3 && r4 && r5) = false) :
    PCall Try.prog 47 [vP a1 a2, vP b1 b2, vP l1 l2, vP h1 h2, vI k] (vB false) := by
  have cs : r1 = false ∨ (r1 = true ∧ r2 = false) ∨ (r1 = true ∧ r2 = true ∧ r3 = false) ∨ (r1 = true ∧ r2 = true ∧ r3 = true ∧ r4 = false) ∨ (r1 = true ∧ r2 = true ∧ r3 = true ∧ r4 = true ∧ r5 = false) := by
    cases r1 <;> cases r2 <;> cases r3 <;> cases r4 <;> cases r5 <;> simp_all
  clear h
  rcases cs with rfl | ⟨rfl, rfl⟩ | ⟨rfl, rfl, rfl⟩ | ⟨rfl, rfl, rfl, rfl⟩ | ⟨rfl, rfl, rfl, rfl, rfl⟩
  all_goals
    refine pcall_body (f := 47) Try.func47 rfl rfl rfl rfl ?_
    (repeat (first | ((with_reducible apply al_q); exact rfl) | (refine al_call1 rfl rfl rfl (by (first | exact R1 | exact R2 | exact K1 | exact K2 | exact K3)) rfl ?_) | ((with_reducible apply awp_seq)) | ((with_reducible apply athen_normal)) | ((with_reducible apply awp_region)) | ((with_reducible apply al_nil)) | ((with_reducible apply awp_ret)) | ((with_reducible apply athen_ret)) | ((with_reducible apply awp_cond_t); exact rfl)))
    (first | (refine apost_ret rfl (resl_tmp rfl resl_nil) ?_))
    exact AV.Le.refl _
theorem alB_ok : PaOK alB := ⟨⟨by decide, by decide⟩, ⟨by decide, by decide⟩⟩
theorem p_Meets {a1 a2 b1 b2 l1 l2 h1 h2 k : Int} : PCall Try.prog 47 [vP a1 a2, vP b1 b2, vP l1 l2, vP h1 h2, vI k] (vB (meB a1 a2 b1 b2 l1 l2 h1 h2 k)) := by
  unfold meB
  cases hr : meR a1 a2 b1 b2 l1 l2 h1 h2 k with
  | false => exact p_Meets_no (p_cRight rfl) (p_cRight rfl) (p_isCorner rfl) (p_isCorner rfl) (p_isKind rfl) hr
  | true =>
    rw [Bool.true_and]
    unfold meR at hr
    simp only [Bool.and_eq_true] at hr
    obtain ⟨⟨⟨⟨ra, rb⟩, rl⟩, rh⟩, rk⟩ := hr
    have ia := rB5_iff.1 ra
    have ib := rB5_iff.1 rb
    have il := co6_iff.1 rl
    have ih := co6_iff.1 rh
    unfold cutV cut4
    have o1 := kp_ok (u := 2 * a1 - l1) (v := 2 * b1 - l1) (w := !decide (k = 2)) alB_ok (by omega) (by omega)
    have o2 := kp_ok (u := 2 * a2 - l2) (v := 2 * b2 - l2) (w := !decide (k = 2)) o1 (by omega) (by omega)
    have o3 := kp_ok (u := h1 - 2 * a1) (v := h1 - 2 * b1) (w := decide (k = 1)) o2 (by omega) (by omega)
    have o4 := kp_ok (u := h2 - 2 * a2) (v := h2 - 2 * b2) (w := decide (k = 1)) o3 (by omega) (by omega)
    exact p_Meets' (p_cRight ra) (p_cRight rb) (p_isCorner rl) (p_isCorner rh) (p_isKind rk) rfl rfl p_allOf (p_cutLeft ia.1 ib.1 il.1 (p_keep alB_ok (by omega) (by omega))) (p_cutBelow ia.2 ib.2 il.2 (p_keep o1 (by omega) (by omega))) (p_cutRight ia.1 ib.1 ih.1 (p_keep o2 (by omega) (by omega))) (p_cutAbove ia.2 ib.2 ih.2 (p_keep o3 (by omega) (by omega))) (p_hasAny o4)
/-- what Hits answers. -/
def hiB (a1 a2 b1 b2 x y k : Int) : Bool := decide (0 ≤ k) && decide (k ≤ 28) && inB k.toNat x y && meB a1 a2 b1 b2 (2 * (2 ^ k.toNat * x) - 2 ^ k.toNat) (2 * (2 ^ k.toNat * y) - 2 ^ k.toNat) (2 * (2 ^ k.toNat * x) + 2 ^ k.toNat) (2 * (2 ^ k.toNat * y) + 2 ^ k.toNat) 0
set_option maxRecDepth 100000 in
set_option maxHeartbeats 8000000 in
theorem p_Near_no {a1 a2 b1 b2 p1 p2 f : Int} {r1 : Bool} (R1 : PCall Try.prog 46 [vP p1 p2] (vB r1)) (cs : r1 = false ∨ (r1 = true ∧ f < 0) ∨ (r1 = true ∧ ¬ f < 0 ∧ 268435456 < f)) : PCall Try.prog 21 [vP a1 a2, vP b1 b2, vP p1 p2, vI f] (vB false) := by
  rcases cs with rfl | ⟨rfl, q1⟩ | ⟨rfl, q1, q2⟩
  all_goals
    refine pcall_body (f := 21) Try.func21 rfl rfl rfl rfl ?_
    (repeat (first | ((with_reducible apply al_q); exact rfl) | (refine al_call1 rfl rfl rfl (by (first | exact R1)) rfl ?_) | ((with_reducible apply al_guard_b (c := true)); exact rfl; exact rfl; (first | assumption | exact decide_eq_true (by omega) | (simp only [Bool.not_eq_true', decide_eq_false_iff_not, decide_eq_true_eq, Bool.not_eq_false']; (first | done | omega)))) | ((with_reducible apply al_guard_b (c := false)); exact rfl; exact rfl; (first | assumption | exact decide_eq_false (by omega) | (simp only [Bool.not_eq_true', decide_eq_false_iff_not, decide_eq_true_eq, Bool.not_eq_false']; (first | done | omega)))) | ((with_reducible apply awp_seq)) | ((with_reducible apply athen_normal)) | ((with_reducible apply awp_region)) | ((with_reducible apply al_nil)) | ((with_reducible apply awp_ret)) | ((with_reducible apply athen_ret)) | ((with_reducible apply awp_cond_t); exact rfl) | ((with_reducible apply awp_cond_1); exact rfl; (first | assumption | exact decide_eq_true (by omega) | (simp only [Bool.not_eq_true', decide_eq_false_iff_not, decide_eq_true_eq, Bool.not_eq_false']; (first | done | omega))))))
    (first | (refine apost_ret rfl (resl_tmp rfl resl_nil) ?_))
    exact AV.Le.refl _
set_option maxRecDepth 100000 in
set_option maxHeartbeats 8000000 in
theorem p_Near_yes {a1 a2 b1 b2 p1 p2 f : Int} {r : Bool} (R1 : PCall Try.prog 46 [vP p1 p2] (vB true)) (h1 : -134217728 ≤ p1 ∧ p1 ≤ 134217728) (h2 : -134217728 ≤ p2 ∧ p2 ≤ 134217728) (f0 : ¬ f < 0) (f1 : ¬ 268435456 < f) (M : PCall Try.prog 47 [vP a1 a2, vP b1 b2, vP (2 * p1 - f) (2 * p2 - f), vP (2 * p1 + f) (2 * p2 + f), vI 1] (vB r)) : PCall Try.prog 21 [vP a1 a2, vP b1 b2, vP p1 p2, vI f] (vB r) := by
  refine pcall_body (f := 21) Try.func21 rfl rfl rfl rfl ?_
  (repeat (first | ((with_reducible apply al_q); exact rfl) | ((with_reducible apply al_add); (iterate 3 exact rfl); (first | exact i64_wrap (by omega) | assumption | rfl); exact rfl) | ((with_reducible apply al_sub); (iterate 3 exact rfl); (first | exact i64_wrap (by omega) | assumption | rfl); exact rfl) | ((with_reducible apply al_mul); (iterate 3 exact rfl); (first | exact i64_wrap (by omega) | assumption | rfl); exact rfl) | (refine al_call1 rfl rfl rfl (by (first | exact R1 | exact M)) rfl ?_) | (refine al_call5 rfl rfl rfl rfl rfl rfl rfl (by (first | exact R1 | exact M)) rfl ?_) | ((with_reducible apply al_guard_b (c := false)); exact rfl; exact rfl; (first | assumption | exact decide_eq_false (by omega) | (simp only [Bool.not_eq_true', decide_eq_false_iff_not, decide_eq_true_eq, Bool.not_eq_false']; (first | done | omega)))) | ((with_reducible apply awp_seq)) | ((with_reducible apply athen_normal)) | ((with_reducible apply awp_region)) | ((with_reducible apply al_nil)) | ((with_reducible apply awp_ret)) | ((with_reducible apply awp_skip)) | ((with_reducible apply awp_cond_0); exact rfl; (first | assumption | exact decide_eq_false (by omega) | (simp only [Bool.not_eq_true', decide_eq_false_iff_not, decide_eq_true_eq, Bool.not_eq_false']; (first | done | omega))))))
  (first | (refine apost_ret rfl (resl_tmp rfl resl_nil) ?_))
  exact AV.Le.refl _
/-- what Near answers. -/
def neB (a1 a2 b1 b2 p1 p2 f : Int) : Bool := rB5 p1 p2 && !decide (f < 0) && !decide (268435456 < f) && meB a1 a2 b1 b2 (2 * p1 - f) (2 * p2 - f) (2 * p1 + f) (2 * p2 + f) 1
theorem p_Near {a1 a2 b1 b2 p1 p2 f : Int} : PCall Try.prog 21 [vP a1 a2, vP b1 b2, vP p1 p2, vI f] (vB (neB a1 a2 b1 b2 p1 p2 f)) := by
  unfold neB
  cases hr : rB5 p1 p2 with
  | false => exact p_Near_no (p_cRight hr) (.inl rfl)
  | true =>
    by_cases q1 : f < 0
    · rw [decide_eq_true q1]; exact p_Near_no (p_cRight hr) (.inr (.inl ⟨rfl, q1⟩))
    · rw [decide_eq_false q1]
      by_cases q2 : 268435456 < f
      · rw [decide_eq_true q2]; exact p_Near_no (p_cRight hr) (.inr (.inr ⟨rfl, q1, q2⟩))
      · rw [decide_eq_false q2]
        have ir := rB5_iff.1 hr
        exact p_Near_yes (p_cRight hr) ir.1 ir.2 q1 q2 p_Meets
end Go.Proofs.Ytlglajaonmpljaa

namespace Go.Proofs.Ytlglajaonmpljaa
set_option linter.unusedVariables false
def MetB (a1 a2 b1 b2 l1 l2 h1 h2 k : Int) : Prop := Met (2 * a1 - l1) (2 * b1 - l1) (2 * a2 - l2) (2 * b2 - l2) (h1 - 2 * a1) (h1 - 2 * b1) (h2 - 2 * a2) (h2 - 2 * b2) (!decide (k = 2)) (decide (k = 1))
theorem meB_iff {a1 a2 b1 b2 l1 l2 h1 h2 k : Int} : meB a1 a2 b1 b2 l1 l2 h1 h2 k = true ↔ meR a1 a2 b1 b2 l1 l2 h1 h2 k = true ∧ MetB a1 a2 b1 b2 l1 l2 h1 h2 k := by
  unfold meB cutV MetB
  rw [Bool.and_eq_true, cut4_any]
theorem meR_iff {a1 a2 b1 b2 l1 l2 h1 h2 k : Int} : meR a1 a2 b1 b2 l1 l2 h1 h2 k = true ↔ rB5 a1 a2 = true ∧ rB5 b1 b2 = true ∧ co6 l1 l2 = true ∧ co6 h1 h2 = true ∧ kd6 k = true := by
  unfold meR
  simp only [Bool.and_eq_true, and_assoc]
end Go.Proofs.Ytlglajaonmpljaa

namespace Go.Proofs.Ytlglajaonmpljaa
open Go.RowKit
set_option linter.unusedVariables false
set_option linter.unusedSimpArgs false
def basL (a1 a2 b1 b2 l1 l2 h1 h2 : Int) : List (Int × Int) := [(0, 1), (1, 1)] ++ waV a1 b1 l1 ++ waV a1 b1 h1 ++ waV a2 b2 l2 ++ waV a2 b2 h2
def allF (a1 a2 b1 b2 l1 l2 h1 h2 : Int) : List (Int × Int) := basL a1 a2 b1 b2 l1 l2 h1 h2 ++ midsN (basL a1 a2 b1 b2 l1 l2 h1 h2) (basL a1 a2 b1 b2 l1 l2 h1 h2).length
def gooF (a1 a2 b1 b2 l1 l2 h1 h2 kind : Int) (p : Int × Int) : Bool := wiB (2 * a1 * p.2 + p.1 * (2 * (b1 - a1)) * 1) (1 * p.2) l1 h1 kind && wiB (2 * a2 * p.2 + p.1 * (2 * (b2 - a2)) * 1) (1 * p.2) l2 h2 kind
theorem waV_cases (a b lim : Int) : (2 * (b - a) < 0 ∧ waV a b lim = if -(2 * (b - a)) = 0 ∨ -(lim - 2 * a) < 0 ∨ -(2 * (b - a)) < -(lim - 2 * a) then [] else [(-(lim - 2 * a), -(2 * (b - a)))]) ∨ (¬ 2 * (b - a) < 0 ∧ waV a b lim = if 2 * (b - a) = 0 ∨ lim - 2 * a < 0 ∨ 2 * (b - a) < lim - 2 * a then [] else [(lim - 2 * a, 2 * (b - a))]) := by
  unfold waV
  by_cases q : 2 * (b - a) < 0
  · exact .inl ⟨q, by simp only [if_pos q]⟩
  · exact .inr ⟨q, by simp only [if_neg q]⟩
theorem waV_length (a b lim : Int) : (waV a b lim).length ≤ 1 := by
  rcases waV_cases a b lim with ⟨_, e⟩ | ⟨_, e⟩ <;> rw [e] <;> split <;> simp
theorem waV_mem {a b lim : Int} {p : Int × Int} (h : p ∈ waV a b lim) : 0 < p.2 ∧ 0 ≤ p.1 ∧ p.1 ≤ p.2 := by
  rcases waV_cases a b lim with ⟨q, e⟩ | ⟨q, e⟩ <;> rw [e] at h <;> split at h
  · simp at h
  · rw [List.mem_singleton.1 h]; simp only; omega
  · simp at h
  · rw [List.mem_singleton.1 h]; simp only; omega
/-- how far a place can be: its numbers. -/
def Goo (p : Int × Int) : Prop := 0 < p.2 ∧ 0 ≤ p.1 ∧ p.1 ≤ p.2
theorem basL_goo {a1 a2 b1 b2 l1 l2 h1 h2 : Int} {p : Int × Int} (h : p ∈ basL a1 a2 b1 b2 l1 l2 h1 h2) : Goo p := by
  unfold basL at h
  simp only [List.mem_append, List.mem_cons, List.not_mem_nil, or_false] at h
  rcases h with (((h | h) | h) | h) | h
  · rcases h with rfl | rfl <;> (unfold Goo; simp)
  · exact waV_mem h
  · exact waV_mem h
  · exact waV_mem h
  · exact waV_mem h
theorem waV_small {a b lim : Int} (ha : -134217728 ≤ a ∧ a ≤ 134217728) (hb : -134217728 ≤ b ∧ b ≤ 134217728) {p : Int × Int} (h : p ∈ waV a b lim) : p.2 ≤ 536870912 := by
  rcases waV_cases a b lim with ⟨q, e⟩ | ⟨q, e⟩ <;> rw [e] at h <;> split at h
  · simp at h
  · rw [List.mem_singleton.1 h]; simp only; omega
  · simp at h
  · rw [List.mem_singleton.1 h]; simp only; omega
theorem basL_small {a1 a2 b1 b2 l1 l2 h1 h2 : Int} (ha : rB5 a1 a2 = true) (hb : rB5 b1 b2 = true) {p : Int × Int} (h : p ∈ basL a1 a2 b1 b2 l1 l2 h1 h2) : p.2 ≤ 536870912 := by
  rw [rB5_iff] at ha hb
  unfold basL at h
  simp only [List.mem_append, List.mem_cons, List.not_mem_nil, or_false] at h
  rcases h with (((h | h) | h) | h) | h
  · rcases h with rfl | rfl <;> simp
  · exact waV_small ha.1 hb.1 h
  · exact waV_small ha.1 hb.1 h
  · exact waV_small ha.2 hb.2 h
  · exact waV_small ha.2 hb.2 h
theorem basL_nb {a1 a2 b1 b2 l1 l2 h1 h2 : Int} (ha : rB5 a1 a2 = true) (hb : rB5 b1 b2 = true) {p : Int × Int} (h : p ∈ basL a1 a2 b1 b2 l1 l2 h1 h2) : NB 5 p.1 ∧ NB 5 p.2 := by
  obtain ⟨q1, q2, q3⟩ := basL_goo h
  have := basL_small ha hb h
  exact ⟨nb5 (by omega) (by omega), nb5 (by omega) (by omega)⟩
theorem atP_mem {L : List (Int × Int)} {i : Nat} (h : i < L.length) : atP L i ∈ L := by
  have := atP_get h []
  rw [List.append_nil] at this
  exact List.mem_of_getElem? this
theorem mids_mem {L : List (Int × Int)} {n : Nat} {p : Int × Int} : p ∈ midsN L n ↔ ∃ i j, i < n ∧ j < i ∧ p = midP (atP L i) (atP L j) := by
  unfold midsN rwMid
  simp only [List.mem_flatMap, List.mem_range, List.mem_map]
  constructor
  · rintro ⟨i, hi, j, hj, rfl⟩; exact ⟨i, j, hi, hj, rfl⟩
  · rintro ⟨i, j, hi, hj, rfl⟩; exact ⟨i, hi, j, hj, rfl⟩
theorem midP_goo {p q : Int × Int} (h : Goo p) (k : Goo q) : Goo (midP p q) := by
  obtain ⟨h1, h2, h3⟩ := h
  obtain ⟨k1, k2, k3⟩ := k
  unfold midP Goo
  simp only
  have m := Int.mul_pos h1 k1
  have m1 := Int.mul_nonneg h2 (Int.le_of_lt k1)
  have m2 := Int.mul_nonneg k2 (Int.le_of_lt h1)
  have m3 : p.1 * q.2 ≤ p.2 * q.2 := Int.mul_le_mul_of_nonneg_right h3 (Int.le_of_lt k1)
  have m4 : q.1 * p.2 ≤ q.2 * p.2 := Int.mul_le_mul_of_nonneg_right k3 (Int.le_of_lt h1)
  rw [Int.mul_comm q.2] at m4
  omega
theorem allF_cases {a1 a2 b1 b2 l1 l2 h1 h2 : Int} {p : Int × Int} (h : p ∈ allF a1 a2 b1 b2 l1 l2 h1 h2) : p ∈ basL a1 a2 b1 b2 l1 l2 h1 h2 ∨ ∃ q r, q ∈ basL a1 a2 b1 b2 l1 l2 h1 h2 ∧ r ∈ basL a1 a2 b1 b2 l1 l2 h1 h2 ∧ p = midP q r := by
  unfold allF at h
  rcases List.mem_append.1 h with h | h
  · exact .inl h
  · obtain ⟨i, j, hi, hj, rfl⟩ := mids_mem.1 h
    exact .inr ⟨_, _, atP_mem hi, atP_mem (by omega), rfl⟩
theorem allF_goo {a1 a2 b1 b2 l1 l2 h1 h2 : Int} {p : Int × Int} (h : p ∈ allF a1 a2 b1 b2 l1 l2 h1 h2) : Goo p := by
  rcases allF_cases h with h | ⟨q, r, hq, hr, rfl⟩
  · exact basL_goo h
  · exact midP_goo (basL_goo hq) (basL_goo hr)
theorem allF_nb {a1 a2 b1 b2 l1 l2 h1 h2 : Int} (ha : rB5 a1 a2 = true) (hb : rB5 b1 b2 = true) {p : Int × Int} (h : p ∈ allF a1 a2 b1 b2 l1 l2 h1 h2) : NB 11 p.1 ∧ NB 11 p.2 := by
  rcases allF_cases h with h | ⟨q, r, hq, hr, rfl⟩
  · obtain ⟨n1, n2⟩ := basL_nb ha hb h
    exact ⟨n1.up (by omega), n2.up (by omega)⟩
  · obtain ⟨n1, n2⟩ := basL_nb ha hb hq
    obtain ⟨m1, m2⟩ := basL_nb ha hb hr
    exact ⟨(n1.mul m2).add (m1.mul n2), (n2.mul m2).add (n2.mul m2)⟩
/-- a place is good just if it is within all four sides. -/
theorem wiB_iff {a b l h k : Int} {p : Int × Int} : wiB (2 * a * p.2 + p.1 * (2 * (b - a)) * 1) (1 * p.2) l h k = true ↔ Hol (2 * a - l) (2 * b - l) (!decide (k = 2)) p.1 p.2 ∧ Hol (h - 2 * a) (h - 2 * b) (decide (k = 1)) p.1 p.2 := by
  obtain ⟨n, d⟩ := p
  unfold wiB Hol
  simp only [Bool.and_eq_true, Bool.or_eq_true, decide_eq_true_eq]
  rw [ic_lt, ic_eq, ic_lt, ic_eq]
  have e1 : (2 * a - l) * (d - n) + (2 * b - l) * n = (2 * a * d + n * (2 * (b - a)) * 1) * 1 - l * (1 * d) := by grind
  have e2 : (h - 2 * a) * (d - n) + (h - 2 * b) * n = h * (1 * d) - (2 * a * d + n * (2 * (b - a)) * 1) * 1 := by grind
  rw [e1, e2]
  generalize (2 * a * d + n * (2 * (b - a)) * 1) * 1 = X
  generalize l * (1 * d) = Y
  generalize h * (1 * d) = Z
  constructor
  · rintro ⟨k1, k2⟩
    refine ⟨?_, ?_⟩
    · rcases k1 with k1 | ⟨k1, k3⟩
      · exact .inl (by omega)
      · exact .inr ⟨k3, by omega⟩
    · rcases k2 with k2 | ⟨k2, k3⟩
      · exact .inl (by omega)
      · exact .inr ⟨k3, by omega⟩
  · rintro ⟨k1, k2⟩
    refine ⟨?_, ?_⟩
    · rcases k1 with k1 | ⟨k3, k1⟩
      · exact .inl (by omega)
      · exact .inr ⟨by omega, k3⟩
    · rcases k2 with k2 | ⟨k3, k2⟩
      · exact .inl (by omega)
      · exact .inr ⟨by omega, k3⟩
theorem gooF_iff {a1 a2 b1 b2 l1 l2 h1 h2 k : Int} {p : Int × Int} (hp : Goo p) : gooF a1 a2 b1 b2 l1 l2 h1 h2 k p = true ↔ InP (cutV a1 a2 b1 b2 l1 l2 h1 h2 k) p.1 p.2 := by
  unfold gooF cutV
  rw [Bool.and_eq_true, wiB_iff, wiB_iff, cut4_in hp.1]
  constructor
  · rintro ⟨⟨g1, g2⟩, g3, g4⟩; exact ⟨hp.2, g1, g3, g2, g4⟩
  · rintro ⟨_, g1, g3, g2, g4⟩; exact ⟨⟨g1, g2⟩, g3, g4⟩
/-- where bounds come from. -/
def Cnd (u v n d : Int) : Prop := (0 < v - u ∧ n = -u ∧ d = v - u) ∨ (v - u < 0 ∧ n = u ∧ d = -(v - u))
theorem kp_from {S : Int → Int → Prop} {p : Pa} {u v : Int} {o : Bool} (h0 : S 0 1) (h1 : S 1 1) (hc : ∀ n d, Cnd u v n d → S n d) (hf : S p.f.n p.f.d) (ht : S p.t.n p.t.d) : S (kpB p u v o).f.n (kpB p u v o).f.d ∧ S (kpB p u v o).t.n (kpB p u v o).t.d := by
  unfold kpB
  by_cases q1 : 0 < v - u
  · rw [if_pos q1]
    refine ⟨?_, ht⟩
    rcases la_cases p.f ⟨-u, v - u, o⟩ with ⟨e, _⟩ | ⟨e, _⟩ <;> simp only [e]
    · exact hf
    · exact hc _ _ (.inl ⟨q1, rfl, rfl⟩)
  · rw [if_neg q1]
    by_cases q2 : v - u < 0
    · rw [if_pos q2]
      refine ⟨hf, ?_⟩
      rcases ea_cases p.t ⟨u, -(v - u), o⟩ with ⟨e, _⟩ | ⟨e, _⟩ <;> simp only [e]
      · exact ht
      · exact hc _ _ (.inr ⟨q2, rfl, rfl⟩)
    · rw [if_neg q2]
      split
      · exact ⟨h1, h0⟩
      · exact ⟨hf, ht⟩
theorem kp_ends {p : Pa} {u v : Int} {o : Bool} (df : 0 < p.f.d) (dt : 0 < p.t.d) (hf : 0 ≤ p.f.n) (ht : p.t.n ≤ p.t.d) : 0 ≤ (kpB p u v o).f.n ∧ (kpB p u v o).t.n ≤ (kpB p u v o).t.d := by
  unfold kpB
  by_cases q1 : 0 < v - u
  · rw [if_pos q1]
    refine ⟨?_, ht⟩
    rcases la_cases p.f ⟨-u, v - u, o⟩ with ⟨e, _⟩ | ⟨e, h⟩ <;> simp only [e]
    · exact hf
    · have hle : p.f.n * (v - u) ≤ -u * p.f.d := by
        rcases cm_tri p.f ⟨-u, v - u, o⟩ with ⟨t, _⟩ | ⟨t, _⟩ | ⟨_, c⟩
        · simp only at t; omega
        · simp only at t; omega
        · exact absurd (.inl c) h
      have m := Int.mul_nonneg hf (by omega : 0 ≤ v - u)
      have : 0 * p.f.d ≤ -u * p.f.d := by omega
      exact le_mul this df
  · rw [if_neg q1]
    by_cases q2 : v - u < 0
    · rw [if_pos q2]
      refine ⟨hf, ?_⟩
      rcases ea_cases p.t ⟨u, -(v - u), o⟩ with ⟨e, _⟩ | ⟨e, h⟩ <;> simp only [e]
      · exact ht
      · have hle : u * p.t.d ≤ p.t.n * -(v - u) := by
          rcases cm_tri p.t ⟨u, -(v - u), o⟩ with ⟨_, c⟩ | ⟨t, _⟩ | ⟨t, _⟩
          · exact absurd (.inl c) h
          · simp only at t; omega
          · simp only at t; omega
        have m : p.t.n * -(v - u) ≤ p.t.d * -(v - u) := Int.mul_le_mul_of_nonneg_right ht (by omega)
        have : u * p.t.d ≤ -(v - u) * p.t.d := by rw [Int.mul_comm (-(v - u))]; omega
        exact le_mul this dt
    · rw [if_neg q2]
      split
      · exact ⟨by decide, by decide⟩
      · exact ⟨hf, ht⟩
theorem cnd_low {a b l n d : Int} (h : Cnd (2 * a - l) (2 * b - l) n d) (h0 : 0 ≤ n) (h1 : n ≤ d) : (n, d) ∈ waV a b l := by
  unfold Cnd at h
  rcases waV_cases a b l with ⟨q, e⟩ | ⟨q, e⟩ <;> rw [e] <;> split
  · exfalso; omega
  · rw [List.mem_singleton, Prod.mk.injEq]; omega
  · exfalso; omega
  · rw [List.mem_singleton, Prod.mk.injEq]; omega
theorem cnd_high {a b l n d : Int} (h : Cnd (l - 2 * a) (l - 2 * b) n d) (h0 : 0 ≤ n) (h1 : n ≤ d) : (n, d) ∈ waV a b l := by
  unfold Cnd at h
  rcases waV_cases a b l with ⟨q, e⟩ | ⟨q, e⟩ <;> rw [e] <;> split
  · exfalso; omega
  · rw [List.mem_singleton, Prod.mk.injEq]; omega
  · exfalso; omega
  · rw [List.mem_singleton, Prod.mk.injEq]; omega
theorem cutV_ends (a1 a2 b1 b2 l1 l2 h1 h2 k : Int) (h : (cutV a1 a2 b1 b2 l1 l2 h1 h2 k).f.n * (cutV a1 a2 b1 b2 l1 l2 h1 h2 k).t.d ≤ (cutV a1 a2 b1 b2 l1 l2 h1 h2 k).t.n * (cutV a1 a2 b1 b2 l1 l2 h1 h2 k).f.d) :
    ((cutV a1 a2 b1 b2 l1 l2 h1 h2 k).f.n, (cutV a1 a2 b1 b2 l1 l2 h1 h2 k).f.d) ∈ basL a1 a2 b1 b2 l1 l2 h1 h2 ∧ ((cutV a1 a2 b1 b2 l1 l2 h1 h2 k).t.n, (cutV a1 a2 b1 b2 l1 l2 h1 h2 k).t.d) ∈ basL a1 a2 b1 b2 l1 l2 h1 h2 := by
  have hd : 0 < (cutV a1 a2 b1 b2 l1 l2 h1 h2 k).f.d ∧ 0 < (cutV a1 a2 b1 b2 l1 l2 h1 h2 k).t.d := cut4_d ..
  have key : ∀ n d, ((n = 0 ∧ d = 1) ∨ (n = 1 ∧ d = 1) ∨ Cnd (2 * a1 - l1) (2 * b1 - l1) n d ∨ Cnd (2 * a2 - l2) (2 * b2 - l2) n d ∨ Cnd (h1 - 2 * a1) (h1 - 2 * b1) n d ∨ Cnd (h2 - 2 * a2) (h2 - 2 * b2) n d) → 0 ≤ n → n ≤ d → (n, d) ∈ basL a1 a2 b1 b2 l1 l2 h1 h2 := by
    intro n d hs q0 q1
    unfold basL
    simp only [List.mem_append, List.mem_cons, List.not_mem_nil, or_false, Prod.mk.injEq]
    rcases hs with hs | hs | hs | hs | hs | hs
    · exact .inl (.inl (.inl (.inl (.inl hs))))
    · exact .inl (.inl (.inl (.inl (.inr hs))))
    · exact .inl (.inl (.inl (.inr (cnd_low hs q0 q1))))
    · exact .inl (.inr (cnd_low hs q0 q1))
    · exact .inl (.inl (.inr (cnd_high hs q0 q1)))
    · exact .inr (cnd_high hs q0 q1)
  generalize hS : (fun n d : Int => ((n = 0 ∧ d = 1) ∨ (n = 1 ∧ d = 1) ∨ Cnd (2 * a1 - l1) (2 * b1 - l1) n d ∨ Cnd (2 * a2 - l2) (2 * b2 - l2) n d ∨ Cnd (h1 - 2 * a1) (h1 - 2 * b1) n d ∨ Cnd (h2 - 2 * a2) (h2 - 2 * b2) n d)) = S
  have s0 : S 0 1 := by rw [← hS]; exact .inl ⟨rfl, rfl⟩
  have s1 : S 1 1 := by rw [← hS]; exact .inr (.inl ⟨rfl, rfl⟩)
  have c1 : ∀ n d, Cnd (2 * a1 - l1) (2 * b1 - l1) n d → S n d := fun n d h => by rw [← hS]; exact .inr (.inr (.inl h))
  have c2 : ∀ n d, Cnd (2 * a2 - l2) (2 * b2 - l2) n d → S n d := fun n d h => by rw [← hS]; exact .inr (.inr (.inr (.inl h)))
  have c3 : ∀ n d, Cnd (h1 - 2 * a1) (h1 - 2 * b1) n d → S n d := fun n d h => by rw [← hS]; exact .inr (.inr (.inr (.inr (.inl h))))
  have c4 : ∀ n d, Cnd (h2 - 2 * a2) (h2 - 2 * b2) n d → S n d := fun n d h => by rw [← hS]; exact .inr (.inr (.inr (.inr (.inr h))))
  have key' : ∀ n d, S n d → 0 ≤ n → n ≤ d → (n, d) ∈ basL a1 a2 b1 b2 l1 l2 h1 h2 := fun n d h => key n d (by rw [← hS] at h; exact h)
  have hs : S (cutV a1 a2 b1 b2 l1 l2 h1 h2 k).f.n (cutV a1 a2 b1 b2 l1 l2 h1 h2 k).f.d ∧ S (cutV a1 a2 b1 b2 l1 l2 h1 h2 k).t.n (cutV a1 a2 b1 b2 l1 l2 h1 h2 k).t.d := by
    unfold cutV cut4
    have k1 := kp_from (p := alB) (u := 2 * a1 - l1) (v := 2 * b1 - l1) (o := !decide (k = 2)) s0 s1 c1 s0 s1
    have k2 := kp_from (u := 2 * a2 - l2) (v := 2 * b2 - l2) (o := !decide (k = 2)) s0 s1 c2 k1.1 k1.2
    have k3 := kp_from (u := h1 - 2 * a1) (v := h1 - 2 * b1) (o := decide (k = 1)) s0 s1 c3 k2.1 k2.2
    exact kp_from s0 s1 c4 k3.1 k3.2
  have he : 0 ≤ (cutV a1 a2 b1 b2 l1 l2 h1 h2 k).f.n ∧ (cutV a1 a2 b1 b2 l1 l2 h1 h2 k).t.n ≤ (cutV a1 a2 b1 b2 l1 l2 h1 h2 k).t.d := by
    unfold cutV cut4
    have d1 := kp_d (p := alB) (u := 2 * a1 - l1) (v := 2 * b1 - l1) (own := !decide (k = 2)) (by decide) (by decide)
    have d2 := kp_d (u := 2 * a2 - l2) (v := 2 * b2 - l2) (own := !decide (k = 2)) d1.1 d1.2
    have d3 := kp_d (u := h1 - 2 * a1) (v := h1 - 2 * b1) (own := decide (k = 1)) d2.1 d2.2
    have k1 := kp_ends (p := alB) (u := 2 * a1 - l1) (v := 2 * b1 - l1) (o := !decide (k = 2)) (by decide) (by decide) (by decide) (by decide)
    have k2 := kp_ends (u := 2 * a2 - l2) (v := 2 * b2 - l2) (o := !decide (k = 2)) d1.1 d1.2 k1.1 k1.2
    have k3 := kp_ends (u := h1 - 2 * a1) (v := h1 - 2 * b1) (o := decide (k = 1)) d2.1 d2.2 k2.1 k2.2
    exact kp_ends d3.1 d3.2 k3.1 k3.2
  generalize cutV a1 a2 b1 b2 l1 l2 h1 h2 k = p at *
  clear hS s0 s1 c1 c2 c3 c4 key
  have m1 : p.t.n * p.f.d ≤ p.t.d * p.f.d := Int.mul_le_mul_of_nonneg_right he.2 (by omega)
  have m2 := Int.mul_nonneg he.1 (by omega : 0 ≤ p.t.d)
  refine ⟨key' _ _ hs.1 he.1 ?_, key' _ _ hs.2 ?_ he.2⟩
  · have : p.f.n * p.t.d ≤ p.f.d * p.t.d := by rw [Int.mul_comm p.f.d]; omega
    exact le_mul this hd.2
  · have : 0 * p.f.d ≤ p.t.n * p.f.d := by omega
    exact le_mul this hd.1
theorem allF_any (a1 a2 b1 b2 l1 l2 h1 h2 k : Int) : (allF a1 a2 b1 b2 l1 l2 h1 h2).any (gooF a1 a2 b1 b2 l1 l2 h1 h2 k) = anB (cutV a1 a2 b1 b2 l1 l2 h1 h2 k) := by
  have hd : 0 < (cutV a1 a2 b1 b2 l1 l2 h1 h2 k).f.d ∧ 0 < (cutV a1 a2 b1 b2 l1 l2 h1 h2 k).t.d := cut4_d ..
  rw [Bool.eq_iff_iff, List.any_eq_true]
  constructor
  · rintro ⟨p, hp, hg⟩
    rw [an_iff hd.1 hd.2]
    have hG := allF_goo hp
    exact ⟨p.1, p.2, hG.1, (gooF_iff hG).1 hg⟩
  · intro ha
    have ha' := ha
    unfold anB at ha
    simp only [Bool.or_eq_true, Bool.and_eq_true, decide_eq_true_eq] at ha
    rcases cm_tri (cutV a1 a2 b1 b2 l1 l2 h1 h2 k).f (cutV a1 a2 b1 b2 l1 l2 h1 h2 k).t with ⟨t, c⟩ | ⟨t, c⟩ | ⟨t, c⟩
    · obtain ⟨m1, m2⟩ := cutV_ends a1 a2 b1 b2 l1 l2 h1 h2 k (by omega)
      have hin := (mid_in hd.1 hd.2 t).2
      obtain ⟨i, hi⟩ := List.getElem?_of_mem m1
      obtain ⟨j, hj⟩ := List.getElem?_of_mem m2
      have li := (List.getElem?_eq_some_iff.1 hi).1
      have lj := (List.getElem?_eq_some_iff.1 hj).1
      have ei : atP (basL a1 a2 b1 b2 l1 l2 h1 h2) i = ((cutV a1 a2 b1 b2 l1 l2 h1 h2 k).f.n, (cutV a1 a2 b1 b2 l1 l2 h1 h2 k).f.d) := by
        have := atP_get li []
        rw [List.append_nil, hi] at this
        exact (Option.some.inj this).symm
      have ej : atP (basL a1 a2 b1 b2 l1 l2 h1 h2) j = ((cutV a1 a2 b1 b2 l1 l2 h1 h2 k).t.n, (cutV a1 a2 b1 b2 l1 l2 h1 h2 k).t.d) := by
        have := atP_get lj []
        rw [List.append_nil, hj] at this
        exact (Option.some.inj this).symm
      rcases Nat.lt_trichotomy i j with hij | hij | hij
      · have hm : midP (atP (basL a1 a2 b1 b2 l1 l2 h1 h2) j) (atP (basL a1 a2 b1 b2 l1 l2 h1 h2) i) ∈ allF a1 a2 b1 b2 l1 l2 h1 h2 := List.mem_append_right _ (mids_mem.2 ⟨j, i, lj, hij, rfl⟩)
        refine ⟨_, hm, (gooF_iff (allF_goo hm)).2 ?_⟩
        rw [ei, ej]
        unfold midP
        simp only
        unfold midN midD at hin
        rw [Int.add_comm, Int.mul_comm (cutV a1 a2 b1 b2 l1 l2 h1 h2 k).t.d]
        exact hin
      · exfalso
        subst hij
        rw [ei] at ej
        simp only [Prod.mk.injEq] at ej
        rw [← ej.1, ← ej.2] at t
        omega
      · have hm : midP (atP (basL a1 a2 b1 b2 l1 l2 h1 h2) i) (atP (basL a1 a2 b1 b2 l1 l2 h1 h2) j) ∈ allF a1 a2 b1 b2 l1 l2 h1 h2 := List.mem_append_right _ (mids_mem.2 ⟨i, j, li, hij, rfl⟩)
        refine ⟨_, hm, (gooF_iff (allF_goo hm)).2 ?_⟩
        rw [ei, ej]
        exact hin
    · obtain ⟨m1, m2⟩ := cutV_ends a1 a2 b1 b2 l1 l2 h1 h2 k (by omega)
      rcases ha with ha | ⟨⟨_, o1⟩, o2⟩
      · omega
      · have hm : ((cutV a1 a2 b1 b2 l1 l2 h1 h2 k).f.n, (cutV a1 a2 b1 b2 l1 l2 h1 h2 k).f.d) ∈ allF a1 a2 b1 b2 l1 l2 h1 h2 := List.mem_append_left _ m1
        exact ⟨_, hm, (gooF_iff (allF_goo hm)).2 ⟨.inr ⟨o1, rfl⟩, .inr ⟨o2, t⟩⟩⟩
    · rcases ha with ha | ⟨⟨ha, _⟩, _⟩ <;> omega
set_option maxRecDepth 100000 in
set_option maxHeartbeats 8000000 in
theorem p_r6Meets_no {a1 a2 b1 b2 l1 l2 h1 h2 k : Int} {r1 r2 r3 r4 : Bool} (R1 : PCall Try.prog 10 [vP a1 a2] (vB r1)) (R2 : PCall Try.prog 10 [vP b1 b2] (vB r2)) (K1 : PCall Try.prog 72 [vP l1 l2] (vB r3)) (K2 : PCall Try.prog 72 [vP h1 h2] (vB r4))
    (cs : r1 = false ∨ (r1 = true ∧ r2 = false) ∨ (r1 = true ∧ r2 = true ∧ r3 = false) ∨ (r1 = true ∧ r2 = true ∧ r3 = true ∧ r4 = false) ∨ (r1 = true ∧ r2 = true ∧ r3 = true ∧ r4 = true ∧ k < 0) ∨ (r1 = true ∧ r2 = true ∧ r3 = true ∧ r4 = true ∧ ¬ k < 0 ∧ 2 < k)) :
    PCall Try.prog 53 [vP a1 a2, vP b1 b2, vP l1 l2, vP h1 h2, vI k] (vB false) := by
  rcases cs with rfl | ⟨rfl, rfl⟩ | ⟨rfl, rfl, rfl⟩ | ⟨rfl, rfl, rfl, rfl⟩ | ⟨rfl, rfl, rfl, rfl, q1⟩ | ⟨rfl, rfl, rfl, rfl, q1, q2⟩
  all_goals
    refine pcall_body (f := 53) Try.func53 rfl rfl rfl rfl ?_
    (repeat (first | ((with_reducible apply al_q); exact rfl) | (refine al_call1 rfl rfl rfl (by (first | exact R1 | exact R2 | exact K1 | exact K2)) rfl ?_) | ((with_reducible apply al_guard_b (c := true)); exact rfl; exact rfl; (first | assumption | exact decide_eq_true (by omega) | (simp only [Bool.not_eq_true', decide_eq_false_iff_not, decide_eq_true_eq, Bool.not_eq_false']; (first | done | omega)))) | ((with_reducible apply al_guard_b (c := false)); exact rfl; exact rfl; (first | assumption | exact decide_eq_false (by omega) | (simp only [Bool.not_eq_true', decide_eq_false_iff_not, decide_eq_true_eq, Bool.not_eq_false']; (first | done | omega)))) | ((with_reducible apply awp_seq)) | ((with_reducible apply athen_normal)) | ((with_reducible apply awp_region)) | ((with_reducible apply al_nil)) | ((with_reducible apply awp_ret)) | ((with_reducible apply athen_ret)) | ((with_reducible apply awp_cond_t); exact rfl) | ((with_reducible apply awp_cond_1); exact rfl; (first | assumption | exact decide_eq_true (by omega) | (simp only [Bool.not_eq_true', decide_eq_false_iff_not, decide_eq_true_eq, Bool.not_eq_false']; (first | done | omega))))))
    (first | (refine apost_ret rfl (resl_tmp rfl resl_nil) ?_))
    exact AV.Le.refl _
theorem p_r6Meets {a1 a2 b1 b2 l1 l2 h1 h2 k : Int} : PCall Try.prog 53 [vP a1 a2, vP b1 b2, vP l1 l2, vP h1 h2, vI k] (vB (meB a1 a2 b1 b2 l1 l2 h1 h2 k)) := by
  unfold meB
  cases hr : meR a1 a2 b1 b2 l1 l2 h1 h2 k with
  | false =>
    refine p_r6Meets_no (p_r5Right rfl) (p_r5Right rfl) (p_r6right rfl) (p_r6right rfl) ?_
    unfold meR kd6 at hr
    cases q1 : rB5 a1 a2 with
    | false => exact .inl rfl
    | true =>
      cases q2 : rB5 b1 b2 with
      | false => exact .inr (.inl ⟨rfl, rfl⟩)
      | true =>
        cases q3 : co6 l1 l2 with
        | false => exact .inr (.inr (.inl ⟨rfl, rfl, rfl⟩))
        | true =>
          cases q4 : co6 h1 h2 with
          | false => exact .inr (.inr (.inr (.inl ⟨rfl, rfl, rfl, rfl⟩)))
          | true =>
            rw [q1, q2, q3, q4] at hr
            simp only [Bool.and_true, Bool.true_and, Bool.and_eq_false_iff, decide_eq_false_iff_not] at hr
            by_cases q5 : k < 0
            · exact .inr (.inr (.inr (.inr (.inl ⟨rfl, rfl, rfl, rfl, q5⟩))))
            · exact .inr (.inr (.inr (.inr (.inr ⟨rfl, rfl, rfl, rfl, q5, by omega⟩))))
  | true =>
    rw [Bool.true_and]
    rw [meR_iff] at hr
    obtain ⟨ra, rb, rl, rh, rk⟩ := hr
    have ia := rB5_iff.1 ra
    have ib := rB5_iff.1 rb
    have il := co6_iff.1 rl
    have ih := co6_iff.1 rh
    unfold kd6 at rk
    simp only [Bool.and_eq_true, decide_eq_true_eq] at rk
    refine p_r6Meets' (L := basL a1 a2 b1 b2 l1 l2 h1 h2) (F := allF a1 a2 b1 b2 l1 l2 h1 h2) (g := gooF a1 a2 b1 b2 l1 l2 h1 h2 k) (p_r5Right ra) (p_r5Right rb) (p_r6right rl) (p_r6right rh) (by omega) (by omega) (p_r6num (by omega) (by omega)) (p_r6num (by omega) (by omega))
      (p_r6ways ia.1 ib.1 il.1) (p_r6ways ia.1 ib.1 ih.1) (p_r6ways ia.2 ib.2 il.2) (p_r6ways ia.2 ib.2 ih.2) ⟨waV_length _ _ _, waV_length _ _ _, waV_length _ _ _, waV_length _ _ _⟩ rfl rfl (fun i j hi hj => ?_) (fun p hp => ?_) (allF_any ..)
    · obtain ⟨n1, n2⟩ := basL_nb ra rb (atP_mem hi)
      obtain ⟨m1, m2⟩ := basL_nb ra rb (atP_mem (Nat.lt_trans hj hi))
      exact ⟨p_r6sum (n1.up (by omega)) (n2.up (by omega)) (m1.up (by omega)) (m2.up (by omega)), p_rAdd ((n2.mul m2).up (by omega)) ((n2.mul m2).up (by omega))⟩
    · obtain ⟨n1, n2⟩ := allF_nb ra rb hp
      have t1 : NB 5 (1 : Int) := nb5 (by omega) (by omega)
      have x1 : NB 5 (2 * (b1 - a1)) := nb5 (by omega) (by omega)
      have x2 : NB 5 (2 * (b2 - a2)) := nb5 (by omega) (by omega)
      have y1 : NB 5 (2 * a1) := nb5 (by omega) (by omega)
      have y2 : NB 5 (2 * a2) := nb5 (by omega) (by omega)
      have z1 : NB 21 (2 * a1 * p.2) := (y1.mul n2).up (by omega)
      have z2 : NB 21 (p.1 * (2 * (b1 - a1)) * 1) := ((n1.mul x1).mul t1).up (by omega)
      have z3 : NB 21 (2 * a2 * p.2) := (y2.mul n2).up (by omega)
      have z4 : NB 21 (p.1 * (2 * (b2 - a2)) * 1) := ((n1.mul x2).mul t1).up (by omega)
      have z5 : NB 16 (1 * p.2) := (t1.mul n2).up (by omega)
      have u1 := z1.add z2
      have u2 := z3.add z4
      exact ⟨_, _, _, _, _, _, p_r6on ia.1 ib.1 (n1.up (by omega)) (n2.up (by omega)), p_r6within il.1 ih.1 (u1.up (by omega)) (z5.up (by omega)), p_r6on ia.2 ib.2 (n1.up (by omega)) (n2.up (by omega)), p_r6within il.2 ih.2 (u2.up (by omega)) (z5.up (by omega)), rfl⟩
end Go.Proofs.Ytlglajaonmpljaa

namespace Go.Proofs.Ytlglajaonmpljaa
open Go.ChangeShapes Go.WideShapes Go.ChangeAt Go.RowKit Go.Joins
set_option linter.unusedVariables false
set_option linter.unusedSimpArgs false
theorem own3 : ownKnob Try.prog.godebug = none := by kernel_rfl
/-- a type of plain values. -/
def flatB (P : Program) : Nat → TypeId → Bool
  | 0, _ => false
  | d + 1, t => match P.underlying t with
    | some .bool | some (.int _) | some .string => true
    | some (.struct fs) => fs.toList.all fun f => flatB P d f.type
    | some (.array _ e) => flatB P d e
    | _ => false
theorem mapM_flat {α β : Type} {f g : α → Option (β × List MemPlace)} : ∀ (l : List α) (xs : List (β × List MemPlace)), l.mapM f = some xs → (∀ a ∈ l, ∀ x, f a = some x → x.2 = [] ∧ g a = some (x.1, [])) → xs.flatMap (·.2) = [] ∧ l.mapM g = some xs
  | [], xs, h, _ => by cases h; exact ⟨rfl, rfl⟩
  | a :: l, xs, h, hk => by
    rw [List.mapM_cons] at h
    cases ha : f a with
    | none => rw [ha] at h; cases h
    | some b =>
      rw [ha] at h
      cases hl : l.mapM f with
      | none => rw [hl] at h; cases h
      | some bs =>
        rw [hl] at h
        cases h
        obtain ⟨h1, h2⟩ := hk a (by simp) b ha
        obtain ⟨h3, h4⟩ := mapM_flat l bs hl fun a' ha' => hk a' (by simp [ha'])
        refine ⟨by simp [h1]; intro a' b' hab; have := List.flatMap_eq_nil_iff.1 h3 _ hab; exact this, ?_⟩
        rw [List.mapM_cons, h2, h4]
        obtain ⟨b1, b2⟩ := b
        simp only at h1
        subst h1
        rfl
section
variable {H : Type} {enc : TypeId × Value → H} {P : Program}
theorem flat_trod : ∀ (d : Nat) (t : TypeId), flatB P d t = true → ∀ (fuel : Nat) (w : World) (base : Nat) (sp : Nat → Bool) (held : Bool) (cs : List Value) (x : DataW H × List MemPlace), DataW.trod enc P w base sp held fuel t cs = some x →
    x.2 = [] ∧ ∀ (w' : World) (base' : Nat) (sp' : Nat → Bool) (held' : Bool), DataW.trod enc P w' base' sp' held' fuel t cs = some (x.1, [])
  | 0, _, h, _, _, _, _, _, _, _, _ => by cases h
  | d + 1, t, hf, 0, _, _, _, _, _, _, h => by simp [DataW.trod] at h
  | d + 1, t, hf, fuel + 1, w, base, sp, held, cs, x, h => by
    have ih := fun t' (ht' : flatB P d t' = true) => flat_trod d t' ht' fuel
    rw [DataW.trod_step] at h
    simp only [DataW.trod_step]
    unfold flatB at hf
    unfold DataW.trodStep at h ⊢
    cases hu : P.underlying t with
    | none => rw [hu] at hf; cases hf
    | some D =>
      rw [hu] at hf h
      cases D with
      | bool =>
        match cs, h with
        | [.bool b], h => cases h; exact ⟨rfl, fun _ _ _ _ => rfl⟩
      | int k =>
        match cs, h with
        | [.int k' n], h =>
          simp only at h ⊢
          split at h
          · rename_i hc; cases h; exact ⟨rfl, fun _ _ _ _ => by rw [if_pos hc]⟩
          · cases h
      | string =>
        match cs, h with
        | [.string s], h =>
          simp only at h ⊢
          split at h
          · rename_i hc; cases h; exact ⟨rfl, fun _ _ _ _ => by rw [if_pos hc]⟩
          · cases h
      | struct fs =>
        simp only at h ⊢ hf
        split at h
        · rename_i hc
          simp only [Option.map_eq_some_iff] at h
          obtain ⟨xs, hx, rfl⟩ := h
          have hall := List.all_eq_true.1 hf
          refine ⟨?_, fun w' base' sp' held' => ?_⟩
          · exact (mapM_flat (g := fun f => DataW.trod enc P w base sp held fuel f.type ((cs.drop f.offset).take (P.cellsOf f.type))) _ _ hx fun f hf' y hy => ⟨(ih f.type (hall f hf') w base sp held _ y hy).1, (ih f.type (hall f hf') w base sp held _ y hy).2 w base sp held⟩).1
          · have := mapM_flat (g := fun f => DataW.trod enc P w' base' sp' held' fuel f.type ((cs.drop f.offset).take (P.cellsOf f.type))) _ _ hx fun f hf' y hy => ⟨(ih f.type (hall f hf') w base sp held _ y hy).1, (ih f.type (hall f hf') w base sp held _ y hy).2 w' base' sp' held'⟩
            rw [if_pos hc, this.2]
            simp only [Option.map_some, this.1]
        · cases h
      | array n e =>
        simp only at h ⊢ hf
        split at h
        · rename_i hc
          simp only [Option.map_eq_some_iff] at h
          obtain ⟨xs, hx, rfl⟩ := h
          refine ⟨?_, fun w' base' sp' held' => ?_⟩
          · exact (mapM_flat (g := fun i => DataW.trod enc P w base sp held fuel e ((cs.drop (i * P.cellsOf e)).take (P.cellsOf e))) _ _ hx fun f _ y hy => ⟨(ih e hf w base sp held _ y hy).1, (ih e hf w base sp held _ y hy).2 w base sp held⟩).1
          · have := mapM_flat (g := fun i => DataW.trod enc P w' base' sp' held' fuel e ((cs.drop (i * P.cellsOf e)).take (P.cellsOf e))) _ _ hx fun f _ y hy => ⟨(ih e hf w base sp held _ y hy).1, (ih e hf w base sp held _ y hy).2 w' base' sp' held'⟩
            rw [if_pos hc, this.2]
            simp only [Option.map_some, this.1]
        · cases h
      | _ => cases hf
theorem flat_arg {d : Nat} {t : TypeId} (hf : flatB P d t = true) {w : World} {base : Nat} {sp : Nat → Bool} {held : Bool} {v : Value} {D : DataW H} {p : List MemPlace} (h : DataW.Trod enc P w base sp held t v D p) :
    p = [] ∧ ∀ (w' : World) (base' : Nat) (sp' : Nat → Bool) (held' : Bool), DataW.Trod enc P w' base' sp' held' t v D [] := by
  obtain ⟨fuel, h⟩ := h
  obtain ⟨h1, h2⟩ := flat_trod d t hf fuel w base sp held _ _ h
  exact ⟨h1, fun w' base' sp' held' => ⟨fuel, h2 w' base' sp' held'⟩⟩
end
section
variable {P : Program} {W : World} {r : Reach} {b : Nat} {t : TypeId} {v : Value}
theorem okw_int {k : IntKind} (hu : P.underlying t = some (.int k)) (h : Cell.okWide P W r b t v) : ∃ n, v = .int k n ∧ k.min ≤ n ∧ n ≤ k.max := by
  unfold Cell.okWide Cell.ok at h
  rw [hu] at h
  cases v <;> simp only at h
  rename_i k' n
  obtain ⟨rfl, h⟩ := h
  exact ⟨n, rfl, by simpa [IntKind.has] using h⟩
theorem okw_one {D : TypeDesc} (hu : P.underlying t = some D) (hs : ∀ fs, D ≠ .struct fs) (ha : ∀ n e, D ≠ .array n e) (h : Value.okWide P W r b t v) : Cell.okWide P W r b t v := by
  unfold Value.okWide at h
  rw [hu] at h
  cases D <;> first | exact h | exact absurd rfl (hs _) | exact absurd rfl (ha _ _)
def aggB (P : Program) (t : TypeId) (n : Nat) (ts : List TypeId) : Bool :=
  (match P.underlying t with | some (.struct _) | some (.array _ _) => true | _ => false) && (P.cellsOf t == n) && (P.cellTypes P.depth t == some ts) && (ts.length == n) && (0 < n)
theorem okw_agg {n : Nat} {ts : List TypeId} (hB : aggB P t n ts = true) (h : Value.okWide P W r b t v) : ∃ cs : List Value, v = .agg cs.toArray ∧ cs.length = n ∧ ∀ (i : Nat) (u : TypeId) (c : Value), ts[i]? = some u → cs[i]? = some c → Cell.okWide P W r b u c := by
  unfold aggB at hB
  simp only [Bool.and_eq_true, beq_iff_eq, decide_eq_true_eq] at hB
  obtain ⟨⟨⟨⟨h1, h2⟩, h3⟩, h4⟩, h5⟩ := hB
  have key : ∃ cs : Array Value, v = .agg cs ∧ cs.size = P.cellsOf t ∧ Row.okWide P W r b t cs := by
    unfold Value.okWide at h
    split at h
    · exact h
    · exact h
    · exfalso
      split at h1
      · rename_i hu; rename_i h6 _ _ ; exact absurd hu (by simp_all)
      · simp_all
      · cases h1
  obtain ⟨cs, rfl, hs, ts', e1, _, hc⟩ := key
  rw [h3] at e1
  cases e1
  refine ⟨cs.toList, by simp, by simp [hs, h2], fun i u c hu hc' => ?_⟩
  have hlt : i < ts.length := (List.getElem?_eq_some_iff.1 hu).1
  obtain ⟨u', q1, q2⟩ := hc i c (by simpa using hc')
  rw [Nat.mod_eq_of_lt hlt, hu] at q1
  cases q1
  exact q2
end
theorem list4 {α : Type} {cs : List α} (h : cs.length = 4) : ∃ a b c d, cs = [a, b, c, d] := by match cs, h with | [a, b, c, d], _ => exact ⟨a, b, c, d, rfl⟩
end Go.Proofs.Ytlglajaonmpljaa

namespace Go.Proofs.Ytlglajaonmpljaa
open Go.RowKit
set_option linter.unusedVariables false
set_option linter.unusedSimpArgs false
/-- two points; a box. -/
abbrev v2 (a1 a2 b1 b2 : Int) : AV := .w (.agg [.c (.int .i64 a1), .c (.int .i64 a2), .c (.int .i64 b1), .c (.int .i64 b2)])
end Go.Proofs.Ytlglajaonmpljaa

namespace Go.Proofs.Ytlglajaonmpljaa
open Go.RowKit
set_option linter.unusedVariables false
set_option linter.unusedSimpArgs false
/-- what holds ahead of each round of Size's loop. -/
def SzI (k : Int) (r : Nat) (m : Nat) (ts : List (Nat × AV)) (ms : List (Nat × List AC)) : Prop :=
  ∃ (i : Nat) (v j : Int), i ≤ r ∧ m = r - i ∧ v = 2 ^ i ∧ j = i ∧ ms = [] ∧ ts = [(0, vI k), (3, vI v), (4, vI j)]
theorem pow28i {i r : Nat} (h : i ≤ r) (hr : r ≤ 28) : (0 : Int) < 2 ^ i ∧ (2 : Int) ^ i ≤ 268435456 := by
  have := pow28 (r := i) (by omega)
  omega
set_option maxRecDepth 100000 in
set_option maxHeartbeats 4000000 in
theorem p_Size {k : Int} {r : Nat} (h : IsR k r) : PCall Try.prog 27 [vI k] (vI (2 ^ r)) := by
  have C1 := p_Rung h
  have hr := h.1
  clear h
  refine pcall_body (f := 27) Try.func27 rfl rfl rfl rfl ?_
  (repeat (first | ((with_reducible apply al_q); exact rfl) | ((with_reducible apply awp_seq)) | ((with_reducible apply athen_normal)) | ((with_reducible apply awp_region)) | ((with_reducible apply al_nil)) | ((with_reducible apply awp_block))))
  refine awp_loopL 14 (SzI k r) r _ [] ⟨0, 1, 0, Nat.zero_le _, rfl, rfl, rfl, rfl, rfl⟩ rfl ⟨rfl, rfl, rfl, trivial⟩ trivial rfl ?_
  rintro m ts ms ⟨i, v, j, hi, rfl, hv, hj, rfl, rfl⟩ hok
  clear hok
  by_cases q : i < r
  · have q' : j < r := by omega
    have e2 : 2 * v = 2 ^ (i + 1) := by rw [hv, Int.pow_succ, Int.mul_comm]
    obtain ⟨b0, b1⟩ := pow28i hi hr
    rw [← hv] at b0 b1
    have hj' : (0 : Int) ≤ j ∧ j ≤ 28 := by omega
    clear hv
    (repeat (first | ((with_reducible apply al_q); exact rfl) | ((with_reducible apply al_add); (iterate 3 exact rfl); (first | exact i64_wrap (by omega) | assumption | rfl); exact rfl) | ((with_reducible apply al_mul); (iterate 3 exact rfl); (first | exact i64_wrap (by omega) | assumption | rfl); exact rfl) | (refine al_call1 rfl rfl rfl (by (first | exact C1)) rfl ?_) | ((with_reducible apply awp_seq)) | ((with_reducible apply athen_normal)) | ((with_reducible apply awp_region)) | ((with_reducible apply al_nil)) | ((with_reducible apply awp_skip)) | ((with_reducible apply awp_block)) | ((with_reducible apply ablock_normal)) | ((with_reducible apply awp_cond_1); exact rfl; (first | assumption | exact decide_eq_true (by omega) | (simp only [Bool.not_eq_true', decide_eq_false_iff_not, decide_eq_true_eq, Bool.not_eq_false']; (first | done | omega))))))
    exact ⟨r - (i + 1), _, [], by omega, ⟨i + 1, 2 * v, j + 1, by omega, rfl, e2, by omega, rfl, rfl⟩, rfl, ⟨rfl, rfl, rfl, trivial⟩, trivial, rfl⟩
  · have q' : ¬ j < r := by omega
    have e : i = r := by omega
    rw [e] at hv
    clear hi q e
    (repeat (first | ((with_reducible apply al_q); exact rfl) | (refine al_call1 rfl rfl rfl (by (first | exact C1)) rfl ?_) | ((with_reducible apply awp_seq)) | ((with_reducible apply athen_normal)) | ((with_reducible apply awp_region)) | ((with_reducible apply al_nil)) | ((with_reducible apply awp_ret)) | ((with_reducible apply ablock_same)) | ((with_reducible apply awp_exit)) | ((with_reducible apply athen_exit)) | ((with_reducible apply awp_cond_0); exact rfl; (first | assumption | exact decide_eq_false (by omega) | (simp only [Bool.not_eq_true', decide_eq_false_iff_not, decide_eq_true_eq, Bool.not_eq_false']; (first | done | omega))))))
    (first | (refine apost_ret rfl (resl_tmp rfl resl_nil) ?_))
    exact AV.Le.of_eq (by rw [hv]; rfl)
end Go.Proofs.Ytlglajaonmpljaa

namespace Go.Proofs.Ytlglajaonmpljaa
open Go.RowKit
set_option linter.unusedVariables false
set_option linter.unusedSimpArgs false
abbrev v3 (k x y : Int) : AV := .w (.agg [.c (.int .i64 k), .c (.int .i64 x), .c (.int .i64 y)])
end Go.Proofs.Ytlglajaonmpljaa

namespace Go.Proofs.Ytlglajaonmpljaa
open Go.RowKit
set_option linter.unusedVariables false
set_option linter.unusedSimpArgs false
instance iPixF_1 : IPart Try.prog 28 2 true 2 := ⟨by kernel_rfl⟩
def MvI (a1 a2 b1 b2 q1 q2 k x y S X Y : Int) (r1 r2 r3 r4 : Bool) (m : Nat) (ts : List (Nat × AV)) (ms : List (Nat × List AC)) : Prop :=
  ∃ (i : Int) (t1 t2 t3 t4 : Int), ((m = 2 ∧ i = 0 ∧ t1 = 0 ∧ t2 = 0 ∧ t3 = 0 ∧ t4 = 0) ∨ (m = 1 ∧ i = 1 ∧ t1 = a1 + X ∧ t2 = a2 + Y ∧ t3 = 0 ∧ t4 = 0 ∧ r1 = true ∧ r2 = true) ∨ (m = 0 ∧ i = 2 ∧ t1 = a1 + X ∧ t2 = a2 + Y ∧ t3 = b1 + X ∧ t4 = b2 + Y ∧ r1 = true ∧ r2 = true ∧ r3 = true ∧ r4 = true))
    ∧ ts = [(3, vO 3 0), (4, vO 4 0), (7, vI k), (8, vI x), (9, vI y), (10, vI S), (11, vO 11 0), (50, v2 a1 a2 b1 b2), (51, vI i)]
    ∧ ms = [(3, [.c (.int .i64 a1), .c (.int .i64 a2), .c (.int .i64 b1), .c (.int .i64 b2)]), (4, [.c (.int .i64 q1), .c (.int .i64 q2)]), (11, [.c (.int .i64 t1), .c (.int .i64 t2), .c (.int .i64 t3), .c (.int .i64 t4)])]
end Go.Proofs.Ytlglajaonmpljaa

namespace Go.Proofs.Ytlglajaonmpljaa
open Go.RowKit
set_option linter.unusedVariables false
set_option linter.unusedSimpArgs false
theorem hiB_iff {a1 a2 b1 b2 q1 q2 : Int} {r : Nat} (hr : r ≤ 28) : hiB a1 a2 b1 b2 q1 q2 r = true ↔ inB r q1 q2 = true ∧ meB a1 a2 b1 b2 (2 * (2 ^ r * q1) - 2 ^ r) (2 * (2 ^ r * q2) - 2 ^ r) (2 * (2 ^ r * q1) + 2 ^ r) (2 * (2 ^ r * q2) + 2 ^ r) 0 = true := by
  unfold hiB
  have g1 : decide ((0 : Int) ≤ (r : Int)) = true := decide_eq_true (by omega)
  have g2 : decide ((r : Int) ≤ 28) = true := decide_eq_true (by omega)
  rw [g1, g2, Int.toNat_natCast, Bool.and_self, Bool.true_and, Bool.and_eq_true]
end Go.Proofs.Ytlglajaonmpljaa

namespace Go.Proofs.Ytlglajaonmpljaa
open Go.RowKit
set_option linter.unusedVariables false
set_option linter.unusedSimpArgs false
abbrev vAdd9 (r : Int) (l : List Px) (b : Bool) (e : Int) : AV := .tup [.agg [.c (.int .i64 r), .p (SlP 2 l.length (itC l))], .one (.c (.bool b)), .one (.c (.int .i64 e))]
section
variable {P : Program} {ops : Array Oper} {s : AS} {d ty : Nat} {pos : String} {after : Array Edge} {guard : Option (Nat × Bool)} {K : AS → Prop} {rest : List Oper}
end
set_option maxRecDepth 100000 in
set_option maxHeartbeats 8000000 in
theorem p_Hits9_no {a1 a2 b1 b2 q1 q2 k r : Int} {i : Bool} (G1 : PCall Try.prog 25 [vI k] (vI r)) (I1 : PCall Try.prog 26 [vP q1 q2, vI k] (vB i)) (cs : ¬ k = r ∨ (k = r ∧ i = false)) : PCall Try.prog 32 [vP a1 a2, vP b1 b2, vP q1 q2, vI k] (vB false) := by
  rcases cs with c1 | ⟨c1, rfl⟩
  · have e : (!decide (k = r)) = true := by simp [c1]
    refine pcall_body (f := 32) Try.func32 rfl rfl rfl rfl ?_
    (repeat (first | ((with_reducible apply al_q); exact rfl) | (refine al_call1 rfl rfl rfl (by (first | exact G1 | exact I1)) rfl ?_) | ((with_reducible apply al_guard_b (c := true)); exact rfl; exact rfl; (first | assumption | exact decide_eq_true (by omega) | (simp only [Bool.not_eq_true', decide_eq_false_iff_not, decide_eq_true_eq, Bool.not_eq_false']; (first | done | omega)))) | ((with_reducible apply awp_seq)) | ((with_reducible apply athen_normal)) | ((with_reducible apply awp_region)) | ((with_reducible apply al_nil)) | ((with_reducible apply awp_ret)) | ((with_reducible apply athen_ret)) | ((with_reducible apply awp_cond_t); exact rfl)))
    (first | (refine apost_ret rfl (resl_tmp rfl resl_nil) ?_))
    exact AV.Le.refl _
  · have e : (!decide (k = r)) = false := by simp [c1]
    refine pcall_body (f := 32) Try.func32 rfl rfl rfl rfl ?_
    (repeat (first | ((with_reducible apply al_q); exact rfl) | (refine al_call1 rfl rfl rfl (by (first | exact G1 | exact I1)) rfl ?_) | (refine al_call2 rfl rfl rfl rfl (by (first | exact G1 | exact I1)) rfl ?_) | ((with_reducible apply al_guard_b (c := false)); exact rfl; exact rfl; (first | assumption | exact decide_eq_false (by omega) | (simp only [Bool.not_eq_true', decide_eq_false_iff_not, decide_eq_true_eq, Bool.not_eq_false']; (first | done | omega)))) | ((with_reducible apply awp_seq)) | ((with_reducible apply athen_normal)) | ((with_reducible apply awp_region)) | ((with_reducible apply al_nil)) | ((with_reducible apply awp_ret)) | ((with_reducible apply athen_ret)) | ((with_reducible apply awp_cond_t); exact rfl)))
    (first | (refine apost_ret rfl (resl_tmp rfl resl_nil) ?_))
    exact AV.Le.refl _
set_option maxRecDepth 100000 in
set_option maxHeartbeats 8000000 in
theorem p_Hits9_yes {a1 a2 b1 b2 q1 q2 k S X Y : Int} {u : Bool} (G1 : PCall Try.prog 25 [vI k] (vI k)) (I1 : PCall Try.prog 26 [vP q1 q2, vI k] (vB true)) (Z : PCall Try.prog 27 [vI k] (vI S))
    (bS : 0 ≤ S ∧ S ≤ 300000000) (bX : -1000000000 ≤ X ∧ X ≤ 1000000000) (bY : -1000000000 ≤ Y ∧ Y ≤ 1000000000) (wX : IntKind.i64.wrap (2 * S * q1) = X) (wY : IntKind.i64.wrap (2 * S * q2) = Y)
    (M : PCall Try.prog 53 [vP a1 a2, vP b1 b2, vP (X - S) (Y - S), vP (X - S + 2 * S) (Y - S + 2 * S), vI 0] (vB u)) : PCall Try.prog 32 [vP a1 a2, vP b1 b2, vP q1 q2, vI k] (vB u) := by
  have e : (!decide (k = k)) = false := by simp
  refine pcall_body (f := 32) Try.func32 rfl rfl rfl rfl ?_
  (repeat (first | ((with_reducible apply al_q); exact rfl) | ((with_reducible apply al_add); (iterate 3 exact rfl); (first | exact i64_wrap (by omega) | assumption | rfl); exact rfl) | ((with_reducible apply al_sub); (iterate 3 exact rfl); (first | exact i64_wrap (by omega) | assumption | rfl); exact rfl) | ((with_reducible apply al_mul); (iterate 3 exact rfl); (first | exact i64_wrap (by omega) | assumption | rfl); exact rfl) | (refine al_call1 rfl rfl rfl (by (first | exact G1 | exact I1 | exact Z | exact M)) rfl ?_) | (refine al_call2 rfl rfl rfl rfl (by (first | exact G1 | exact I1 | exact Z | exact M)) rfl ?_) | (refine al_call5 rfl rfl rfl rfl rfl rfl rfl (by (first | exact G1 | exact I1 | exact Z | exact M)) rfl ?_) | ((with_reducible apply al_guard_b (c := false)); exact rfl; exact rfl; (first | assumption | exact decide_eq_false (by omega) | (simp only [Bool.not_eq_true', decide_eq_false_iff_not, decide_eq_true_eq, Bool.not_eq_false']; (first | done | omega)))) | ((with_reducible apply awp_seq)) | ((with_reducible apply athen_normal)) | ((with_reducible apply awp_region)) | ((with_reducible apply al_nil)) | ((with_reducible apply awp_ret)) | ((with_reducible apply awp_skip)) | ((with_reducible apply awp_cond_f); exact rfl)))
  (first | (refine apost_ret rfl (resl_tmp rfl resl_nil) ?_))
  exact AV.Le.refl _
theorem p_Hits9 {a1 a2 b1 b2 q1 q2 k : Int} (hk : -9223372036854775808 ≤ k ∧ k ≤ 9223372036854775807) (hx : -9223372036854775808 ≤ q1 ∧ q1 ≤ 9223372036854775807) (hy : -9223372036854775808 ≤ q2 ∧ q2 ≤ 9223372036854775807) : PCall Try.prog 32 [vP a1 a2, vP b1 b2, vP q1 q2, vI k] (vB (hiB a1 a2 b1 b2 q1 q2 k)) := by
  obtain ⟨r, hr⟩ := isR_ex k
  have G1 := p_Rung hr
  have I1 := p_r3In (x := q1) (y := q2) hr (by omega) (by omega) (by omega) (by omega) rfl
  by_cases c1 : k = r
  · subst c1
    have hr28 : r ≤ 28 := hr.1
    cases hi : inB r q1 q2 with
    | false =>
      rw [hi] at I1
      rw [show hiB a1 a2 b1 b2 q1 q2 r = false by
        cases h : hiB a1 a2 b1 b2 q1 q2 r with
        | false => rfl
        | true => rw [hiB_iff hr28, hi] at h; cases h.1]
      exact p_Hits9_no G1 I1 (.inr ⟨rfl, rfl⟩)
    | true =>
      rw [hi] at I1
      have p28 := pow28 hr28
      have j := (inB_mul r q1 q2).1 hi
      have M := p_r6Meets (a1 := a1) (a2 := a2) (b1 := b1) (b2 := b2) (l1 := 2 * (2 ^ r * q1) - 2 ^ r) (l2 := 2 * (2 ^ r * q2) - 2 ^ r) (h1 := 2 * (2 ^ r * q1) + 2 ^ r) (h2 := 2 * (2 ^ r * q2) + 2 ^ r) (k := 0)
      have e1 : hiB a1 a2 b1 b2 q1 q2 r = meB a1 a2 b1 b2 (2 * (2 ^ r * q1) - 2 ^ r) (2 * (2 ^ r * q2) - 2 ^ r) (2 * (2 ^ r * q1) + 2 ^ r) (2 * (2 ^ r * q2) + 2 ^ r) 0 := by
        rw [Bool.eq_iff_iff, hiB_iff hr28]
        exact ⟨fun h => h.2, fun h => ⟨hi, h⟩⟩
      rw [e1]
      have Z := p_Size hr
      have e2 : (2 : Int) * 2 ^ r * q1 = 2 * (2 ^ r * q1) := Int.mul_assoc _ _ _
      have e3 : (2 : Int) * 2 ^ r * q2 = 2 * (2 ^ r * q2) := Int.mul_assoc _ _ _
      refine p_Hits9_yes (X := 2 * (2 ^ r * q1)) (Y := 2 * (2 ^ r * q2)) G1 I1 Z (by omega) (by omega) (by omega) (by rw [e2]; exact i64_wrap (by omega)) (by rw [e3]; exact i64_wrap (by omega)) ?_
      rw [show 2 * (2 ^ r * q1) - 2 ^ r + 2 * 2 ^ r = 2 * (2 ^ r * q1) + 2 ^ r by omega, show 2 * (2 ^ r * q2) - 2 ^ r + 2 * 2 ^ r = 2 * (2 ^ r * q2) + 2 ^ r by omega]
      exact M
  · have : hiB a1 a2 b1 b2 q1 q2 k = false := by
      unfold hiB
      have : (decide (0 ≤ k) && decide (k ≤ 28)) = false := by
        rw [Bool.and_eq_false_iff, decide_eq_false_iff_not, decide_eq_false_iff_not]
        unfold IsR at hr
        omega
      rw [this]; rfl
    rw [this]
    exact p_Hits9_no G1 I1 (.inl c1)
end Go.Proofs.Ytlglajaonmpljaa

namespace Go.Proofs.Ytlglajaonmpljaa
open Go.RowKit
set_option linter.unusedVariables false
set_option linter.unusedSimpArgs false
theorem nilS2_le : vNilS.Le (vIt []) := nilS_le 2
/-- whose numbers are numbers. -/
def InI (p : Px) : Prop := (-9223372036854775808 ≤ p.1 ∧ p.1 ≤ 9223372036854775807) ∧ -9223372036854775808 ≤ p.2 ∧ p.2 ≤ 9223372036854775807
/-- is it near? -/
def nearF (a1 a2 b1 b2 : Int) (r : Nat) (p : Px) : Bool := btw9 p.1 (gsn a1 r) (gsn b1 r) && btw9 p.2 (gsn a2 r) (gsn b2 r)
def metF (a1 a2 b1 b2 k : Int) (p : Px) : Bool := hiB a1 a2 b1 b2 p.1 p.2 k
def NR9I (rm : Int) (L : List Px) (a1 a2 b1 b2 k : Int) (f : Px → Bool) (n : Nat) (R : Rws) (ts : List (Nat × AV)) (ms : List (Nat × List AC)) : Prop :=
  ∃ (i : Nat) (ii : Int), i ≤ L.length ∧ n = L.length - i ∧ ii = i ∧ R = noRows ∧ ms = [(4, [.c (.int .i64 rm), .p (SlP 2 L.length (itC L))]), (5, mPx a1 a2), (6, mPx b1 b2)] ∧ ts = [(3, vI k), (4, vOw 4), (5, vOw 5), (6, vOw 6), (9, vIt (sortI (decide (b1 < a1)) (decide (b2 < a2)) f (L.take i))), (10, vI ii)]
set_option maxRecDepth 100000 in
set_option maxHeartbeats 8000000 in
theorem p_Met9 {rm : Int} {L : List Px} (hl : L.length ≤ 50000) {a1 a2 b1 b2 k : Int} (hk : -9223372036854775808 ≤ k ∧ k ≤ 9223372036854775807) (hL : ∀ p ∈ L, InI p) : PCall Try.prog 13 [vSet9 rm L, vP a1 a2, vP b1 b2, vI k] (vIt (sortI (decide (b1 < a1)) (decide (b2 < a2)) (metF a1 a2 b1 b2 k) L)) := by
  refine pcall_body (f := 13) Try.func13 rfl rfl rfl rfl ?_
  refine awp_rows ?_
  (repeat (first | ((with_reducible apply rwp_seq)) | ((with_reducible apply rthen_normal)) | ((with_reducible apply rwp_region)) | ((with_reducible apply hs_nil)) | ((with_reducible apply rwp_block)) | ((with_reducible apply hs_c); exact rfl; (repeat (first | ((with_reducible apply al_q); exact rfl))); (with_reducible apply al_nil))))
  refine rwp_tell 9 rfl nilS2_le rfl ?_
  refine rwp_loopL 45 (NR9I rm L a1 a2 b1 b2 k (metF a1 a2 b1 b2 k)) L.length noRows _ [(4, [.c (.int .i64 rm), .p (SlP 2 L.length (itC L))]), (5, mPx a1 a2), (6, mPx b1 b2)] ⟨0, 0, Nat.zero_le _, rfl, rfl, rfl, rfl, rfl⟩ (RLe.refl _) rfl ⟨rfl, rfl, rfl, rfl, rfl, rfl, trivial⟩ ⟨rfl, rfl, rfl, trivial⟩ rfl ?_
  rintro n R ts ms ⟨i, ii, hi, rfl, hii, rfl, rfl, rfl⟩ hok
  clear hok
  by_cases hq : i < L.length
  · have q2 : ii < (L.length : Int) := by omega
    have q3 : 0 ≤ ii := by omega
    obtain ⟨x, y, g1⟩ : ∃ x y, L[i]? = some (x, y) := ⟨_, _, List.getElem?_eq_getElem hq⟩
    obtain ⟨hx, hy⟩ := hL _ (List.mem_of_getElem? g1)
    have C1 := p_Hits9 (a1 := a1) (a2 := a2) (b1 := b1) (b2 := b2) (q1 := x) (q2 := y) hk hx hy
    have E1 := itC_xy hii g1
    have ht : L.take (i + 1) = L.take i ++ [(x, y)] := by
      rw [List.take_succ_eq_append_getElem hq, (List.getElem?_eq_some_iff.1 g1).2]
    have hs := sortI_app (decide (b1 < a1)) (decide (b2 < a2)) (metF a1 a2 b1 b2 k) (L.take i) (x, y)
    rw [← ht] at hs
    have hsl := sortI_len (decide (b1 < a1)) (decide (b2 < a2)) (metF a1 a2 b1 b2 k) (L.take i)
    have htl : (L.take i).length ≤ i := by rw [List.length_take]; omega
    have hf : metF a1 a2 b1 b2 k (x, y) = hiB a1 a2 b1 b2 x y k := rfl
    rw [hf] at hs
    generalize hS : sortI (decide (b1 < a1)) (decide (b2 < a2)) (metF a1 a2 b1 b2 k) (L.take i) = S at *
    have C3 := p_put9 (l := S) (by omega) (x := x) (y := y) (fx := decide (b1 < a1)) (fy := decide (b2 < a2))
    clear hS hf g1 ht hL hx hy hk
    cases h1 : hiB a1 a2 b1 b2 x y k with
    | false =>
      rw [h1] at C1
      rw [h1, if_neg (by decide)] at hs
      clear h1
      (repeat (first | ((with_reducible apply hs_nilS); kernel_rfl) | ((with_reducible apply rwp_draw (id := 5) [0,1,2,3,4,5,6,7,8]); kernel_rfl; kernel_rfl; exact rfl) | ((with_reducible apply rwp_seq)) | ((with_reducible apply rthen_normal)) | ((with_reducible apply rwp_region)) | ((with_reducible apply hs_nil)) | ((with_reducible apply rwp_skip)) | ((with_reducible apply rwp_block)) | ((with_reducible apply rblock_normal)) | ((with_reducible apply rwp_cond_1); exact rfl; (first | assumption | exact decide_eq_true (by omega) | (simp only [Bool.not_eq_true', decide_eq_false_iff_not, decide_eq_true_eq, Bool.not_eq_false']; (first | done | omega)) | exact rfl)) | ((with_reducible apply rwp_cond_0); exact rfl; (first | assumption | exact decide_eq_false (by omega) | (simp only [Bool.not_eq_true', decide_eq_false_iff_not, decide_eq_true_eq, Bool.not_eq_false']; (first | done | omega)) | exact rfl)) | ((with_reducible apply hs_c); exact rfl; (repeat (first | ((with_reducible apply al_q); exact rfl) | ((with_reducible apply al_loadPN); (iterate 5 exact rfl)) | ((with_reducible apply al_idxS); (iterate 3 exact rfl); (first | decide | omega); (first | decide | omega); (first | assumption | rfl); exact rfl) | ((with_reducible apply al_add); (iterate 3 exact rfl); (first | exact i64_wrap (by omega) | assumption | rfl); exact rfl) | ((with_reducible apply al_len); (iterate 3 exact rfl)) | (refine al_call4 rfl rfl rfl rfl rfl rfl (by (first | exact C1)) rfl ?_))); (with_reducible apply al_nil))))
      exact ⟨L.length - (i + 1), noRows, _, [(4, [.c (.int .i64 rm), .p (SlP 2 L.length (itC L))]), (5, mPx a1 a2), (6, mPx b1 b2)], by omega, ⟨i + 1, ii + 1, by omega, rfl, by omega, rfl, rfl, rfl⟩, RLe.refl _, rfl, ⟨rfl, rfl, rfl, rfl, by rw [hs]; rfl, rfl, trivial⟩, ⟨rfl, rfl, rfl, trivial⟩, rfl⟩
    | true =>
      rw [h1] at C1
      rw [h1, if_pos rfl] at hs
      clear h1
      (repeat (first | ((with_reducible apply hs_nilS); kernel_rfl) | ((with_reducible apply rwp_draw (id := 5) [0,1,2,3,4,5,6,7,8]); kernel_rfl; kernel_rfl; exact rfl) | ((with_reducible apply rwp_draw (id := 6) [0,1,2,3,4,5,6,7,8,9,10,11,12,13,14,15,16,17]); kernel_rfl; kernel_rfl; exact rfl) | ((with_reducible apply rwp_seq)) | ((with_reducible apply rthen_normal)) | ((with_reducible apply rwp_region)) | ((with_reducible apply hs_nil)) | ((with_reducible apply rwp_skip)) | ((with_reducible apply rwp_block)) | ((with_reducible apply rblock_normal)) | ((with_reducible apply rwp_cond_1); exact rfl; (first | assumption | exact decide_eq_true (by omega) | (simp only [Bool.not_eq_true', decide_eq_false_iff_not, decide_eq_true_eq, Bool.not_eq_false']; (first | done | omega)) | exact rfl)) | ((with_reducible apply hs_c); exact rfl; (repeat (first | ((with_reducible apply al_q); exact rfl) | ((with_reducible apply al_loadPN); (iterate 5 exact rfl)) | ((with_reducible apply al_idxS); (iterate 3 exact rfl); (first | decide | omega); (first | decide | omega); (first | assumption | rfl); exact rfl) | ((with_reducible apply al_add); (iterate 3 exact rfl); (first | exact i64_wrap (by omega) | assumption | rfl); exact rfl) | ((with_reducible apply al_len); (iterate 3 exact rfl)) | (refine al_call4 rfl rfl rfl rfl rfl rfl (by (first | exact C1 | exact C3)) rfl ?_))); (with_reducible apply al_nil))))
      exact ⟨L.length - (i + 1), noRows, _, [(4, [.c (.int .i64 rm), .p (SlP 2 L.length (itC L))]), (5, mPx a1 a2), (6, mPx b1 b2)], by omega, ⟨i + 1, ii + 1, by omega, rfl, by omega, rfl, rfl, rfl⟩, RLe.refl _, rfl, ⟨rfl, rfl, rfl, rfl, by rw [hs]; rfl, rfl, trivial⟩, ⟨rfl, rfl, rfl, trivial⟩, rfl⟩
  · have q2 : ¬ ii < (L.length : Int) := by omega
    have e0 : L.take i = L := List.take_of_length_le (by omega)
    rw [e0]
    clear hL
    (repeat (first | ((with_reducible apply rwp_seq)) | ((with_reducible apply rthen_normal)) | ((with_reducible apply rwp_region)) | ((with_reducible apply hs_nil)) | ((with_reducible apply rwp_ret)) | ((with_reducible apply rblock_same)) | ((with_reducible apply rwp_exit)) | ((with_reducible apply rthen_exit)) | ((with_reducible apply rwp_cond_0); exact rfl; (first | assumption | exact decide_eq_false (by omega) | (simp only [Bool.not_eq_true', decide_eq_false_iff_not, decide_eq_true_eq, Bool.not_eq_false']; (first | done | omega)) | exact rfl)) | ((with_reducible apply hs_c); exact rfl; (repeat (first | ((with_reducible apply al_q); exact rfl) | ((with_reducible apply al_len); (iterate 3 exact rfl)))); (with_reducible apply al_nil))))
    (first | (refine apost_ret rfl (resl_tmp rfl resl_nil) ?_))
    exact AV.Le.refl _
def OldI (l : List Px) (n : Nat) (R : Rws) (ts : List (Nat × AV)) (ms : List (Nat × List AC)) : Prop :=
  ∃ (k : Nat) (v : Value) (ki : Int), k ≤ l.length ∧ n = l.length - k ∧ ki = k ∧ R = row1 0 (p9Row v (l.take k)) ∧ ms = [] ∧ ts = [(3, vC v), (6, vIt l), (7, vI l.length), (8, vI ki)]
def Sm9I (l : List Px) (n : Nat) (ts : List (Nat × AV)) (ms : List (Nat × List AC)) : Prop :=
  ∃ (k : Nat) (ki : Int), k ≤ l.length ∧ n = l.length - k ∧ ki = k ∧ ms = [] ∧ ts = [(0, vIt l), (1, vIt l), (5, vI 0), (19, vI l.length), (20, vI ki)]
end Go.Proofs.Ytlglajaonmpljaa

namespace Go.Proofs.Ytlglajaonmpljaa
set_option linter.unusedVariables false
set_option linter.unusedSimpArgs false
/-- so far on the way from a to b, t, twice the number is no farther from x than far. -/
def nrC (a b x far t : Rat) : Prop := -far ≤ 2 * a + t * (2 * (b - a)) - x ∧ 2 * a + t * (2 * (b - a)) - x ≤ far
/-- so far on the way from S p to S q, u, the number is in the pixel x. -/
def mtC (S p q x u : Rat) : Prop := 2 * (S * x) - S ≤ 2 * (S * p + u * (S * q - S * p)) ∧ 2 * (S * p + u * (S * q - S * p)) < 2 * (S * x) + S
theorem nrC_mix {a b p q x S d t1 t2 u : Rat} (h1 : nrC a b (2 * (S * p)) (d * S) t1) (h2 : nrC a b (2 * (S * q)) (d * S) t2) (u0 : 0 ≤ u) (u1 : u ≤ 1) (hm : mtC S p q x u) : nrC a b (2 * (S * x)) ((d + 1) * S) (t1 + u * (t2 - t1)) := by
  obtain ⟨a1, a2⟩ := h1
  obtain ⟨b1, b2⟩ := h2
  obtain ⟨m1, m2⟩ := hm
  have v0 : 0 ≤ 1 - u := by grind
  have k1 := Rat.mul_nonneg v0 (show 0 ≤ 2 * a + t1 * (2 * (b - a)) - 2 * (S * p) + d * S by grind)
  have k2 := Rat.mul_nonneg v0 (show 0 ≤ d * S - (2 * a + t1 * (2 * (b - a)) - 2 * (S * p)) by grind)
  have k3 := Rat.mul_nonneg u0 (show 0 ≤ 2 * a + t2 * (2 * (b - a)) - 2 * (S * q) + d * S by grind)
  have k4 := Rat.mul_nonneg u0 (show 0 ≤ d * S - (2 * a + t2 * (2 * (b - a)) - 2 * (S * q)) by grind)
  constructor
  · grind
  · grind
theorem nrC_more {a b x f g t : Rat} (hfg : f ≤ g) (h : nrC a b x f t) : nrC a b x g t := by
  obtain ⟨h1, h2⟩ := h
  constructor <;> grind
theorem nrC_turn {a b x f t : Rat} (h : nrC a b x f t) : nrC b a x f (1 - t) := by
  obtain ⟨h1, h2⟩ := h
  constructor <;> grind
abbrev rc (n : Int) : Rat := (n : Rat)
/-- a vertex, and a place on the segment. -/
def nrP (a1 a2 b1 b2 S : Int) (far t : Rat) (v : Px) : Prop := nrC (rc a1) (rc b1) (2 * (rc S * rc v.1)) far t ∧ nrC (rc a2) (rc b2) (2 * (rc S * rc v.2)) far t
def Mets (S : Int) (p q : Px) (u : Rat) (x : Px) : Prop := (0 ≤ u ∧ u ≤ 1) ∧ mtC (rc S) (rc p.1) (rc q.1) (rc x.1) u ∧ mtC (rc S) (rc p.2) (rc q.2) (rc x.2) u
theorem nrP_mix {a1 a2 b1 b2 S : Int} {d t1 t2 u : Rat} {p q x : Px} (h1 : nrP a1 a2 b1 b2 S (d * rc S) t1 p) (h2 : nrP a1 a2 b1 b2 S (d * rc S) t2 q) (hm : Mets S p q u x) : nrP a1 a2 b1 b2 S ((d + 1) * rc S) (t1 + u * (t2 - t1)) x :=
  ⟨nrC_mix h1.1 h2.1 hm.1.1 hm.1.2 hm.2.1, nrC_mix h1.2 h2.2 hm.1.1 hm.1.2 hm.2.2⟩
theorem nrP_more {a1 a2 b1 b2 S : Int} {f g t : Rat} {v : Px} (hfg : f ≤ g) (h : nrP a1 a2 b1 b2 S f t v) : nrP a1 a2 b1 b2 S g t v := ⟨nrC_more hfg h.1, nrC_more hfg h.2⟩
theorem nrP_turn {a1 a2 b1 b2 S : Int} {f t : Rat} {v : Px} (h : nrP a1 a2 b1 b2 S f t v) : nrP b1 b2 a1 a2 S f (1 - t) v := ⟨nrC_turn h.1, nrC_turn h.2⟩
/-- whole numbers, from fractions. -/
theorem rc_le {a b : Int} : rc a ≤ rc b ↔ a ≤ b := Rat.intCast_le_intCast
theorem rc_lt {a b : Int} : rc a < rc b ↔ a < b := Rat.intCast_lt_intCast
theorem rc_pos {a : Int} (h : 0 < a) : 0 < rc a := by have := rc_lt.2 h; simpa [rc] using this
theorem rc_one {a b : Int} (h : a < b) : rc a + 1 ≤ rc b := by
  have := rc_le.2 (show a + 1 ≤ b from h)
  simpa [rc, Rat.intCast_add] using this
/-- what is met first is met no later. -/
theorem mtC_lt {S p q x y : Int} {u w : Rat} (hS : 0 < S) (hx : mtC (rc S) (rc p) (rc q) (rc x) u) (hy : mtC (rc S) (rc p) (rc q) (rc y) w) (hxy : x < y) (hpq : p ≤ q) : u ≤ w := by
  have s0 := rc_pos hS
  obtain ⟨x1, x2⟩ := hx
  obtain ⟨y1, y2⟩ := hy
  have h1 := rc_one hxy
  have h2 := rc_le.2 hpq
  have k1 := Rat.mul_nonneg (Rat.le_of_lt s0) (show 0 ≤ rc y - (rc x + 1) by grind)
  refine Rat.not_lt.1 fun hwu => ?_
  have k2 := Rat.mul_nonneg (show 0 ≤ u - w by grind) (Rat.mul_nonneg (Rat.le_of_lt s0) (show 0 ≤ rc q - rc p by grind))
  grind
theorem mtC_gt {S p q x y : Int} {u w : Rat} (hS : 0 < S) (hx : mtC (rc S) (rc p) (rc q) (rc x) u) (hy : mtC (rc S) (rc p) (rc q) (rc y) w) (hxy : y < x) (hpq : q ≤ p) : u ≤ w := by
  have s0 := rc_pos hS
  obtain ⟨x1, x2⟩ := hx
  obtain ⟨y1, y2⟩ := hy
  have h1 := rc_one hxy
  have h2 := rc_le.2 hpq
  have k1 := Rat.mul_nonneg (Rat.le_of_lt s0) (show 0 ≤ rc x - (rc y + 1) by grind)
  refine Rat.not_lt.1 fun hwu => ?_
  have k2 := Rat.mul_nonneg (show 0 ≤ u - w by grind) (Rat.mul_nonneg (Rat.le_of_lt s0) (show 0 ≤ rc p - rc q by grind))
  grind
/-- what is met no later is, in a number that rises, no farther on. -/
theorem mtC_up {S p q x y : Int} {u w : Rat} (hS : 0 < S) (hx : mtC (rc S) (rc p) (rc q) (rc x) u) (hy : mtC (rc S) (rc p) (rc q) (rc y) w) (huw : u ≤ w) (hpq : p ≤ q) : x ≤ y := by
  have s0 := rc_pos hS
  obtain ⟨x1, x2⟩ := hx
  obtain ⟨y1, y2⟩ := hy
  refine Int.not_lt.1 fun hyx => ?_
  have h1 := rc_one hyx
  have h2 := rc_le.2 hpq
  have k1 := Rat.mul_nonneg (Rat.le_of_lt s0) (show 0 ≤ rc x - (rc y + 1) by grind)
  have k2 := Rat.mul_nonneg (show 0 ≤ w - u by grind) (Rat.mul_nonneg (Rat.le_of_lt s0) (show 0 ≤ rc q - rc p by grind))
  grind
theorem mtC_down {S p q x y : Int} {u w : Rat} (hS : 0 < S) (hx : mtC (rc S) (rc p) (rc q) (rc x) u) (hy : mtC (rc S) (rc p) (rc q) (rc y) w) (huw : u ≤ w) (hpq : q ≤ p) : y ≤ x := by
  have s0 := rc_pos hS
  obtain ⟨x1, x2⟩ := hx
  obtain ⟨y1, y2⟩ := hy
  refine Int.not_lt.1 fun hyx => ?_
  have h1 := rc_one hyx
  have h2 := rc_le.2 hpq
  have k1 := Rat.mul_nonneg (Rat.le_of_lt s0) (show 0 ≤ rc y - (rc x + 1) by grind)
  have k2 := Rat.mul_nonneg (show 0 ≤ w - u by grind) (Rat.mul_nonneg (Rat.le_of_lt s0) (show 0 ≤ rc p - rc q by grind))
  grind
/-- both ends are in their own pixels. -/
theorem mtC_0 {S p q : Int} (hS : 0 < S) : mtC (rc S) (rc p) (rc q) (rc p) 0 := by
  have s0 := rc_pos hS
  constructor <;> grind
theorem mtC_1 {S p q : Int} (hS : 0 < S) : mtC (rc S) (rc p) (rc q) (rc q) 1 := by
  have s0 := rc_pos hS
  constructor <;> grind
/-- what is met stands between the ends. -/
theorem mtC_btw {S p q x : Int} {u : Rat} (hS : 0 < S) (h0 : 0 ≤ u) (h1 : u ≤ 1) (hx : mtC (rc S) (rc p) (rc q) (rc x) u) : (p ≤ q → p ≤ x ∧ x ≤ q) ∧ (q ≤ p → q ≤ x ∧ x ≤ p) :=
  ⟨fun h => ⟨mtC_up hS (mtC_0 hS) hx h0 h, mtC_up hS hx (mtC_1 hS) h1 h⟩, fun h => ⟨mtC_down hS hx (mtC_1 hS) h1 h, mtC_down hS (mtC_0 hS) hx h0 h⟩⟩
/-- the pixels' order is the way's. -/
theorem mets_order {S : Int} {p q x y : Px} {u w : Rat} (hS : 0 < S) (hx : Mets S p q u x) (hy : Mets S p q w y) (h : ahP (decide (S * q.1 < S * p.1)) (decide (S * q.2 < S * p.2)) x y = true) : u ≤ w := by
  have e1 : (S * q.1 < S * p.1) ↔ q.1 < p.1 := ⟨fun h => Int.lt_of_mul_lt_mul_left h (by omega), fun h => Int.mul_lt_mul_of_pos_left h hS⟩
  have e2 : (S * q.2 < S * p.2) ↔ q.2 < p.2 := ⟨fun h => Int.lt_of_mul_lt_mul_left h (by omega), fun h => Int.mul_lt_mul_of_pos_left h hS⟩
  rw [ahP_iff] at h
  simp only [decide_eq_true_eq, e1, e2] at h
  rcases h with h | ⟨he, h⟩
  · by_cases g : q.1 < p.1
    · rw [if_pos g] at h; exact mtC_gt hS hx.2.1 hy.2.1 h (by omega)
    · rw [if_neg g] at h; exact mtC_lt hS hx.2.1 hy.2.1 h (by omega)
  · by_cases g : q.2 < p.2
    · rw [if_pos g] at h; exact mtC_gt hS hx.2.2 hy.2.2 h (by omega)
    · rw [if_neg g] at h; exact mtC_lt hS hx.2.2 hy.2.2 h (by omega)
/-- what the segment between two centers meets it meets somewhere. -/
theorem hol_q {a b l n d u : Rat} (d0 : 0 < d) (hu : u * d = n) (h : 0 ≤ (2 * a - l) * (d - n) + (2 * b - l) * n) : l ≤ 2 * (a + u * (b - a)) := by
  subst hu
  refine Rat.not_lt.1 fun hlt => ?_
  have k := Rat.mul_pos d0 (show 0 < l - 2 * (a + u * (b - a)) by grind)
  grind
theorem hol_q' {a b l n d u : Rat} (d0 : 0 < d) (hu : u * d = n) (h : 0 < (l - 2 * a) * (d - n) + (l - 2 * b) * n) : 2 * (a + u * (b - a)) < l := by
  subst hu
  refine Rat.not_le.1 fun hlt => ?_
  have k := Rat.mul_nonneg (Rat.le_of_lt d0) (show 0 ≤ 2 * (a + u * (b - a)) - l by grind)
  grind
theorem rc_div {n d : Int} (hd : 0 < d) : rc n / rc d * rc d = rc n := Rat.div_mul_cancel (by have := rc_pos hd; grind)
theorem hol_rc {a b l : Int} {n d : Int} (hd : 0 < d) (h : Hol (2 * a - l) (2 * b - l) true n d) : rc l ≤ 2 * (rc a + rc n / rc d * (rc b - rc a)) := by
  have h1 : 0 ≤ (2 * a - l) * (d - n) + (2 * b - l) * n := by rcases h with h | ⟨_, h⟩ <;> omega
  refine hol_q (rc_pos hd) (rc_div hd) ?_
  have := rc_le.2 h1
  simpa [rc, Rat.intCast_add, Rat.intCast_mul, Rat.intCast_sub] using this
theorem hol_rc' {a b l : Int} {n d : Int} (hd : 0 < d) (h : Hol (l - 2 * a) (l - 2 * b) false n d) : 2 * (rc a + rc n / rc d * (rc b - rc a)) < rc l := by
  have h1 : 0 < (l - 2 * a) * (d - n) + (l - 2 * b) * n := by
    rcases h with h | ⟨h, _⟩
    · exact h
    · cases h
  refine hol_q' (rc_pos hd) (rc_div hd) ?_
  have := rc_lt.2 h1
  simpa [rc, Rat.intCast_add, Rat.intCast_mul, Rat.intCast_sub] using this
/-- the pixels that the way from center to center meets. -/
theorem metF_mets {r : Nat} (hr : r ≤ 28) {p q x : Px} (h : metF (2 ^ r * p.1) (2 ^ r * p.2) (2 ^ r * q.1) (2 ^ r * q.2) r x = true) : inB r x.1 x.2 = true ∧ ∃ u, Mets (2 ^ r) p q u x := by
  unfold metF at h
  rw [hiB_iff hr] at h
  refine ⟨h.1, ?_⟩
  obtain ⟨_, n, d, hd, ⟨hn0, hn1⟩, g1, g2, g3, g4⟩ := meB_iff.1 h.2
  have d0 := rc_pos hd
  refine ⟨rc n / rc d, ⟨?_, ?_⟩, ⟨?_, ?_⟩, ?_, ?_⟩
  · refine Rat.not_lt.1 fun hlt => ?_
    have k := Rat.mul_pos d0 (show 0 < -(rc n / rc d) by grind)
    have e := rc_div (n := n) hd
    have n0 := rc_le.2 hn0
    have z : rc 0 = 0 := by simp [rc]
    rw [z] at n0
    generalize rc n / rc d = u at *
    grind
  · refine Rat.not_lt.1 fun hlt => ?_
    have k := Rat.mul_pos d0 (show 0 < rc n / rc d - 1 by grind)
    have e := rc_div (n := n) hd
    have n1 := rc_le.2 hn1
    generalize rc n / rc d = u at *
    grind
  · have := hol_rc hd g1
    simpa [rc, Rat.intCast_add, Rat.intCast_mul, Rat.intCast_sub] using this
  · have := hol_rc' hd g3
    simpa [rc, Rat.intCast_add, Rat.intCast_mul, Rat.intCast_sub] using this
  · have := hol_rc hd g2
    simpa [rc, Rat.intCast_add, Rat.intCast_mul, Rat.intCast_sub] using this
  · have := hol_rc' hd g4
    simpa [rc, Rat.intCast_add, Rat.intCast_mul, Rat.intCast_sub] using this
end Go.Proofs.Ytlglajaonmpljaa

namespace Go.Proofs.Ytlglajaonmpljaa
set_option linter.unusedVariables false
set_option linter.unusedSimpArgs false
/-- places on the way, one for each vertex, none ahead of t0, or of the one ahead of it. -/
def clF (N : Rat → Px → Prop) : Rat → List Px → Prop
  | _, [] => True
  | t0, v :: V => ∃ t, t0 ≤ t ∧ t ≤ 1 ∧ N t v ∧ clF N t V
theorem clF_less {N : Rat → Px → Prop} {s t : Rat} (h : s ≤ t) : ∀ {V : List Px}, clF N t V → clF N s V
  | [], _ => trivial
  | v :: V, ⟨u, h1, h2, h3, h4⟩ => ⟨u, Rat.le_trans h h1, h2, h3, h4⟩
def cloP (N : Rat → Px → Prop) (V : List Px) : Prop := (∃ v, V.head? = some v ∧ N 0 v) ∧ (∃ v, V.getLast? = some v ∧ N 1 v) ∧ clF N 0 V
/-- those that are none of two, none twice in a row. -/
def ddS (p q : Px) (out : List Px) (x : Px) : List Px := if x ≠ p ∧ x ≠ q ∧ out.getLast? ≠ some x then out ++ [x] else out
def ddL (p q : Px) (l : List Px) : List Px := l.foldl (ddS p q) []
theorem ddL_app (p q : Px) (l : List Px) (x : Px) : ddL p q (l ++ [x]) = ddS p q (ddL p q l) x := by unfold ddL; rw [List.foldl_append]; rfl
theorem insQ_weak {fx fy : Bool} {q : Px} : ∀ {l : List Px}, l.Pairwise (fun a b => ahP fx fy b a = false) → (insQ fx fy q l).Pairwise fun a b => ahP fx fy b a = false
  | [], _ => by unfold insQ; simp
  | p :: l, h => by
    have hc := List.pairwise_cons.1 h
    unfold insQ
    split
    · rename_i hq
      refine List.pairwise_cons.2 ⟨fun r hr => ?_, h⟩
      rcases List.mem_cons.1 hr with rfl | hr
      · exact ahP_asym hq
      · cases hh : ahP fx fy r q with
        | false => rfl
        | true => have := hc.1 r hr; rw [ahP_trans hh hq] at this; cases this
    · rename_i hq
      refine List.pairwise_cons.2 ⟨fun r hr => ?_, insQ_weak hc.2⟩
      rcases List.mem_cons.1 ((insQ_perm fx fy q l).mem_iff.1 hr) with rfl | hr
      · simpa using hq
      · exact hc.1 r hr
theorem sortI_weak (fx fy : Bool) (f : Px → Bool) (l : List Px) : (sortI fx fy f l).Pairwise fun a b => ahP fx fy b a = false := by
  have key : ∀ (l out : List Px), out.Pairwise (fun a b => ahP fx fy b a = false) → (l.foldl (fun out q => if f q then insQ fx fy q out else out) out).Pairwise fun a b => ahP fx fy b a = false := by
    intro l
    induction l with
    | nil => intro out h; exact h
    | cons q l ih =>
      intro out h
      rw [List.foldl_cons]
      refine ih _ ?_
      split
      · exact insQ_weak h
      · exact h
  exact key l [] .nil
theorem dd_key {fx fy : Bool} {p q : Px} : ∀ (l out : List Px), Asc fx fy out → (∀ a ∈ out, ∀ b ∈ l, ahP fx fy b a = false) → l.Pairwise (fun a b => ahP fx fy b a = false) → Asc fx fy (l.foldl (ddS p q) out) ∧ (∀ x ∈ l.foldl (ddS p q) out, x ∈ out ∨ (x ∈ l ∧ x ≠ p ∧ x ≠ q)) ∧ (l.foldl (ddS p q) out).length ≤ out.length + l.length
  | [], out, h, _, _ => ⟨h, fun x hx => .inl hx, Nat.le_refl _⟩
  | x :: l, out, h, hw, hl => by
    have hc := List.pairwise_cons.1 hl
    rw [List.foldl_cons]
    by_cases hx : x ≠ p ∧ x ≠ q ∧ out.getLast? ≠ some x
    · have e : ddS p q out x = out ++ [x] := by unfold ddS; rw [if_pos hx]
      rw [e]
      have ha : Asc fx fy (out ++ [x]) := by
        unfold Asc
        rw [List.pairwise_append]
        refine ⟨h, List.pairwise_singleton _ _, fun a ha b hb => ?_⟩
        rw [List.mem_singleton] at hb
        subst hb
        have h1 := hw a ha b (List.mem_cons_self ..)
        by_cases hab : a = b
        · subst hab
          rcases List.eq_nil_or_concat out with h0 | ⟨o', z, h0⟩
          · subst h0; cases ha
          · rw [List.concat_eq_append] at h0
            subst h0
            have hz : z ≠ a := fun hh => hx.2.2 (by rw [hh]; simp)
            have ha' : a ∈ o' := by
              rcases List.mem_append.1 ha with h' | h'
              · exact h'
              · exact absurd (List.mem_singleton.1 h').symm hz
            have h2 := (List.pairwise_append.1 h).2.2 a ha' z (List.mem_singleton.2 rfl)
            have h3 := hw z (by simp) a (List.mem_cons_self ..)
            rw [h2] at h3; cases h3
        · exact (ahP_total hab).resolve_right (by rw [h1]; decide)
      obtain ⟨g1, g2, g3⟩ := dd_key l (out ++ [x]) ha (fun a ha' b hb => by
        rcases List.mem_append.1 ha' with h' | h'
        · exact hw a h' b (List.mem_cons_of_mem _ hb)
        · rw [List.mem_singleton.1 h']; exact hc.1 b hb) hc.2
      refine ⟨g1, fun y hy => ?_, by rw [List.length_append, List.length_singleton] at g3; simp only [List.length_cons]; omega⟩
      rcases g2 y hy with h' | h'
      · rcases List.mem_append.1 h' with h' | h'
        · exact .inl h'
        · rw [List.mem_singleton.1 h']; exact .inr ⟨List.mem_cons_self .., hx.1, hx.2.1⟩
      · exact .inr ⟨List.mem_cons_of_mem _ h'.1, h'.2⟩
    · have e : ddS p q out x = out := by unfold ddS; rw [if_neg hx]
      rw [e]
      obtain ⟨g1, g2, g3⟩ := dd_key l out h (fun a ha' b hb => hw a ha' b (List.mem_cons_of_mem _ hb)) hc.2
      refine ⟨g1, fun y hy => ?_, by simp only [List.length_cons]; omega⟩
      rcases g2 y hy with h' | h'
      · exact .inl h'
      · exact .inr ⟨List.mem_cons_of_mem _ h'.1, h'.2⟩
/-- the pixels that a link goes through: those of l that it meets, none of its ends, in its order, none twice. -/
def atL (r : Nat) (l : List Px) (p q : Px) : List Px := ddL p q (sortI (decide ((2 : Int) ^ r * q.1 < 2 ^ r * p.1)) (decide ((2 : Int) ^ r * q.2 < 2 ^ r * p.2)) (metF (2 ^ r * p.1) (2 ^ r * p.2) (2 ^ r * q.1) (2 ^ r * q.2) r) l)
theorem atL_spec {r : Nat} (hr : r ≤ 28) (l : List Px) (p q : Px) : Asc (decide ((2 : Int) ^ r * q.1 < 2 ^ r * p.1)) (decide ((2 : Int) ^ r * q.2 < 2 ^ r * p.2)) (atL r l p q) ∧ (∀ x ∈ atL r l p q, (x ≠ p ∧ x ≠ q) ∧ inB r x.1 x.2 = true ∧ ∃ u, Mets (2 ^ r) p q u x) ∧ (atL r l p q).length ≤ l.length := by
  obtain ⟨g1, g2, g3⟩ := dd_key (p := p) (q := q) _ [] (List.Pairwise.nil : Asc (decide ((2 : Int) ^ r * q.1 < 2 ^ r * p.1)) (decide ((2 : Int) ^ r * q.2 < 2 ^ r * p.2)) []) (fun a ha => by cases ha) (sortI_weak _ _ (metF (2 ^ r * p.1) (2 ^ r * p.2) (2 ^ r * q.1) (2 ^ r * q.2) r) l)
  refine ⟨g1, fun x hx => ?_, ?_⟩
  · rcases g2 x hx with h | ⟨h1, h2⟩
    · cases h
    · have h3 := (List.mem_filter.1 ((sortI_perm _ _ _ l).mem_iff.1 h1)).2
      exact ⟨h2, metF_mets hr h3⟩
  · refine Nat.le_trans g3 ?_
    rw [List.length_nil, Nat.zero_add]
    exact sortI_len _ _ _ l
/-- each link goes through its pixels. -/
def expV (at' : Px → Px → List Px) : List Px → List Px
  | p :: q :: W => p :: (at' p q ++ expV at' (q :: W))
  | V => V
def expD (at' : Px → Px → List Px) : List Px → List Int → List Int
  | p :: q :: W, d :: D => (if (at' p q).isEmpty then [d] else List.replicate ((at' p q).length + 1) (d + 1)) ++ expD at' (q :: W) D
  | _, _ => []
theorem expV_cons (at' : Px → Px → List Px) (q : Px) : ∀ W, ∃ W', expV at' (q :: W) = q :: W'
  | [] => ⟨[], rfl⟩
  | w :: W => ⟨_, rfl⟩
theorem expV_last (at' : Px → Px → List Px) : ∀ V, (expV at' V).getLast? = V.getLast?
  | [] => rfl
  | [p] => rfl
  | p :: q :: W => by
    have ih := expV_last at' (q :: W)
    obtain ⟨W', e⟩ := expV_cons at' q W
    show (p :: (at' p q ++ expV at' (q :: W))).getLast? = _
    rw [List.getLast?_cons_cons, ← ih, ← List.cons_append, List.getLast?_append, e]
    cases h : (q :: W').getLast? with
    | none => simp at h
    | some z => rfl
/-- a link's pixels find their places between its ends'. -/
theorem clF_at {S : Int} {a1 a2 b1 b2 : Int} {d t1 t2 : Rat} {p q : Px} {E : List Px} (hS : 0 < S) (h12 : t1 ≤ t2) (h21 : t2 ≤ 1) (hp : nrP a1 a2 b1 b2 S (d * rc S) t1 p) (hq : nrP a1 a2 b1 b2 S (d * rc S) t2 q)
    (hE : clF (nrP a1 a2 b1 b2 S ((d + 1) * rc S)) t2 E) : ∀ (l : List Px) (u0 : Rat), 0 ≤ u0 → u0 ≤ 1 → (∀ x ∈ l, ∀ u, Mets S p q u x → u0 ≤ u) → (∀ x ∈ l, ∃ u, Mets S p q u x) → Asc (decide (S * q.1 < S * p.1)) (decide (S * q.2 < S * p.2)) l → clF (nrP a1 a2 b1 b2 S ((d + 1) * rc S)) (t1 + u0 * (t2 - t1)) (l ++ E)
  | [], u0, h0, h1, _, _, _ => by
    refine clF_less ?_ hE
    have := Rat.mul_nonneg (show 0 ≤ 1 - u0 by grind) (show 0 ≤ t2 - t1 by grind)
    grind
  | x :: l, u0, h0, h1, hu, hm, ha => by
    obtain ⟨u, hux⟩ := hm x (List.mem_cons_self ..)
    have hc := List.pairwise_cons.1 ha
    have h2 := hu x (List.mem_cons_self ..) u hux
    have k1 := Rat.mul_nonneg (show 0 ≤ u - u0 by grind) (show 0 ≤ t2 - t1 by grind)
    have k2 := Rat.mul_nonneg (show 0 ≤ 1 - u by have := hux.1.2; grind) (show 0 ≤ t2 - t1 by grind)
    refine ⟨t1 + u * (t2 - t1), by grind, by grind, nrP_mix hp hq hux, ?_⟩
    exact clF_at hS h12 h21 hp hq hE l u hux.1.1 hux.1.2 (fun y hy w hw => mets_order hS hux hw (hc.1 y hy)) (fun y hy => hm y (List.mem_cons_of_mem _ hy)) hc.2
theorem rc_mono {S : Int} {d : Rat} (hS : 0 < S) : d * rc S ≤ (d + 1) * rc S := by
  have := rc_pos hS
  grind
theorem clF_exp {r : Nat} (hr : r ≤ 28) {l : List Px} {a1 a2 b1 b2 : Int} {d : Rat} : ∀ (V : List Px) (t0 : Rat), clF (nrP a1 a2 b1 b2 (2 ^ r) (d * rc (2 ^ r))) t0 V → clF (nrP a1 a2 b1 b2 (2 ^ r) ((d + 1) * rc (2 ^ r))) t0 (expV (atL r l) V)
  | [], _, _ => trivial
  | [p], t0, ⟨t, h1, h2, h3, _⟩ => ⟨t, h1, h2, nrP_more (rc_mono (Int.pow_pos (by decide))) h3, trivial⟩
  | p :: q :: W, t0, ⟨t, h1, h2, h3, h4⟩ => by
    obtain ⟨t', g1, g2, g3, g4⟩ := h4
    have hS : (0 : Int) < 2 ^ r := Int.pow_pos (by decide)
    have ih := clF_exp hr (l := l) (q :: W) t' ⟨t', Rat.le_refl, g2, g3, g4⟩
    obtain ⟨s1, s2, _⟩ := atL_spec hr l p q
    have := clF_at hS g1 g2 h3 g3 ih (atL r l p q) 0 Rat.le_refl (by decide) (fun x hx u hu => hu.1.1) (fun x hx => (s2 x hx).2.2) s1
    rw [show t + 0 * (t' - t) = t by grind] at this
    exact ⟨t, h1, h2, nrP_more (rc_mono hS) h3, this⟩
/-- a chain of pixels that its links meet is no farther from its edge than its depth tells. -/
theorem cloP_exp {r : Nat} (hr : r ≤ 28) {l : List Px} {a1 a2 b1 b2 : Int} {d : Rat} {V : List Px} (h : cloP (nrP a1 a2 b1 b2 (2 ^ r) (d * rc (2 ^ r))) V) : cloP (nrP a1 a2 b1 b2 (2 ^ r) ((d + 1) * rc (2 ^ r))) (expV (atL r l) V) := by
  obtain ⟨⟨v, h1, h2⟩, ⟨w, h3, h4⟩, h5⟩ := h
  have hS : (0 : Int) < 2 ^ r := Int.pow_pos (by decide)
  refine ⟨⟨v, ?_, nrP_more (rc_mono hS) h2⟩, ⟨w, by rw [expV_last]; exact h3, nrP_more (rc_mono hS) h4⟩, clF_exp hr V 0 h5⟩
  match V, h1 with
  | v' :: W, h1 =>
    obtain ⟨W', e⟩ := expV_cons (atL r l) v' W
    rw [e]; exact h1
end Go.Proofs.Ytlglajaonmpljaa

namespace Go.Proofs.Ytlglajaonmpljaa
set_option linter.unusedVariables false
set_option linter.unusedSimpArgs false
/-- each stands so to the next one. -/
def chn (R : Px → Px → Prop) : List Px → Prop
  | p :: q :: W => R p q ∧ chn R (q :: W)
  | _ => True
theorem chn_pair {R : Px → Px → Prop} : ∀ {l : List Px}, l.Pairwise R → chn R l
  | [], _ => trivial
  | [_], _ => trivial
  | p :: q :: W, h => by
    have hc := List.pairwise_cons.1 h
    exact ⟨hc.1 q (List.mem_cons_self ..), chn_pair hc.2⟩
theorem chn_glue {R : Px → Px → Prop} {q : Px} {W : List Px} : ∀ {A : List Px}, chn R (A ++ [q]) → chn R (q :: W) → chn R (A ++ q :: W)
  | [], _, h => h
  | [a], h, h' => ⟨h.1, h'⟩
  | a :: b :: A, h, h' => ⟨h.1, chn_glue (A := b :: A) h.2 h'⟩
theorem exp_chn {R : Px → Px → Prop} {at' : Px → Px → List Px} (hl : ∀ p q, R p q → p ≠ q → chn R (p :: (at' p q ++ [q]))) : ∀ V, chn R V → chn (· ≠ ·) V → chn R (expV at' V)
  | [], _, _ => trivial
  | [_], _, _ => trivial
  | p :: q :: W, h, hn => by
    have ih := exp_chn hl (q :: W) h.2 hn.2
    obtain ⟨W', e⟩ := expV_cons at' q W
    show chn R (p :: (at' p q ++ expV at' (q :: W)))
    rw [e] at ih ⊢
    exact chn_glue (A := p :: at' p q) (hl p q h.1 hn.1) ih
theorem exp_mem {at' : Px → Px → List Px} {x : Px} : ∀ V, x ∈ expV at' V → x ∈ V ∨ ∃ p q, x ∈ at' p q
  | [], h => .inl h
  | [_], h => .inl h
  | p :: q :: W, h => by
    have h' : x ∈ p :: (at' p q ++ expV at' (q :: W)) := h
    rcases List.mem_cons.1 h' with h' | h'
    · exact .inl (by rw [h']; exact List.mem_cons_self ..)
    · rcases List.mem_append.1 h' with h' | h'
      · exact .inr ⟨p, q, h'⟩
      · rcases exp_mem (q :: W) h' with h'' | h''
        · exact .inl (List.mem_cons_of_mem _ h'')
        · exact .inr h''
/-- what stands between two in a number, one way or the other. -/
theorem at_pair {r : Nat} (hr : r ≤ 28) (l : List Px) (p q : Px) {R : Px → Px → Prop} (h0 : R p q) (h1 : ∀ x, (∃ u, Mets (2 ^ r) p q u x) → R p x ∧ R x q) (h2 : ∀ x y u w, Mets (2 ^ r) p q u x → Mets (2 ^ r) p q w y → u ≤ w → R x y) : chn R (p :: (atL r l p q ++ [q])) := by
  obtain ⟨s1, s2, _⟩ := atL_spec hr l p q
  have hS : (0 : Int) < 2 ^ r := Int.pow_pos (by decide)
  refine chn_pair (List.pairwise_cons.2 ⟨fun x hx => ?_, List.pairwise_append.2 ⟨s1.imp_of_mem fun {x y} hx hy hxy => ?_, List.pairwise_singleton _ _, fun x hx y hy => ?_⟩⟩)
  · rcases List.mem_append.1 hx with hx | hx
    · exact (h1 x (s2 x hx).2.2).1
    · rw [List.mem_singleton.1 hx]; exact h0
  · obtain ⟨u, hu⟩ := (s2 x hx).2.2
    obtain ⟨w, hw⟩ := (s2 y hy).2.2
    exact h2 x y u w hu hw (mets_order hS hu hw hxy)
  · rw [List.mem_singleton.1 hy]; exact (h1 x (s2 x hx).2.2).2
theorem at_ne {r : Nat} (hr : r ≤ 28) (l : List Px) (p q : Px) (h : p ≠ q) : chn (· ≠ ·) (p :: (atL r l p q ++ [q])) := by
  obtain ⟨s1, s2, _⟩ := atL_spec hr l p q
  refine chn_pair (List.pairwise_cons.2 ⟨fun x hx => ?_, List.pairwise_append.2 ⟨s1.imp fun {x y} hxy e => ?_, List.pairwise_singleton _ _, fun x hx y hy => ?_⟩⟩)
  · rcases List.mem_append.1 hx with hx | hx
    · exact fun e => (s2 x hx).1.1 e.symm
    · rw [List.mem_singleton.1 hx]; exact h
  · subst e; rw [ahP_irr] at hxy; cases hxy
  · rw [List.mem_singleton.1 hy]; exact (s2 x hx).1.2
/-- a right chain. -/
def rtV (r : Nat) (V : List Px) (D : List Int) : Prop :=
  V ≠ [] ∧ V.length = D.length + 1 ∧ (∀ v ∈ V, inB r v.1 v.2 = true) ∧ chn (· ≠ ·) V ∧ (∀ d ∈ D, 1 ≤ d ∧ d ≤ 1048576) ∧
    (chn (fun p q => p.1 ≤ q.1) V ∨ chn (fun p q => q.1 ≤ p.1) V) ∧ (chn (fun p q => p.2 ≤ q.2) V ∨ chn (fun p q => q.2 ≤ p.2) V)
theorem expD_mem {at' : Px → Px → List Px} : ∀ (V : List Px) (D : List Int) (e : Int), e ∈ expD at' V D → ∃ d ∈ D, e = d ∨ e = d + 1
  | [], _, _, h => by cases h
  | [_], _, _, h => by cases h
  | _ :: _ :: _, [], _, h => by cases h
  | p :: q :: W, d :: D, e, h => by
    have h' : e ∈ (if (at' p q).isEmpty then [d] else List.replicate ((at' p q).length + 1) (d + 1)) ++ expD at' (q :: W) D := h
    rcases List.mem_append.1 h' with h' | h'
    · refine ⟨d, List.mem_cons_self .., ?_⟩
      split at h'
      · exact .inl (List.mem_singleton.1 h')
      · exact .inr (List.eq_of_mem_replicate h')
    · obtain ⟨d', h1, h2⟩ := expD_mem (q :: W) D e h'
      exact ⟨d', List.mem_cons_of_mem _ h1, h2⟩
theorem exp_len {at' : Px → Px → List Px} : ∀ (V : List Px) (D : List Int), V.length = D.length + 1 → (expV at' V).length = (expD at' V D).length + 1
  | [], _, h => by simp at h
  | [_], [], _ => rfl
  | [_], _ :: _, h => by simp at h
  | _ :: _ :: _, [], h => by simp at h
  | p :: q :: W, d :: D, h => by
    have ih := exp_len (at' := at') (q :: W) D (by simp only [List.length_cons] at h ⊢; omega)
    show (p :: (at' p q ++ expV at' (q :: W))).length = ((if (at' p q).isEmpty then [d] else List.replicate ((at' p q).length + 1) (d + 1)) ++ expD at' (q :: W) D).length + 1
    rw [List.length_cons, List.length_append, List.length_append, ih]
    split
    · rename_i he
      rw [List.isEmpty_iff.1 he]; simp; omega
    · rw [List.length_replicate]; omega
theorem exp_bound {at' : Px → Px → List Px} {m : Nat} (hm : ∀ p q, (at' p q).length ≤ m) : ∀ (V : List Px), (expV at' V).length ≤ V.length * (m + 1)
  | [] => Nat.zero_le _
  | [_] => by simp [expV]
  | p :: q :: W => by
    have ih := exp_bound hm (q :: W)
    have := hm p q
    show (p :: (at' p q ++ expV at' (q :: W))).length ≤ _
    rw [List.length_cons, List.length_append]
    simp only [List.length_cons] at ih ⊢
    have e : (W.length + 1 + 1) * (m + 1) = (W.length + 1) * (m + 1) + (m + 1) := by rw [Nat.add_mul (W.length + 1), Nat.one_mul]
    omega
theorem rtV_exp {r : Nat} (hr : r ≤ 28) (l : List Px) {V : List Px} {D : List Int} (h : rtV r V D) (hd : ∀ d ∈ D, d + 1 ≤ 1048576) : rtV r (expV (atL r l) V) (expD (atL r l) V D) := by
  obtain ⟨h1, h2, h3, h4, h5, h6, h7⟩ := h
  have hS : (0 : Int) < 2 ^ r := Int.pow_pos (by decide)
  refine ⟨?_, exp_len V D h2, fun v hv => ?_, exp_chn (fun p q _ h => at_ne hr l p q h) V h4 h4, fun e he => ?_, ?_, ?_⟩
  · match V, h1 with
    | p :: W, _ =>
      obtain ⟨W', e⟩ := expV_cons (atL r l) p W
      rw [e]; exact List.cons_ne_nil _ _
  · rcases exp_mem V hv with hv | ⟨p, q, hv⟩
    · exact h3 v hv
    · exact ((atL_spec hr l p q).2.1 v hv).2.1
  · obtain ⟨d, hd1, hd2⟩ := expD_mem V D e he
    have := h5 d hd1
    have := hd d hd1
    omega
  · refine h6.imp (fun h => exp_chn (fun p q hp _ => at_pair hr l p q hp (fun x hx => ?_) (fun x y u w hu hw huw => ?_)) V h h4) (fun h => exp_chn (fun p q hp _ => at_pair hr l p q hp (fun x hx => ?_) (fun x y u w hu hw huw => ?_)) V h h4)
    · obtain ⟨u, hu⟩ := hx; exact (mtC_btw hS hu.1.1 hu.1.2 hu.2.1).1 hp
    · exact mtC_up hS hu.2.1 hw.2.1 huw hp
    · obtain ⟨u, hu⟩ := hx; exact ((mtC_btw hS hu.1.1 hu.1.2 hu.2.1).2 hp).symm
    · exact mtC_down hS hu.2.1 hw.2.1 huw hp
  · refine h7.imp (fun h => exp_chn (fun p q hp _ => at_pair hr l p q hp (fun x hx => ?_) (fun x y u w hu hw huw => ?_)) V h h4) (fun h => exp_chn (fun p q hp _ => at_pair hr l p q hp (fun x hx => ?_) (fun x y u w hu hw huw => ?_)) V h h4)
    · obtain ⟨u, hu⟩ := hx; exact (mtC_btw hS hu.1.1 hu.1.2 hu.2.2).1 hp
    · exact mtC_up hS hu.2.2 hw.2.2 huw hp
    · obtain ⟨u, hu⟩ := hx; exact ((mtC_btw hS hu.1.1 hu.1.2 hu.2.2).2 hp).symm
    · exact mtC_down hS hu.2.2 hw.2.2 huw hp
/-- one link goes through pixels. -/
def spV (V : List Px) (j : Nat) (l : List Px) : List Px := V.take (j + 1) ++ l ++ V.drop (j + 1)
def spD (D : List Int) (j : Nat) (n : Nat) : List Int := D.take j ++ List.replicate (n + 1) (D.getD j 0 + 1) ++ D.drop (j + 1)
/-- the chain whose links from number j on have gone through theirs. -/
def fromV (at' : Px → Px → List Px) (V : List Px) (j : Nat) : List Px := V.take j ++ expV at' (V.drop j)
def fromD (at' : Px → Px → List Px) (V : List Px) (D : List Int) (j : Nat) : List Int := D.take j ++ expD at' (V.drop j) (D.drop j)
theorem from_end (at' : Px → Px → List Px) {V : List Px} {D : List Int} (h : V.length = D.length + 1) : fromV at' V D.length = V ∧ fromD at' V D D.length = D := by
  unfold fromV fromD
  have e : ∃ z, V.drop D.length = [z] := List.length_eq_one_iff.1 (by rw [List.length_drop]; omega)
  obtain ⟨z, e⟩ := e
  rw [e]
  refine ⟨?_, ?_⟩
  · show V.take D.length ++ [z] = V
    rw [← e, List.take_append_drop]
  · rw [List.take_length, List.drop_length]
    exact List.append_nil _
theorem drop_two {V : List Px} {j : Nat} {p q : Px} (hp : V[j]? = some p) (hq : V[j + 1]? = some q) : V.drop j = p :: q :: V.drop (j + 2) := by
  obtain ⟨h1, e1⟩ := List.getElem?_eq_some_iff.1 hp
  obtain ⟨h2, e2⟩ := List.getElem?_eq_some_iff.1 hq
  rw [List.drop_eq_getElem_cons h1, e1, List.drop_eq_getElem_cons h2, e2]
/-- the link's two vertices, in the chain whose later links have gone through theirs. -/
theorem from_at {at' : Px → Px → List Px} {V : List Px} {j : Nat} {p q : Px} (hp : V[j]? = some p) (hq : V[j + 1]? = some q) : (fromV at' V (j + 1))[j]? = some p ∧ (fromV at' V (j + 1))[j + 1]? = some q := by
  obtain ⟨h1, e1⟩ := List.getElem?_eq_some_iff.1 hp
  obtain ⟨h2, e2⟩ := List.getElem?_eq_some_iff.1 hq
  have hd : V.drop (j + 1) = q :: V.drop (j + 2) := by rw [List.drop_eq_getElem_cons h2, e2]
  obtain ⟨W', e⟩ := expV_cons at' q (V.drop (j + 2))
  have hl : (V.take (j + 1)).length = j + 1 := by rw [List.length_take]; omega
  unfold fromV
  rw [hd, e]
  refine ⟨?_, ?_⟩
  · rw [List.getElem?_append_left (by omega), List.getElem?_take_of_lt (by omega)]; exact hp
  · rw [List.getElem?_append_right (by omega), hl, Nat.sub_self]; rfl
theorem from_step {at' : Px → Px → List Px} {V : List Px} {D : List Int} {j : Nat} {p q : Px} (h : V.length = D.length + 1) (hp : V[j]? = some p) (hq : V[j + 1]? = some q) :
    fromV at' V j = spV (fromV at' V (j + 1)) j (at' p q) ∧ (fromD at' V D (j + 1)).getD j 0 = D.getD j 0 ∧ j < (fromD at' V D (j + 1)).length ∧ (at' p q ≠ [] → fromD at' V D j = spD (fromD at' V D (j + 1)) j (at' p q).length) ∧ (at' p q = [] → fromV at' V j = fromV at' V (j + 1) ∧ fromD at' V D j = fromD at' V D (j + 1)) := by
  obtain ⟨h1, e1⟩ := List.getElem?_eq_some_iff.1 hp
  obtain ⟨h2, e2⟩ := List.getElem?_eq_some_iff.1 hq
  have hj : j < D.length := by omega
  have hdj := drop_two hp hq
  have hd : V.drop (j + 1) = q :: V.drop (j + 2) := by rw [List.drop_eq_getElem_cons h2, e2]
  have hD : D.drop j = D[j] :: D.drop (j + 1) := List.drop_eq_getElem_cons hj
  have hl : (V.take (j + 1)).length = j + 1 := by rw [List.length_take]; omega
  have hlD : (D.take (j + 1)).length = j + 1 := by rw [List.length_take]; omega
  have tV : V.take (j + 1) = V.take j ++ [p] := by rw [List.take_succ_eq_append_getElem h1, e1]
  have tD : D.take (j + 1) = D.take j ++ [D[j]] := List.take_succ_eq_append_getElem hj
  have eV : fromV at' V j = V.take (j + 1) ++ at' p q ++ expV at' (V.drop (j + 1)) := by
    unfold fromV
    rw [hdj, hd, tV]
    show V.take j ++ (p :: (at' p q ++ expV at' (q :: V.drop (j + 2)))) = _
    simp
  have gD : (fromD at' V D (j + 1)).getD j 0 = D[j] := by
    unfold fromD
    rw [List.getD_eq_getElem?_getD, List.getElem?_append_left (by omega), List.getElem?_take_of_lt (by omega), List.getElem?_eq_getElem hj]; rfl
  have eD : fromD at' V D j = D.take j ++ ((if (at' p q).isEmpty then [D[j]] else List.replicate ((at' p q).length + 1) (D[j] + 1)) ++ expD at' (V.drop (j + 1)) (D.drop (j + 1))) := by
    unfold fromD
    rw [hdj, hd, hD]
    rfl
  refine ⟨?_, ?_, ?_, fun hne => ?_, fun he => ?_⟩
  · rw [eV]
    unfold spV fromV
    rw [List.take_left' hl, List.drop_left' hl]
  · rw [gD, List.getD_eq_getElem?_getD, List.getElem?_eq_getElem hj]; rfl
  · unfold fromD; rw [List.length_append]; omega
  · rw [eD]
    unfold spD
    rw [gD]
    have : (at' p q).isEmpty = false := by
      cases hh : (at' p q).isEmpty with
      | false => rfl
      | true => exact absurd (List.isEmpty_iff.1 hh) hne
    rw [this]
    unfold fromD
    rw [List.drop_left' hlD, tD, List.append_assoc (D.take j), List.take_left' (by rw [List.length_take]; omega)]
    simp
  · refine ⟨?_, ?_⟩
    · rw [eV, he, List.append_nil]; rfl
    · rw [eD, he, List.isEmpty_nil, if_pos rfl]
      unfold fromD
      rw [tD, List.append_assoc]
end Go.Proofs.Ytlglajaonmpljaa

namespace Go.Proofs.Ytlglajaonmpljaa
set_option linter.unusedVariables false
set_option linter.unusedSimpArgs false
/-- from fn over fd to tn over td, or none. -/
structure Prt where
  fn : Int
  fd : Int
  tn : Int
  td : Int
  no : Bool
def frq (n d : Int) : Rat := rc n / rc d
theorem frq_le {a b c d : Int} (hb : 0 < b) (hd : 0 < d) : frq a b ≤ frq c d ↔ a * d ≤ c * b := by
  have b0 := rc_pos hb
  have d0 := rc_pos hd
  have e1 : frq a b * rc b = rc a := rc_div hb
  have e2 : frq c d * rc d = rc c := rc_div hd
  have k : a * d ≤ c * b ↔ rc a * rc d ≤ rc c * rc b := by
    rw [← rc_le]
    simp [rc, Rat.intCast_mul]
  rw [k, ← e1, ← e2]
  generalize frq a b = x at *
  generalize frq c d = y at *
  constructor
  · intro h
    have := Rat.mul_nonneg (show 0 ≤ y - x by grind) (Rat.mul_nonneg (Rat.le_of_lt b0) (Rat.le_of_lt d0))
    grind
  · intro h
    refine Rat.not_lt.1 fun hlt => ?_
    have := Rat.mul_pos (show 0 < x - y by grind) (Rat.mul_pos b0 d0)
    grind
theorem frq_one (n : Int) : frq n 1 = rc n := by
  have := rc_div (n := n) (show (0 : Int) < 1 by decide)
  have e : rc 1 = 1 := by simp [rc]
  rw [e] at this
  unfold frq
  rw [e]
  grind
theorem frq_0 : frq 0 1 = 0 := by rw [frq_one]; simp [rc]
theorem frq_1 : frq 1 1 = 1 := by rw [frq_one]; simp [rc]
def Prt.ok (p : Prt) : Prop := 0 < p.fd ∧ 0 < p.td
def Prt.In (p : Prt) (t : Rat) : Prop := p.no = false ∧ frq p.fn p.fd ≤ t ∧ t ≤ frq p.tn p.td
def prt0 : Prt := ⟨0, 1, 1, 1, false⟩
/-- what is left of it where a number, from a to b, twice, is from low to high. -/
def fromN (a b low high : Int) : Int := if 2 * (b - a) < 0 then 2 * a - high else low - 2 * a
def toN (a b low high : Int) : Int := if 2 * (b - a) < 0 then 2 * a - low else high - 2 * a
def denN (a b : Int) : Int := if 2 * (b - a) < 0 then -(2 * (b - a)) else 2 * (b - a)
def kpT (p : Prt) (a b low high : Int) : Prt :=
  if a = b then ⟨p.fn, p.fd, p.tn, p.td, p.no || decide (2 * a < low) || decide (high < 2 * a)⟩
  else ⟨if p.fn * denN a b < fromN a b low high * p.fd then fromN a b low high else p.fn, if p.fn * denN a b < fromN a b low high * p.fd then denN a b else p.fd,
    if toN a b low high * p.td < p.tn * denN a b then toN a b low high else p.tn, if toN a b low high * p.td < p.tn * denN a b then denN a b else p.td, p.no⟩
theorem denN_pos {a b : Int} (h : a ≠ b) : 0 < denN a b := by unfold denN; split <;> omega
theorem kpT_ok {p : Prt} (h : p.ok) (a b low high : Int) : (kpT p a b low high).ok := by
  unfold kpT
  split
  · exact h
  · rename_i hab
    have := denN_pos hab
    unfold Prt.ok at *
    refine ⟨?_, ?_⟩ <;> (simp only; split <;> omega)
theorem kpT_in {p : Prt} (hp : p.ok) (a b low high : Int) (t : Rat) : (kpT p a b low high).In t ↔ p.In t ∧ rc low ≤ 2 * rc a + t * (2 * (rc b - rc a)) ∧ 2 * rc a + t * (2 * (rc b - rc a)) ≤ rc high := by
  unfold kpT
  by_cases hab : a = b
  · subst hab
    rw [if_pos rfl]
    unfold Prt.In
    have e : 2 * rc a + t * (2 * (rc a - rc a)) = rc (2 * a) := by
      have : rc (2 * a) = 2 * rc a := by simp [rc, Rat.intCast_mul]
      rw [this]; grind
    rw [e, rc_le, rc_le]
    simp only [Bool.or_eq_false_iff, decide_eq_false_iff_not, Int.not_lt]
    constructor
    · rintro ⟨⟨⟨h1, h2⟩, h3⟩, h4⟩; exact ⟨⟨h1, h4⟩, h2, h3⟩
    · rintro ⟨⟨h1, h4⟩, h2, h3⟩; exact ⟨⟨⟨h1, h2⟩, h3⟩, h4⟩
  · rw [if_neg hab]
    have hd := denN_pos hab
    have d0 := rc_pos hd
    have key : (frq (fromN a b low high) (denN a b) ≤ t ∧ t ≤ frq (toN a b low high) (denN a b)) ↔ (rc low ≤ 2 * rc a + t * (2 * (rc b - rc a)) ∧ 2 * rc a + t * (2 * (rc b - rc a)) ≤ rc high) := by
      have e1 : frq (fromN a b low high) (denN a b) * rc (denN a b) = rc (fromN a b low high) := rc_div hd
      have e2 : frq (toN a b low high) (denN a b) * rc (denN a b) = rc (toN a b low high) := rc_div hd
      have m1 : frq (fromN a b low high) (denN a b) ≤ t ↔ rc (fromN a b low high) ≤ t * rc (denN a b) := by
        rw [← e1]
        generalize frq (fromN a b low high) (denN a b) = x
        constructor
        · intro h
          have := Rat.mul_nonneg (show 0 ≤ t - x by grind) (Rat.le_of_lt d0)
          grind
        · intro h
          refine Rat.not_lt.1 fun hlt => ?_
          have := Rat.mul_pos (show 0 < x - t by grind) d0
          grind
      have m2 : t ≤ frq (toN a b low high) (denN a b) ↔ t * rc (denN a b) ≤ rc (toN a b low high) := by
        rw [← e2]
        generalize frq (toN a b low high) (denN a b) = x
        constructor
        · intro h
          have := Rat.mul_nonneg (show 0 ≤ x - t by grind) (Rat.le_of_lt d0)
          grind
        · intro h
          refine Rat.not_lt.1 fun hlt => ?_
          have := Rat.mul_pos (show 0 < t - x by grind) d0
          grind
      rw [m1, m2]
      unfold fromN toN denN
      by_cases hn : 2 * (b - a) < 0
      · rw [if_pos hn, if_pos hn, if_pos hn]
        simp only [rc, Rat.intCast_sub, Rat.intCast_mul, Rat.intCast_neg]
        constructor
        · rintro ⟨h1, h2⟩; constructor <;> grind
        · rintro ⟨h1, h2⟩; constructor <;> grind
      · rw [if_neg hn, if_neg hn, if_neg hn]
        simp only [rc, Rat.intCast_sub, Rat.intCast_mul, Rat.intCast_neg]
        constructor
        · rintro ⟨h1, h2⟩; constructor <;> grind
        · rintro ⟨h1, h2⟩; constructor <;> grind
    rw [← key]
    generalize fromN a b low high = F at *
    generalize toN a b low high = T at *
    generalize denN a b = dn at *
    clear key
    have c1 := frq_le (a := F) (b := dn) (c := p.fn) (d := p.fd) hd hp.1
    have c2 := frq_le (a := p.fn) (b := p.fd) (c := F) (d := dn) hp.1 hd
    have c3 := frq_le (a := T) (b := dn) (c := p.tn) (d := p.td) hd hp.2
    have c4 := frq_le (a := p.tn) (b := p.td) (c := T) (d := dn) hp.2 hd
    unfold Prt.In
    simp only
    have s1 : frq (if p.fn * dn < F * p.fd then F else p.fn) (if p.fn * dn < F * p.fd then dn else p.fd) ≤ t ↔ frq F dn ≤ t ∧ frq p.fn p.fd ≤ t := by
      by_cases h : p.fn * dn < F * p.fd
      · rw [if_pos h, if_pos h]
        refine ⟨fun g => ⟨g, ?_⟩, fun g => g.1⟩
        exact Rat.le_trans (c2.2 (by omega)) g
      · rw [if_neg h, if_neg h]
        refine ⟨fun g => ⟨?_, g⟩, fun g => g.2⟩
        exact Rat.le_trans (c1.2 (by omega)) g
    have s2 : t ≤ frq (if T * p.td < p.tn * dn then T else p.tn) (if T * p.td < p.tn * dn then dn else p.td) ↔ t ≤ frq T dn ∧ t ≤ frq p.tn p.td := by
      by_cases h : T * p.td < p.tn * dn
      · rw [if_pos h, if_pos h]
        refine ⟨fun g => ⟨g, ?_⟩, fun g => g.1⟩
        exact Rat.le_trans g (c3.2 (by omega))
      · rw [if_neg h, if_neg h]
        refine ⟨fun g => ⟨?_, g⟩, fun g => g.2⟩
        exact Rat.le_trans g (c4.2 (by omega))
    rw [s1, s2]
    constructor
    · rintro ⟨h1, ⟨h2, h3⟩, h4, h5⟩; exact ⟨⟨h1, h3, h5⟩, h2, h4⟩
    · rintro ⟨⟨h1, h3, h5⟩, h2, h4⟩; exact ⟨h1, ⟨h2, h3⟩, h4, h5⟩
/-- a vertex' part. -/
def prtV (a1 a2 b1 b2 S far : Int) (v : Px) : Prt := kpT (kpT prt0 a1 b1 (2 * S * v.1 - far) (2 * S * v.1 + far)) a2 b2 (2 * S * v.2 - far) (2 * S * v.2 + far)
theorem prtV_ok (a1 a2 b1 b2 S far : Int) (v : Px) : (prtV a1 a2 b1 b2 S far v).ok := kpT_ok (kpT_ok ⟨by decide, by decide⟩ _ _ _ _) _ _ _ _
theorem prtV_in {a1 a2 b1 b2 S far : Int} {v : Px} {t : Rat} : (prtV a1 a2 b1 b2 S far v).In t ↔ (0 ≤ t ∧ t ≤ 1) ∧ nrP a1 a2 b1 b2 S (rc far) t v := by
  unfold prtV
  rw [kpT_in (kpT_ok ⟨by decide, by decide⟩ _ _ _ _), kpT_in ⟨by decide, by decide⟩]
  have e0 : prt0.In t ↔ 0 ≤ t ∧ t ≤ 1 := by
    unfold Prt.In prt0
    simp only [frq_0, frq_1]
    exact ⟨fun h => h.2, fun h => ⟨trivial, h⟩⟩
  rw [e0]
  unfold nrP nrC
  have f1 : rc (2 * S * v.1 - far) = 2 * (rc S * rc v.1) - rc far := by simp [rc, Rat.intCast_sub, Rat.intCast_mul]; grind
  have f2 : rc (2 * S * v.1 + far) = 2 * (rc S * rc v.1) + rc far := by simp [rc, Rat.intCast_add, Rat.intCast_mul]; grind
  have f3 : rc (2 * S * v.2 - far) = 2 * (rc S * rc v.2) - rc far := by simp [rc, Rat.intCast_sub, Rat.intCast_mul]; grind
  have f4 : rc (2 * S * v.2 + far) = 2 * (rc S * rc v.2) + rc far := by simp [rc, Rat.intCast_add, Rat.intCast_mul]; grind
  rw [f1, f2, f3, f4]
  constructor
  · rintro ⟨⟨h0, h1, h2⟩, h3, h4⟩
    exact ⟨h0, ⟨by grind, by grind⟩, by grind, by grind⟩
  · rintro ⟨h0, ⟨h1, h2⟩, h3, h4⟩
    exact ⟨⟨h0, by grind, by grind⟩, by grind, by grind⟩
end Go.Proofs.Ytlglajaonmpljaa

namespace Go.Proofs.Ytlglajaonmpljaa
set_option linter.unusedVariables false
set_option linter.unusedSimpArgs false
def Prt.lay (p : Prt) : Prop := 0 ≤ p.fn ∧ p.tn ≤ p.td
theorem kpT_lay {p : Prt} (hp : p.ok) (h : p.lay) (a b low high : Int) : (kpT p a b low high).lay := by
  unfold kpT
  by_cases hab : a = b
  · rw [if_pos hab]; exact h
  · rw [if_neg hab]
    have hd := denN_pos hab
    generalize fromN a b low high = F
    generalize toN a b low high = T
    generalize denN a b = dn at *
    obtain ⟨h1, h2⟩ := h
    obtain ⟨g1, g2⟩ := hp
    unfold Prt.lay
    simp only
    constructor
    · split
      · rename_i hlt
        have : 0 ≤ p.fn * dn := Int.mul_nonneg h1 (by omega)
        have : 0 < F * p.fd := by omega
        exact Int.le_of_lt (Int.pos_of_mul_pos_left this g1)
      · exact h1
    · split
      · rename_i hlt
        have := Int.mul_le_mul_of_nonneg_right h2 (show 0 ≤ dn by omega)
        have h3 : T * p.td < dn * p.td := by rw [Int.mul_comm dn]; omega
        exact Int.le_of_lt (Int.lt_of_mul_lt_mul_right h3 (by omega))
      · exact h2
theorem prtV_lay (a1 a2 b1 b2 S far : Int) (v : Px) : (prtV a1 a2 b1 b2 S far v).lay := kpT_lay (kpT_ok ⟨by decide, by decide⟩ _ _ _ _) (kpT_lay ⟨by decide, by decide⟩ ⟨by decide, by decide⟩ _ _ _ _) _ _ _ _
def okP (p : Prt) : Bool := !p.no && decide (p.fn * p.td ≤ p.tn * p.fd)
/-- no part ends ahead of where one ahead of it begins. -/
def leP (p q : Prt) : Bool := decide (p.fn * q.td ≤ q.tn * p.fd)
theorem clF_mem {N : Rat → Px → Prop} : ∀ {V : List Px} {t : Rat}, clF N t V → ∀ v ∈ V, ∃ s, t ≤ s ∧ s ≤ 1 ∧ N s v
  | [], _, _, v, hv => by cases hv
  | w :: V, t, ⟨u, h1, h2, h3, h4⟩, v, hv => by
    rcases List.mem_cons.1 hv with rfl | hv
    · exact ⟨u, h1, h2, h3⟩
    · obtain ⟨s, g1, g2⟩ := clF_mem h4 v hv
      exact ⟨s, Rat.le_trans h1 g1, g2⟩
theorem in_of {a1 a2 b1 b2 S far : Int} {v : Px} {t : Rat} (h0 : 0 ≤ t) (h1 : t ≤ 1) (h : nrP a1 a2 b1 b2 S (rc far) t v) : (prtV a1 a2 b1 b2 S far v).In t := prtV_in.2 ⟨⟨h0, h1⟩, h⟩
theorem clF_parts {a1 a2 b1 b2 S far : Int} : ∀ {V : List Px} {t0 : Rat}, 0 ≤ t0 → clF (nrP a1 a2 b1 b2 S (rc far)) t0 V → (V.map (prtV a1 a2 b1 b2 S far)).Pairwise (fun p q => leP p q = true) ∧ ∀ p ∈ V.map (prtV a1 a2 b1 b2 S far), okP p = true
  | [], _, _, _ => ⟨.nil, fun p hp => by cases hp⟩
  | v :: V, t0, h0, ⟨t, h1, h2, h3, h4⟩ => by
    have ht := Rat.le_trans h0 h1
    obtain ⟨i1, i2⟩ := clF_parts ht h4
    have hi := in_of ht h2 h3
    have hv := prtV_ok a1 a2 b1 b2 S far v
    refine ⟨List.pairwise_cons.2 ⟨fun q hq => ?_, i1⟩, fun p hp => ?_⟩
    · obtain ⟨w, hw, rfl⟩ := List.mem_map.1 hq
      obtain ⟨s, g1, g2, g3⟩ := clF_mem h4 w hw
      have hj := in_of (Rat.le_trans ht g1) g2 g3
      have hw' := prtV_ok a1 a2 b1 b2 S far w
      unfold leP
      exact decide_eq_true ((frq_le hv.1 hw'.2).1 (Rat.le_trans hi.2.1 (Rat.le_trans g1 hj.2.2)))
    · rcases List.mem_cons.1 hp with rfl | hp
      · unfold okP
        rw [hi.1, decide_eq_true ((frq_le hv.1 hv.2).1 (Rat.le_trans hi.2.1 hi.2.2))]; rfl
      · exact i2 p hp
theorem parts_clF {a1 a2 b1 b2 S far : Int} : ∀ {V : List Px} {t0 : Rat}, (∀ v ∈ V, t0 ≤ frq (prtV a1 a2 b1 b2 S far v).tn (prtV a1 a2 b1 b2 S far v).td) → (V.map (prtV a1 a2 b1 b2 S far)).Pairwise (fun p q => leP p q = true) → (∀ p ∈ V.map (prtV a1 a2 b1 b2 S far), okP p = true) → clF (nrP a1 a2 b1 b2 S (rc far)) t0 V
  | [], _, _, _, _ => trivial
  | v :: V, t0, h0, hl, ho => by
    have hc := List.pairwise_cons.1 hl
    have hv := prtV_ok a1 a2 b1 b2 S far v
    have h1 := ho _ (List.mem_cons_self ..)
    unfold okP at h1
    simp only [Bool.and_eq_true, Bool.not_eq_true', decide_eq_true_eq] at h1
    have h2 := (frq_le hv.1 hv.2).2 h1.2
    have h3 := h0 v (List.mem_cons_self ..)
    have hrest : ∀ w ∈ V, frq (prtV a1 a2 b1 b2 S far v).fn (prtV a1 a2 b1 b2 S far v).fd ≤ frq (prtV a1 a2 b1 b2 S far w).tn (prtV a1 a2 b1 b2 S far w).td := fun w hw => by
      have := of_decide_eq_true (hc.1 _ (List.mem_map.2 ⟨w, hw, rfl⟩))
      exact (frq_le hv.1 (prtV_ok a1 a2 b1 b2 S far w).2).2 this
    by_cases hm : t0 ≤ frq (prtV a1 a2 b1 b2 S far v).fn (prtV a1 a2 b1 b2 S far v).fd
    · have hi := prtV_in.1 (show (prtV a1 a2 b1 b2 S far v).In (frq (prtV a1 a2 b1 b2 S far v).fn (prtV a1 a2 b1 b2 S far v).fd) from ⟨h1.1, Rat.le_refl, h2⟩)
      exact ⟨_, hm, hi.1.2, hi.2, parts_clF hrest hc.2 fun p hp => ho p (List.mem_cons_of_mem _ hp)⟩
    · have hm' := Rat.le_of_lt (Rat.not_le.1 hm)
      have hi := prtV_in.1 (show (prtV a1 a2 b1 b2 S far v).In t0 from ⟨h1.1, hm', h3⟩)
      exact ⟨t0, Rat.le_refl, hi.1.2, hi.2, parts_clF (fun w hw => h0 w (List.mem_cons_of_mem _ hw)) hc.2 fun p hp => ho p (List.mem_cons_of_mem _ hp)⟩
/-- by its vertices' parts. -/
theorem cloP_parts {a1 a2 b1 b2 S far : Int} {V : List Px} : cloP (nrP a1 a2 b1 b2 S (rc far)) V ↔ (∃ v, V.head? = some v ∧ (prtV a1 a2 b1 b2 S far v).fn = 0) ∧ (∃ v, V.getLast? = some v ∧ (prtV a1 a2 b1 b2 S far v).tn = (prtV a1 a2 b1 b2 S far v).td) ∧ (V.map (prtV a1 a2 b1 b2 S far)).Pairwise (fun p q => leP p q = true) ∧ ∀ p ∈ V.map (prtV a1 a2 b1 b2 S far), okP p = true := by
  constructor
  · rintro ⟨⟨v, h1, h2⟩, ⟨w, h3, h4⟩, h5⟩
    obtain ⟨g1, g2⟩ := clF_parts Rat.le_refl h5
    refine ⟨⟨v, h1, ?_⟩, ⟨w, h3, ?_⟩, g1, g2⟩
    · have hi := in_of Rat.le_refl (by decide) h2
      have hv := prtV_ok a1 a2 b1 b2 S far v
      have hl := (prtV_lay a1 a2 b1 b2 S far v).1
      have := hi.2.1
      rw [← frq_0, frq_le hv.1 (by decide)] at this
      omega
    · have hi := in_of (by decide) Rat.le_refl h4
      have hv := prtV_ok a1 a2 b1 b2 S far w
      have hl := (prtV_lay a1 a2 b1 b2 S far w).2
      have := hi.2.2
      rw [← frq_1, frq_le (by decide) hv.2] at this
      omega
  · rintro ⟨⟨v, h1, h2⟩, ⟨w, h3, h4⟩, h5, h6⟩
    have all : ∀ u ∈ V, 0 ≤ frq (prtV a1 a2 b1 b2 S far u).tn (prtV a1 a2 b1 b2 S far u).td := fun u hu => by
      have hv := prtV_ok a1 a2 b1 b2 S far u
      have hl := (prtV_lay a1 a2 b1 b2 S far u).1
      have ho := h6 _ (List.mem_map.2 ⟨u, hu, rfl⟩)
      unfold okP at ho
      simp only [Bool.and_eq_true, Bool.not_eq_true', decide_eq_true_eq] at ho
      have e := (frq_le hv.1 hv.2).2 ho.2
      refine Rat.le_trans ?_ e
      rw [← frq_0, frq_le (by decide) hv.1]
      omega
    have okv : ∀ u ∈ V, (prtV a1 a2 b1 b2 S far u).no = false ∧ frq (prtV a1 a2 b1 b2 S far u).fn (prtV a1 a2 b1 b2 S far u).fd ≤ frq (prtV a1 a2 b1 b2 S far u).tn (prtV a1 a2 b1 b2 S far u).td := fun u hu => by
      have hv := prtV_ok a1 a2 b1 b2 S far u
      have ho := h6 _ (List.mem_map.2 ⟨u, hu, rfl⟩)
      unfold okP at ho
      simp only [Bool.and_eq_true, Bool.not_eq_true', decide_eq_true_eq] at ho
      exact ⟨ho.1, (frq_le hv.1 hv.2).2 ho.2⟩
    refine ⟨⟨v, h1, ?_⟩, ⟨w, h3, ?_⟩, parts_clF all h5 h6⟩
    · have hm : v ∈ V := List.mem_of_mem_head? h1
      have hv := prtV_ok a1 a2 b1 b2 S far v
      refine (prtV_in.1 (show (prtV a1 a2 b1 b2 S far v).In 0 from ⟨(okv v hm).1, ?_, all v hm⟩)).2
      rw [← frq_0, frq_le hv.1 (by decide), h2]
      omega
    · have hm : w ∈ V := List.mem_of_getLast? h3
      have hv := prtV_ok a1 a2 b1 b2 S far w
      have e1 : frq (prtV a1 a2 b1 b2 S far w).tn (prtV a1 a2 b1 b2 S far w).td = 1 := by
        refine Rat.le_antisymm ?_ ?_
        · rw [← frq_1, frq_le hv.2 (by decide)]; omega
        · rw [← frq_1, frq_le (by decide) hv.2]; omega
      have e2 := (okv w hm).2
      rw [e1] at e2
      exact (prtV_in.1 (show (prtV a1 a2 b1 b2 S far w).In 1 from ⟨(okv w hm).1, e2, by rw [e1]; exact Rat.le_refl⟩)).2
end Go.Proofs.Ytlglajaonmpljaa

namespace Go.Proofs.Ytlglajaonmpljaa
open Go.RowKit
set_option linter.unusedVariables false
set_option linter.unusedSimpArgs false
/-- the cells of a part. -/
abbrev prC (p : Prt) : List AC := [.c (.bool (decide (p.fn < 0))), .p (NumP p.fn), .c (.bool (decide (p.fd < 0))), .p (NumP p.fd), .c (.bool (decide (p.tn < 0))), .p (NumP p.tn), .c (.bool (decide (p.td < 0))), .p (NumP p.td), .c (.bool p.no)]
abbrev vPr (p : Prt) : AV := .w (.agg (prC p))
end Go.Proofs.Ytlglajaonmpljaa

namespace Go.Proofs.Ytlglajaonmpljaa
open Go.RowKit
set_option linter.unusedVariables false
set_option linter.unusedSimpArgs false
/-- a chain, as both packages have it. -/
abbrev vCh (V : List Px) (D : List Int) : AV := .w (.agg [.p (SlP 2 V.length (itC V)), .p (SlP 1 D.length (inC D))])
def prsC : List Prt → List AC
  | [] => []
  | p :: ps => prC p ++ prsC ps
abbrev ptRow (v : Value) (ps : List Prt) : HRow := ⟨71, 9, v, ps.length, prsC ps⟩
instance iChainS_1 : RowTy Try.prog 64 71 9 136 := ⟨by kernel_rfl⟩
def Prt.small (p : Prt) : Prop := NB 50 p.fn ∧ NB 50 p.fd ∧ NB 50 p.tn ∧ NB 50 p.td
/-- a vertex that is In: how great its numbers are. -/
theorem in_big {r : Nat} {x y : Int} (h : inB r x y = true) : (-134217728 ≤ 2 ^ r * x ∧ 2 ^ r * x ≤ 134217728) ∧ -134217728 ≤ 2 ^ r * y ∧ 2 ^ r * y ≤ 134217728 := by
  have hS : (0 : Int) < 2 ^ r := Int.pow_pos (by decide)
  unfold inB wi at h
  simp only [Bool.and_eq_true, decide_eq_true_eq] at h
  have e := Int.ediv_mul_le 134217728 (show (2 : Int) ^ r ≠ 0 by omega)
  generalize (2 : Int) ^ r = S at *
  generalize (134217728 : Int) / S = m at *
  have key : ∀ z : Int, -m ≤ z → z ≤ m → -134217728 ≤ S * z ∧ S * z ≤ 134217728 := fun z h1 h2 => by
    have a1 := Int.mul_le_mul_of_nonneg_left h1 (show 0 ≤ S by omega)
    have a2 := Int.mul_le_mul_of_nonneg_left h2 (show 0 ≤ S by omega)
    have a3 : S * -m = -(m * S) := by grind
    have a4 : S * m = m * S := by grind
    omega
  exact ⟨key x (by omega) (by omega), key y (by omega) (by omega)⟩
/-- whether a chain goes along a segment. -/
def ctnB (a1 a2 b1 b2 : Int) (r : Nat) (far : Int) (V : List Px) : Bool := (V.all fun v => inB r v.1 v.2) && ((V.map (prtV a1 a2 b1 b2 (2 ^ r) far)).all okP) && decide ((V.map (prtV a1 a2 b1 b2 (2 ^ r) far)).Pairwise fun p q => leP p q = true)
def endB (ps : List Prt) : Bool := match ps.head?, ps.getLast? with
  | some p, some q => decide (p.fn = 0) && decide (q.tn = q.td)
  | _, _ => false
def preB (a1 a2 b1 b2 k far : Int) (n : Nat) : Bool := decide (0 ≤ k ∧ k ≤ 28) && rB5 a1 a2 && rB5 b1 b2 && decide (0 ≤ far) && decide (far ≤ 268435456) && !decide (n = 0)
def cloB (a1 a2 b1 b2 k far : Int) (V : List Px) : Bool := preB a1 a2 b1 b2 k far V.length && ctnB a1 a2 b1 b2 k.toNat far V && endB (V.map (prtV a1 a2 b1 b2 (2 ^ k.toNat) far))
theorem cloB_iff {a1 a2 b1 b2 k far : Int} {V : List Px} : cloB a1 a2 b1 b2 k far V = true ↔ preB a1 a2 b1 b2 k far V.length = true ∧ (∀ v ∈ V, inB k.toNat v.1 v.2 = true) ∧ cloP (nrP a1 a2 b1 b2 (2 ^ k.toNat) (rc far)) V := by
  unfold cloB ctnB
  simp only [Bool.and_eq_true, decide_eq_true_eq]
  rw [List.all_eq_true, List.all_eq_true, cloP_parts]
  have e : endB (V.map (prtV a1 a2 b1 b2 (2 ^ k.toNat) far)) = true ↔ (∃ v, V.head? = some v ∧ (prtV a1 a2 b1 b2 (2 ^ k.toNat) far v).fn = 0) ∧ (∃ v, V.getLast? = some v ∧ (prtV a1 a2 b1 b2 (2 ^ k.toNat) far v).tn = (prtV a1 a2 b1 b2 (2 ^ k.toNat) far v).td) := by
    unfold endB
    rw [List.head?_map, List.getLast?_map]
    cases h1 : V.head? with
    | none => simp
    | some p =>
      cases h2 : V.getLast? with
      | none => simp
      | some q => simp
  rw [e]
  constructor
  · rintro ⟨⟨h0, ⟨h1, h2⟩, h3⟩, h4, h5⟩; exact ⟨h0, h1, h4, h5, h3, h2⟩
  · rintro ⟨h0, h1, h4, h5, h3, h2⟩; exact ⟨⟨h0, ⟨h1, h2⟩, h3⟩, h4, h5⟩
end Go.Proofs.Ytlglajaonmpljaa

namespace Go.Proofs.Ytlglajaonmpljaa
open Go.RowKit
set_option linter.unusedVariables false
set_option linter.unusedSimpArgs false
abbrev mCh (V : List Px) (D : List Int) : List AC := [.p (SlP 2 V.length (itC V)), .p (SlP 1 D.length (inC D))]
def C10I (V : List Px) (D : List Int) (a1 a2 b1 b2 k far : Int) (r : Nat) (n : Nat) (R : Rws) (ts : List (Nat × AV)) (ms : List (Nat × List AC)) : Prop :=
  ∃ (i : Nat) (v : Value) (ii : Int), i ≤ V.length ∧ n = V.length - i ∧ ii = i ∧ ctnB a1 a2 b1 b2 r far (V.take i) = true ∧ R = row1 0 (ptRow v ((V.take i).map (prtV a1 a2 b1 b2 (2 ^ r) far))) ∧ ms = [(5, mCh V D), (6, mPx a1 a2), (7, mPx b1 b2)] ∧
    ts = [(3, vI k), (4, vI far), (5, vOw 5), (6, vOw 6), (7, vOw 7), (11, vC v), (12, vI ii)]
def J10I (V : List Px) (D : List Int) (a1 a2 b1 b2 k far : Int) (ps : List Prt) (p : Prt) (v : Value) (ii : Int) (n : Nat) (R : Rws) (ts : List (Nat × AV)) (ms : List (Nat × List AC)) : Prop :=
  ∃ (j : Nat) (jj : Int), j ≤ ps.length ∧ n = ps.length - j ∧ jj = j ∧ (∀ q ∈ ps.take j, leP q p = true) ∧ R = row1 0 (ptRow v ps) ∧ ms = [(5, mCh V D), (6, mPx a1 a2), (7, mPx b1 b2), (15, prC p)] ∧
    ts = [(3, vI k), (4, vI far), (5, vOw 5), (6, vOw 6), (7, vOw 7), (11, vC v), (12, vI ii), (15, vOw 15), (16, vI jj)]
end Go.Proofs.Ytlglajaonmpljaa

namespace Go.Proofs.Ytlglajaonmpljaa
open Go.RowKit
set_option linter.unusedVariables false
set_option linter.unusedSimpArgs false
section
variable {P : Program} {B0 : Base} {A0 A : Nat → Prop} {R : Rws} {s s' : AS} {a a' : Act} {w w' : World} {ρ ρ' : Nat → Nat}
end
theorem run_shl1 {P : Program} {t : TypeId} {r : Nat} (hr : r ≤ 20) (W : World) : (binOp .shl t (.int .i64 1) (.int .i64 (r : Int))).run P W = .ok (.int .i64 (2 ^ r)) W := by
  obtain rfl | rfl | rfl | rfl | rfl | rfl | rfl | rfl | rfl | rfl | rfl | rfl | rfl | rfl | rfl | rfl | rfl | rfl | rfl | rfl | rfl : r = 0 ∨ r = 1 ∨ r = 2 ∨ r = 3 ∨ r = 4 ∨ r = 5 ∨ r = 6 ∨ r = 7 ∨ r = 8 ∨ r = 9 ∨ r = 10 ∨ r = 11 ∨ r = 12 ∨ r = 13 ∨ r = 14 ∨ r = 15 ∨ r = 16 ∨ r = 17 ∨ r = 18 ∨ r = 19 ∨ r = 20 := by omega
  all_goals rfl
section
variable {P : Program} {s : AS} {ops : Array Oper} {K : AS → Prop} {rest : List Oper} {ty : Nat} {pos : String} {after : Array Edge} {guard : Option (Nat × Bool)} {d : Nat}
/-- a power of two. -/
theorem al_shl1 {t yt : Nat} {y : Operand} {r : Nat} (hw : want ops ⟨some d, .binOp .shl t (.const (.int .i64 1)) y yt, ty, pos, after, guard⟩ s = some true) (hy : s.look y = some (vC (.int .i64 (r : Int)))) (hr : r ≤ 20) (hd : Nat.blt d s.n = true) (h : aList P ops K rest (s.put (some d) (vI (2 ^ r)))) : aList P ops K (⟨some d, .binOp .shl t (.const (.int .i64 1)) y yt, ty, pos, after, guard⟩ :: rest) s :=
  al_bin (va := .int .i64 1) (vb := .int .i64 (r : Int)) hw rfl hy rfl rfl (fun W => rfl) (fun W => run_shl1 hr W) rfl hd h
end
theorem rpl_le {xs ys : List AC} (hl : xs.length = ys.length) (h : ∀ (i : Nat) x y, xs[i]? = some x → ys[i]? = some y → x = y ∨ (x = .c (.slice none 0 0) ∧ ∃ z, y = .p (SlP z 0 []))) (U : Nat → Prop) (ρ : Nat → Nat) (W : World) (vs : List Value) (hv : RpL U ρ W xs vs) : RpL U ρ W ys vs := by
  refine ⟨by rw [← hl]; exact hv.1, fun i y v hy hu => ?_⟩
  have hi : i < xs.length := by rw [hl]; exact (List.getElem?_eq_some_iff.1 hy).1
  have hx := List.getElem?_eq_getElem hi
  have h1 := hv.2 i _ v hx hu
  rcases h i _ y hx hy with e | ⟨e, z, rfl⟩
  · rw [← e]; exact h1
  · rw [e] at h1
    exact nilS_le z U ρ W v h1
theorem agg_le {xs ys : List AC} (hl : xs.length = ys.length) (h : ∀ (i : Nat) x y, xs[i]? = some x → ys[i]? = some y → x = y ∨ (x = .c (.slice none 0 0) ∧ ∃ z, y = .p (SlP z 0 []))) : AV.Le (.w (.agg xs)) (.w (.agg ys)) := fun U ρ W v hv => by
  obtain ⟨vs, rfl, hl'⟩ := hv
  exact ⟨vs, rfl, rpl_le hl h U ρ W vs hl'⟩
end Go.Proofs.Ytlglajaonmpljaa

namespace Go.Proofs.Ytlglajaonmpljaa
open Go.RowKit
set_option linter.unusedVariables false
set_option linter.unusedSimpArgs false
/-- the block that holds the opposite: right, for a way that goes left; up, for one that goes down. -/
abbrev cB (b : Bool) : AC := .p (PtrP [.c (.bool (!b))])
end Go.Proofs.Ytlglajaonmpljaa

namespace Go.Proofs.Ytlglajaonmpljaa
open Go.RowKit
set_option linter.unusedVariables false
set_option linter.unusedSimpArgs false
section
variable {P : Program} {s : AS} {ops : Array Oper} {K : AS → Prop} {rest : List Oper} {ty : Nat} {pos : String} {after : Array Edge} {guard : Option (Nat × Bool)} {d : Nat}
def byT (P : Program) (t : TypeId) : Bool := match P.underlying t with
  | some (.slice e) => (match P.underlying e with | some (.int .u8) => true | _ => false)
  | _ => false
def strT (P : Program) (t : TypeId) : Bool := match P.underlying t with
  | some .string => true
  | _ => false
class ByT (P : Program) (t : TypeId) : Prop where
  h : byT P t = true
class StrT (P : Program) (t : TypeId) : Prop where
  h : strT P t = true
end
end Go.Proofs.Ytlglajaonmpljaa

namespace Go.Proofs.Ytlglajaonmpljaa
open Go.RowKit
set_option linter.unusedVariables false
set_option linter.unusedSimpArgs false
theorem itC_one (p : Int × Int) (l : List (Int × Int)) : itC l ++ [.c (.int .i64 p.1), .c (.int .i64 p.2)] = itC (l ++ [p]) := by rw [itC_append]; rfl
/-- what is handed to a function that tells what comes ahead; the function, and no more. -/
abbrev pxRow (v : Value) (l : List (Int × Int)) : HRow := ⟨38, 2, v, l.length, itC l⟩
instance iHotI_1 : RowTy Try.prog 32 38 2 16 := ⟨by kernel_rfl⟩
def MgP (M : List (Int × Int)) (lt : Int × Int → Int × Int → Bool) (lv : AV) (K : Nat) (m : Nat) (R : Rws) (ts : List (Nat × AV)) (ms : List (Nat × List AC)) : Prop :=
  ∃ (a b out : List (Int × Int)) (v : Value), m = a.length + b.length ∧ out ++ mrgL lt a b = M ∧ out.length + m = K ∧ R = row1 0 (pxRow v out) ∧ ts = [(0, vIt a), (1, vIt b), (2, lv), (7, vC v)] ∧ ms = []
end Go.Proofs.Ytlglajaonmpljaa

namespace Go.Proofs.Ytlglajaonmpljaa
open Go.RowKit
set_option linter.unusedVariables false
set_option linter.unusedSimpArgs false
theorem pxRow_one10 (v : Value) (l : List Px) (p : Px) : pxRow v (l ++ [p]) = ⟨38, 2, v, l.length + 1, itC l ++ [.c (.int .i64 p.1), .c (.int .i64 p.2)]⟩ := by
  unfold pxRow; rw [← itC_one, List.length_append]; rfl
def N10I (V : List Px) (D : List Int) (n : Nat) (R : Rws) (ts : List (Nat × AV)) (ms : List (Nat × List AC)) : Prop :=
  ∃ (k : Nat) (v : Value) (ki : Int), k ≤ V.length ∧ n = V.length - k ∧ ki = k ∧ R = row1 0 (pxRow v (V.take k)) ∧ ms = [(2, [.c (.slice none 0 0), .c (.slice none 0 0)]), (3, [.c v, .p (SlP 1 D.length (inC D))])] ∧ ts = [(2, vOw 2), (3, vOw 3), (12, vIt V), (13, vI V.length), (14, vI ki)]
/-- what chain's calls are to tell. -/
def CClose10 : Prop := ∀ (V : List Px) (D : List Int) (a1 a2 b1 b2 k far : Int), V.length ≤ 1000 → (∀ v ∈ V, InI v) → InI (k, far) → PCall Try.prog 8 [vCh V D, vP a1 a2, vP b1 b2, vI k, vI far] (vB (cloB a1 a2 b1 b2 k far V))
end Go.Proofs.Ytlglajaonmpljaa

namespace Go.Proofs.Ytlglajaonmpljaa
open Go.RowKit
set_option linter.unusedVariables false
set_option linter.unusedSimpArgs false
abbrev mSeg (a1 a2 b1 b2 : Int) : List AC := [.c (.int .i64 a1), .c (.int .i64 a2), .c (.int .i64 b1), .c (.int .i64 b2)]
abbrev vSeg10 (a1 a2 b1 b2 : Int) : AV := .w (.agg (mSeg a1 a2 b1 b2))
def B10I (V : List Px) (D : List Int) (a1 a2 b1 b2 k far : Int) (n : Nat) (R : Rws) (ts : List (Nat × AV)) (ms : List (Nat × List AC)) : Prop :=
  ∃ (i : Nat) (v : Value) (ii : Int), i ≤ V.length ∧ n = V.length - i ∧ ii = i ∧ R = row1 0 (pxRow v (V.reverse.take i)) ∧ ms = [(4, mSeg a1 a2 b1 b2), (7, mCh V D), (11, [.c v, .c (.slice none 0 0)])] ∧
    ts = [(4, vOw 4), (7, vOw 7), (8, vI k), (9, vI far), (11, vOw 11), (46, vI V.length), (47, vI ii)]
end Go.Proofs.Ytlglajaonmpljaa

namespace Go.Proofs.Ytlglajaonmpljaa
set_option linter.unusedVariables false
set_option linter.unusedSimpArgs false
/-- the chain of two pixels. -/
def newV (p q : Px) : List Px := if p = q then [p] else [p, q]
def newD (p q : Px) : List Int := if p = q then [] else [1]
theorem gsn_near {v : Int} (r : Nat) : -(2 ^ r) ≤ 2 * v - 2 * (2 ^ r * gsn v r) ∧ 2 * v - 2 * (2 ^ r * gsn v r) ≤ 2 ^ r := by
  have hS : (0 : Int) < 2 ^ r := Int.pow_pos (by decide)
  unfold gsn
  generalize (2 : Int) ^ r = S at *
  have h1 := Int.mul_ediv_add_emod (2 * v + S) (2 * S)
  have h2 := Int.emod_nonneg (2 * v + S) (show 2 * S ≠ 0 by omega)
  have h3 := Int.emod_lt_of_pos (2 * v + S) (show 0 < 2 * S by omega)
  have e : 2 * S * ((2 * v + S) / (2 * S)) = 2 * (S * ((2 * v + S) / (2 * S))) := by grind
  generalize (2 * v + S) / (2 * S) = g at *
  generalize (2 * v + S) % (2 * S) = m at *
  omega
theorem pow_div (r : Nat) (hr : r ≤ 27) : (134217728 : Int) / 2 ^ r * 2 ^ r = 134217728 := by
  have e : (134217728 : Int) = 2 ^ (27 - r) * 2 ^ r := by
    rw [← Int.pow_add, show 27 - r + r = 27 by omega]; rfl
  have hS : (2 : Int) ^ r ≠ 0 := by have : (0 : Int) < 2 ^ r := Int.pow_pos (by decide); omega
  rw [e, Int.mul_ediv_cancel _ hS]
theorem gsn_wi {v : Int} {r : Nat} (hr : r ≤ 27) (h : -134217728 ≤ v ∧ v ≤ 134217728) : wi (134217728 / 2 ^ r) (gsn v r) = true := by
  have hS : (0 : Int) < 2 ^ r := Int.pow_pos (by decide)
  have hM := pow_div r hr
  obtain ⟨n1, n2⟩ := gsn_near (v := v) r
  generalize (134217728 : Int) / 2 ^ r = M at *
  generalize gsn v r = g at *
  generalize (2 : Int) ^ r = S at *
  unfold wi
  simp only [Bool.and_eq_true, decide_eq_true_eq]
  constructor
  · refine Int.not_lt.1 fun hlt => ?_
    have := Int.mul_le_mul_of_nonneg_left (show g ≤ -M - 1 by omega) (show 0 ≤ S by omega)
    have e : S * (-M - 1) = -(M * S) - S := by grind
    omega
  · refine Int.not_lt.1 fun hlt => ?_
    have := Int.mul_le_mul_of_nonneg_left (show M + 1 ≤ g by omega) (show 0 ≤ S by omega)
    have e : S * (M + 1) = M * S + S := by grind
    omega
theorem near_own {a1 a2 b1 b2 : Int} {r : Nat} : nrP a1 a2 b1 b2 (2 ^ r) (1 * rc (2 ^ r)) 0 (gsn a1 r, gsn a2 r) := by
  have key : ∀ v w : Int, nrC (rc v) (rc w) (2 * (rc (2 ^ r) * rc (gsn v r))) (1 * rc (2 ^ r)) 0 := fun v w => by
    obtain ⟨n1, n2⟩ := gsn_near (v := v) r
    have m1 := rc_le.2 n1
    have m2 := rc_le.2 n2
    simp only [rc, Rat.intCast_sub, Rat.intCast_mul, Rat.intCast_neg] at m1 m2
    constructor
    · simp only [rc]; grind
    · simp only [rc]; grind
  exact ⟨key a1 b1, key a2 b2⟩
theorem near_own1 {a1 a2 b1 b2 : Int} {r : Nat} : nrP a1 a2 b1 b2 (2 ^ r) (1 * rc (2 ^ r)) 1 (gsn b1 r, gsn b2 r) := by
  have := nrP_turn (near_own (a1 := b1) (a2 := b2) (b1 := a1) (b2 := a2) (r := r))
  rw [show (1 : Rat) - 0 = 1 by grind] at this
  exact this
theorem start_rt {p q : Px} {r : Nat} (hp : inB r p.1 p.2 = true) (hq : inB r q.1 q.2 = true) : rtV r (newV p q) (newD p q) := by
  unfold newV newD
  by_cases h : p = q
  · rw [if_pos h, if_pos h]
    exact ⟨by simp, rfl, fun v hv => by rw [List.mem_singleton.1 hv]; exact hp, trivial, (fun d hd => by cases hd), .inl trivial, .inl trivial⟩
  · rw [if_neg h, if_neg h]
    refine ⟨by simp, rfl, fun v hv => ?_, ⟨h, trivial⟩, fun d hd => by rw [List.mem_singleton.1 hd]; omega, ?_, ?_⟩
    · rcases List.mem_cons.1 hv with rfl | hv
      · exact hp
      · rw [List.mem_singleton.1 hv]; exact hq
    · rcases Int.le_total p.1 q.1 with g | g
      · exact .inl ⟨g, trivial⟩
      · exact .inr ⟨g, trivial⟩
    · rcases Int.le_total p.2 q.2 with g | g
      · exact .inl ⟨g, trivial⟩
      · exact .inr ⟨g, trivial⟩
theorem start_clo {a1 a2 b1 b2 : Int} {r : Nat} : cloP (nrP a1 a2 b1 b2 (2 ^ r) (1 * rc (2 ^ r))) (newV (gsn a1 r, gsn a2 r) (gsn b1 r, gsn b2 r)) := by
  have n0 := near_own (a1 := a1) (a2 := a2) (b1 := b1) (b2 := b2) (r := r)
  have n1 := near_own1 (a1 := a1) (a2 := a2) (b1 := b1) (b2 := b2) (r := r)
  generalize (gsn a1 r, gsn a2 r) = p at *
  generalize (gsn b1 r, gsn b2 r) = q at *
  unfold newV
  by_cases h : p = q
  · rw [if_pos h]
    subst h
    exact ⟨⟨p, rfl, n0⟩, ⟨p, rfl, n1⟩, 0, Rat.le_refl, by decide, n0, trivial⟩
  · rw [if_neg h]
    exact ⟨⟨p, rfl, n0⟩, ⟨q, rfl, n1⟩, 0, Rat.le_refl, by decide, n0, 1, by decide, Rat.le_refl, n1, trivial⟩
/-- a right chain, so deep, so far from its segment, of so many vertices. -/
structure Rnd (a1 a2 b1 b2 : Int) (r m N : Nat) (V : List Px) (D : List Int) : Prop where
  rt : rtV r V D
  dp : ∀ d ∈ D, d ≤ m
  clo : cloP (nrP a1 a2 b1 b2 (2 ^ r) (rc m * rc (2 ^ r))) V
  len : V.length ≤ N
theorem Rnd.exp {a1 a2 b1 b2 : Int} {r m N : Nat} {V : List Px} {D : List Int} (hr : r ≤ 28) (hm : m ≤ 1000) {l : List Px} (hl : l.length ≤ 20) (h : Rnd a1 a2 b1 b2 r m N V D) : Rnd a1 a2 b1 b2 r (m + 1) (N * 21) (expV (atL r l) V) (expD (atL r l) V D) := by
  refine ⟨rtV_exp hr l h.rt fun d hd => by have := h.dp d hd; omega, fun e he => ?_, ?_, ?_⟩
  · obtain ⟨d, hd, h2⟩ := expD_mem V D e he
    have := h.dp d hd
    omega
  · have := cloP_exp hr (l := l) h.clo
    have e : rc ((m + 1 : Nat) : Int) = rc (m : Int) + 1 := by simp [rc, Rat.intCast_add]
    rw [e]; exact this
  · refine Nat.le_trans (exp_bound (fun p q => Nat.le_trans (atL_spec hr l p q).2.2 hl) V) ?_
    exact Nat.mul_le_mul_right 21 h.len
theorem Rnd.closeB {a1 a2 b1 b2 : Int} {r m N : Nat} {V : List Px} {D : List Int} (hr : r ≤ 28) (ra : rB5 a1 a2 = true) (rb : rB5 b1 b2 = true) (h : Rnd a1 a2 b1 b2 r m N V D) (f : Int) (hf : f = m * 2 ^ r) (hb : f ≤ 268435456) : cloB a1 a2 b1 b2 r f V = true := by
  have hS : (0 : Int) < 2 ^ r := Int.pow_pos (by decide)
  rw [cloB_iff]
  rw [show (r : Int).toNat = r from rfl]
  refine ⟨?_, h.rt.2.2.1, ?_⟩
  · unfold preB
    have h0 : 0 ≤ f := by rw [hf]; exact Int.mul_nonneg (by omega) (by omega)
    have hV : V.length ≠ 0 := fun e => h.rt.1 (List.length_eq_zero_iff.1 e)
    rw [ra, rb, decide_eq_true (show 0 ≤ (r : Int) ∧ (r : Int) ≤ 28 by omega), decide_eq_true h0, decide_eq_true hb, decide_eq_false hV]; rfl
  · have e : rc f = rc (m : Int) * rc (2 ^ r) := by rw [hf]; simp [rc, Rat.intCast_mul]
    rw [e]; exact h.clo
theorem inI_of {r : Nat} {x y : Int} (h : inB r x y = true) : InI (x, y) := by
  have hS : (0 : Int) < 2 ^ r := Int.pow_pos (by decide)
  obtain ⟨⟨h1, h2⟩, h3, h4⟩ := in_big h
  have key : ∀ z : Int, -134217728 ≤ 2 ^ r * z → 2 ^ r * z ≤ 134217728 → -9223372036854775808 ≤ z ∧ z ≤ 9223372036854775807 := fun z g1 g2 => by
    generalize (2 : Int) ^ r = S at *
    constructor
    · refine Int.not_lt.1 fun hlt => ?_
      have := Int.mul_le_mul (show (1 : Int) ≤ S by omega) (show 9223372036854775808 ≤ -z by omega) (by omega) (by omega)
      have e : S * -z = -(S * z) := by grind
      omega
    · refine Int.not_lt.1 fun hlt => ?_
      have := Int.mul_le_mul (show (1 : Int) ≤ S by omega) (show 9223372036854775807 ≤ z by omega) (by omega) (by omega)
      omega
  exact ⟨key x h1 h2, key y h3 h4⟩
end Go.Proofs.Ytlglajaonmpljaa

namespace Go.Proofs.Ytlglajaonmpljaa
open Go.RowKit
set_option linter.unusedVariables false
set_option linter.unusedSimpArgs false
open Classical in
noncomputable def rtB (r : Nat) (V : List Px) (D : List Int) : Bool := decide (rtV r V D)
theorem rtB_of {r : Nat} {V : List Px} {D : List Int} (h : rtV r V D) : rtB r V D = true := by unfold rtB; exact @decide_eq_true _ (Classical.propDecidable _) h
theorem rtB_no {r : Nat} {V : List Px} {D : List Int} (h : ¬ rtV r V D) : rtB r V D = false := by unfold rtB; exact @decide_eq_false _ (Classical.propDecidable _) h
def dptD (D : List Int) : Int := D.foldl max 0
theorem dptD_le {D : List Int} {m : Int} (h0 : 0 ≤ m) (h : ∀ d ∈ D, d ≤ m) : 0 ≤ dptD D ∧ dptD D ≤ m := by
  have key : ∀ (D : List Int) (n : Int), 0 ≤ n → n ≤ m → (∀ d ∈ D, d ≤ m) → 0 ≤ D.foldl max n ∧ D.foldl max n ≤ m := by
    intro D
    induction D with
    | nil => intro n g1 g2 _; exact ⟨g1, g2⟩
    | cons d D ih =>
      intro n g1 g2 g3
      rw [List.foldl_cons]
      have := g3 d (List.mem_cons_self ..)
      exact ih _ (by omega) (by omega) fun e he => g3 e (List.mem_cons_of_mem _ he)
  exact key D 0 (Int.le_refl _) h0 h
def CNew10 : Prop := ∀ x y z w : Int, PCall Try.prog 11 [vP x y, vP z w] (vCh (newV (x, y) (z, w)) (newD (x, y) (z, w)))
def CSplit10 : Prop := ∀ (V : List Px) (D : List Int) (j : Nat) (l : List Px), V.length = D.length + 1 → V.length ≤ 1000 → l.length ≤ 100 → j < D.length → (∀ d ∈ D, 1 ≤ d ∧ d ≤ 1048576) →
  PCall Try.prog 15 [vCh V D, vI j, vIt l] (.tup [.agg (mCh (if l.isEmpty then [] else spV V j l) (if l.isEmpty then [] else spD D j l.length)), .one (.c (.bool (!l.isEmpty)))])
def CRight10 : Prop := ∀ (V : List Px) (D : List Int) (r : Nat), r ≤ 28 → V.length ≤ 1000 → D.length ≤ 1000 → (∀ v ∈ V, InI v) → (∀ d ∈ D, 0 ≤ d ∧ d ≤ 9223372036854775807) → PCall Try.prog 16 [vCh V D, vI r] (vB (rtB r V D))
def CDepth10 : Prop := ∀ (V : List Px) (D : List Int), V.length ≤ 1000 → D.length ≤ 1000 → PCall Try.prog 17 [vCh V D] (vI (dptD D))
/-- the round's chain, its links from number j on gone through theirs. -/
theorem from_mem {at' : Px → Px → List Px} {V : List Px} {D : List Int} {j : Nat} : (∀ e ∈ fromD at' V D j, ∃ d ∈ D, e = d ∨ e = d + 1) ∧ (V.length = D.length + 1 → j ≤ D.length → (fromV at' V j).length = (fromD at' V D j).length + 1) := by
  refine ⟨fun e he => ?_, fun h hj => ?_⟩
  · unfold fromD at he
    rcases List.mem_append.1 he with he | he
    · exact ⟨e, List.mem_of_mem_take he, .inl rfl⟩
    · obtain ⟨d, h1, h2⟩ := expD_mem _ _ e he
      exact ⟨d, List.mem_of_mem_drop h1, h2⟩
  · unfold fromV fromD
    have := exp_len (at' := at') (V.drop j) (D.drop j) (by rw [List.length_drop, List.length_drop]; omega)
    rw [List.length_append, List.length_append, this, List.length_take, List.length_take]
    omega
theorem from_len {at' : Px → Px → List Px} {V : List Px} {j m : Nat} (hm : ∀ p q, (at' p q).length ≤ m) : (fromV at' V j).length ≤ V.length * (m + 1) := by
  unfold fromV
  have := exp_bound hm (V.drop j)
  rw [List.length_append]
  rw [List.length_drop] at this
  have h1 : (V.take j).length = min j V.length := List.length_take
  rcases Nat.le_total j V.length with h | h
  · have e : V.length * (m + 1) = (V.length - j) * (m + 1) + j * (m + 1) := by rw [← Nat.add_mul, Nat.sub_add_cancel h]
    have : j * 1 ≤ j * (m + 1) := Nat.mul_le_mul_left j (by omega)
    omega
  · have : V.length * 1 ≤ V.length * (m + 1) := Nat.mul_le_mul_left _ (by omega)
    rw [show V.length - j = 0 by omega] at *
    omega
abbrev mSet10 (l : List Px) : List AC := [.c (.int .i64 100), .p (SlP 2 l.length (itC l))]
abbrev TS0 (S k m : Int) : List (Nat × AV) := [(1, vI k), (3, vOw 3), (7, vI S), (8, vOw 8), (9, vOw 9), (10, vI m)]
/-- the rounds. -/
def R10I (l : List Px) (a1 a2 b1 b2 : Int) (r : Nat) (n : Nat) (R : Rws) (ts : List (Nat × AV)) (ms : List (Nat × List AC)) : Prop :=
  ∃ (m : Nat) (mi : Int) (V : List Px) (D : List Int), 2 ≤ m ∧ m ≤ 4 ∧ n = 4 - m ∧ mi = m ∧ Rnd a1 a2 b1 b2 r (m - 1) (2 * 21 ^ (m - 2)) V D ∧ R = noRows ∧ ms = [(3, mSeg a1 a2 b1 b2), (8, mCh V D), (9, mSet10 l)] ∧ ts = TS0 (2 ^ r) r mi
/-- the links. -/
def L10I (l : List Px) (a1 a2 b1 b2 : Int) (r : Nat) (mi : Int) (V : List Px) (D : List Int) (n : Nat) (R : Rws) (ts : List (Nat × AV)) (ms : List (Nat × List AC)) : Prop :=
  ∃ (j : Nat) (jj : Int), j ≤ D.length ∧ n = j ∧ jj = (j : Int) - 1 ∧ R = noRows ∧ ms = [(3, mSeg a1 a2 b1 b2), (8, mCh (fromV (atL r l) V j) (fromD (atL r l) V D j)), (9, mSet10 l)] ∧ ts = TS0 (2 ^ r) r mi ++ [(11, vI jj)]
/-- the pixels. -/
def P10I (l T : List Px) (a1 a2 b1 b2 : Int) (r : Nat) (mi jj : Int) (V : List Px) (D : List Int) (p q : Px) (n : Nat) (R : Rws) (ts : List (Nat × AV)) (ms : List (Nat × List AC)) : Prop :=
  ∃ (i : Nat) (v : Value) (ii : Int), i ≤ T.length ∧ n = T.length - i ∧ ii = i ∧ R = row1 0 (pxRow v (ddL p q (T.take i))) ∧ ms = [(3, mSeg a1 a2 b1 b2), (8, mCh V D), (9, mSet10 l), (12, mPx p.1 p.2), (13, mPx q.1 q.2)] ∧
    ts = TS0 (2 ^ r) r mi ++ [(11, vI jj), (12, vOw 12), (13, vOw 13), (14, vC v), (96, vIt T), (97, vI T.length), (98, vI ii)]
set_option maxRecDepth 100000 in
set_option maxHeartbeats 8000000 in
theorem drift_no {l : List Px} {a1 a2 b1 b2 k : Int} {g1 g2 : Bool} (R1 : PCall Try.prog 10 [vP a1 a2] (vB g1)) (R2 : PCall Try.prog 10 [vP b1 b2] (vB g2)) (hal : PCall Try.prog 6 [] (vB true))
    (cs : k < 0 ∨ (¬ k < 0 ∧ k > 20) ∨ (¬ k < 0 ∧ ¬ k > 20 ∧ g1 = false) ∨ (¬ k < 0 ∧ ¬ k > 20 ∧ g1 = true ∧ g2 = false) ∨ (¬ k < 0 ∧ ¬ k > 20 ∧ g1 = true ∧ g2 = true ∧ (l.length : Int) > 20)) : PCall Try.prog 4 [vSeg10 a1 a2 b1 b2, vI k, vIt l] (vB true) := by
  rcases cs with q1 | ⟨q1, q2⟩ | ⟨q1, q2, rfl⟩ | ⟨q1, q2, rfl, rfl⟩ | ⟨q1, q2, rfl, rfl, q3⟩
  all_goals
    refine pcall_body (f := 4) Try.func4 rfl rfl rfl rfl ?_
    (repeat (first | ((with_reducible apply al_q); exact rfl) | ((with_reducible apply al_len); (iterate 3 exact rfl)) | (refine al_call0 rfl rfl (by (first | exact R1 | exact R2 | exact hal)) rfl ?_) | (refine al_call1 rfl rfl rfl (by (first | exact R1 | exact R2 | exact hal)) rfl ?_) | ((with_reducible apply al_guard_b (c := true)); exact rfl; exact rfl; (first | assumption | exact decide_eq_true (by omega) | (simp only [Bool.not_eq_true', decide_eq_false_iff_not, decide_eq_true_eq, Bool.not_eq_false']; (first | done | omega)))) | ((with_reducible apply al_guard_b (c := false)); exact rfl; exact rfl; (first | assumption | exact decide_eq_false (by omega) | (simp only [Bool.not_eq_true', decide_eq_false_iff_not, decide_eq_true_eq, Bool.not_eq_false']; (first | done | omega)))) | ((with_reducible apply awp_seq)) | ((with_reducible apply athen_normal)) | ((with_reducible apply awp_region)) | ((with_reducible apply al_nil)) | ((with_reducible apply awp_ret)) | ((with_reducible apply athen_ret)) | ((with_reducible apply awp_cond_t); exact rfl) | ((with_reducible apply awp_cond_1); exact rfl; (first | assumption | exact decide_eq_true (by omega) | (simp only [Bool.not_eq_true', decide_eq_false_iff_not, decide_eq_true_eq, Bool.not_eq_false']; (first | done | omega))))))
    (first | (refine apost_ret rfl (resl_tmp rfl resl_nil) ?_))
    exact AV.Le.refl _
end Go.Proofs.Ytlglajaonmpljaa

