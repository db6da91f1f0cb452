/-
  A segment and a box, by numbers: what is left of the segment when it is cut side by side; where it has a place. My own text.
-/
import Derived.Test.YtfcehanpmbeegaaCrossM
import Derived.Test.YtfcehanpmbeegaaWideA
namespace Go.Proofs.Ytfcehanpmbeegaa
set_option linter.unusedVariables false
/-- a place on the way: n over d, left itself or not. -/
structure Bd where
  n : Int
  d : Int
  own : Bool
structure Pa where
  f : Bd
  t : Bd
def cmB (x y : Bd) : Int := icmp (x.n * y.d) (y.n * x.d)
def laB (x y : Bd) : Bd := if 0 < cmB x y ∨ (cmB x y = 0 ∧ y.own = true) then x else y
def eaB (x y : Bd) : Bd := if cmB x y < 0 ∨ (cmB x y = 0 ∧ y.own = true) then x else y
def kpB (p : Pa) (u v : Int) (own : Bool) : Pa :=
  if 0 < v - u then ⟨laB p.f ⟨-u, v - u, own⟩, p.t⟩
  else if v - u < 0 then ⟨p.f, eaB p.t ⟨u, -(v - u), own⟩⟩
  else if u < 0 ∨ (u = 0 ∧ own = false) then ⟨⟨1, 1, false⟩, ⟨0, 1, false⟩⟩ else p
def anB (p : Pa) : Bool := decide (cmB p.f p.t < 0) || (decide (cmB p.f p.t = 0) && p.f.own && p.t.own)
def alB : Pa := ⟨⟨0, 1, true⟩, ⟨1, 1, true⟩⟩
theorem ic_lt (x y : Int) : icmp x y < 0 ↔ x < y := by unfold icmp; split <;> (try split) <;> omega
theorem ic_gt (x y : Int) : 0 < icmp x y ↔ y < x := by unfold icmp; split <;> (try split) <;> omega
theorem ic_eq (x y : Int) : icmp x y = 0 ↔ x = y := by unfold icmp; split <;> (try split) <;> omega
/-- is n over d not ahead of a bound; not behind it? -/
def Aft (x : Bd) (n d : Int) : Prop := x.n * d < n * x.d ∨ (x.own = true ∧ x.n * d = n * x.d)
def Bef (y : Bd) (n d : Int) : Prop := n * y.d < y.n * d ∨ (y.own = true ∧ n * y.d = y.n * d)
def InP (p : Pa) (n d : Int) : Prop := Aft p.f n d ∧ Bef p.t n d
theorem mul_lt {a b c : Int} (h : a < b) (hc : 0 < c) : a * c < b * c := Int.mul_lt_mul_of_pos_right h hc
theorem lt_mul {a b c : Int} (h : a * c < b * c) (hc : 0 < c) : a < b := Int.lt_of_mul_lt_mul_right h (by omega)
theorem le_mul {a b c : Int} (h : a * c ≤ b * c) (hc : 0 < c) : a ≤ b := Int.le_of_mul_le_mul_right h hc
theorem eq_mul {a b c : Int} (h : a * c = b * c) (hc : 0 < c) : a = b := Int.eq_of_mul_eq_mul_right (by omega) h
/-- fractions: no greater, no greater. -/
theorem fr_ll {a b c d e f : Int} (hb : 0 < b) (hd : 0 < d) (hf : 0 < f) (h : a * d < c * b) (k : c * f < e * d) : a * f < e * b := by
  have h1 := mul_lt h hf
  have h2 := mul_lt k hb
  refine lt_mul (c := d) ?_ hd
  have e1 : a * d * f = a * f * d := by grind
  have e2 : c * b * f = c * f * b := by grind
  have e3 : e * d * b = e * b * d := by grind
  omega
theorem fr_el {a b c d e f : Int} (hb : 0 < b) (hd : 0 < d) (hf : 0 < f) (h : a * d = c * b) (k : c * f < e * d) : a * f < e * b := by
  have h2 := mul_lt k hb
  refine lt_mul (c := d) ?_ hd
  have e1 : a * d * f = a * f * d := by grind
  have e2 : c * b * f = c * f * b := by grind
  have e3 : e * d * b = e * b * d := by grind
  have h1 : a * d * f = c * b * f := by rw [h]
  omega
theorem fr_le {a b c d e f : Int} (hb : 0 < b) (hd : 0 < d) (hf : 0 < f) (h : a * d < c * b) (k : c * f = e * d) : a * f < e * b := by
  have h1 := mul_lt h hf
  refine lt_mul (c := d) ?_ hd
  have e1 : a * d * f = a * f * d := by grind
  have e2 : c * b * f = c * f * b := by grind
  have e3 : e * d * b = e * b * d := by grind
  have h2 : c * f * b = e * d * b := by rw [k]
  omega
theorem fr_ee {a b c d e f : Int} (hb : 0 < b) (hd : 0 < d) (hf : 0 < f) (h : a * d = c * b) (k : c * f = e * d) : a * f = e * b := by
  refine eq_mul (c := d) ?_ hd
  have e1 : a * d * f = a * f * d := by grind
  have e2 : c * b * f = c * f * b := by grind
  have e3 : e * d * b = e * b * d := by grind
  have h1 : a * d * f = c * b * f := by rw [h]
  have h2 : c * f * b = e * d * b := by rw [k]
  omega
theorem cm_tri (x y : Bd) : (x.n * y.d < y.n * x.d ∧ cmB x y < 0) ∨ (x.n * y.d = y.n * x.d ∧ cmB x y = 0) ∨ (y.n * x.d < x.n * y.d ∧ 0 < cmB x y) := by
  have h1 := ic_lt (x.n * y.d) (y.n * x.d)
  have h2 := ic_gt (x.n * y.d) (y.n * x.d)
  have h3 := ic_eq (x.n * y.d) (y.n * x.d)
  unfold cmB
  omega
theorem la_cases (x y : Bd) : (laB x y = x ∧ (0 < cmB x y ∨ (cmB x y = 0 ∧ y.own = true))) ∨ (laB x y = y ∧ ¬ (0 < cmB x y ∨ (cmB x y = 0 ∧ y.own = true))) := by
  unfold laB
  split
  · rename_i h; exact .inl ⟨rfl, h⟩
  · rename_i h; exact .inr ⟨rfl, h⟩
theorem ea_cases (x y : Bd) : (eaB x y = x ∧ (cmB x y < 0 ∨ (cmB x y = 0 ∧ y.own = true))) ∨ (eaB x y = y ∧ ¬ (cmB x y < 0 ∨ (cmB x y = 0 ∧ y.own = true))) := by
  unfold eaB
  split
  · rename_i h; exact .inl ⟨rfl, h⟩
  · rename_i h; exact .inr ⟨rfl, h⟩
theorem aft_la {x y : Bd} {n d : Int} (hx : 0 < x.d) (hy : 0 < y.d) (hd : 0 < d) : Aft (laB x y) n d ↔ Aft x n d ∧ Aft y n d := by
  unfold Aft
  rcases la_cases x y with ⟨e, h⟩ | ⟨e, h⟩ <;> rw [e] <;> rcases cm_tri x y with ⟨t, c⟩ | ⟨t, c⟩ | ⟨t, c⟩
  · omega
  · have ho : y.own = true := by rcases h with h | ⟨_, h⟩ <;> first | exact h | (exfalso; omega)
    refine ⟨fun k => ⟨k, ?_⟩, fun k => k.1⟩
    rcases k with k | ⟨_, k⟩
    · exact .inl (fr_el hy hx hd t.symm k)
    · exact .inr ⟨ho, fr_ee hy hx hd t.symm k⟩
  · refine ⟨fun k => ⟨k, ?_⟩, fun k => k.1⟩
    rcases k with k | ⟨_, k⟩
    · exact .inl (fr_ll hy hx hd t k)
    · exact .inl (fr_le hy hx hd t k)
  · refine ⟨fun k => ⟨?_, k⟩, fun k => k.2⟩
    rcases k with k | ⟨_, k⟩
    · exact .inl (fr_ll hx hy hd t k)
    · exact .inl (fr_le hx hy hd t k)
  · refine ⟨fun k => ⟨?_, k⟩, fun k => k.2⟩
    have ho : ¬ y.own = true := fun q => h (.inr ⟨c, q⟩)
    rcases k with k | ⟨q, k⟩
    · exact .inl (fr_el hx hy hd t k)
    · exact absurd q ho
  · omega
theorem bef_ea {x y : Bd} {n d : Int} (hx : 0 < x.d) (hy : 0 < y.d) (hd : 0 < d) : Bef (eaB x y) n d ↔ Bef x n d ∧ Bef y n d := by
  unfold Bef
  rcases ea_cases x y with ⟨e, h⟩ | ⟨e, h⟩ <;> rw [e] <;> rcases cm_tri x y with ⟨t, c⟩ | ⟨t, c⟩ | ⟨t, c⟩
  · refine ⟨fun k => ⟨k, ?_⟩, fun k => k.1⟩
    rcases k with k | ⟨_, k⟩
    · exact .inl (fr_ll hd hx hy k t)
    · exact .inl (fr_el hd hx hy k t)
  · have ho : y.own = true := by rcases h with h | ⟨_, h⟩ <;> first | exact h | (exfalso; omega)
    refine ⟨fun k => ⟨k, ?_⟩, fun k => k.1⟩
    rcases k with k | ⟨_, k⟩
    · exact .inl (fr_le hd hx hy k t)
    · exact .inr ⟨ho, fr_ee hd hx hy k t⟩
  · omega
  · omega
  · refine ⟨fun k => ⟨?_, k⟩, fun k => k.2⟩
    have ho : ¬ y.own = true := fun q => h (.inr ⟨c, q⟩)
    rcases k with k | ⟨q, k⟩
    · exact .inl (fr_le hd hy hx k t.symm)
    · exact absurd q ho
  · refine ⟨fun k => ⟨?_, k⟩, fun k => k.2⟩
    rcases k with k | ⟨_, k⟩
    · exact .inl (fr_ll hd hy hx k t)
    · exact .inl (fr_el hd hy hx k t)
/-- what goes evenly from u to v is above 0 at n over d, or is 0 there, if that is own. -/
def Hol (u v : Int) (own : Bool) (n d : Int) : Prop := 0 < u * (d - n) + v * n ∨ (own = true ∧ u * (d - n) + v * n = 0)
theorem kp_in {p : Pa} {u v n d : Int} {own : Bool} (hf : 0 < p.f.d) (ht : 0 < p.t.d) (hd : 0 < d) : InP (kpB p u v own) n d ↔ InP p n d ∧ Hol u v own n d := by
  have e0 : u * (d - n) + v * n = (v - u) * n + u * d := by grind
  unfold kpB
  by_cases h1 : 0 < v - u
  · rw [if_pos h1]
    unfold InP
    rw [aft_la hf h1 hd]
    have : Aft ⟨-u, v - u, own⟩ n d ↔ Hol u v own n d := by
      unfold Aft Hol
      simp only
      have e1 : -u * d = -(u * d) := by grind
      have e2 : n * (v - u) = (v - u) * n := by grind
      rw [e0, e1, e2]
      constructor
      · rintro (k | ⟨k, l⟩)
        · exact .inl (by omega)
        · exact .inr ⟨k, by omega⟩
      · rintro (k | ⟨k, l⟩)
        · exact .inl (by omega)
        · exact .inr ⟨k, by omega⟩
    rw [this]
    constructor
    · rintro ⟨⟨a, b⟩, c⟩; exact ⟨⟨a, c⟩, b⟩
    · rintro ⟨⟨a, c⟩, b⟩; exact ⟨⟨a, b⟩, c⟩
  · rw [if_neg h1]
    by_cases h2 : v - u < 0
    · rw [if_pos h2]
      unfold InP
      have hq : (0 : Int) < -(v - u) := by omega
      rw [bef_ea ht hq hd]
      have : Bef ⟨u, -(v - u), own⟩ n d ↔ Hol u v own n d := by
        unfold Bef Hol
        simp only
        have e2 : n * -(v - u) = -((v - u) * n) := by grind
        rw [e0, e2]
        constructor
        · rintro (k | ⟨k, l⟩)
          · exact .inl (by omega)
          · exact .inr ⟨k, by omega⟩
        · rintro (k | ⟨k, l⟩)
          · exact .inl (by omega)
          · exact .inr ⟨k, by omega⟩
      rw [this]
      constructor
      · rintro ⟨a, b, c⟩; exact ⟨⟨a, b⟩, c⟩
      · rintro ⟨⟨a, b⟩, c⟩; exact ⟨a, b, c⟩
    · rw [if_neg h2]
      have e3 : v - u = 0 := by omega
      have e4 : u * (d - n) + v * n = u * d := by rw [e0, e3]; omega
      by_cases h3 : u < 0 ∨ (u = 0 ∧ own = false)
      · rw [if_pos h3]
        have hno : ¬ Hol u v own n d := by
          unfold Hol
          rw [e4]
          rcases h3 with h3 | ⟨rfl, rfl⟩
          · have := mul_lt h3 hd
            omega
          · simp
        refine ⟨fun k => absurd k ?_, fun k => absurd k.2 hno⟩
        unfold InP Aft Bef
        simp
        omega
      · rw [if_neg h3]
        have hyes : Hol u v own n d := by
          unfold Hol
          rw [e4]
          by_cases h4 : u = 0
          · subst h4
            right
            refine ⟨?_, by simp⟩
            cases own with
            | true => rfl
            | false => exact absurd (.inr ⟨rfl, rfl⟩) h3
          · left
            have : 0 < u := by omega
            have := mul_lt this hd
            omega
        exact ⟨fun k => ⟨k, hyes⟩, fun k => k.1⟩
theorem la_d {x y : Bd} (hx : 0 < x.d) (hy : 0 < y.d) : 0 < (laB x y).d := by unfold laB; split <;> assumption
theorem ea_d {x y : Bd} (hx : 0 < x.d) (hy : 0 < y.d) : 0 < (eaB x y).d := by unfold eaB; split <;> assumption
theorem kp_d {p : Pa} {u v : Int} {own : Bool} (hf : 0 < p.f.d) (ht : 0 < p.t.d) : 0 < (kpB p u v own).f.d ∧ 0 < (kpB p u v own).t.d := by
  unfold kpB
  by_cases h1 : 0 < v - u
  · rw [if_pos h1]; exact ⟨la_d hf h1, ht⟩
  · rw [if_neg h1]
    by_cases h2 : v - u < 0
    · rw [if_pos h2]; exact ⟨hf, ea_d ht (by simp only; omega)⟩
    · rw [if_neg h2]
      split
      · exact ⟨by decide, by decide⟩
      · exact ⟨hf, ht⟩
/-- the middle of two. -/
def midN (x y : Bd) : Int := x.n * y.d + y.n * x.d
def midD (x y : Bd) : Int := x.d * y.d + x.d * y.d
theorem mid_in {p : Pa} (hf : 0 < p.f.d) (ht : 0 < p.t.d) (h : p.f.n * p.t.d < p.t.n * p.f.d) : 0 < midD p.f p.t ∧ InP p (midN p.f p.t) (midD p.f p.t) := by
  unfold midN midD InP Aft Bef
  have hm : 0 < p.f.d * p.t.d := Int.mul_pos hf ht
  refine ⟨by omega, .inl ?_, .inl ?_⟩
  · have := mul_lt h hf
    grind
  · have := mul_lt h ht
    grind
theorem an_iff {p : Pa} (hf : 0 < p.f.d) (ht : 0 < p.t.d) : anB p = true ↔ ∃ n d, 0 < d ∧ InP p n d := by
  unfold anB
  simp only [Bool.or_eq_true, Bool.and_eq_true, decide_eq_true_eq]
  constructor
  · intro h
    rcases cm_tri p.f p.t with ⟨t, c⟩ | ⟨t, c⟩ | ⟨t, c⟩
    · obtain ⟨h1, h2⟩ := mid_in hf ht t
      exact ⟨_, _, h1, h2⟩
    · rcases h with h | ⟨⟨_, h1⟩, h2⟩
      · omega
      · exact ⟨p.f.n, p.f.d, hf, .inr ⟨h1, rfl⟩, .inr ⟨h2, t⟩⟩
    · rcases h with h | ⟨⟨h, _⟩, _⟩ <;> omega
  · rintro ⟨n, d, hd, h1, h2⟩
    rcases cm_tri p.f p.t with ⟨t, c⟩ | ⟨t, c⟩ | ⟨t, c⟩
    · exact .inl c
    · right
      refine ⟨⟨c, ?_⟩, ?_⟩
      · rcases h1 with h1 | ⟨h1, _⟩
        · exfalso
          rcases h2 with h2 | ⟨_, h2⟩
          · have := fr_ll hf hd ht h1 h2; omega
          · have := fr_le hf hd ht h1 h2; omega
        · exact h1
      · rcases h2 with h2 | ⟨h2, _⟩
        · exfalso
          rcases h1 with h1 | ⟨_, h1⟩
          · have := fr_ll hf hd ht h1 h2; omega
          · have := fr_el hf hd ht h1 h2; omega
        · exact h2
    · exfalso
      rcases h1 with h1 | ⟨_, h1⟩ <;> rcases h2 with h2 | ⟨_, h2⟩
      · have := fr_ll hf hd ht h1 h2; omega
      · have := fr_le hf hd ht h1 h2; omega
      · have := fr_el hf hd ht h1 h2; omega
      · have := fr_ee hf hd ht h1 h2; omega
/-- the four cuts. -/
def cut4 (u1 v1 u2 v2 u3 v3 u4 v4 : Int) (o p : Bool) : Pa := kpB (kpB (kpB (kpB alB u1 v1 o) u2 v2 o) u3 v3 p) u4 v4 p
theorem cut4_d (u1 v1 u2 v2 u3 v3 u4 v4 : Int) (o p : Bool) : 0 < (cut4 u1 v1 u2 v2 u3 v3 u4 v4 o p).f.d ∧ 0 < (cut4 u1 v1 u2 v2 u3 v3 u4 v4 o p).t.d := by
  unfold cut4
  have h1 := kp_d (p := alB) (u := u1) (v := v1) (own := o) (by decide) (by decide)
  have h2 := kp_d (u := u2) (v := v2) (own := o) h1.1 h1.2
  have h3 := kp_d (u := u3) (v := v3) (own := p) h2.1 h2.2
  exact kp_d (u := u4) (v := v4) (own := p) h3.1 h3.2
theorem al_in {n d : Int} (hd : 0 < d) : InP alB n d ↔ 0 ≤ n ∧ n ≤ d := by
  unfold InP Aft Bef alB
  simp
  omega
theorem cut4_in {u1 v1 u2 v2 u3 v3 u4 v4 n d : Int} {o p : Bool} (hd : 0 < d) : InP (cut4 u1 v1 u2 v2 u3 v3 u4 v4 o p) n d ↔ (0 ≤ n ∧ n ≤ d) ∧ Hol u1 v1 o n d ∧ Hol u2 v2 o n d ∧ Hol u3 v3 p n d ∧ Hol u4 v4 p n d := by
  unfold cut4
  have h1 := kp_d (p := alB) (u := u1) (v := v1) (own := o) (by decide) (by decide)
  have h2 := kp_d (u := u2) (v := v2) (own := o) h1.1 h1.2
  have h3 := kp_d (u := u3) (v := v3) (own := p) h2.1 h2.2
  rw [kp_in h3.1 h3.2 hd, kp_in h2.1 h2.2 hd, kp_in h1.1 h1.2 hd, kp_in (by decide) (by decide) hd, al_in hd]
  simp only [and_assoc]
/-- the segment has a place in the box. -/
def Met (u1 v1 u2 v2 u3 v3 u4 v4 : Int) (o p : Bool) : Prop := ∃ n d, 0 < d ∧ (0 ≤ n ∧ n ≤ d) ∧ Hol u1 v1 o n d ∧ Hol u2 v2 o n d ∧ Hol u3 v3 p n d ∧ Hol u4 v4 p n d
theorem cut4_any (u1 v1 u2 v2 u3 v3 u4 v4 : Int) (o p : Bool) : anB (cut4 u1 v1 u2 v2 u3 v3 u4 v4 o p) = true ↔ Met u1 v1 u2 v2 u3 v3 u4 v4 o p := by
  obtain ⟨h1, h2⟩ := cut4_d u1 v1 u2 v2 u3 v3 u4 v4 o p
  rw [an_iff h1 h2]
  constructor
  · rintro ⟨n, d, hd, h⟩; exact ⟨n, d, hd, (cut4_in hd).1 h⟩
  · rintro ⟨n, d, hd, h⟩; exact ⟨n, d, hd, (cut4_in hd).2 h⟩
end Go.Proofs.Ytfcehanpmbeegaa
