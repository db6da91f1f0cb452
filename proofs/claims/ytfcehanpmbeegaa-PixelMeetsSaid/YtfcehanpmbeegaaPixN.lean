/-
  A segment and a box, by numbers: turned round, cut in the middle, a box cut in four, moved. My own text.
-/
import Derived.Test.YtfcehanpmbeegaaPixC
namespace Go.Proofs.Ytfcehanpmbeegaa
set_option linter.unusedVariables false
def MetB (a1 a2 b1 b2 l1 l2 h1 h2 k : Int) : Prop := Met (2 * a1 - l1) (2 * b1 - l1) (2 * a2 - l2) (2 * b2 - l2) (h1 - 2 * a1) (h1 - 2 * b1) (h2 - 2 * a2) (h2 - 2 * b2) (!decide (k = 2)) (decide (k = 1))
theorem meB_iff {a1 a2 b1 b2 l1 l2 h1 h2 k : Int} : meB a1 a2 b1 b2 l1 l2 h1 h2 k = true ↔ meR a1 a2 b1 b2 l1 l2 h1 h2 k = true ∧ MetB a1 a2 b1 b2 l1 l2 h1 h2 k := by
  unfold meB cutV MetB
  rw [Bool.and_eq_true, cut4_any]
theorem meR_iff {a1 a2 b1 b2 l1 l2 h1 h2 k : Int} : meR a1 a2 b1 b2 l1 l2 h1 h2 k = true ↔ rB5 a1 a2 = true ∧ rB5 b1 b2 = true ∧ co6 l1 l2 = true ∧ co6 h1 h2 = true ∧ kd6 k = true := by
  unfold meR
  simp only [Bool.and_eq_true, and_assoc]
theorem hol_turn {u v n d : Int} {o : Bool} (h : Hol u v o n d) : Hol v u o (d - n) d := by
  unfold Hol at *
  have e : v * (d - (d - n)) + u * (d - n) = u * (d - n) + v * n := by grind
  rw [e]; exact h
theorem met_turn' {u1 v1 u2 v2 u3 v3 u4 v4 : Int} {o p : Bool} (h : Met u1 v1 u2 v2 u3 v3 u4 v4 o p) : Met v1 u1 v2 u2 v3 u3 v4 u4 o p := by
  obtain ⟨n, d, hd, hn, g1, g2, g3, g4⟩ := h
  exact ⟨d - n, d, hd, by omega, hol_turn g1, hol_turn g2, hol_turn g3, hol_turn g4⟩
theorem meB_turn (a1 a2 b1 b2 l1 l2 h1 h2 k : Int) : meB b1 b2 a1 a2 l1 l2 h1 h2 k = meB a1 a2 b1 b2 l1 l2 h1 h2 k := by
  rw [Bool.eq_iff_iff, meB_iff, meB_iff, meR_iff, meR_iff]
  unfold MetB
  exact ⟨fun ⟨⟨r1, r2, r3⟩, h⟩ => ⟨⟨r2, r1, r3⟩, met_turn' h⟩, fun ⟨⟨r1, r2, r3⟩, h⟩ => ⟨⟨r2, r1, r3⟩, met_turn' h⟩⟩
theorem hol_mono {u v n d : Int} {o o' : Bool} (ho : o = true → o' = true) (h : Hol u v o n d) : Hol u v o' n d := by
  unfold Hol at *
  rcases h with h | ⟨h, k⟩
  · exact .inl h
  · exact .inr ⟨ho h, k⟩
theorem met_mono {u1 v1 u2 v2 u3 v3 u4 v4 : Int} {o p o' p' : Bool} (ho : o = true → o' = true) (hp : p = true → p' = true) (h : Met u1 v1 u2 v2 u3 v3 u4 v4 o p) : Met u1 v1 u2 v2 u3 v3 u4 v4 o' p' := by
  obtain ⟨n, d, hd, hn, g1, g2, g3, g4⟩ := h
  exact ⟨n, d, hd, hn, hol_mono ho g1, hol_mono ho g2, hol_mono hp g3, hol_mono hp g4⟩
theorem meB_20 {a1 a2 b1 b2 l1 l2 h1 h2 : Int} (h : meB a1 a2 b1 b2 l1 l2 h1 h2 2 = true) : meB a1 a2 b1 b2 l1 l2 h1 h2 0 = true := by
  rw [meB_iff, meR_iff] at *
  exact ⟨⟨h.1.1, h.1.2.1, h.1.2.2.1, h.1.2.2.2.1, rfl⟩, met_mono (fun h => by cases h) (fun h => by cases h) h.2⟩
theorem meB_01 {a1 a2 b1 b2 l1 l2 h1 h2 : Int} (h : meB a1 a2 b1 b2 l1 l2 h1 h2 0 = true) : meB a1 a2 b1 b2 l1 l2 h1 h2 1 = true := by
  rw [meB_iff, meR_iff] at *
  exact ⟨⟨h.1.1, h.1.2.1, h.1.2.2.1, h.1.2.2.2.1, rfl⟩, met_mono (fun h => rfl) (fun h => rfl) h.2⟩
/-- cut in the middle. -/
theorem hol_left {u v w n d : Int} {o : Bool} (e : u + v = 2 * w) (h : Hol u v o n d) : Hol u w o (2 * n) d := by
  unfold Hol at *
  have e1 : u * (d - 2 * n) + w * (2 * n) = u * (d - n) + v * n := by
    have : w * (2 * n) = (2 * w) * n := by grind
    rw [this, ← e]; grind
  rw [e1]; exact h
theorem hol_right {u v w n d : Int} {o : Bool} (e : u + v = 2 * w) (h : Hol u v o n d) : Hol w v o (2 * n - d) d := by
  unfold Hol at *
  have e1 : w * (d - (2 * n - d)) + v * (2 * n - d) = u * (d - n) + v * n := by
    have : w * (d - (2 * n - d)) = (2 * w) * (d - n) := by grind
    rw [this, ← e]; grind
  rw [e1]; exact h
theorem hol_left' {u v w n d : Int} {o : Bool} (e : u + v = 2 * w) (h : Hol u w o n d) : Hol u v o n (2 * d) := by
  unfold Hol at *
  have e1 : u * (2 * d - n) + v * n = 2 * (u * (d - n) + w * n) := by
    have : 2 * (u * (d - n) + w * n) = 2 * u * (d - n) + (2 * w) * n := by grind
    rw [this, ← e]; grind
  rw [e1]
  rcases h with h | ⟨h, k⟩
  · exact .inl (by omega)
  · exact .inr ⟨h, by omega⟩
theorem hol_right' {u v w n d : Int} {o : Bool} (e : u + v = 2 * w) (h : Hol w v o n d) : Hol u v o (n + d) (2 * d) := by
  unfold Hol at *
  have e1 : u * (2 * d - (n + d)) + v * (n + d) = 2 * (w * (d - n) + v * n) := by
    have : 2 * (w * (d - n) + v * n) = (2 * w) * (d - n) + 2 * v * n := by grind
    rw [this, ← e]; grind
  rw [e1]
  rcases h with h | ⟨h, k⟩
  · exact .inl (by omega)
  · exact .inr ⟨h, by omega⟩
theorem met_half {u1 v1 w1 u2 v2 w2 u3 v3 w3 u4 v4 w4 : Int} {o p : Bool} (e1 : u1 + v1 = 2 * w1) (e2 : u2 + v2 = 2 * w2) (e3 : u3 + v3 = 2 * w3) (e4 : u4 + v4 = 2 * w4) : Met u1 v1 u2 v2 u3 v3 u4 v4 o p ↔ Met u1 w1 u2 w2 u3 w3 u4 w4 o p ∨ Met w1 v1 w2 v2 w3 v3 w4 v4 o p := by
  constructor
  · rintro ⟨n, d, hd, hn, g1, g2, g3, g4⟩
    by_cases h : 2 * n ≤ d
    · exact .inl ⟨2 * n, d, hd, by omega, hol_left e1 g1, hol_left e2 g2, hol_left e3 g3, hol_left e4 g4⟩
    · exact .inr ⟨2 * n - d, d, hd, by omega, hol_right e1 g1, hol_right e2 g2, hol_right e3 g3, hol_right e4 g4⟩
  · rintro (⟨n, d, hd, hn, g1, g2, g3, g4⟩ | ⟨n, d, hd, hn, g1, g2, g3, g4⟩)
    · exact ⟨n, 2 * d, by omega, by omega, hol_left' e1 g1, hol_left' e2 g2, hol_left' e3 g3, hol_left' e4 g4⟩
    · exact ⟨n + d, 2 * d, by omega, by omega, hol_right' e1 g1, hol_right' e2 g2, hol_right' e3 g3, hol_right' e4 g4⟩
theorem meB_half {a1 a2 b1 b2 m1 m2 l1 l2 h1 h2 k : Int} (ra : rB5 a1 a2 = true) (rb : rB5 b1 b2 = true) (e1 : a1 + b1 = 2 * m1) (e2 : a2 + b2 = 2 * m2) : meB a1 a2 b1 b2 l1 l2 h1 h2 k = (meB a1 a2 m1 m2 l1 l2 h1 h2 k || meB m1 m2 b1 b2 l1 l2 h1 h2 k) := by
  have rm : rB5 m1 m2 = true := by rw [rB5_iff] at *; omega
  rw [Bool.eq_iff_iff, Bool.or_eq_true, meB_iff, meB_iff, meB_iff, meR_iff, meR_iff, meR_iff]
  unfold MetB
  rw [met_half (w1 := 2 * m1 - l1) (w2 := 2 * m2 - l2) (w3 := h1 - 2 * m1) (w4 := h2 - 2 * m2) (by omega) (by omega) (by omega) (by omega)]
  simp only [ra, rb, rm, true_and]
  constructor
  · rintro ⟨r, h | h⟩
    · exact .inl ⟨r, h⟩
    · exact .inr ⟨r, h⟩
  · rintro (⟨r, h⟩ | ⟨r, h⟩)
    · exact ⟨r, .inl h⟩
    · exact ⟨r, .inr h⟩
/-- at the ends. -/
theorem met_low {u1 v1 u2 v2 u3 v3 u4 v4 : Int} {o p : Bool} (g1 : 0 < u1 ∨ (o = true ∧ u1 = 0)) (g2 : 0 < u2 ∨ (o = true ∧ u2 = 0)) (g3 : 0 < u3 ∨ (p = true ∧ u3 = 0)) (g4 : 0 < u4 ∨ (p = true ∧ u4 = 0)) : Met u1 v1 u2 v2 u3 v3 u4 v4 o p := by
  refine ⟨0, 1, by omega, by omega, ?_, ?_, ?_, ?_⟩ <;> unfold Hol <;> simpa
/-- a little wider. -/
theorem hol_more {u v n d : Int} (hd : 0 < d) (h : Hol u v true n d) : Hol (u + 1) (v + 1) true n d := by
  unfold Hol at *
  have e1 : (u + 1) * (d - n) + (v + 1) * n = u * (d - n) + v * n + d := by grind
  rw [e1]
  left
  omega
theorem meB_more {a1 a2 b1 b2 p1 p2 f : Int} (hp : rB5 p1 p2 = true) (f0 : 0 ≤ f) (f1 : f + 1 ≤ 268435456) (h : meB a1 a2 b1 b2 (2 * p1 - f) (2 * p2 - f) (2 * p1 + f) (2 * p2 + f) 1 = true) : meB a1 a2 b1 b2 (2 * p1 - (f + 1)) (2 * p2 - (f + 1)) (2 * p1 + (f + 1)) (2 * p2 + (f + 1)) 1 = true := by
  rw [meB_iff, meR_iff] at *
  rw [rB5_iff] at hp
  obtain ⟨⟨r1, r2, r3, r4, r5⟩, n, d, hd, hn, g1, g2, g3, g4⟩ := h
  refine ⟨⟨r1, r2, by rw [co6_iff]; omega, by rw [co6_iff]; omega, r5⟩, n, d, hd, hn, ?_, ?_, ?_, ?_⟩
  · have := hol_more hd g1; rwa [show 2 * a1 - (2 * p1 - f) + 1 = 2 * a1 - (2 * p1 - (f + 1)) by omega, show 2 * b1 - (2 * p1 - f) + 1 = 2 * b1 - (2 * p1 - (f + 1)) by omega] at this
  · have := hol_more hd g2; rwa [show 2 * a2 - (2 * p2 - f) + 1 = 2 * a2 - (2 * p2 - (f + 1)) by omega, show 2 * b2 - (2 * p2 - f) + 1 = 2 * b2 - (2 * p2 - (f + 1)) by omega] at this
  · have := hol_more hd g3; rwa [show 2 * p1 + f - 2 * a1 + 1 = 2 * p1 + (f + 1) - 2 * a1 by omega, show 2 * p1 + f - 2 * b1 + 1 = 2 * p1 + (f + 1) - 2 * b1 by omega] at this
  · have := hol_more hd g4; rwa [show 2 * p2 + f - 2 * a2 + 1 = 2 * p2 + (f + 1) - 2 * a2 by omega, show 2 * p2 + f - 2 * b2 + 1 = 2 * p2 + (f + 1) - 2 * b2 by omega] at this
theorem meB_end {a1 a2 b1 b2 : Int} (ra : rB5 a1 a2 = true) (rb : rB5 b1 b2 = true) : meB a1 a2 b1 b2 (2 * a1 - 0) (2 * a2 - 0) (2 * a1 + 0) (2 * a2 + 0) 1 = true := by
  have ia := rB5_iff.1 ra
  rw [meB_iff, meR_iff]
  refine ⟨⟨ra, rb, by rw [co6_iff]; omega, by rw [co6_iff]; omega, rfl⟩, met_low ?_ ?_ ?_ ?_⟩ <;> exact .inr ⟨rfl, by omega⟩
/-- a box of four boxes. -/
theorem hol_half {u v n d : Int} (hd : 0 < d) : Hol u v true n d ∨ Hol (-u) (-v) false n d := by
  unfold Hol
  have e1 : -u * (d - n) + -v * n = -(u * (d - n) + v * n) := by grind
  rw [e1]
  by_cases h : 0 < u * (d - n) + v * n
  · exact .inl (.inl h)
  · by_cases h2 : u * (d - n) + v * n = 0
    · exact .inl (.inr ⟨rfl, h2⟩)
    · exact .inr (.inl (by omega))
theorem hol_up {u v c n d : Int} {o : Bool} (hd : 0 < d) (hc : 0 ≤ c) (h : Hol u v o n d) : Hol (u + c) (v + c) o n d := by
  unfold Hol at *
  have e1 : (u + c) * (d - n) + (v + c) * n = u * (d - n) + v * n + c * d := by grind
  have := Int.mul_nonneg hc (by omega : (0 : Int) ≤ d)
  rw [e1]
  rcases h with h | ⟨h, k⟩
  · exact .inl (by omega)
  · by_cases h0 : c * d = 0
    · exact .inr ⟨h, by omega⟩
    · exact .inl (by omega)
theorem metB_tiles {a1 a2 b1 b2 l1 l2 m1 m2 h1 h2 : Int} (q1 : l1 ≤ m1) (q2 : m1 ≤ h1) (q3 : l2 ≤ m2) (q4 : m2 ≤ h2) : MetB a1 a2 b1 b2 l1 l2 h1 h2 0 ↔ (MetB a1 a2 b1 b2 l1 l2 m1 m2 0 ∨ MetB a1 a2 b1 b2 m1 m2 h1 h2 0) ∨ (MetB a1 a2 b1 b2 l1 m2 m1 h2 0 ∨ MetB a1 a2 b1 b2 m1 l2 h1 m2 0) := by
  unfold MetB Met
  constructor
  · rintro ⟨n, d, hd, hn, g1, g2, g3, g4⟩
    have e1 := hol_half (u := 2 * a1 - m1) (v := 2 * b1 - m1) (n := n) hd
    have e2 := hol_half (u := 2 * a2 - m2) (v := 2 * b2 - m2) (n := n) hd
    rw [show -(2 * a1 - m1) = m1 - 2 * a1 by omega, show -(2 * b1 - m1) = m1 - 2 * b1 by omega] at e1
    rw [show -(2 * a2 - m2) = m2 - 2 * a2 by omega, show -(2 * b2 - m2) = m2 - 2 * b2 by omega] at e2
    rcases e1 with e1 | e1 <;> rcases e2 with e2 | e2
    · exact .inl (.inr ⟨n, d, hd, hn, e1, e2, g3, g4⟩)
    · exact .inr (.inr ⟨n, d, hd, hn, e1, g2, g3, e2⟩)
    · exact .inr (.inl ⟨n, d, hd, hn, g1, e2, e1, g4⟩)
    · exact .inl (.inl ⟨n, d, hd, hn, g1, g2, e1, e2⟩)
  · have up : ∀ {u v n d : Int} {o : Bool} (w : Int), 0 < d → u ≤ w → Hol u (u + (v - u)) o n d → Hol w (w + (v - u)) o n d := by
      intro u v n d o w hd hw h
      have := hol_up (c := w - u) hd (by omega) h
      rwa [show u + (w - u) = w by omega, show u + (v - u) + (w - u) = w + (v - u) by omega] at this
    have up' : ∀ {u v n d : Int} {o : Bool} (w x : Int), 0 < d → u ≤ w → x - w = v - u → Hol u v o n d → Hol w x o n d := by
      intro u v n d o w x hd hw hx h
      have := hol_up (c := w - u) hd (by omega) h
      rwa [show u + (w - u) = w by omega, show v + (w - u) = x by omega] at this
    rintro ((⟨n, d, hd, hn, g1, g2, g3, g4⟩ | ⟨n, d, hd, hn, g1, g2, g3, g4⟩) | (⟨n, d, hd, hn, g1, g2, g3, g4⟩ | ⟨n, d, hd, hn, g1, g2, g3, g4⟩))
    all_goals exact ⟨n, d, hd, hn, up' _ _ hd (by omega) (by omega) g1, up' _ _ hd (by omega) (by omega) g2, up' _ _ hd (by omega) (by omega) g3, up' _ _ hd (by omega) (by omega) g4⟩
theorem meB_tiles {a1 a2 b1 b2 l1 l2 m1 m2 h1 h2 : Int} (q1 : l1 ≤ m1) (q2 : m1 ≤ h1) (q3 : l2 ≤ m2) (q4 : m2 ≤ h2) (cl : co6 l1 l2 = true) (ch : co6 h1 h2 = true) : meB a1 a2 b1 b2 l1 l2 h1 h2 0 = ((meB a1 a2 b1 b2 l1 l2 m1 m2 0 || meB a1 a2 b1 b2 m1 m2 h1 h2 0) || (meB a1 a2 b1 b2 l1 m2 m1 h2 0 || meB a1 a2 b1 b2 m1 l2 h1 m2 0)) := by
  have il := co6_iff.1 cl
  have ih := co6_iff.1 ch
  have c1 : co6 m1 m2 = true := by rw [co6_iff]; omega
  have c2 : co6 l1 m2 = true := by rw [co6_iff]; omega
  have c3 : co6 m1 h2 = true := by rw [co6_iff]; omega
  have c4 : co6 m1 l2 = true := by rw [co6_iff]; omega
  have c5 : co6 h1 m2 = true := by rw [co6_iff]; omega
  rw [Bool.eq_iff_iff]
  simp only [Bool.or_eq_true]
  rw [meB_iff, meB_iff, meB_iff, meB_iff, meB_iff, meR_iff, meR_iff, meR_iff, meR_iff, meR_iff, metB_tiles q1 q2 q3 q4]
  simp only [cl, ch, c1, c2, c3, c4, c5, true_and]
  constructor
  · rintro ⟨r, (h | h) | (h | h)⟩
    · exact .inl (.inl ⟨r, h⟩)
    · exact .inl (.inr ⟨r, h⟩)
    · exact .inr (.inl ⟨r, h⟩)
    · exact .inr (.inr ⟨r, h⟩)
  · rintro ((⟨r, h⟩ | ⟨r, h⟩) | (⟨r, h⟩ | ⟨r, h⟩))
    · exact ⟨r, .inl (.inl h)⟩
    · exact ⟨r, .inl (.inr h)⟩
    · exact ⟨r, .inr (.inl h)⟩
    · exact ⟨r, .inr (.inr h)⟩
/-- moved. -/
theorem meB_moved {a1 a2 b1 b2 l1 l2 h1 h2 x y a1' a2' b1' b2' l1' l2' h1' h2' k : Int} (e1 : a1' = a1 + x) (e2 : a2' = a2 + y) (e3 : b1' = b1 + x) (e4 : b2' = b2 + y) (e5 : l1' = l1 + 2 * x) (e6 : l2' = l2 + 2 * y) (e7 : h1' = h1 + 2 * x) (e8 : h2' = h2 + 2 * y)
    (r : meR a1 a2 b1 b2 l1 l2 h1 h2 k = true) (r' : meR a1' a2' b1' b2' l1' l2' h1' h2' k = true) : meB a1' a2' b1' b2' l1' l2' h1' h2' k = meB a1 a2 b1 b2 l1 l2 h1 h2 k := by
  unfold meB
  rw [r, r']
  unfold cutV
  rw [show 2 * a1' - l1' = 2 * a1 - l1 by omega, show 2 * b1' - l1' = 2 * b1 - l1 by omega, show 2 * a2' - l2' = 2 * a2 - l2 by omega, show 2 * b2' - l2' = 2 * b2 - l2 by omega, show h1' - 2 * a1' = h1 - 2 * a1 by omega, show h1' - 2 * b1' = h1 - 2 * b1 by omega, show h2' - 2 * a2' = h2 - 2 * a2 by omega, show h2' - 2 * b2' = h2 - 2 * b2 by omega]
/-- between. -/
theorem hol_no {u v n d : Int} {o : Bool} (hd : 0 < d) (hn : 0 ≤ n ∧ n ≤ d) (hu : u < 0 ∨ (u ≤ 0 ∧ o = false)) (hv : v < 0 ∨ (v ≤ 0 ∧ o = false)) : ¬ Hol u v o n d := by
  unfold Hol
  have a1 : u * (d - n) ≤ 0 := Int.mul_nonpos_of_nonpos_of_nonneg (by omega) (by omega)
  have a2 : v * n ≤ 0 := Int.mul_nonpos_of_nonpos_of_nonneg (by omega) (by omega)
  rintro (h | ⟨ho, h⟩)
  · omega
  · have hu' : u < 0 := by rcases hu with h | ⟨_, h⟩; exact h; rw [h] at ho; cases ho
    have hv' : v < 0 := by rcases hv with h | ⟨_, h⟩; exact h; rw [h] at ho; cases ho
    by_cases h0 : n = 0
    · subst h0
      have := Int.mul_neg_of_neg_of_pos hu' (by omega : 0 < d - 0)
      omega
    · have := Int.mul_neg_of_neg_of_pos hv' (by omega : 0 < n)
      omega
theorem met_sides {u1 v1 u2 v2 u3 v3 u4 v4 : Int} (h : Met u1 v1 u2 v2 u3 v3 u4 v4 true false) : (0 ≤ u1 ∨ 0 ≤ v1) ∧ (0 ≤ u2 ∨ 0 ≤ v2) ∧ (0 < u3 ∨ 0 < v3) ∧ (0 < u4 ∨ 0 < v4) := by
  obtain ⟨n, d, hd, hn, g1, g2, g3, g4⟩ := h
  refine ⟨Classical.byContradiction fun k => ?_, Classical.byContradiction fun k => ?_, Classical.byContradiction fun k => ?_, Classical.byContradiction fun k => ?_⟩
  · exact hol_no hd hn (.inl (by omega)) (.inl (by omega)) g1
  · exact hol_no hd hn (.inl (by omega)) (.inl (by omega)) g2
  · exact hol_no hd hn (.inr ⟨by omega, rfl⟩) (.inr ⟨by omega, rfl⟩) g3
  · exact hol_no hd hn (.inr ⟨by omega, rfl⟩) (.inr ⟨by omega, rfl⟩) g4
end Go.Proofs.Ytfcehanpmbeegaa
