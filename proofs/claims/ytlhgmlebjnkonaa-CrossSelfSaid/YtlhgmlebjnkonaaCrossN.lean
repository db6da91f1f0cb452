/-
  Two segments, by their numbers: the kinds of what is told. My own text.
-/
import Derived.Test.YtlhgmlebjnkonaaCrossM
namespace Go.Proofs.Ytlhgmlebjnkonaa
set_option linter.unusedVariables false
theorem on_self (a1 a2 b1 b2 : Int) : On a1 a2 a1 a2 b1 b2 ∧ On b1 b2 a1 a2 b1 b2 := by
  unfold On inBox
  refine ⟨⟨cr_left .., ?_⟩, ⟨cr_right .., ?_⟩⟩ <;> (unfold imin imax; refine ⟨?_, ?_, ?_, ?_⟩ <;> split <;> omega)
theorem on_line {a1 a2 b1 b2 p1 p2 : Int} (h : cr a1 a2 b1 b2 p1 p2 = 0) : (b2 - a2) * a1 + (a1 - b1) * a2 = (b2 - a2) * p1 + (a1 - b1) * p2 := by unfold cr at h; grind
/-- a place that is on both lines is theirs. -/
theorem on_two {a1 a2 b1 b2 c1 c2 d1 d2 p1 p2 : Int} (h : cr a1 a2 b1 b2 p1 p2 = 0) (k : cr c1 c2 d1 d2 p1 p2 = 0) :
    nX a1 a2 b1 b2 c1 c2 d1 d2 = p1 * wD a1 a2 b1 b2 c1 c2 d1 d2 ∧ nY a1 a2 b1 b2 c1 c2 d1 d2 = p2 * wD a1 a2 b1 b2 c1 c2 d1 d2 := by
  have e := on_line h
  have f := on_line k
  unfold nX nY wD
  rw [e, f]
  constructor <;> grind
theorem nr1_mul (p w : Int) : nr1 (p * w) w = p * nr2 w := by
  unfold nr1 nr2
  split
  · rw [Int.mul_neg]
  · rfl
theorem bw_mul {p d a b : Int} (h0 : imin a b ≤ p) (h1 : p ≤ imax a b) (hd : 0 < d) : bw (p * d) d a b :=
  ⟨Int.mul_le_mul_of_nonneg_right h0 (by omega), Int.mul_le_mul_of_nonneg_right h1 (by omega)⟩
theorem four_on {a1 a2 b1 b2 c1 c2 d1 d2 p1 p2 d : Int} (h : On p1 p2 a1 a2 b1 b2) (k : On p1 p2 c1 c2 d1 d2) (hd : 0 < d) : four a1 a2 b1 b2 c1 c2 d1 d2 (p1 * d) (p2 * d) d :=
  ⟨bw_mul h.2.1 h.2.2.1 hd, bw_mul h.2.2.2.1 h.2.2.2.2 hd, bw_mul k.2.1 k.2.2.1 hd, bw_mul k.2.2.2.1 k.2.2.2.2 hd⟩
/-- what is told of two segments in one line. -/
theorem mv_line {a1 a2 b1 b2 c1 c2 d1 d2 : Int} (h : wD a1 a2 b1 b2 c1 c2 d1 d2 = 0) :
    (meetV a1 a2 b1 b2 c1 c2 d1 d2 = noM ∧ ∀ p1 p2, On p1 p2 a1 a2 b1 b2 → ¬ On p1 p2 c1 c2 d1 d2) ∨
    ∃ f1 f2 g1 g2, meetV a1 a2 b1 b2 c1 c2 d1 d2 = inlP f1 f2 g1 g2 ∧ lx f1 f2 g1 g2 ∧ On f1 f2 a1 a2 b1 b2 ∧ On f1 f2 c1 c2 d1 d2 ∧ On g1 g2 a1 a2 b1 b2 ∧ On g1 g2 c1 c2 d1 d2
      ∧ f1 = hi1 (lo1 a1 a2 b1 b2) (lo2 a1 a2 b1 b2) (lo1 c1 c2 d1 d2) (lo2 c1 c2 d1 d2) ∧ f2 = hi2 (lo1 a1 a2 b1 b2) (lo2 a1 a2 b1 b2) (lo1 c1 c2 d1 d2) (lo2 c1 c2 d1 d2)
      ∧ g1 = lo1 (hi1 a1 a2 b1 b2) (hi2 a1 a2 b1 b2) (hi1 c1 c2 d1 d2) (hi2 c1 c2 d1 d2) ∧ g2 = lo2 (hi1 a1 a2 b1 b2) (hi2 a1 a2 b1 b2) (hi1 c1 c2 d1 d2) (hi2 c1 c2 d1 d2)
      ∧ ∀ p1 p2, On p1 p2 a1 a2 b1 b2 → On p1 p2 c1 c2 d1 d2 → lx f1 f2 p1 p2 ∧ lx p1 p2 g1 g2 := by
  have hs := lh_lx a1 a2 b1 b2
  have ht := lh_lx c1 c2 d1 d2
  have hw : par (lo1 a1 a2 b1 b2) (lo2 a1 a2 b1 b2) (hi1 a1 a2 b1 b2) (hi2 a1 a2 b1 b2) (lo1 c1 c2 d1 d2) (lo2 c1 c2 d1 d2) (hi1 c1 c2 d1 d2) (hi2 c1 c2 d1 d2) = 0 := by
    have h1 := wD_ab a1 a2 b1 b2 c1 c2 d1 d2
    have h2 := wD_cd a1 a2 b1 b2 c1 c2 d1 d2
    have h3 := wD_cd b1 b2 a1 a2 c1 c2 d1 d2
    rw [← wD_par]
    rcases lh_or a1 a2 b1 b2 with ⟨h1, h2, h3, h4, _⟩ | ⟨h1, h2, h3, h4, _⟩ <;> rcases lh_or c1 c2 d1 d2 with ⟨k1, k2, k3, k4, _⟩ | ⟨k1, k2, k3, k4, _⟩ <;> rw [h1, h2, h3, h4, k1, k2, k3, k4] <;> omega
  have so : ∀ p1 p2, On p1 p2 (lo1 a1 a2 b1 b2) (lo2 a1 a2 b1 b2) (hi1 a1 a2 b1 b2) (hi2 a1 a2 b1 b2) ↔ On p1 p2 a1 a2 b1 b2 := fun _ _ => on_sort
  have to : ∀ p1 p2, On p1 p2 (lo1 c1 c2 d1 d2) (lo2 c1 c2 d1 d2) (hi1 c1 c2 d1 d2) (hi2 c1 c2 d1 d2) ↔ On p1 p2 c1 c2 d1 d2 := fun _ _ => on_sort
  unfold meetV
  rw [if_pos h]
  unfold inlS inl
  generalize lo1 a1 a2 b1 b2 = s1 at *
  generalize lo2 a1 a2 b1 b2 = s2 at *
  generalize hi1 a1 a2 b1 b2 = s3 at *
  generalize hi2 a1 a2 b1 b2 = s4 at *
  generalize lo1 c1 c2 d1 d2 = t1 at *
  generalize lo2 c1 c2 d1 d2 = t2 at *
  generalize hi1 c1 c2 d1 d2 = t3 at *
  generalize hi2 c1 c2 d1 d2 = t4 at *
  have key := fun p1 p2 => @line_on s1 s2 s3 s4 t1 t2 t3 t4 p1 p2 hs ht hw
  by_cases q : On (hi1 s1 s2 t1 t2) (hi2 s1 s2 t1 t2) s1 s2 s3 s4 ∧ On (hi1 s1 s2 t1 t2) (hi2 s1 s2 t1 t2) t1 t2 t3 t4
  · right
    rw [if_pos q]
    obtain ⟨u1, u2, u3, u4, u5, u6⟩ := key _ _ q.1 q.2
    exact ⟨_, _, _, _, rfl, u6, (so _ _).1 u1, (to _ _).1 u2, (so _ _).1 u3, (to _ _).1 u4, rfl, rfl, rfl, rfl, fun p1 p2 hp hq => ⟨(key p1 p2 ((so _ _).2 hp) ((to _ _).2 hq)).2.2.2.2.1, (key p1 p2 ((so _ _).2 hp) ((to _ _).2 hq)).2.2.2.2.2⟩⟩
  · left
    rw [if_neg q]
    exact ⟨rfl, fun p1 p2 hp hq => q ⟨(key p1 p2 ((so _ _).2 hp) ((to _ _).2 hq)).1, (key p1 p2 ((so _ _).2 hp) ((to _ _).2 hq)).2.1⟩⟩
/-- three places of one segment, in order. -/
theorem on_mid {a1 a2 b1 b2 f1 f2 g1 g2 p1 p2 : Int} (hf : On f1 f2 a1 a2 b1 b2) (hg : On g1 g2 a1 a2 b1 b2) (hp : On p1 p2 a1 a2 b1 b2) (h0 : lx f1 f2 p1 p2) (h1 : lx p1 p2 g1 g2) : On p1 p2 f1 f2 g1 g2 := by
  refine (on_iff (h0.trans h1)).2 ⟨?_, h0, h1⟩
  by_cases e : a1 = b1 ∧ a2 = b2
  · obtain ⟨rfl, rfl⟩ := e
    obtain ⟨rfl, rfl⟩ := on_point hf
    obtain ⟨rfl, rfl⟩ := on_point hg
    obtain ⟨rfl, rfl⟩ := on_point hp
    exact cr_left ..
  · have a := hf.1
    have b := hg.1
    have c := hp.1
    unfold cr at *
    have d1 : (b1 - a1) * ((g1 - f1) * (p2 - f2) - (g2 - f2) * (p1 - f1)) = 0 := by grind
    have d2 : (b2 - a2) * ((g1 - f1) * (p2 - f2) - (g2 - f2) * (p1 - f1)) = 0 := by grind
    rcases Int.mul_eq_zero.1 d1 with e' | e'
    · rcases Int.mul_eq_zero.1 d2 with f | f
      · omega
      · exact f
    · exact e'
/-- all that is told. -/
theorem mv_kinds (a1 a2 b1 b2 c1 c2 d1 d2 : Int) :
    (meetV a1 a2 b1 b2 c1 c2 d1 d2 = noM ∧ ∀ p1 p2, On p1 p2 a1 a2 b1 b2 → ¬ On p1 p2 c1 c2 d1 d2) ∨
    (∃ x y d, meetV a1 a2 b1 b2 c1 c2 d1 d2 = plM x d y d ∧ 0 < d ∧ (d = 1 ∨ d = nr2 (wD a1 a2 b1 b2 c1 c2 d1 d2)) ∧ four a1 a2 b1 b2 c1 c2 d1 d2 x y d ∧ ∀ p1 p2, On p1 p2 a1 a2 b1 b2 → On p1 p2 c1 c2 d1 d2 → x = p1 * d ∧ y = p2 * d) ∨
    (∃ f1 f2 g1 g2, meetV a1 a2 b1 b2 c1 c2 d1 d2 = alM f1 f2 g1 g2 ∧ ¬ (f1 = g1 ∧ f2 = g2) ∧ lx f1 f2 g1 g2 ∧ On f1 f2 a1 a2 b1 b2 ∧ On f1 f2 c1 c2 d1 d2 ∧ On g1 g2 a1 a2 b1 b2 ∧ On g1 g2 c1 c2 d1 d2
      ∧ f1 = hi1 (lo1 a1 a2 b1 b2) (lo2 a1 a2 b1 b2) (lo1 c1 c2 d1 d2) (lo2 c1 c2 d1 d2) ∧ f2 = hi2 (lo1 a1 a2 b1 b2) (lo2 a1 a2 b1 b2) (lo1 c1 c2 d1 d2) (lo2 c1 c2 d1 d2)
      ∧ g1 = lo1 (hi1 a1 a2 b1 b2) (hi2 a1 a2 b1 b2) (hi1 c1 c2 d1 d2) (hi2 c1 c2 d1 d2) ∧ g2 = lo2 (hi1 a1 a2 b1 b2) (hi2 a1 a2 b1 b2) (hi1 c1 c2 d1 d2) (hi2 c1 c2 d1 d2)
      ∧ ∀ p1 p2, On p1 p2 a1 a2 b1 b2 → On p1 p2 c1 c2 d1 d2 → On p1 p2 f1 f2 g1 g2) := by
  by_cases h : wD a1 a2 b1 b2 c1 c2 d1 d2 = 0
  · rcases mv_line h with ⟨e, hn⟩ | ⟨f1, f2, g1, g2, e, hl, u1, u2, u3, u4, v1, v2, v3, v4, hp⟩
    · exact .inl ⟨e, hn⟩
    · right
      rw [e]
      unfold inlP
      by_cases q : f1 = g1 ∧ f2 = g2
      · left
        rw [if_pos q]
        refine ⟨f1, f2, 1, rfl, by omega, .inl rfl, ?_, fun p1 p2 ha hb => ?_⟩
        · have := four_on u1 u2 (d := 1) (by omega)
          rwa [Int.mul_one, Int.mul_one] at this
        · obtain ⟨k1, k2⟩ := hp p1 p2 ha hb
          obtain ⟨rfl, rfl⟩ := q
          have := lx.anti k1 k2
          omega
      · right
        rw [if_neg q]
        exact ⟨f1, f2, g1, g2, rfl, q, hl, u1, u2, u3, u4, v1, v2, v3, v4, fun p1 p2 ha hb => on_mid u1 u3 ha (hp p1 p2 ha hb).1 (hp p1 p2 ha hb).2⟩
  · have hd := nr2_pos h
    unfold meetV
    rw [if_neg h]
    unfold meetN meetW
    by_cases q : four a1 a2 b1 b2 c1 c2 d1 d2 (nr1 (nX a1 a2 b1 b2 c1 c2 d1 d2) (wD a1 a2 b1 b2 c1 c2 d1 d2)) (nr1 (nY a1 a2 b1 b2 c1 c2 d1 d2) (wD a1 a2 b1 b2 c1 c2 d1 d2)) (nr2 (wD a1 a2 b1 b2 c1 c2 d1 d2))
    · right; left
      rw [if_pos q]
      refine ⟨_, _, _, rfl, hd, .inr rfl, q, fun p1 p2 ha hb => ?_⟩
      obtain ⟨e1, e2⟩ := on_two ha.1 hb.1
      rw [e1, e2, nr1_mul, nr1_mul]
      exact ⟨rfl, rfl⟩
    · left
      rw [if_neg q]
      refine ⟨rfl, fun p1 p2 ha hb => q ?_⟩
      obtain ⟨e1, e2⟩ := on_two ha.1 hb.1
      rw [e1, e2, nr1_mul, nr1_mul]
      exact four_on ha hb hd
end Go.Proofs.Ytlhgmlebjnkonaa
