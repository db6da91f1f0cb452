/-
  The reference package of layer 5, by values: lines that cross. My own text.
-/
import Derived.Test.YtlhgmlebjnkonaaCrossEa
namespace Go.Proofs.Ytlhgmlebjnkonaa
open Go.RowKit
set_option linter.unusedVariables false
set_option linter.unusedSimpArgs false
theorem p_r5bw {n d a b : Int} (n1 : NB 150 n) (n2 : NB 150 d) (a0 : -134217728 ≤ a) (a1 : a ≤ 134217728) (b0 : -134217728 ≤ b) (b1 : b ≤ 134217728) : PCall Try.prog 36 [rfv n d, vI a, vI b] (vB (decide (bw n d a b))) := by
  have := p_r5between n1 n2 a0 a1 b0 b1 rfl rfl rfl rfl
  have e : decide (bw n d a b) = (decide ((if b < a then b else a) * d ≤ n) && decide (n ≤ (if b > a then b else a) * d)) := by
    rw [Bool.eq_iff_iff, decide_eq_true_eq, Bool.and_eq_true, decide_eq_true_eq, decide_eq_true_eq]
    rfl
  rw [e]
  exact this
theorem p_r5over {n d : Int} (n1 : NB 900 n) (n2 : NB 900 d) : PCall Try.prog 35 [nv n, nv d] (rfv (nr1 n d) (nr2 d)) := by
  unfold nr1 nr2
  by_cases h : d < 0
  · rw [if_pos h, if_pos h]; exact p_r5over_neg n1 n2 h
  · rw [if_neg h, if_neg h]; exact p_r5over_pos n1 n2 (by omega)
theorem icmp_zero {n : Int} : icmp n 0 = 0 ↔ n = 0 := by unfold icmp; split <;> (try split) <;> omega
theorem p_r5Meet_cross {a1 a2 b1 b2 c1 c2 d1 d2 : Int} (ha : rB5 a1 a2 = true) (hb : rB5 b1 b2 = true) (hc : rB5 c1 c2 = true) (hd : rB5 d1 d2 = true) (hw : wD a1 a2 b1 b2 c1 c2 d1 d2 ≠ 0) : PCall Try.prog 14 [vP a1 a2, vP b1 b2, vP c1 c2, vP d1 d2] (vMr (meetN a1 a2 b1 b2 c1 c2 d1 d2)) := by
  have R1 := p_r5Right ha
  have R2 := p_r5Right hb
  have R3 := p_r5Right hc
  have R4 := p_r5Right hd
  have L1 := p_r5line ha hb rfl rfl rfl
  have L2 := p_r5line hc hd rfl rfl rfl
  have ka := rB5_iff.1 ha
  have kb := rB5_iff.1 hb
  have kc := rB5_iff.1 hc
  have kd := rB5_iff.1 hd
  have np : NB 5 (b2 - a2) := NB.i64 (by omega) (by omega)
  have nq : NB 5 (a1 - b1) := NB.i64 (by omega) (by omega)
  have ns : NB 5 (d2 - c2) := NB.i64 (by omega) (by omega)
  have nt : NB 5 (c1 - d1) := NB.i64 (by omega) (by omega)
  have m1 : NB 5 a1 := NB.i64 (by omega) (by omega)
  have m2 : NB 5 a2 := NB.i64 (by omega) (by omega)
  have m3 : NB 5 c1 := NB.i64 (by omega) (by omega)
  have m4 : NB 5 c2 := NB.i64 (by omega) (by omega)
  have nr : NB 20 ((b2 - a2) * a1 + (a1 - b1) * a2) := ((np.mul m1).add (nq.mul m2)).up (by omega)
  have nu : NB 20 ((d2 - c2) * c1 + (c1 - d1) * c2) := ((ns.mul m3).add (nt.mul m4)).up (by omega)
  have sub : ∀ {k : Nat} {x y : Int}, NB k x → NB k y → NB (k + 1) (x - y) := fun h g => by have := h.add g.neg; rwa [← Int.sub_eq_add_neg] at this
  have nw : NB 20 (wD a1 a2 b1 b2 c1 c2 d1 d2) := (sub (np.mul nt) (nq.mul ns)).up (by omega)
  have nx : NB 60 (nX a1 a2 b1 b2 c1 c2 d1 d2) := (sub ((nr.mul nt).up (show 25 ≤ 30 by omega)) ((nq.mul nu).up (show 25 ≤ 30 by omega))).up (by omega)
  have ny : NB 60 (nY a1 a2 b1 b2 c1 c2 d1 d2) := (sub ((np.mul nu).up (show 25 ≤ 30 by omega)) ((nr.mul ns).up (show 25 ≤ 30 by omega))).up (by omega)
  have nn : ∀ {k : Nat} {x : Int} (d : Int), NB k x → NB k (nr1 x d) := fun d h => by unfold nr1; split; exact h.neg; exact h
  have nn2 : ∀ {k : Nat} {x : Int}, NB k x → NB k (nr2 x) := fun h => by unfold nr2; split; exact h.neg; exact h
  refine r5cross_core R1 R2 R3 R4 L1 L2 (p_r5num (by omega) (by omega)) (p_r5num (by omega) (by omega)) (p_r5num (by omega) (by omega)) (p_r5num (by omega) (by omega)) (p_r5num (by omega) (by omega))
    (p_r5det (np.up (by omega)) (nq.up (by omega)) (ns.up (by omega)) (nt.up (by omega))) (icmp (wD a1 a2 b1 b2 c1 c2 d1 d2) 0) (p_rCmp (nw.up (by omega)) (by unfold NB; exact pow10_pos _)) (fun h => hw (icmp_zero.1 h))
    (p_r5det (nr.up (by omega)) (nq.up (by omega)) (nu.up (by omega)) (nt.up (by omega))) (p_r5det (np.up (by omega)) (nr.up (by omega)) (ns.up (by omega)) (nu.up (by omega)))
    (p_r5over (nx.up (by omega)) (nw.up (by omega))) (p_r5over (ny.up (by omega)) (nw.up (by omega)))
    (p_r5bw ((nn _ nx).up (by omega)) ((nn2 nw).up (by omega)) ka.1.1 ka.1.2 kb.1.1 kb.1.2) (p_r5bw ((nn _ ny).up (by omega)) ((nn2 nw).up (by omega)) ka.2.1 ka.2.2 kb.2.1 kb.2.2)
    (p_r5bw ((nn _ nx).up (by omega)) ((nn2 nw).up (by omega)) kc.1.1 kc.1.2 kd.1.1 kd.1.2) (p_r5bw ((nn _ ny).up (by omega)) ((nn2 nw).up (by omega)) kc.2.1 kc.2.2 kd.2.1 kd.2.2) ?_
  unfold meetN meetW four
  refine ite_iff' ⟨fun h => ?_, fun h => ?_⟩
  · rw [Bool.and_eq_true, Bool.and_eq_true, Bool.and_eq_true] at h
    exact ⟨of_decide_eq_true h.1.1.1, of_decide_eq_true h.1.1.2, of_decide_eq_true h.1.2, of_decide_eq_true h.2⟩
  · rw [Bool.and_eq_true, Bool.and_eq_true, Bool.and_eq_true]
    exact ⟨⟨⟨decide_eq_true h.1, decide_eq_true h.2.1⟩, decide_eq_true h.2.2.1⟩, decide_eq_true h.2.2.2⟩
end Go.Proofs.Ytlhgmlebjnkonaa
