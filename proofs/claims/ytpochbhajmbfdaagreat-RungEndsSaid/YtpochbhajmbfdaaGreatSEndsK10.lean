/-
  My own texts, without what this claim does not need. My own text.
-/
import Derived.Deep.SlicePairs
import Derived.Carry
import Derived.Test.YtpochbhajmbfdaaGreatSEndsK9
set_option maxRecDepth 100000
set_option maxHeartbeats 64000000
set_option linter.unusedVariables false
set_option linter.unusedSimpArgs false
set_option linter.unusedSectionVars false
open Go.Proofs.Tryz renaming prog → ai
namespace Go.Proofs.YtpochbhajmbfdaaGreat
open Go.RowKit
theorem acN {V l : List an} {f t : Int} (ar : 0 ≤ f ∧ f ≤ V.length) (aD : 0 ≤ t ∧ t ≤ V.length) (pt : V.length ≤ 10000) (ao : l.length ≤ 10000) : aR ai 181 [hr V, aT f, aT t, hr l] (hr (V.take f.toNat ++ l ++ V.drop t.toNat)) := by
 have J := Ps (LL := [V.take f.toNat, l, V.drop t.toNat]) (by show 3 ≤ 1100; decide) (by simp [cS]; omega);have dp : [V.take f.toNat, l, V.drop t.toNat].flatten = V.take f.toNat ++ l ++ V.drop t.toNat := by simp
 rw [dp] at J
 replace J : aR ai 186 [cM 1 3 [.p (cB 2 (V.take f.toNat).length (b5 (V.take f.toNat))), .p (cB 2 l.length (b5 l)), .p (cB 2 (V.drop t.toNat).length (b5 (V.drop t.toNat)))]] (hr (V.take f.toNat ++ l ++ V.drop t.toNat)) := J
 have a1 : 0 ≤ f := ar.1;have a2 : f ≤ f := oM f;have a3 : f ≤ V.length := ar.2;have a4 : 0 ≤ t := aD.1;have a5 : t ≤ V.length := aD.2;have SG : (V.length : Int) ≤ V.length := oM _;have m1 : f.toNat - 0 = (V.take f.toNat).length := by rw [eh]; omega
 have aI : ((b5 V).drop (0 * 2)).take ((V.take f.toNat).length * 2) = b5 (V.take f.toNat) := by
  have h : b5 V = b5 (V.take f.toNat) ++ b5 (V.drop f.toNat) := by rw [← r3, kq]
  rw [h, Nat.zero_mul, List.drop_zero, ← nG, List.take_left]
 have m2 : (V.length : Int).toNat - t.toNat = (V.drop t.toNat).length := by rw [hZ]; omega
 have aO : ((b5 V).drop (t.toNat * 2)).take ((V.drop t.toNat).length * 2) = b5 (V.drop t.toNat) := by
  have h : b5 V = b5 (V.take t.toNat) ++ b5 (V.drop t.toNat) := by rw [← r3, kq]
  rw [h, show t.toNat * 2 = (b5 (V.take t.toNat)).length by rw [nG, eh]; omega, List.drop_left, Nr rfl]
 refine cc (f := 181) Tryz.func181 rfl rfl rfl rfl ?_;(repeat first | (with_reducible apply aA); exact rfl | (with_reducible apply db); (iterate 3 exact rfl) | (with_reducible apply Fj); (iterate 4 exact rfl); (assumption); (assumption); (assumption); (assumption); (assumption); exact rfl | (with_reducible apply Fk); (iterate 5 exact rfl); (assumption); (assumption); (assumption); (assumption); (assumption); (assumption); exact rfl | (with_reducible apply mH); (iterate 10 exact rfl) | refine eO rfl rfl rfl (by (exact J)) rfl ?_ | (with_reducible apply h6); kernel_rfl | (with_reducible apply h9); kernel_rfl; kernel_rfl; exact rfl | (with_reducible first | apply bN | apply bH | apply bL | apply aB | apply b6))
 ((refine bR rfl (bC rfl bf) ?_))
 exact aj.bp.refl _
theorem acM {V l : List Int} {f t : Int} (ar : 0 ≤ f ∧ f ≤ V.length) (aD : 0 ≤ t ∧ t ≤ V.length) (pt : V.length ≤ 10000) (ao : l.length ≤ 10000) : aR ai 182 [nT V, aT f, aT t, nT l] (nT (V.take f.toNat ++ l ++ V.drop t.toNat)) := by
 have J := Pr (LL := [V.take f.toNat, l, V.drop t.toNat]) (by show 3 ≤ 1100; decide) (by simp [cS]; omega);have dp : [V.take f.toNat, l, V.drop t.toNat].flatten = V.take f.toNat ++ l ++ V.drop t.toNat := by simp
 rw [dp] at J
 replace J : aR ai 187 [cM 1 3 [.p (cB 1 (V.take f.toNat).length (cF (V.take f.toNat))), .p (cB 1 l.length (cF l)), .p (cB 1 (V.drop t.toNat).length (cF (V.drop t.toNat)))]] (nT (V.take f.toNat ++ l ++ V.drop t.toNat)) := J
 have a1 : 0 ≤ f := ar.1;have a2 : f ≤ f := oM f;have a3 : f ≤ V.length := ar.2;have a4 : 0 ≤ t := aD.1;have a5 : t ≤ V.length := aD.2;have SG : (V.length : Int) ≤ V.length := oM _;have m1 : f.toNat - 0 = (V.take f.toNat).length := by rw [eh]; omega
 have aI : ((cF V).drop (0 * 1)).take ((V.take f.toNat).length * 1) = cF (V.take f.toNat) := by
  have h : cF V = cF (V.take f.toNat) ++ cF (V.drop f.toNat) := by rw [← CZ, kq]
  rw [h, Nat.zero_mul, List.drop_zero, ← C1, List.take_left]
 have m2 : (V.length : Int).toNat - t.toNat = (V.drop t.toNat).length := by rw [hZ]; omega
 have aO : ((cF V).drop (t.toNat * 1)).take ((V.drop t.toNat).length * 1) = cF (V.drop t.toNat) := by
  have h : cF V = cF (V.take t.toNat) ++ cF (V.drop t.toNat) := by rw [← CZ, kq]
  rw [h, show t.toNat * 1 = (cF (V.take t.toNat)).length by rw [C1, eh]; omega, List.drop_left, Nb rfl]
 refine cc (f := 182) Tryz.func182 rfl rfl rfl rfl ?_;(repeat first | (with_reducible apply aA); exact rfl | (with_reducible apply db); (iterate 3 exact rfl) | (with_reducible apply Fj); (iterate 4 exact rfl); (assumption); (assumption); (assumption); (assumption); (assumption); exact rfl | (with_reducible apply Fk); (iterate 5 exact rfl); (assumption); (assumption); (assumption); (assumption); (assumption); (assumption); exact rfl | (with_reducible apply mH); (iterate 10 exact rfl) | refine eO rfl rfl rfl (by (exact J)) rfl ?_ | (with_reducible apply h6); kernel_rfl | (with_reducible apply h9); kernel_rfl; kernel_rfl; exact rfl | (with_reducible first | apply bN | apply bH | apply bL | apply aB | apply b6))
 ((refine bR rfl (bC rfl bf) ?_))
 exact aj.bp.refl _
theorem Zl : Ru := by
 intro V D ab hd;have A9 := Ps (LL := [V]) (by show 1 ≤ 1100; decide) (by simp; omega);have Ba := Pr (LL := [D]) (by show 1 ≤ 1100; decide) (by simp; omega);rw [show [V].flatten = V by simp] at A9;rw [show [D].flatten = D by simp] at Ba
 replace A9 : aR ai 186 [cM 1 1 [.p (cB 2 V.length (b5 V))]] (hr V) := A9
 replace Ba : aR ai 187 [cM 1 1 [.p (cB 1 D.length (cF D))]] (nT D) := Ba
 refine cc (f := 133) Tryz.func133 rfl rfl rfl rfl ?_;(repeat first | (with_reducible apply aA); exact rfl | (with_reducible apply mH); (iterate 10 exact rfl) | refine eO rfl rfl rfl (by (first | exact A9 | exact Ba)) rfl ?_ | (with_reducible apply h6); kernel_rfl | (with_reducible apply h9); kernel_rfl; kernel_rfl; exact rfl | (with_reducible first | apply bN | apply bH | apply bL | apply aB | apply b6))
 ((refine bR rfl (e0 rfl rfl rfl bf) ?_))
 exact aj.bp.refl _
theorem afi {xs aU : List bI} (ao : xs.length = aU.length) (h : ∀ (i : Nat) x y, xs[i]? = some x → aU[i]? = some y → aj.bp (.w x) (.w y)) : aj.bp (.cZ xs) (.cZ aU) := fun U ad W v hv => by
 obtain ⟨vs, e, aE, a6⟩ := hv
 exact ⟨vs, e, by rw [← ao]; exact aE, fun i y u ah hu => by
  have hi : i < xs.length := by rw [ao]; exact (bX.1 ah).1
  exact h i _ y (cp hi) ah U ad W u (a6 i _ u (cp hi) hu)⟩
theorem V3 : aj.bp (.cZ [.agg [.c (.slice none 0 0), .c (.slice none 0 0)], .one (.c (.bool false))]) (.cZ [.agg (vj [] []), .one (.c (.bool false))]) := afi rfl fun i x y aa ah => by
 match i with
 | 0 => cases aa; cases ah; exact Ul
 | 1 => cases aa; cases ah; exact aj.bp.refl _
 | i + 2 => simp at aa
theorem aeX {V l : List an} {D : List Int} {j : Nat} (ab : V.length ≤ 1100) (hd : D.length ≤ 1100) (ae : j ≤ 1100)
  (cs : (j : Int) ≥ D.length ∨ (¬ (j : Int) ≥ D.length ∧ (j : Int) ≥ (V.length : Int) - 1) ∨ (¬ (j : Int) ≥ D.length ∧ ¬ (j : Int) ≥ (V.length : Int) - 1 ∧ (l.length : Int) = 0)) : aR ai 125 [nS V D, aT j, hr l] (.cZ [.agg (vj [] []), .one (.c (.bool false))]) := by
 have cY : ¬ (j : Int) < 0 := by omega
 generalize (j : Int) = fu at *;rcases cs with q1 | ⟨q1, q2⟩ | ⟨q1, q2, cg⟩
 all_goals
  refine cc (f := 125) Tryz.func125 rfl rfl rfl rfl ?_;(repeat first | (with_reducible apply aA); exact rfl | (with_reducible apply n2); (iterate 3 exact rfl); (exact cX (by omega)); exact rfl | (with_reducible apply db); (iterate 3 exact rfl) | (with_reducible apply dv (c := true)); exact rfl; exact rfl; (exact bG (by omega)) | (with_reducible apply dv (c := false)); exact rfl; exact rfl; (exact b3 (by omega)) | (with_reducible first | apply bN | apply bH | apply bL | apply aB | apply b6 | apply fC) | (with_reducible apply h8); exact rfl | (with_reducible apply gf); exact rfl; (exact bG (by omega)))
  ((refine bR rfl (e0 rfl rfl rfl (bC rfl bf)) ?_))
  exact V3
theorem aeY {V l : List an} {D : List Int} {j : Nat} {fu n8 : Int} (qt : fu = j) (qq : D[j]? = some n8) (Mm : 1 ≤ n8 ∧ n8 ≤ 1048576) (ao : 0 < l.length) (kf : V.length = D.length + 1) (ab : V.length ≤ 1100) (oc : l.length ≤ 1100) : aR ai 125 [nS V D, aT fu, hr l] (.cZ [.agg (vj (Eo V j l) (Ao D j l.length)), .one (.c (.bool true))]) := by
 have CE : j < D.length := (bX.1 qq).1;have cY : ¬ fu < 0 := by omega
 have q1 : ¬ fu ≥ D.length := by omega
 have q2 : ¬ fu ≥ (V.length : Int) - 1 := by omega
 have cg : ¬ (l.length : Int) = 0 := by omega
 have ep : fu < (D.length : Int) := by omega
 have iU := C0 qt qq;have kB := ace (d := n8 + 1) (m := l.length + 1) (by omega) (by omega);have iB := acN (V := V) (l := l) (f := fu + 1) (t := fu + 1) (by omega) (by omega) (by omega) (by omega);have Bf := acM (V := D) (l := List.replicate (l.length + 1) (n8 + 1)) (f := fu) (t := fu + 1) (by omega) (by omega) (by omega) (by rw [List.length_replicate]; omega);have aI : (fu + 1).toNat = j + 1 := by omega
 have aO : fu.toNat = j := by omega
 have cD : D.getD j 0 = n8 := by simp [List.getD, qq]
 have eD : D.take j ++ List.replicate (l.length + 1) (n8 + 1) ++ D.drop (j + 1) = Ao D j l.length := by unfold Ao; rw [cD]
 have k9 : V.take (j + 1) ++ l ++ V.drop (j + 1) = Eo V j l := rfl;rw [aI, k9] at iB;rw [aI, aO, eD] at Bf;have rE : (((l.length + 1 : Nat) : Int)) = (l.length : Int) + 1 := by omega
 rw [rE] at kB;clear aI aO cD eD k9 rE;generalize Eo V j l = JT at *;generalize Ao D j l.length = vN at *;generalize List.replicate (l.length + 1) (n8 + 1) = T at *;refine cc (f := 125) Tryz.func125 rfl rfl rfl rfl ?_;(repeat first | (with_reducible apply aA); exact rfl | (with_reducible apply l7); (iterate 5 exact rfl) | (with_reducible apply fB); (iterate 3 exact rfl); (omega); (omega); (assumption); exact rfl | (with_reducible apply fe); (iterate 3 exact rfl); (exact cX (by omega)); exact rfl | (with_reducible apply n2); (iterate 3 exact rfl); (exact cX (by omega)); exact rfl | (with_reducible apply db); (iterate 3 exact rfl) | (with_reducible apply mH); (iterate 10 exact rfl) | refine dI rfl rfl rfl rfl (by (exact kB)) rfl ?_ | refine nl rfl rfl rfl rfl rfl rfl (by (first | exact iB | exact Bf)) rfl ?_ | (with_reducible apply dv (c := false)); exact rfl; exact rfl; (exact b3 (by omega)) | (with_reducible apply h6); kernel_rfl | (with_reducible apply h9); kernel_rfl; kernel_rfl; exact rfl | (with_reducible first | apply bN | apply bH | apply bL | apply aB | apply b6 | apply eR) | (with_reducible apply hz); exact rfl; (exact b3 (by omega)))
 ((refine bR rfl (e0 rfl rfl rfl (bC rfl bf)) ?_))
 exact aj.bp.refl _
theorem Zv : RD := by
 intro V D j l pt ab oc ae uT;cases ao : l with
 | nil => exact aeX (V := V) (D := D) (l := []) (j := j) (by omega) (by omega) (by omega) (.inr (.inr ⟨by omega, by omega, rfl⟩))
 | cons p m =>
  rw [← ao];have e : l.isEmpty = false := by rw [ao]; rfl
  rw [e];have GR : 0 < l.length := by rw [ao]; exact jd _
  obtain ⟨n8, qq⟩ : ∃ n8, D[j]? = some n8 := ⟨_, cp ae⟩;exact aeY (V := V) (l := l) (D := D) (j := j) rfl qq (uT n8 (dG qq)) GR pt ab oc
theorem Um (V : List an) : aj.bp (.w (.agg [.p (cB 2 V.length (b5 V)), .c (.slice none 0 0)])) (nS V []) := Ka rfl fun j x y aa ah => by
 match j with
 | 0 => cases aa; cases ah; exact .inl rfl
 | 1 => cases aa; cases ah; exact .inr ⟨rfl, 1, rfl⟩
 | j + 2 => simp at aa
theorem Zq : Ry := by
 intro x y z w;cases al : dP x y z w with
 | true =>
  obtain ⟨rfl, rfl⟩ := rG.1 al;rw [show vp (x, y) (x, y) = [(x, y)] from if_pos rfl, show vo (x, y) (x, y) = [] from if_pos rfl];refine cc (f := 42) Tryz.func42 rfl rfl rfl rfl ?_;(repeat first | (with_reducible apply aA); exact rfl | (with_reducible apply v7); (iterate 4 exact rfl) | (with_reducible apply mH); (iterate 10 exact rfl) | (with_reducible first | apply bN | apply bH | apply bL | apply aB | apply b6 | apply fC) | (with_reducible apply gf); exact rfl; (assumption))
  ((refine bR rfl (e0 rfl rfl rfl bf) ?_))
  exact Um [(x, y)]
 | false =>
  have aE : ¬ ((x, y) : an) = (z, w) := fun e => by
   have := rG.2 (⟨congrArg Prod.fst e, congrArg Prod.snd e⟩ : x = z ∧ y = w);rw [al] at this; cases this
  rw [show vp (x, y) (z, w) = [(x, y), (z, w)] from if_neg aE, show vo (x, y) (z, w) = [1] from if_neg aE];refine cc (f := 42) Tryz.func42 rfl rfl rfl rfl ?_;(repeat first | (with_reducible apply aA); exact rfl | (with_reducible apply v7); (iterate 4 exact rfl) | (with_reducible apply mH); (iterate 10 exact rfl) | (with_reducible first | apply bN | apply bH | apply bL | apply aB | apply b6 | apply eR) | (with_reducible apply hz); exact rfl; (assumption))
  ((refine bR rfl (e0 rfl rfl rfl bf) ?_))
  exact aj.bp.refl _
def RK (V : List an) (D : List Int) (n : Nat) (aS : List (Nat × aj)) (bF : List (Nat × List AC)) : Prop :=
 ∃ (k : Nat) (fg d : Int), k ≤ D.length ∧ n = D.length - k ∧ fg = k ∧ d = pi (D.take k) ∧ bF = [(1, vj V D)] ∧ aS = [(1, Q0 1), (3, aT d), (7, cM 1 D.length (cF D)), (8, aT D.length), (9, aT fg)]
theorem Vb {D : List Int} {k : Nat} {d : Int} (h : D[k]? = some d) : pi (D.take (k + 1)) = max (pi (D.take k)) d := by
 have af := (bX.1 h).1
 have e : D.take (k + 1) = D.take k ++ [d] := by
  rw [oO af, (bX.1 h).2]
 unfold pi;rw [e, List.foldl_append]; rfl
theorem Zm : Rv := by
 intro V D ab hd;refine cc (f := 69) Tryz.func69 rfl rfl rfl rfl ?_;(repeat first | (with_reducible apply aA); exact rfl | (with_reducible apply db); (iterate 3 exact rfl) | (with_reducible first | apply bN | apply bH | apply bL | apply aB | apply gp));refine wg 18 (RK V D) D.length _ [(1, vj V D)] ⟨0, 0, 0, eF _, rfl, rfl, rfl, rfl, rfl⟩ rfl ⟨rfl, rfl, rfl, rfl, rfl, trivial⟩ ⟨rfl, trivial⟩ rfl ?_;rintro n aS bF ⟨k, fg, d, af, rfl, km, lL, rfl, rfl⟩ ee;clear ee
 by_cases al : k < D.length
 ·have q2 : fg < (D.length : Int) := by omega
  have cg : 0 ≤ fg := by omega
  obtain ⟨e, g1⟩ : ∃ e, D[k]? = some e := ⟨_, cp al⟩;have iU := C0 km g1;have aD := Vb g1;rw [← lL, show max d e = if e > d then e else d by split <;> omega] at aD;(repeat first | (with_reducible apply aA); exact rfl | (with_reducible apply l7); (iterate 5 exact rfl) | (with_reducible apply fB); (iterate 3 exact rfl); (omega); (omega); (assumption); exact rfl | (with_reducible apply fe); (iterate 3 exact rfl); (exact cX (by omega)); exact rfl | (with_reducible apply sR); (iterate 4 exact rfl) | (with_reducible first | apply bN | apply bH | apply bL | apply aB | apply eR | apply gp | apply mG) | (with_reducible apply gf); exact rfl; (exact bG (by omega)));exact ⟨D.length - (k + 1), _, [(1, vj V D)], by omega, ⟨k + 1, fg + 1, _, by omega, rfl, by omega, aD.symm, rfl, rfl⟩, rfl, ⟨rfl, rfl, rfl, rfl, rfl, trivial⟩, ⟨rfl, trivial⟩, rfl⟩
 ·have q2 : ¬ fg < (D.length : Int) := by omega
  have dp : D.take k = D := h0 (by omega);rw [dp] at lL;rw [← lL];(repeat first | (with_reducible apply aA); exact rfl | (with_reducible first | apply bN | apply bH | apply bL | apply aB | apply b6 | apply uC | apply uG | apply uF) | (with_reducible apply hz); exact rfl; (exact b3 (by omega)))
  ((refine bR rfl (bC rfl bf) ?_))
  exact aj.bp.refl _
theorem QN {α : Type} {D E : List α} {k : Nat} {d e : α} (h : D.take k = E.take k) (g1 : D[k]? = some d) (g2 : E[k]? = some e) : (d = e → D.take (k + 1) = E.take (k + 1)) ∧ (d ≠ e → D ≠ E) := by
 refine ⟨fun hd => ?_, fun hd kf => hd ?_⟩
 ·rw [oO (bX.1 g1).1, oO (bX.1 g2).1, (bX.1 g1).2, (bX.1 g2).2, h, hd]
 ·rw [kf, g2] at g1; exact (ms g1).symm
def RM (D E : List Int) (n : Nat) (aS : List (Nat × aj)) (bF : List (Nat × List AC)) : Prop :=
 ∃ (k : Nat) (fg : Int), k ≤ D.length ∧ n = D.length - k ∧ fg = k ∧ D.take k = E.take k ∧ bF = [] ∧ aS = [(0, nT D), (1, nT E), (12, aT D.length), (13, aT fg)]
theorem ab0 {D E : List Int} (hd : D.length ≤ 1000000) : aR ai 98 [nT D, nT E] (bE (decide (D = E))) := by
 by_cases ao : (D.length : Int) = E.length
 ·have X1 : D.length = E.length := by omega
  refine cc (f := 98) Tryz.func98 rfl rfl rfl rfl ?_;(repeat first | (with_reducible apply aA); exact rfl | (with_reducible apply db); (iterate 3 exact rfl) | (with_reducible first | apply bN | apply bH | apply bL | apply aB | apply eR | apply gp) | (with_reducible apply hz); exact rfl; ((simp only [iF]; (omega))));refine wg 26 (RM D E) D.length _ [] ⟨0, 0, eF _, rfl, rfl, rfl, rfl, rfl⟩ rfl ⟨rfl, rfl, rfl, rfl, trivial⟩ trivial rfl ?_;rintro n aS bF ⟨k, fg, af, rfl, km, lL, rfl, rfl⟩ ee;clear ee
  by_cases al : k < D.length
  ·have q2 : fg < (D.length : Int) := by omega
   have cg : 0 ≤ fg := by omega
   have ep : fg < (E.length : Int) := by omega
   obtain ⟨d, g1⟩ : ∃ d, D[k]? = some d := ⟨_, cp al⟩;obtain ⟨e, g2⟩ : ∃ e, E[k]? = some e := ⟨_, cp (by omega)⟩;have iU := C0 km g1;have p7 := C0 km g2;have st := QN lL g1 g2
   by_cases he : d = e
   ·have aD := st.1 he;(repeat first | (with_reducible apply aA); exact rfl | (with_reducible apply l7); (iterate 5 exact rfl) | (with_reducible apply fB); (iterate 3 exact rfl); (omega); (omega); (assumption); exact rfl | (with_reducible apply fe); (iterate 3 exact rfl); (exact cX (by omega)); exact rfl | (with_reducible apply h6); kernel_rfl | (with_reducible apply h9); kernel_rfl; kernel_rfl; exact rfl | (with_reducible first | apply bN | apply bH | apply bL | apply aB | apply eR | apply gp | apply mG) | (with_reducible apply gf); exact rfl; (exact bG (by omega)) | (with_reducible apply hz); exact rfl; ((simp only [iF]; (omega))));exact ⟨D.length - (k + 1), _, [], by omega, ⟨k + 1, fg + 1, by omega, rfl, by omega, aD, rfl, rfl⟩, rfl, ⟨rfl, rfl, rfl, rfl, trivial⟩, trivial, rfl⟩
   ·rw [b3 (st.2 he)];(repeat first | (with_reducible apply aA); exact rfl | (with_reducible apply l7); (iterate 5 exact rfl) | (with_reducible apply fB); (iterate 3 exact rfl); (omega); (omega); (assumption); exact rfl | (with_reducible apply h6); kernel_rfl | (with_reducible apply h9); kernel_rfl; kernel_rfl; exact rfl | (with_reducible first | apply bN | apply bH | apply bL | apply aB | apply b6 | apply eR | apply fC | apply gp | apply l6) | (with_reducible apply gf); exact rfl; (first | exact bG (by omega) | (simp only [iF]; (omega))))
    ((refine bR rfl (bC rfl bf) ?_))
    exact aj.bp.refl _
  ·have q2 : ¬ fg < (D.length : Int) := by omega
   rw [h0 (by omega), h0 (by omega)] at lL;rw [bG lL];(repeat first | (with_reducible apply aA); exact rfl | (with_reducible first | apply bN | apply bH | apply bL | apply aB | apply b6 | apply uC | apply uG | apply uF) | (with_reducible apply hz); exact rfl; (exact b3 (by omega)))
   ((refine bR rfl (bC rfl bf) ?_))
   exact aj.bp.refl _
 ·rw [b3 (show ¬ D = E from fun e => ao (by rw [e]))];refine cc (f := 98) Tryz.func98 rfl rfl rfl rfl ?_;(repeat first | (with_reducible apply aA); exact rfl | (with_reducible apply db); (iterate 3 exact rfl) | (with_reducible first | apply bN | apply bH | apply bL | apply aB | apply b6 | apply fC) | (with_reducible apply gf); exact rfl; ((simp only [iF]; (omega))))
  ((refine bR rfl (bC rfl bf) ?_))
  exact aj.bp.refl _
def RN (D E : List an) (n : Nat) (aS : List (Nat × aj)) (bF : List (Nat × List AC)) : Prop :=
 ∃ (k : Nat) (fg : Int), k ≤ D.length ∧ n = D.length - k ∧ fg = k ∧ D.take k = E.take k ∧ bF = [] ∧ aS = [(0, hr D), (1, hr E), (12, aT D.length), (13, aT fg)]
theorem Ii {D E : List an} (hd : D.length ≤ 1000000) : aR ai 84 [hr D, hr E] (bE (decide (D = E))) := by
 by_cases ao : (D.length : Int) = E.length
 ·have X1 : D.length = E.length := by omega
  refine cc (f := 84) Tryz.func84 rfl rfl rfl rfl ?_;(repeat first | (with_reducible apply aA); exact rfl | (with_reducible apply db); (iterate 3 exact rfl) | (with_reducible first | apply bN | apply bH | apply bL | apply aB | apply eR | apply gp) | (with_reducible apply hz); exact rfl; ((simp only [iF]; (omega))));refine wg 26 (RN D E) D.length _ [] ⟨0, 0, eF _, rfl, rfl, rfl, rfl, rfl⟩ rfl ⟨rfl, rfl, rfl, rfl, trivial⟩ trivial rfl ?_;rintro n aS bF ⟨k, fg, af, rfl, km, lL, rfl, rfl⟩ ee;clear ee
  by_cases al : k < D.length
  ·have q2 : fg < (D.length : Int) := by omega
   have cg : 0 ≤ fg := by omega
   have ep : fg < (E.length : Int) := by omega
   obtain ⟨x, y, g1⟩ : ∃ x y, D[k]? = some (x, y) := ⟨_, _, cp al⟩;obtain ⟨z, w, g2⟩ : ∃ z w, E[k]? = some (z, w) := ⟨_, _, cp (by omega)⟩;have iU := vg km g1;have p7 := vg km g2;have st := QN lL g1 g2;cases he : dP x y z w with
   | true =>
    have aD := st.1 (by obtain ⟨rfl, rfl⟩ := rG.1 he; rfl);(repeat first | (with_reducible apply aA); exact rfl | (with_reducible apply ha); (iterate 5 exact rfl) | (with_reducible apply fB); (iterate 3 exact rfl); (omega); (omega); (assumption); exact rfl | (with_reducible apply ya); (iterate 4 exact rfl) | (with_reducible apply fe); (iterate 3 exact rfl); (exact cX (by omega)); exact rfl | (with_reducible apply h6); kernel_rfl | (with_reducible apply h9); kernel_rfl; kernel_rfl; exact rfl | (with_reducible first | apply bN | apply bH | apply bL | apply aB | apply eR | apply gp | apply mG) | (with_reducible apply gf); exact rfl; (exact bG (by omega)) | (with_reducible apply hz); exact rfl; ((simp only [iF]; (omega))));exact ⟨D.length - (k + 1), _, [], by omega, ⟨k + 1, fg + 1, by omega, rfl, by omega, aD, rfl, rfl⟩, rfl, ⟨rfl, rfl, rfl, rfl, trivial⟩, trivial, rfl⟩
   | false =>
    rw [b3 (st.2 fun e => by
     have := rG.2 (⟨congrArg Prod.fst e, congrArg Prod.snd e⟩ : x = z ∧ y = w);rw [he] at this; cases this)]
    (repeat first | (with_reducible apply aA); exact rfl | (with_reducible apply ha); (iterate 5 exact rfl) | (with_reducible apply fB); (iterate 3 exact rfl); (omega); (omega); (assumption); exact rfl | (with_reducible apply ya); (iterate 4 exact rfl) | (with_reducible apply h6); kernel_rfl | (with_reducible apply h9); kernel_rfl; kernel_rfl; exact rfl | (with_reducible first | apply bN | apply bH | apply bL | apply aB | apply b6 | apply eR | apply fC | apply gp | apply l6) | (with_reducible apply gf); exact rfl; (first | exact bG (by omega) | (simp only [iF]; (omega))))
    ((refine bR rfl (bC rfl bf) ?_))
    exact aj.bp.refl _
  ·have q2 : ¬ fg < (D.length : Int) := by omega
   rw [h0 (by omega), h0 (by omega)] at lL;rw [bG lL];(repeat first | (with_reducible apply aA); exact rfl | (with_reducible first | apply bN | apply bH | apply bL | apply aB | apply b6 | apply uC | apply uG | apply uF) | (with_reducible apply hz); exact rfl; (exact b3 (by omega)))
   ((refine bR rfl (bC rfl bf) ?_))
   exact aj.bp.refl _
 ·rw [b3 (show ¬ D = E from fun e => ao (by rw [e]))];refine cc (f := 84) Tryz.func84 rfl rfl rfl rfl ?_;(repeat first | (with_reducible apply aA); exact rfl | (with_reducible apply db); (iterate 3 exact rfl) | (with_reducible first | apply bN | apply bH | apply bL | apply aB | apply b6 | apply fC) | (with_reducible apply gf); exact rfl; ((simp only [iF]; (omega))))
  ((refine bR rfl (bC rfl bf) ?_))
  exact aj.bp.refl _
theorem Zu : RC := by
 intro V W D E h1 h2 ap aL;have aM := Ii (D := V) (E := W) (by omega);have bU := ab0 (D := D) (E := E) (by omega);generalize decide (V = W) = p1 at *;generalize decide (D = E) = p2 at *;cases p1 with
 | false =>
  refine cc (f := 50) Tryz.func50 rfl rfl rfl rfl ?_;(repeat first | (with_reducible apply aA); exact rfl | refine dI rfl rfl rfl rfl (by (exact aM)) rfl ?_ | (with_reducible first | apply bN | apply bH | apply bL | apply aB | apply b6))
  ((refine bR rfl (bC rfl bf) ?_))
  exact aj.bp.refl _
 | true =>
  refine cc (f := 50) Tryz.func50 rfl rfl rfl rfl ?_;(repeat first | (with_reducible apply aA); exact rfl | refine dI rfl rfl rfl rfl (by (first | exact aM | exact bU)) rfl ?_ | (with_reducible first | apply bN | apply bH | apply bL | apply aB | apply b6))
  ((refine bR rfl (bC rfl bf) ?_))
  exact aj.bp.refl _
def qc (r : Int) (L : List an) (x y : Int) : List an := if 0 ≤ kR L x y then L else if r ≤ (L.length : Int) then L else L ++ [(x, y)]
def ni (r : Int) (L : List an) (x y : Int) : Bool := if 0 ≤ kR L x y then false else if r ≤ (L.length : Int) then false else true
def nj (r : Int) (L : List an) (x y : Int) : Int := if 0 ≤ kR L x y then 0 else if r ≤ (L.length : Int) then 90 else 0
theorem tM {L : List an} {x y : Int} : 0 ≤ kR L x y ↔ (x, y) ∈ L := by
 unfold kR;cases h : L.findIdx? fun e => decide (e.1 = x) && decide (e.2 = y) with
 | none =>
  rw [List.findIdx?_eq_none_iff] at h;refine ⟨fun aF => absurd aF (by decide), fun aF => ?_⟩;have := h _ aF;simp at this
 | some k =>
  obtain ⟨af, h1, _⟩ := List.findIdx?_eq_some_iff_getElem.1 h;simp only [dS, cE] at h1;refine ⟨fun _ => ?_, fun _ => Int.natCast_nonneg k⟩;have : L[k] = (x, y) := Prod.ext h1.1 h1.2;rw [← this]; exact List.getElem_mem af
abbrev Bj := Int → List an → Value → e2 → Prop
def Rz (uz : Bj) : Prop := ∀ n : Int, E8 ai 54 [aT n] fun p S => ∃ b, p = dR b ∧ uz (lv n) [] p S
def Rt (uz : Bj) : Prop := ∀ (r : Int) L b S (x y : Int), uz r L (dR b) S → L.length ≤ 1100 → x1 ai 154 [aQ (dR b), bh x y] (dR b) S fun v da => v = .cZ [.one (.c (.bool (ni r L x y))), .one (.c (.int .i64 (nj r L x y)))] ∧ uz r (qc r L x y) (dR b) da
def RB (uz : Bj) : Prop := ∀ (r : Int) L b S, uz r L (dR b) S → L.length ≤ 1100 → x1 ai 56 [aQ (dR b)] (dR b) S fun v da => v = aT r ∧ uz r L (dR b) da
end Go.Proofs.YtpochbhajmbfdaaGreat
namespace Go.Proofs.YtpochbhajmbfdaaGreat
def e6 (l : List di) (x y : Int) : Nat := (tV l x y).length
theorem PE (l : List di) (x y : Int) : e6 l x y ≤ l.length := adh l x y
theorem xo : ∀ {l : List di} (h : jQ l) (x y : Int) (k : Nat) (e : di), l[k]? = some e → (k < e6 l x y ↔ lS e.1 e.2.1 x y = true)
 | [], _, _, _, k, e, af => by simp at af
 | f :: l, h, x, y, k, e, af => by
  have ak := iR.1 h
  by_cases ar : lS f.1 f.2.1 x y = true
  ·have hp : e6 (f :: l) x y = e6 l x y + 1 := by
    unfold e6 tV;rw [List.filter_cons, if_pos ar]; rfl
   rw [hp];cases k with
   | zero => simp at af; subst af; simp [ar]
   | succ k =>
    have := xo ak.2 x y k e (by simpa using af);rw [← this]; omega
  ·have dc : ∀ g ∈ f :: l, ¬ lS g.1 g.2.1 x y = true := by
    intro g aw;rcases gM.1 aw with rfl | aw
    ·exact ar
    ·have h1 := ak.1 g aw;rw [oF] at h1 ar ⊢;omega
   have hp : e6 (f :: l) x y = 0 := by
    unfold e6 tV;rw [List.filter_eq_nil_iff.2 dc]; rfl
   rw [hp];have := dc e (dG af);simp [this]
theorem I4 {l : List di} (h : jQ l) {x y : Int} : ∀ e ∈ l.take (e6 l x y), lS e.1 e.2.1 x y = true := by
 intro e he;obtain ⟨k, af⟩ := jZ he;have bj := (bX.1 af).1;rw [eh] at bj;rw [fN (by omega)] at af;exact (xo h x y k e af).1 (by omega)
theorem Le {l : List di} (h : jQ l) {x y : Int} : ∀ e ∈ l.drop (e6 l x y), ¬ lS e.1 e.2.1 x y = true := by
 intro e he;obtain ⟨k, af⟩ := jZ he;rw [gl] at af;intro bj;have := (xo h x y _ e af).2 bj;omega
theorem PS {l : List di} (h : jQ l) {x y : Int} : tV l x y = l.take (e6 l x y) := by
 conv => lhs; rw [← kq (e6 l x y) l]
 unfold tV;rw [List.filter_append, List.filter_eq_self.2 (I4 h), List.filter_eq_nil_iff.2 (Le h), pJ]
theorem Cs {l : List di} (h : jQ l) {x y : Int} : hf l x y = true ↔ ∃ u, l[e6 l x y]? = some (x, y, u) := by
 constructor
 ·intro a6;unfold hf at a6;rw [List.any_eq_true] at a6;obtain ⟨e, he, al⟩ := a6;simp only [dS, cE] at al;obtain ⟨k, af⟩ := jZ he;have h1 := xo h x y k e af;have h2 : ¬ k < e6 l x y := by rw [h1, oF]; omega
  have GQ := (bX.1 af).1;have oj : e6 l x y < l.length := by omega
  have hp := cp oj;have ap := xo h x y _ _ hp
  by_cases bw : k = e6 l x y
  ·refine ⟨e.2.2, ?_⟩;rw [← bw, af];exact congrArg some (Prod.ext al.1 (Prod.ext al.2 rfl))
  ·exfalso;have aL := List.pairwise_iff_getElem.1 h (e6 l x y) k oj GQ (by omega);have hc : l[k] = e := (bX.1 af).2;rw [hc, oF] at aL;have dk : lS l[e6 l x y].1 l[e6 l x y].2.1 x y = true := by rw [oF]; omega
   have := ap.2 dk;omega
 ·rintro ⟨u, hu⟩;exact List.any_eq_true.2 ⟨_, dG hu, by simp⟩
theorem Vc {l : List di} (h : jQ l) {x y : Int} (aE : hf l x y = false) : ∀ e ∈ l.drop (e6 l x y), lS x y e.1 e.2.1 = true := by
 intro e he;have h1 := Le h e he
 have h2 : ¬ (e.1 = x ∧ e.2.1 = y) := by
  rintro ⟨ap, aL⟩;have : hf l x y = true := List.any_eq_true.2 ⟨_, mW he, by simp [ap, aL]⟩;rw [aE] at this; cases this
 rw [oF] at *;omega
theorem PT {l : List di} (h : jQ l) {x y v : Int} (aE : hf l x y = false) : sg l x y v = l.take (e6 l x y) ++ (x, y, v) :: l.drop (e6 l x y) := by
 unfold sg;rw [PS h];congr 2
 conv => lhs; rw [← kq (e6 l x y) l]
 unfold DT;rw [List.filter_append, List.filter_eq_self.2 (Vc h aE), List.filter_eq_nil_iff.2 fun e he => ?_, List.nil_append];have := I4 h e he;rw [oF] at *;omega
theorem adi {l : List di} (h : jQ l) {x y v u : Int} (hp : l[e6 l x y]? = some (x, y, u)) : sg l x y v = l.take (e6 l x y) ++ (x, y, v) :: l.drop (e6 l x y + 1) := by
 unfold sg;rw [PS h];congr 2;have ao := (bX.1 hp).1;have he := (bX.1 hp).2
 conv => lhs; rw [← kq (e6 l x y) l]
 unfold DT;rw [List.filter_append, List.filter_eq_nil_iff.2 (fun e he => by have := I4 h e he; rw [oF] at *; omega), List.nil_append, mV ao, he, List.filter_cons_of_neg (by rw [oF]; simp)];refine List.filter_eq_self.2 fun e hm => ?_;obtain ⟨k, af⟩ := jZ hm;rw [gl] at af;have GQ := (bX.1 af).1;have aL := List.pairwise_iff_getElem.1 h (e6 l x y) _ ao GQ (by omega);rw [he, (bX.1 af).2] at aL;exact aL
theorem afw {l : List di} (h : jQ l) {x y u : Int} (hp : l[e6 l x y]? = some (x, y, u)) : hf l x y = true ∧ nV l x y = u := Q1 h (dG hp)
abbrev ada (e : di) : an := (e.1, e.2.1)
def oD : Nat → List an → List di
 | _, [] => []
 | k, p :: l => (p.1, p.2, (k : Int)) :: oD (k + 1) l
theorem OP : ∀ (k : Nat) (l : List an) (p : an), oD k (l ++ [p]) = oD k l ++ [(p.1, p.2, ((k + l.length : Nat) : Int))]
 | k, [], p => by simp [oD]
 | k, q :: l, p => by
  simp only [List.cons_append, oD, OP (k + 1) l p, lr];rw [show k + 1 + l.length = k + (l.length + 1) by omega]
theorem OQ : ∀ (k : Nat) (l : List an), (oD k l).map ada = l
 | _, [] => rfl
 | k, p :: l => by simp only [oD, kU, OQ (k + 1) l]
theorem abp (k : Nat) (l : List an) : (oD k l).length = l.length := by
 have := congrArg List.length (OQ k l);rwa [mu] at this
theorem Ie : ∀ (k : Nat) (l : List an) (x y w : Int), (x, y, w) ∈ oD k l ↔ ∃ i : Nat, l[i]? = some (x, y) ∧ w = ((k + i : Nat) : Int)
 | k, [], x, y, w => by simp [oD]
 | k, p :: l, x, y, w => by
  rw [oD, gM, Ie (k + 1) l x y w]
  constructor
  ·rintro (h | ⟨i, h1, h2⟩)
   ·simp only [Prod.mk.injEq] at h;exact ⟨0, by rw [sj, h.1, h.2.1], by rw [h.2.2]; rfl⟩
   ·exact ⟨i + 1, by rw [xr]; exact h1, by rw [h2]; omega⟩
  ·rintro ⟨i, h1, h2⟩
   match i with
   | 0 => rw [sj] at h1; cases h1; exact .inl (by rw [h2]; rfl)
   | i + 1 => rw [xr] at h1; exact .inr ⟨i, h1, by rw [h2]; omega⟩
def nf (L : List an) (es : List di) : Prop := jQ es ∧ es.Perm (oD 0 L) ∧ L.Nodup
theorem nf.len {L : List an} {es : List di} (h : nf L es) : es.length = L.length := by rw [h.2.1.length_eq, abp]
theorem abq {L : List an} (aE : L.Nodup) {i : Nat} {x y : Int} (h : L[i]? = some (x, y)) : kR L x y = (i : Int) := by
 have aH : 0 ≤ kR L x y := tM.2 (dG h);unfold kR at aH ⊢;cases ar : L.findIdx? fun e => decide (e.1 = x) && decide (e.2 = y) with
 | none => rw [ar] at aH; exact absurd aH (by decide)
 | some k =>
  obtain ⟨af, h1, _⟩ := List.findIdx?_eq_some_iff_getElem.1 ar;simp only [dS, cE] at h1;have aI : L[k] = (x, y) := Prod.ext h1.1 h1.2;obtain ⟨hi, aO⟩ := bX.1 h;have := (List.getElem_inj (h₀ := af) (h₁ := hi) aE).1 (aI.trans aO.symm);rw [this]
theorem Xc {es : List di} {a b : Int} : hf es a b = true ↔ ∃ w, (a, b, w) ∈ es := by
 unfold hf;rw [List.any_eq_true]
 constructor
 ·rintro ⟨⟨p, q, w⟩, h1, h2⟩;simp only [dS, cE] at h2;exact ⟨w, by rw [← h2.1, ← h2.2]; exact h1⟩
 ·rintro ⟨w, h⟩;exact ⟨_, h, by simp⟩
theorem nf.num {L : List an} {es : List di} (h : nf L es) (x y : Int) : hf es x y = decide (0 ≤ kR L x y) ∧ (0 ≤ kR L x y → nV es x y = kR L x y) := by
 by_cases a6 : 0 ≤ kR L x y
 ·obtain ⟨i, hi⟩ := jZ (tM.1 a6);have hm : (x, y, ((0 + i : Nat) : Int)) ∈ es := h.2.1.mem_iff.2 ((Ie 0 L x y _).2 ⟨i, hi, rfl⟩);have h1 := Q1 h.1 hm;exact ⟨by rw [h1.1, bG a6], fun _ => by rw [h1.2, abq h.2.2 hi, jH]⟩
 ·refine ⟨?_, fun aF => absurd aF a6⟩;rw [b3 a6];cases he : hf es x y with
  | false => rfl
  | true =>
   obtain ⟨w, hw⟩ := Xc.1 he;obtain ⟨i, hi, _⟩ := (Ie 0 L x y w).1 (h.2.1.mem_iff.1 hw);exact absurd (tM.2 (dG hi)) a6
theorem nf.add {L : List an} {es : List di} (h : nf L es) {x y : Int} (aE : ¬ 0 ≤ kR L x y) : nf (L ++ [(x, y)]) (sg es x y L.length) := by
 have cq : hf es x y = false := by rw [(h.num x y).1]; exact b3 aE
 refine ⟨adj h.1 x y L.length, ?_, ?_⟩
 ·rw [PT h.1 cq, OP, jH];refine List.perm_middle.trans ?_;rw [kq];refine (h.2.1.cons _).trans ?_;exact (List.perm_append_singleton _ _).symm
 ·rw [List.nodup_append];refine ⟨h.2.2, by simp, fun a aK b ab e => ?_⟩;rw [lW] at ab;subst ab; subst e;exact aE (tM.2 aK)
theorem nf.nil : nf [] [] := ⟨.nil, .refl _, .nil⟩
theorem SP {r : Int} {L : List an} {x y : Int} (h : 0 ≤ kR L x y) : qc r L x y = L ∧ ni r L x y = false ∧ nj r L x y = 0 := by unfold qc ni nj; rw [if_pos h, if_pos h, if_pos h]; exact ⟨rfl, rfl, rfl⟩
theorem SO {r : Int} {L : List an} {x y : Int} (h : ¬ 0 ≤ kR L x y) (h2 : r ≤ (L.length : Int)) : qc r L x y = L ∧ ni r L x y = false ∧ nj r L x y = 90 := by unfold qc ni nj; rw [if_neg h, if_neg h, if_neg h, if_pos h2, if_pos h2, if_pos h2]; exact ⟨rfl, rfl, rfl⟩
theorem SQ {r : Int} {L : List an} {x y : Int} (h : ¬ 0 ≤ kR L x y) (h2 : ¬ r ≤ (L.length : Int)) : qc r L x y = L ++ [(x, y)] ∧ ni r L x y = true ∧ nj r L x y = 0 := by unfold qc ni nj; rw [if_neg h, if_neg h, if_neg h, if_neg h2, if_neg h2, if_neg h2]; exact ⟨rfl, rfl, rfl⟩
end Go.Proofs.YtpochbhajmbfdaaGreat
namespace Go.Proofs.YtpochbhajmbfdaaGreat
open Go.RowKit
abbrev gK (v : Value) (l : List di) : bP := ⟨261, 3, v, l.length, dY l⟩
end Go.Proofs.YtpochbhajmbfdaaGreat
namespace Go.Proofs.YtpochbhajmbfdaaGreat
theorem O6 {a1 a2 b1 b2 p1 p2 : Int} (h : cj a1 a2 b1 b2 p1 p2 = 0) : (b2 - a2) * a1 + (a1 - b1) * a2 = (b2 - a2) * p1 + (a1 - b1) * p2 := by unfold cj at h; grind
theorem O8 {a1 a2 b1 b2 c1 c2 d1 d2 p1 p2 : Int} (h : cj a1 a2 b1 b2 p1 p2 = 0) (k : cj c1 c2 d1 d2 p1 p2 = 0) :
  jB a1 a2 b1 b2 c1 c2 d1 d2 = p1 * cW a1 a2 b1 b2 c1 c2 d1 d2 ∧ jC a1 a2 b1 b2 c1 c2 d1 d2 = p2 * cW a1 a2 b1 b2 c1 c2 d1 d2 := by
 have e := O6 h;have f := O6 k;unfold jB jC cW;rw [e, f]
 constructor <;> grind
theorem DD (p w : Int) : jc (p * w) w = p * ih w := by
 unfold jc ih
 split
 ·rw [Int.mul_neg]
 ·rfl
theorem BD {p d a b : Int} (aH : gI a b ≤ p) (h1 : p ≤ gH a b) (hd : 0 < d) : kC (p * d) d a b :=
 ⟨pL aH (by omega), pL h1 (by omega)⟩
theorem LP {a1 a2 b1 b2 c1 c2 d1 d2 p1 p2 d : Int} (h : dj p1 p2 a1 a2 b1 b2) (k : dj p1 p2 c1 c2 d1 d2) (hd : 0 < d) : four a1 a2 b1 b2 c1 c2 d1 d2 (p1 * d) (p2 * d) d :=
 ⟨BD h.2.1 h.2.2.1 hd, BD h.2.2.2.1 h.2.2.2.2 hd, BD k.2.1 k.2.2.1 hd, BD k.2.2.2.1 k.2.2.2.2 hd⟩
theorem aaT {a1 a2 b1 b2 c1 c2 d1 d2 : Int} (h : cW a1 a2 b1 b2 c1 c2 d1 d2 = 0) :
  (hX a1 a2 b1 b2 c1 c2 d1 d2 = hG ∧ ∀ p1 p2, dj p1 p2 a1 a2 b1 b2 → ¬ dj p1 p2 c1 c2 d1 d2) ∨
  ∃ f1 f2 g1 g2, hX a1 a2 b1 b2 c1 c2 d1 d2 = vc f1 f2 g1 g2 ∧ dl f1 f2 g1 g2 ∧ dj f1 f2 a1 a2 b1 b2 ∧ dj f1 f2 c1 c2 d1 d2 ∧ dj g1 g2 a1 a2 b1 b2 ∧ dj g1 g2 c1 c2 d1 d2
   ∧ f1 = ek (eE a1 a2 b1 b2) (eg a1 a2 b1 b2) (eE c1 c2 d1 d2) (eg c1 c2 d1 d2) ∧ f2 = dQ (eE a1 a2 b1 b2) (eg a1 a2 b1 b2) (eE c1 c2 d1 d2) (eg c1 c2 d1 d2)
   ∧ g1 = eE (ek a1 a2 b1 b2) (dQ a1 a2 b1 b2) (ek c1 c2 d1 d2) (dQ c1 c2 d1 d2) ∧ g2 = eg (ek a1 a2 b1 b2) (dQ a1 a2 b1 b2) (ek c1 c2 d1 d2) (dQ c1 c2 d1 d2)
   ∧ ∀ p1 p2, dj p1 p2 a1 a2 b1 b2 → dj p1 p2 c1 c2 d1 d2 → dl f1 f2 p1 p2 ∧ dl p1 p2 g1 g2 := by
 have hs := w8 a1 a2 b1 b2;have aD := w8 c1 c2 d1 d2
 have hw : oH (eE a1 a2 b1 b2) (eg a1 a2 b1 b2) (ek a1 a2 b1 b2) (dQ a1 a2 b1 b2) (eE c1 c2 d1 d2) (eg c1 c2 d1 d2) (ek c1 c2 d1 d2) (dQ c1 c2 d1 d2) = 0 := by
  have h1 := ED a1 a2 b1 b2 c1 c2 d1 d2;have h2 := Ay a1 a2 b1 b2 c1 c2 d1 d2;have ap := Ay b1 b2 a1 a2 c1 c2 d1 d2;rw [← Q4];rcases mP a1 a2 b1 b2 with ⟨h1, h2, ap, aL, _⟩ | ⟨h1, h2, ap, aL, _⟩ <;> rcases mP c1 c2 d1 d2 with ⟨bB, cf, hE, jb, _⟩ | ⟨bB, cf, hE, jb, _⟩ <;> rw [h1, h2, ap, aL, bB, cf, hE, jb] <;> omega
 have xC : ∀ p1 p2, dj p1 p2 (eE a1 a2 b1 b2) (eg a1 a2 b1 b2) (ek a1 a2 b1 b2) (dQ a1 a2 b1 b2) ↔ dj p1 p2 a1 a2 b1 b2 := fun _ _ => zS;have tO9 : ∀ p1 p2, dj p1 p2 (eE c1 c2 d1 d2) (eg c1 c2 d1 d2) (ek c1 c2 d1 d2) (dQ c1 c2 d1 d2) ↔ dj p1 p2 c1 c2 d1 d2 := fun _ _ => zS;unfold hX;rw [if_pos h];unfold vd inl;generalize eE a1 a2 b1 b2 = s1 at *;generalize eg a1 a2 b1 b2 = s2 at *;generalize ek a1 a2 b1 b2 = bT at *;generalize dQ a1 a2 b1 b2 = bY at *;generalize eE c1 c2 d1 d2 = t1 at *;generalize eg c1 c2 d1 d2 = t2 at *;generalize ek c1 c2 d1 d2 = t3 at *;generalize dQ c1 c2 d1 d2 = t4 at *;have key := fun p1 p2 => @NO s1 s2 bT bY t1 t2 t3 t4 p1 p2 hs aD hw
 by_cases q : dj (ek s1 s2 t1 t2) (dQ s1 s2 t1 t2) s1 s2 bT bY ∧ dj (ek s1 s2 t1 t2) (dQ s1 s2 t1 t2) t1 t2 t3 t4
 ·right;rw [if_pos q];obtain ⟨cG, cH, jj, k2, aiP, afp⟩ := key _ _ q.1 q.2;exact ⟨_, _, _, _, rfl, afp, (xC _ _).1 cG, (tO9 _ _).1 cH, (xC _ _).1 jj, (tO9 _ _).1 k2, rfl, rfl, rfl, rfl, fun p1 p2 hp al => ⟨(key p1 p2 ((xC _ _).2 hp) ((tO9 _ _).2 al)).2.2.2.2.1, (key p1 p2 ((xC _ _).2 hp) ((tO9 _ _).2 al)).2.2.2.2.2⟩⟩
 ·left;rw [if_neg q];exact ⟨rfl, fun p1 p2 hp al => q ⟨(key p1 p2 ((xC _ _).2 hp) ((tO9 _ _).2 al)).1, (key p1 p2 ((xC _ _).2 hp) ((tO9 _ _).2 al)).2.1⟩⟩
theorem abJ {a1 a2 b1 b2 f1 f2 g1 g2 p1 p2 : Int} (ar : dj f1 f2 a1 a2 b1 b2) (aw : dj g1 g2 a1 a2 b1 b2) (hp : dj p1 p2 a1 a2 b1 b2) (aH : dl f1 f2 p1 p2) (h1 : dl p1 p2 g1 g2) : dj p1 p2 f1 f2 g1 g2 := by
 refine (vt (aH.trans h1)).2 ⟨?_, aH, h1⟩
 by_cases e : a1 = b1 ∧ a2 = b2
 ·obtain ⟨rfl, rfl⟩ := e;obtain ⟨rfl, rfl⟩ := zR ar;obtain ⟨rfl, rfl⟩ := zR aw;obtain ⟨rfl, rfl⟩ := zR hp;exact FG ..
 ·have a := ar.1;have b := aw.1;have c := hp.1;unfold cj at *;have d1 : (b1 - a1) * ((g1 - f1) * (p2 - f2) - (g2 - f2) * (p1 - f1)) = 0 := by grind
  have d2 : (b2 - a2) * ((g1 - f1) * (p2 - f2) - (g2 - f2) * (p1 - f1)) = 0 := by grind
  rcases sk.1 d1 with bw | bw
  ·rcases sk.1 d2 with f | f
   ·omega
   ·exact f
  ·exact bw
theorem aaS (a1 a2 b1 b2 c1 c2 d1 d2 : Int) :
  (hX a1 a2 b1 b2 c1 c2 d1 d2 = hG ∧ ∀ p1 p2, dj p1 p2 a1 a2 b1 b2 → ¬ dj p1 p2 c1 c2 d1 d2) ∨
  (∃ x y d, hX a1 a2 b1 b2 c1 c2 d1 d2 = iP x d y d ∧ 0 < d ∧ (d = 1 ∨ d = ih (cW a1 a2 b1 b2 c1 c2 d1 d2)) ∧ four a1 a2 b1 b2 c1 c2 d1 d2 x y d ∧ ∀ p1 p2, dj p1 p2 a1 a2 b1 b2 → dj p1 p2 c1 c2 d1 d2 → x = p1 * d ∧ y = p2 * d) ∨
  (∃ f1 f2 g1 g2, hX a1 a2 b1 b2 c1 c2 d1 d2 = sN f1 f2 g1 g2 ∧ ¬ (f1 = g1 ∧ f2 = g2) ∧ dl f1 f2 g1 g2 ∧ dj f1 f2 a1 a2 b1 b2 ∧ dj f1 f2 c1 c2 d1 d2 ∧ dj g1 g2 a1 a2 b1 b2 ∧ dj g1 g2 c1 c2 d1 d2
   ∧ f1 = ek (eE a1 a2 b1 b2) (eg a1 a2 b1 b2) (eE c1 c2 d1 d2) (eg c1 c2 d1 d2) ∧ f2 = dQ (eE a1 a2 b1 b2) (eg a1 a2 b1 b2) (eE c1 c2 d1 d2) (eg c1 c2 d1 d2)
   ∧ g1 = eE (ek a1 a2 b1 b2) (dQ a1 a2 b1 b2) (ek c1 c2 d1 d2) (dQ c1 c2 d1 d2) ∧ g2 = eg (ek a1 a2 b1 b2) (dQ a1 a2 b1 b2) (ek c1 c2 d1 d2) (dQ c1 c2 d1 d2)
   ∧ ∀ p1 p2, dj p1 p2 a1 a2 b1 b2 → dj p1 p2 c1 c2 d1 d2 → dj p1 p2 f1 f2 g1 g2) := by
 by_cases h : cW a1 a2 b1 b2 c1 c2 d1 d2 = 0
 ·rcases aaT h with ⟨e, aE⟩ | ⟨f1, f2, g1, g2, e, ao, cG, cH, jj, k2, v1, v2, v3, v4, hp⟩
  ·exact .inl ⟨e, aE⟩
  ·right;rw [e];unfold vc
   by_cases q : f1 = g1 ∧ f2 = g2
   ·left;rw [if_pos q];refine ⟨f1, f2, 1, rfl, by omega, .inl rfl, ?_, fun p1 p2 aK ab => ?_⟩
    ·have := LP cG cH (d := 1) (by omega);rwa [Int.mul_one, Int.mul_one] at this
    ·obtain ⟨bB, cf⟩ := hp p1 p2 aK ab;obtain ⟨rfl, rfl⟩ := q;have := dl.Bv bB cf;omega
   ·right;rw [if_neg q];exact ⟨f1, f2, g1, g2, rfl, q, ao, cG, cH, jj, k2, v1, v2, v3, v4, fun p1 p2 aK ab => abJ cG jj aK (hp p1 p2 aK ab).1 (hp p1 p2 aK ab).2⟩
 ·have hd := OM h;unfold hX;rw [if_neg h];unfold ml tH
  by_cases q : four a1 a2 b1 b2 c1 c2 d1 d2 (jc (jB a1 a2 b1 b2 c1 c2 d1 d2) (cW a1 a2 b1 b2 c1 c2 d1 d2)) (jc (jC a1 a2 b1 b2 c1 c2 d1 d2) (cW a1 a2 b1 b2 c1 c2 d1 d2)) (ih (cW a1 a2 b1 b2 c1 c2 d1 d2))
  ·right; left;rw [if_pos q];refine ⟨_, _, _, rfl, hd, .inr rfl, q, fun p1 p2 aK ab => ?_⟩;obtain ⟨aI, aO⟩ := O8 aK.1 ab.1;rw [aI, aO, DD, DD];exact ⟨rfl, rfl⟩
  ·left;rw [if_neg q];refine ⟨rfl, fun p1 p2 aK ab => q ?_⟩;obtain ⟨aI, aO⟩ := O8 aK.1 ab.1;rw [aI, aO, DD, DD];exact LP aK ab hd
end Go.Proofs.YtpochbhajmbfdaaGreat
namespace Go.Proofs.YtpochbhajmbfdaaGreat
open Go.RowKit
theorem afA {a1 a2 b1 b2 c1 c2 d1 d2 : Int} (aK : cy a1 a2 = true) (ab : cy b1 b2 = true) (ak : cy c1 c2 = true) (hd : cy d1 d2 = true) : -144115188075855872 ≤ cW a1 a2 b1 b2 c1 c2 d1 d2 ∧ cW a1 a2 b1 b2 c1 c2 d1 d2 ≤ 144115188075855872 := by
 rw [ss] at aK ab ak hd;have m1 := Dt (x := b2 - a2) (y := c1 - d1) (by omega) (by omega) (by omega) (by omega);have m2 := Dt (x := a1 - b1) (y := d2 - c2) (by omega) (by omega) (by omega) (by omega);unfold cW;omega
theorem KF {n d a b : Int} (h : kC n d a b) (a0 : -134217728 ≤ a) (a1 : a ≤ 134217728) (n6 : -134217728 ≤ b) (b1 : b ≤ 134217728) (d0 : 0 ≤ d) (d1 : d ≤ 144115188075855872) : -19342813113834066795298816 ≤ n ∧ n ≤ 19342813113834066795298816 := by
 obtain ⟨aH, h1⟩ := h;have i0 : -134217728 ≤ gI a b ∧ gI a b ≤ 134217728 := by unfold gI; split <;> omega
 have i1 : -134217728 ≤ gH a b ∧ gH a b ≤ 134217728 := by unfold gH; split <;> omega
 have m0 := BA i0.1 i0.2 (show -144115188075855872 ≤ d by omega) d1;have m1 := BA i1.1 i1.2 (show -144115188075855872 ≤ d by omega) d1;omega
def A0 (M : fA) : Prop := (M = hG) ∨ (∃ x y d, M = iP x d y d ∧ 0 < d ∧ d ≤ 144115188075855872 ∧ (-19342813113834066795298816 ≤ x ∧ x ≤ 19342813113834066795298816) ∧ (-19342813113834066795298816 ≤ y ∧ y ≤ 19342813113834066795298816)) ∨ (∃ f1 f2 g1 g2, M = sN f1 f2 g1 g2)
theorem Wx {a1 a2 b1 b2 c1 c2 d1 d2 x y d : Int} (aK : cy a1 a2 = true) (ab : cy b1 b2 = true) (ak : cy c1 c2 = true) (hd : cy d1 d2 = true) (aH : 0 < d) (h1 : d = 1 ∨ d = ih (cW a1 a2 b1 b2 c1 c2 d1 d2)) (ar : four a1 a2 b1 b2 c1 c2 d1 d2 x y d) :
  d ≤ 144115188075855872 ∧ (-19342813113834066795298816 ≤ x ∧ x ≤ 19342813113834066795298816) ∧ (-19342813113834066795298816 ≤ y ∧ y ≤ 19342813113834066795298816) := by
 have df := afA aK ab ak hd;rw [ss] at aK ab
 have rP : d ≤ 144115188075855872 := by
  rcases h1 with rfl | rfl
  ·omega
  ·unfold ih; split <;> omega
 exact ⟨rP, KF ar.1 aK.1.1 aK.1.2 ab.1.1 ab.1.2 (by omega) rP, KF ar.2.1 aK.2.1 aK.2.2 ab.2.1 ab.2.2 (by omega) rP⟩
theorem aas (a1 a2 b1 b2 c1 c2 d1 d2 : Int) : A0 (qC a1 a2 b1 b2 c1 c2 d1 d2) := by
 unfold qC
 by_cases h : (cy a1 a2 && cy b1 b2 && cy c1 c2 && cy d1 d2) = true
 ·rw [if_pos h];simp only [dS] at h;rcases aaS a1 a2 b1 b2 c1 c2 d1 d2 with ⟨e, _⟩ | ⟨x, y, d, e, aH, h1, ar, _⟩ | ⟨f1, f2, g1, g2, e, _⟩
  ·exact .inl e
  ·exact .inr (.inl ⟨x, y, d, e, aH, Wx h.1.1.1 h.1.1.2 h.1.2 h.2 aH h1 ar⟩)
  ·exact .inr (.inr ⟨f1, f2, g1, g2, e⟩)
 ·rw [if_neg h]; exact .inl rfl
section
variable {P : Program} {R : aJ} {s : aC} {ops : Array Oper} {dr : Option (List Nat)} {ty : Nat} {pos : String} {after : Array Edge} {guard : Option (Nat × Bool)} {K : aJ → aC → Prop} {rest : List Oper} {c : Code} {Q : Exit → aJ → aC → Prop}
theorem Eg (az : aJ) (ZR : bM az R) (h : fq P c Q az s) : fq P c Q R s := fun ok bt bS a w ⟨A, ad, ax⟩ => h ok bt bS a w ⟨A, ad, ax.le ZR⟩
theorem Q2 {f : FuncId} {r : bP} {i j : Nat} {post : aj → bP → Prop} (hp : oV P f [cM r.sz r.n r.aU] post) (bW : 0 < r.sz) (cO : ∀ y ∈ r.aU, y.bb = true) (hF : ∀ v q, post v q → v = aQ q.v ∧ ui q.aU) :
  c6 P f [aQ r.v] cb (bJ i r) fun v aG az => ∃ q, aG = cb ∧ az = b0 (bJ j q) (bJ i r) ∧ 0 < q.sz ∧ post v q := by
 have h := Xl (R0 := bJ i r) (args := [aQ r.v]) (hp j) rfl (fun U ad W vs cK dJ => ⟨dJ.1, fun n x v aa hv => ?_⟩) (fun v aG bl al => ?_)
 ·refine ⟨fun U ad W vs cK ef dJ => (h.call U ad W vs cK ef dJ).mono ?_⟩;rintro e bo ⟨v, cQ, aG, az, bg, cC, cY, ⟨bl, ⟨q, _, rfl, aZ, al⟩, rfl, rfl⟩, lV⟩;exact ⟨v, cQ, cb, _, bg, cC, cY, ⟨q, rfl, rfl, aZ, al⟩, lV⟩
 ·match n with
  | 0 =>
   cases aa;have rW := (dJ.2 0 _ v rfl hv).1;subst rW;exact (cK.rows i r (by unfold bJ; exact cr _ _ _)).1.QP bW r.aU (fun xs ao => ao.map (fun b ab _ => ⟨.inl ab, rfl⟩) fun _ _ _ _ => rfl) cO fun b ab => .inr (.inr ⟨i, r, by unfold bJ; exact cr _ _ _, ab⟩)
  | n + 1 => simp at aa
 ·obtain ⟨q, rfl, rfl, aZ, al⟩ := al;obtain ⟨rfl, ar⟩ := hF v q al;refine ⟨rfl, AZ.one, rfl, fun k cA af => ?_⟩;obtain ⟨rfl, rfl⟩ := fI af;exact ⟨aZ, ar⟩
theorem MW (i j : Nat) (gu : i ≠ j) {d : Nat} {f : FuncId} {g : Operand} {aS : Array TypeId} {x : Operand} {r : bP} {post : aj → bP → Prop} [E : Enters P f] (hw : want ops ⟨some d, .call ⟨.value g, #[x], aS⟩, ty, pos, after, guard⟩ s = some true) (hm : dL dr ⟨some d, .call ⟨.value g, #[x], aS⟩, ty, pos, after, guard⟩ = true)
  (aw : s.look g = some (aQ (.func (.func f) #[] #[]))) (aK : s.look x = some (aQ r.v)) (hp : oV P f [cM r.sz r.n r.aU] post) (hi : R i = some r) (bW : 0 < r.sz) (cO : ∀ y ∈ r.aU, y.bb = true) (ae : R j = none) (hd : Nat.blt d s.n = true) (hF : ∀ v q, post v q → v = aQ q.v ∧ ui q.aU)
  (h : ∀ q, post (aQ q.v) q → cL P ops dr K rest R (s.put (some d) (cM q.sz q.n q.aU))) : cL P ops dr K (⟨some d, .call ⟨.value g, #[x], aS⟩, ty, pos, after, guard⟩ :: rest) R s := by
 refine ⟨true, hw, kG hd, .inr (.inr (.inr (.inr (.inr ⟨rfl, hm, f, [aQ r.v], cb, bJ i r, _, ⟨⟨_, g, rfl, rfl, .inl ⟨[], aw, by simp [aK], rfl⟩⟩, E.h⟩, Q2 (j := j) hp bW cO hF, fun x aa j ae => ?_, fun k' au aF => (by cases aF), fun ft a7 aF => ?_, fun k' au x j aF => (by cases aF), ?_⟩))))⟩
 ·simp at aa; subst aa; exact absurd ae (iO _ j)
 ·obtain ⟨rfl, rfl⟩ := fI aF; exact hi
 rintro v aG az ⟨q, rfl, rfl, y7, al⟩ _ _ _;refine ⟨fun k' c aF => (by cases aF), ?_⟩;obtain ⟨rfl, _⟩ := hF v q al;have la : b0 (b0 (bJ j q) (bJ i r)) R j = some q := hn (hn (by unfold bJ; exact cr _ _ _));refine ⟨j, d, q, rfl, la, y7, cr _ _ _, (show d < s.n by simpa [Nat.blt_eq] using hd), ?_⟩
 have aI : (fun x => if x = j then none else b0 (b0 (bJ j q) (bJ i r)) R x) = R := by
  funext x
  by_cases e : x = j
  ·rw [if_pos e, e, ae]
  ·rw [if_neg e]
   by_cases bw : x = i
   ·subst bw;rw [hi];exact hn (by rw [ho (by unfold bJ; rw [cl _ _ e]; rfl)]; unfold bJ; exact cr _ _ _)
   ·exact ho (by rw [ho (by unfold bJ; rw [cl _ _ e]; rfl)]; unfold bJ; rw [cl _ _ bw]; rfl)
 rw [aI, tS, zX];exact h q al
end
section
variable {P : Program} {R : aJ} {s : aC} {ops : Array Oper} {dr : Option (List Nat)} {ty : Nat} {pos : String} {after : Array Edge} {guard : Option (Nat × Bool)} {K : aJ → aC → Prop} {rest : List Oper} {c : Code} {Q : Exit → aJ → aC → Prop}
theorem gn.one {U : Nat → Prop} {ad : Nat → Nat} {W : World} {y : AC} {v : Value} (h : gn U ad W y v) (ak : y.bb = true) : v.oneCell' = true := by
 cases y with
 | c u => rw [h.1]; exact h.2
 | own k o => cases ak
 | p S => exact S.cell _ _ h.1
theorem bV.exact {U cC : Nat → Prop} {ad bg : Nat → Nat} {W bo : World} {aU : List AC} {xs : List Value} (h : bV U ad W aU xs) (ak : ∀ y ∈ aU, y.bb = true) : bV cC bg bo (xs.map AC.c) xs := by
 refine ⟨by rw [mu], fun i x v aa hv => ?_⟩;rw [eG, hv] at aa;cases aa;have hi : i < aU.length := by rw [h.1]; exact (bX.1 hv).1
 have ah := cp hi;exact ⟨rfl, (h.2 i _ v ah hv).one (ak _ (dG ah))⟩
theorem bV.VH {U : Nat → Prop} {ad : Nat → Nat} {W : World} {xs xJ : List Value} (h : bV U ad W (xs.map AC.c) xJ) : xJ = xs := by
 refine List.ext_getElem? fun i => ?_;cases aa : xJ[i]? with
 | none =>
  have : xs.length ≤ i := by have := h.1; rw [mu] at this; rw [this]; exact List.getElem?_eq_none_iff.1 aa
  exact (List.getElem?_eq_none_iff.2 this).symm
 | some v =>
  have hi : i < (xs.map AC.c).length := by rw [h.1]; exact (bX.1 aa).1
  have ah := cp hi;have := (h.2 i _ v ah aa);rw [List.getElem_map] at this;rw [this.1, cp (by rwa [mu] at hi)]
theorem DK {e sz n : Nat} {v : Value} {aU zs : List AC} {g : Nat} (hs : 0 < sz) (h : (⟨e, sz, v, n, aU⟩ : bP).own g) : (⟨e, sz, v, n, zs⟩ : bP).own g := by
 have := bP.oE h hs;exact .inl this
theorem afy {f : FuncId} {r : bP} {i j : Nat} (gu : i ≠ j) (hp : ∀ aU : List AC, aU.length = r.aU.length → aU.all AC.bb = true → oV P f [cM r.sz r.n aU] fun v q => ∃ aV, v = aQ aV ∧ q = ⟨r.e, r.sz, aV, r.n, aU⟩) (bW : 0 < r.sz) (cO : ∀ y ∈ r.aU, y.bb = true) :
  c6 P f [aQ r.v] cb (bJ i r) fun v aG az => ∃ aV, v = aQ aV ∧ aG = cb ∧ az = b0 (bJ j ⟨r.e, r.sz, aV, r.n, r.aU⟩) (bJ i r) := by
 refine ⟨fun U ad W vs cK ef dJ => ?_⟩;have kn : ∀ q, bJ i q i = some q := fun q => by unfold bJ; exact cr _ _ _
 obtain ⟨iK, nz, w1⟩ := cK.rows i r (kn r);obtain ⟨xs, ay, ao⟩ := iK.row bW;have hex : ∀ (U : Nat → Prop) (ad : Nat → Nat) (W : World), bV U ad W (xs.map AC.c) xs := fun U ad W => ao.exact cO;have zk : ∀ y ∈ xs.map AC.c, AC.bb y = true := fun y ah => by obtain ⟨v, _, rfl⟩ := ir.1 ah; rfl
 have ME : ∀ g, (⟨r.e, r.sz, r.v, r.n, xs.map AC.c⟩ : bP).own g → r.own g := fun g h => by
  have := bP.oE h bW;exact .inl this
 have wY : ∀ g, r.own g → (⟨r.e, r.sz, r.v, r.n, xs.map AC.c⟩ : bP).own g := fun g h => by
  have := bP.oE h bW;exact .inl this
 have l9 : e1 U ad W cb (bJ i ⟨r.e, r.sz, r.v, r.n, xs.map AC.c⟩) := by
  refine ⟨fun k cs af => (by cases af), fun k cs x j af => (by cases af), fun k k' cs au af => (by cases af), fun k q af => ?_, fun a b q cA aK ab mK => ?_⟩
  ·obtain ⟨rfl, rfl⟩ := fI af;exact ⟨.inl ⟨bW, xs, ay, hex _ _ _⟩, zk, fun g aw => ⟨(w1 g (ME g aw)).1, fun k cs af => (by cases af)⟩⟩
  ·obtain ⟨rfl, rfl⟩ := fI aK;obtain ⟨rfl, rfl⟩ := fI ab;exact absurd rfl mK
 have hF := Q2 (i := i) (j := j) (r := ⟨r.e, r.sz, r.v, r.n, xs.map AC.c⟩) (hp (xs.map AC.c) (by rw [mu]; exact ao.1.symm) (ct.2 zk)) bW zk (fun v q ⟨aV, hv, al⟩ => by
  subst al; exact ⟨hv, ui.of fun y ah => by obtain ⟨v, _, rfl⟩ := ir.1 ah; exact ⟨v, rfl⟩⟩)
 refine (hF.call U ad W vs l9 ef dJ).mono ?_;rintro e bo ⟨v, cQ, aG, az, bg, cC, cY, ⟨q, rfl, rfl, aZ, aV, rfl, rfl⟩, h2, ap, aL, dk, fV, jo, pq, iG⟩
 have y5 : ∀ b, ec ad cb (bJ i ⟨r.e, r.sz, r.v, r.n, xs.map AC.c⟩) b → r.own b := fun b ab => by
  rcases ab with ⟨k, cs, af, _⟩ | ⟨k, q, af, aw⟩
  ·cases af
  ·obtain ⟨rfl, rfl⟩ := fI af; exact ME b aw
 have zi : ∀ b, U b → b < W.heap.size → bo.heap[b]? = W.heap[b]? := fun b ab bj => iG.block b ⟨bj, fun a6 => (w1 b (y5 b a6)).1 ab⟩
 have mM : ∀ k q, b0 (bJ j ⟨r.e, r.sz, aV, r.n, r.aU⟩) (bJ i r) k = some q → ∃ u, q = ⟨r.e, r.sz, u, r.n, r.aU⟩ ∧ b0 (bJ j ⟨r.e, r.sz, aV, r.n, xs.map AC.c⟩) (bJ i ⟨r.e, r.sz, r.v, r.n, xs.map AC.c⟩) k = some ⟨r.e, r.sz, u, r.n, xs.map AC.c⟩ := fun k q af => by
  rcases jE af with af | ⟨aE, af⟩
  ·obtain ⟨rfl, rfl⟩ := fI af;exact ⟨aV, rfl, hn (by unfold bJ; exact cr _ _ _)⟩
  ·obtain ⟨rfl, rfl⟩ := fI af;refine ⟨q.v, rfl, ?_⟩;rw [ho (by unfold bJ; rw [cl _ _ gu]; rfl)];exact kn _
 refine ⟨v, aQ aV, cb, b0 (bJ j ⟨r.e, r.sz, aV, r.n, r.aU⟩) (bJ i r), bg, fun b => cC b ∨ (U b ∧ b < W.heap.size), cY, ⟨aV, rfl, rfl, rfl⟩, ⟨fun k cs af => (by cases af), fun k cs x j af => (by cases af), fun k k' cs au af => (by cases af), fun k q af => ?_, fun a b q cA aK ab mK g aw ew => ?_⟩, ap, fun j ae => absurd ae (iO _ j), fun k cs af => (by cases af), fun k q af => ?_, fun b ab => ?_, fun b ab => ?_, ⟨iG.os, iG.tape, iG.output, iG.size, fun b ab => iG.block b ⟨ab.1, fun a6 => ab.2 (.inr ⟨i, r, kn r, y5 b a6⟩)⟩⟩⟩
 ·obtain ⟨u, rfl, eL⟩ := mM k q af;obtain ⟨jk, z2, z3⟩ := h2.rows k _ eL;obtain ⟨xJ, gF, hD⟩ := jk.row bW;have := bV.VH hD;subst this;refine ⟨.inl ⟨bW, xJ, gF, ao.map (fun b ab bj => ⟨.inr ⟨ab, bj⟩, zi b ab bj⟩) fun k x aa ae => absurd ae (AC.dy (cO x aa) k)⟩, cO, fun g aw => ⟨?_, fun k cs af => (by cases af)⟩⟩;have ew := DK (zs := xJ.map AC.c) bW aw;rintro (dz | ⟨dz, bj⟩)
  ·exact (z3 g ew).1 dz
  ·rcases pq g (.inr ⟨k, _, eL, ew⟩) with a6 | a6
   ·exact (w1 g (y5 g a6)).1 dz
   ·omega
 ·obtain ⟨u, rfl, pu⟩ := mM a q aK;obtain ⟨ku, rfl, df⟩ := mM b cA ab;exact h2.apart a b _ _ pu df mK g (DK bW aw) (DK bW ew)
 ·obtain ⟨rfl, rfl⟩ := fI af;exact ⟨q, by rw [ho (by unfold bJ; rw [cl _ _ gu]; rfl)]; exact kn q⟩
 ·rcases ab with ab | ab
  ·rcases jo b ab with h | h | h
   ·exact .inl h
   ·exact .inr (.inl h)
   ·exact .inr (.inr (.inr ⟨i, r, kn r, y5 b h⟩))
  ·exact .inl ab.1
 ·rcases ab with ⟨k, cs, af, _⟩ | ⟨k, q, af, aw⟩
  ·cases af
  ·obtain ⟨u, rfl, eL⟩ := mM k q af;rcases pq b (.inr ⟨k, _, eL, DK bW aw⟩) with h | h
   ·exact .inl (.inr ⟨i, r, kn r, y5 b h⟩)
   ·exact .inr h
theorem Hb (i j : Nat) (gu : i ≠ j) {dst : Option Nat} {f : FuncId} {g : Operand} {aS : Array TypeId} {x : Operand} {r : bP} [E : Enters P f] (hw : want ops ⟨dst, .call ⟨.value g, #[x], aS⟩, ty, pos, after, guard⟩ s = some true) (hm : dL dr ⟨dst, .call ⟨.value g, #[x], aS⟩, ty, pos, after, guard⟩ = true)
  (aw : s.look g = some (aQ (.func (.func f) #[] #[]))) (aK : s.look x = some (aQ r.v)) (hp : ∀ aU : List AC, aU.length = r.aU.length → aU.all AC.bb = true → oV P f [cM r.sz r.n aU] fun v q => ∃ aV, v = aQ aV ∧ q = ⟨r.e, r.sz, aV, r.n, aU⟩) (hi : R i = some r) (bW : 0 < r.sz) (cO : ∀ y ∈ r.aU, y.bb = true) (hd : kF dst s.n = true)
  (h : ∀ aV, cL P ops dr K rest (bQ R j ⟨r.e, r.sz, aV, r.n, r.aU⟩) (s.put dst (aQ aV))) : cL P ops dr K (⟨dst, .call ⟨.value g, #[x], aS⟩, ty, pos, after, guard⟩ :: rest) R s := by
 refine MQ (l := [x]) (args := [aQ r.v]) hw hm aw (by simp [aK]) (afy (j := j) gu hp bW cO) (fun k q af => ?_) rfl hd ?_
 ·obtain ⟨rfl, rfl⟩ := fI af; exact hi
 rintro v aG az ⟨aV, rfl, rfl, rfl⟩;refine ⟨rfl, ?_⟩
 have aI : b0 (b0 (bJ j ⟨r.e, r.sz, aV, r.n, r.aU⟩) (bJ i r)) R = bQ R j ⟨r.e, r.sz, aV, r.n, r.aU⟩ := by
  funext k
  by_cases hc : k = j
  ·subst hc;rw [cr];exact hn (hn (by unfold bJ; exact cr _ _ _))
  ·rw [cl _ _ hc]
   by_cases qk : k = i
   ·subst qk;rw [hi];exact hn (by rw [ho (by unfold bJ; rw [cl _ _ hc]; rfl)]; unfold bJ; exact cr _ _ _)
   ·exact ho (by rw [ho (by unfold bJ; rw [cl _ _ hc]; rfl)]; unfold bJ; rw [cl _ _ qk]; rfl)
 rw [aI];exact h aV
end
section
variable {P : Program} {s : aC} {ops : Array Oper} {K : aC → Prop} {rest : List Oper} {ty : Nat} {pos : String} {after : Array Edge} {guard : Option (Nat × Bool)} {d : Nat}
theorem x8 {t dK k off : Nat} {x : Operand} (hw : want ops ⟨some d, .binOp .eql t x (.const (.pointer none)) dK, ty, pos, after, guard⟩ s = some true) (aa : s.look x = some (.w (.one (.own k off)))) (hu : Ni P t = true) (hd : Nat.blt d s.n = true) (h : bi P ops K rest (s.put (some d) (bE false))) : bi P ops K (⟨some d, .binOp .eql t x (.const (.pointer none)) dK, ty, pos, after, guard⟩ :: rest) s := by
 obtain ⟨e, he⟩ : ∃ e, P.underlying t = some (.pointer e) := by
  unfold Ni at hu
  split at hu
  ·rename_i e he; exact ⟨e, he⟩
  ·cases hu
 refine fP (av := bE false) hw ⟨fun _ _ h => (by cases h), fun z aZ => ?_, fun U ad W env Mp => ?_, fun j ae => absurd ae (iO _ j)⟩ hd h
 ·simp [Op.operands] at aZ;rcases aZ with rfl | rfl
  ·exact ⟨_, aa⟩
  ·exact ⟨_, rfl⟩
 ·have aI := Mp x (by simp [Op.operands]) _ aa;have aI : env x = .pointer (some ⟨ad k, off, none⟩) := aI;have aO : env (.const (.pointer none)) = .pointer none := (Mp (.const (.pointer none)) (by simp [Op.operands]) _ rfl).1;refine ⟨.bool false, ?_, rfl, rfl⟩;simp only [execOp, aI, aO, WB, Sem.run_bind, Sem.run_pure, Result.andThen_ok, aec he]
end
section
variable {P : Program} {f : FuncId} {args : List aj} {m0 : Mem} {R0 : aJ} {Post Post2 : aj → Mem → aJ → Prop}
def n9 (i : Nat) (R : aJ) : aJ := fun j => if j = i then none else R j
theorem c6.uJ (i : Nat) (h : c6 P f args m0 R0 Post) (aH : R0 i = none)
  (hp : ∀ ca aG az, Post ca aG az → ∃ q Ag, az i = some q ∧ 0 < q.sz ∧ (∀ U ad W v, c9 U ad W ca v → gn U ad W (.p (cB q.sz q.n q.aU)) q.v → c9 U ad W Ag v) ∧ (∀ j, Ag.owns j → ca.owns j) ∧ Post2 Ag aG (n9 i az)) : c6 P f args m0 R0 Post2 := by
 refine ⟨fun U ad W vs cK ef dJ => (h.call U ad W vs cK ef dJ).mono ?_⟩;rintro e bo ⟨v, r, aG, az, bg, cC, cY, h1, h2, ap, aL, dk, fV, jo, pq, iG⟩;obtain ⟨q, Ag, hi, aZ, hv, hw, WJ⟩ := hp r aG az h1;obtain ⟨jk, z2, z3⟩ := h2.rows i q hi;have CK : ∀ b, cC b → b < bo.heap.size → (fun b => cC b ∨ q.own b) b ∧ bo.heap[b]? = bo.heap[b]? := fun b ab _ => ⟨.inl ab, rfl⟩;have YA : gn (fun b => cC b ∨ q.own b) bg bo (.p (cB q.sz q.n q.aU)) q.v := jk.QP aZ q.aU (fun xs ao => ao.map CK fun _ _ _ _ => rfl) z2 fun b ab => .inr ab;have aq : c9 (fun b => cC b ∨ q.own b) bg bo r v := ap.map CK fun _ _ => rfl
 have Cw : ∀ k x, n9 i az k = some x → k ≠ i ∧ az k = some x := fun k x af => by
  unfold n9 at af
  split at af
  ·cases af
  ·rename_i cq; exact ⟨cq, af⟩
 refine ⟨v, Ag, aG, n9 i az, bg, fun b => cC b ∨ q.own b, cY, WJ, ⟨fun k cs af => ?_, h2.fG, h2.inj, fun k x af => ?_, fun a b x y aK ab mK g aw ew => ?_⟩, hv _ _ _ _ aq YA, fun j ae => aL j (hw j ae), dk, fun k x af => ?_, fun b ab => ?_, fun b ab => ?_, iG⟩
 ·obtain ⟨xs, ty, a1, a2, a3⟩ := h2.dx k cs af;exact ⟨xs, ty, a1, a2.map CK fun _ _ _ _ => rfl, fun a6 => a6.elim a3 fun aw => (z3 _ aw).2 k cs af rfl⟩
 ·obtain ⟨cq, eL⟩ := Cw k x af;obtain ⟨a1, a2, a3⟩ := h2.rows k x eL;exact ⟨a1.kept a2 (fun _ _ => rfl) (dW _) CK, a2, fun g aw => ⟨fun a6 => a6.elim (a3 g aw).1 fun ew => h2.apart k i x q eL hi cq g aw ew, (a3 g aw).2⟩⟩
 ·obtain ⟨_, pu⟩ := Cw a x aK;obtain ⟨_, df⟩ := Cw b y ab;exact h2.apart a b x y pu df mK g aw ew
 ·obtain ⟨x', ko⟩ := fV k x af;refine ⟨x', ?_⟩;unfold n9;rw [if_neg (fun e => by subst e; rw [aH] at af; cases af)];exact ko
 ·rcases ab with ab | ab
  ·exact jo b ab
  ·rcases pq b (.inr ⟨i, q, hi, ab⟩) with a6 | a6
   ·exact .inr (.inr a6)
   ·exact .inr (.inl a6)
 ·refine pq b ?_;rcases ab with ⟨k, cs, af, e⟩ | ⟨k, x, af, aw⟩
  ·exact .inl ⟨k, cs, af, e⟩
  ·exact .inr ⟨k, x, (Cw k x af).2, aw⟩
theorem AC.pT (x : AC) : x.ba (fun j => j) = x := by cases x <;> rfl
theorem AC.P5 (xs : List AC) : xs.map (AC.ba fun j => j) = xs := by
 conv => rhs; rw [← List.map_id xs]
 exact oP fun x _ => AC.pT x
theorem bI.pT (x : bI) : x.ba (fun j => j) = x := by
 cases x with
 | one x => show bI.one (x.ba _) = _; rw [AC.pT]
 | agg xs => show bI.agg (xs.map _) = _; rw [AC.P5]
theorem aj.pT (x : aj) : x.ba (fun j => j) = x := by
 cases x with
 | w x => show aj.w (x.ba _) = _; rw [bI.pT]
 | cZ xs =>
  show aj.cZ (xs.map _) = _;congr 1
  conv => rhs; rw [← List.map_id xs]
  exact oP fun x _ => bI.pT x
theorem Mem.pT (m : Mem) : Mem.ba (fun j => j) m = m := by
 funext k;show (m k).map _ = m k;cases m k with
 | none => rfl
 | some cs => show some (cs.map _) = _; rw [AC.P5]
theorem c6.rn {b7 : Nat → Nat} (fF : ∀ j, b7 (b7 j) = j) (h : c6 P f args m0 R0 Post) : c6 P f args m0 (R0.ba b7) fun ca aG az => ∃ bl, Post ca aG bl ∧ az = bl.ba b7 := by
 have h1 := h.ba (bK := fun j => j) (fun _ => rfl) (b7 := b7) (h4 := b7) fF fF
 rw [show args.map (aj.ba fun j => j) = args from by
  conv => rhs; rw [← List.map_id args]
  exact oP fun x _ => aj.pT x, Mem.pT] at h1
 refine ⟨fun U ad W vs cK ef dJ => (h1.call U ad W vs cK ef dJ).mono ?_⟩;rintro dp bo ⟨v, r, aG, az, bg, cC, cY, ⟨cQ, m1, bl, al, rfl, rfl, rfl⟩, lV⟩;rw [aj.pT, Mem.pT] at lV;exact ⟨v, cQ, m1, bl.ba b7, bg, cC, cY, ⟨bl, al, rfl⟩, lV⟩
theorem c6.imp (h : c6 P f args m0 R0 Post) (hp : ∀ ca aG az, Post ca aG az → Post2 ca aG az) : c6 P f args m0 R0 Post2 :=
 ⟨fun U ad W vs cK ef dJ => (h.call U ad W vs cK ef dJ).mono (by
  rintro dp bo ⟨v, r, aG, az, bg, cC, cY, h1, lV⟩;exact ⟨v, r, aG, az, bg, cC, cY, hp _ _ _ h1, lV⟩)⟩
end
end Go.Proofs.YtpochbhajmbfdaaGreat
namespace Go.Proofs.YtpochbhajmbfdaaGreat
open Go.ChangeShapes Go.WideShapes Go.ChangeAt Go.RowKit Go.Joins
def rJ (L : List (List Int)) : List AC := L.flatten.map fun x => .c (.int .i64 x)
theorem Uj {W : World} {b : Addr} {v : Value} (h : W.cell? b = some v) : b.block < W.heap.size := by
 unfold World.cell? at h
 split at h
 ·rename_i a6; exact (kr.1 a6).1
 ·cases h
theorem LM {W : World} {a : Addr} {z : Nat} : ∀ (L : List (List Int)) (k : Nat), (∀ (i : Nat) (x : List Int), L[i]? = some x → x.length = z ∧ ∀ (o : Nat) (y : Int), x[o]? = some y → W.cell? (a.add ((k + i) * z + o)) = some (.int .i64 y)) →
  ∀ (j : Nat) (u : Int), L.flatten[j]? = some u → W.cell? (a.add (k * z + j)) = some (.int .i64 u)
 | [], k, h, j, u, hu => by simp at hu
 | x :: L, k, h, j, u, hu => by
  obtain ⟨ao, aa⟩ := h 0 x rfl;rw [List.flatten_cons] at hu;rcases iQ j x.length with ae | ae
  ·rw [fY ae] at hu;have := aa j u hu;rwa [Nat.add_zero] at this
  ·rw [gy ae] at hu
   have := LM L (k + 1) (fun i y ah => by
    have := h (i + 1) y (by simpa using ah);rw [show k + (i + 1) = k + 1 + i by omega] at this;exact this) (j - x.length) u hu
   rw [show (k + 1) * z + (j - x.length) = k * z + j by rw [j0, Nat.one_mul]; omega] at this;exact this
theorem abL {H : Type} {enc : TypeId × Value → H} {P : Program} {W : World} {t e : TypeId} (z : Nat) (aD : P.underlying t = some (.slice e)) (ce : P.cellsOf e = z)
  (yR : ∀ (n : Nat) (cs : List Value) d, DataW.trod enc P W 0 (fun _ => true) true n e cs = some d → ∃ xs : List Int, cs = xs.map (Value.int .i64))
  {v : Value} {d : DataW H} {p : List MemPlace} (hv : ∃ a len cap, v = .slice a len cap) (aH : DataW.Trod enc P W 0 (fun _ => true) true t v d p) (aZ : 0 < z) :
  ∃ L : List (List Int), (L.length : Int) ≤ 9223372036854775807 ∧ (∀ x ∈ L, x.length = z) ∧ c9 (fun _ => True) id W (cM z L.length (rJ L)) v := by
 obtain ⟨a0, r4, af8, rfl⟩ := hv;obtain ⟨ff, ar⟩ := aH;rcases Go.Deep.open_slice aD ar with ⟨ev, aa⟩ | ⟨a, len, cap, m, n, D, afP, ev, ab, ao, hm, tv, aa, hi⟩
 ·simp [Value.cells] at ev;obtain ⟨rfl, rfl, rfl⟩ := ev;exact ⟨[], by decide, fun x aa => (by cases aa), ⟨none, 0, rfl, dW _, by simp [rJ], fun h => absurd h (Nat.lt_irrefl _)⟩, fun _ _ => trivial⟩
 ·simp [Value.cells] at ev;obtain ⟨rfl, rfl, rfl⟩ := ev;simp only [if_true] at tv;subst tv;rw [ce] at hi
  have each : ∀ i, i < m → ∃ q : List Int, q.length = z ∧ ∀ (o : Nat) (y : Int), q[o]? = some y → W.cell? (a.add (i * z + o)) = some (.int .i64 y) := fun i h => by
   obtain ⟨au, h1, h2⟩ := hi i h;obtain ⟨_, hlen, nv⟩ := World.cells?_some h1;obtain ⟨xs, rfl⟩ := yR _ _ _ h2;refine ⟨xs, by simpa using hlen, fun o y ah => ?_⟩
   have ay : o < z := by
    have := (bX.1 ah).1;simp at hlen; omega
   have := nv o ay;rw [Go.Deep.add_add, eG, ah] at this;exact this
  obtain ⟨q, al⟩ := Go.Deep.choose_lt each
  have dc : ∀ (i : Nat) (x : List Int), ((List.range r4).map q)[i]? = some x → x.length = z ∧ ∀ (o : Nat) (y : Int), x[o]? = some y → W.cell? (a.add ((0 + i) * z + o)) = some (.int .i64 y) := by
   intro i x aa;rw [eG] at aa;cases aq : (List.range r4)[i]? with
   | none => rw [aq] at aa; cases aa
   | some j =>
    rw [aq] at aa;cases aa;obtain ⟨ap, aL⟩ := bX.1 aq;simp at ap aL;subst aL;rw [jH];exact al i (by omega)
  have gq := LM ((List.range r4).map q) 0 dc
  have yX : ∀ x ∈ (List.range r4).map q, x.length = z := fun x aa => by
   obtain ⟨i, dd⟩ := jZ aa;exact (dc i x dd).1
  have wS : ∀ L : List (List Int), (∀ x ∈ L, x.length = z) → L.flatten.length = L.length * z := by
   intro L
   induction L with
   | nil => intro _; simp
   | cons x L cw =>
    intro h;rw [List.flatten_cons, cS, cw (fun y ah => h y (by simp [ah])), h x (by simp), lr, j0];omega
  refine ⟨(List.range r4).map q, by simp; unfold maxLen at hm; omega, yX, ?_⟩;refine ⟨⟨some a, m, by simp, by simpa using ao, by rw [rJ, mu, wS _ yX], fun aE => ⟨a, ((List.range r4).map q).flatten.map fun x => Value.int .i64 x, rfl, ?_, ⟨by rw [rJ, mu, mu], fun i x u aa hu => ?_⟩, fun j u hu => ?_, fun y ah => ?_⟩⟩, fun _ _ => trivial⟩
  ·have GY : 0 < r4 := by simpa using aE
   obtain ⟨h1, h2⟩ := al 0 (by omega);have := Uj (h2 0 _ (cp (by omega)));rwa [block_add] at this
  ·unfold rJ at aa;rw [eG] at aa hu;cases aq : ((List.range r4).map q).flatten[i]? with
   | none => rw [aq] at aa; cases aa
   | some y =>
    rw [aq] at aa hu;cases aa; cases hu;exact ⟨rfl, rfl⟩
  ·rw [eG] at hu;cases aq : ((List.range r4).map q).flatten[j]? with
   | none => rw [aq] at hu; cases hu
   | some y =>
    rw [aq] at hu;cases hu;have := gq j y aq;rwa [Nat.zero_mul, jH] at this
  ·unfold rJ at ah;obtain ⟨x, _, rfl⟩ := ir.1 ah;rfl
theorem FR {H : Type} {enc : TypeId × Value → H} {P : Program} {W : World} {e : TypeId} (gV : P.underlying e = some (.int .i64)) {n : Nat} {cs : List Value} {d : DataW H × List MemPlace} (h : DataW.trod enc P W 0 (fun _ => true) true n e cs = some d) (ao : cs.length = 1) : ∃ x : Int, cs = [.int .i64 x] := by
 match cs, ao with
 | [v], _ =>
  obtain ⟨x, aa, _⟩ := DataW.trod_int gV h;simp at aa;exact ⟨x, by rw [aa]⟩
theorem Lk {H : Type} {enc : TypeId × Value → H} {P : Program} {W : World} {e : TypeId} {f0 f1 : Field} (he : P.underlying e = some (.struct #[f0, f1])) (ce : P.cellsOf e = 2) (DF : f0.offset = 0) (o1 : f1.offset = 1) (k7 : P.cellsOf f0.type = 1) (c1 : P.cellsOf f1.type = 1) (gV : P.underlying f0.type = some (.int .i64)) (bB : P.underlying f1.type = some (.int .i64))
  {n : Nat} {cs : List Value} {d : DataW H × List MemPlace} (h : DataW.trod enc P W 0 (fun _ => true) true n e cs = some d) : ∃ x y : Int, cs = [.int .i64 x, .int .i64 y] := by
 obtain ⟨xs, k, _, _, cO, oo, ar⟩ := DataW.trod_struct he h;rw [ce] at cO
 match cs, cO, xs, oo with
 | [u, v], _, [d0, d1], _ =>
  have g0 := ar 0 f0 rfl;have g1 := ar 1 f1 rfl;simp [DF, o1, k7, c1] at g0 g1;obtain ⟨x, aa⟩ := FR gV g0 rfl;obtain ⟨y, ah⟩ := FR bB g1 rfl;cases aa; cases ah;exact ⟨x, y, rfl⟩
end Go.Proofs.YtpochbhajmbfdaaGreat
