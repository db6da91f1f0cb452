/-
  My own texts, without what this claim does not need. My own text.
-/
import Derived.Deep.SlicePairs
import Derived.Carry
import Derived.Test.YtpochbhajmbfdaaGreatSLastK9
set_option maxRecDepth 100000
set_option maxHeartbeats 64000000
set_option linter.unusedVariables false
set_option linter.unusedSimpArgs false
set_option linter.unusedSectionVars false
open Go.Proofs.Tryz renaming prog → aj
namespace Go.Proofs.YtpochbhajmbfdaaGreat
def vi (p q : ao) : List ao := if p = q then [p] else [p, q]
def vh (p q : ao) : List Int := if p = q then [] else [1]
end Go.Proofs.YtpochbhajmbfdaaGreat
namespace Go.Proofs.YtpochbhajmbfdaaGreat
open Go.RowKit
def n5 (D : List Int) : Int := D.foldl max 0
def Rq : Prop := ∀ x y z w : Int, aX aj 42 [bh x y, bh z w] (nM (vi (x, y) (z, w)) (vh (x, y) (z, w)))
def Rv : Prop := ∀ (V : List ao) (D : List Int) (j : Nat) (l : List ao), V.length = D.length + 1 → V.length ≤ 1100 → l.length ≤ 1100 → j < D.length → (∀ d ∈ D, 1 ≤ d ∧ d ≤ 1048576) →
 aX aj 125 [nM V D, aW j, hk l] (.cZ [.agg (vd (if l.isEmpty then [] else Em V j l) (if l.isEmpty then [] else Ap D j l.length)), .one (.c (.bool (!l.isEmpty)))])
def Rn : Prop := ∀ (V : List ao) (D : List Int), V.length ≤ 1100 → D.length ≤ 1100 → aX aj 69 [nM V D] (aW (n5 D))
def Ru : Prop := ∀ (V W : List ao) (D E : List Int), V.length ≤ 1100 → D.length ≤ 1100 → W.length ≤ 1100 → E.length ≤ 1100 → aX aj 50 [nM V D, nM W E] (bF (decide (V = W) && decide (D = E)))
def Rm : Prop := ∀ (V : List ao) (D : List Int), V.length ≤ 1100 → D.length ≤ 1100 → aX aj 133 [nM V D] (nM V D)
theorem Ug : ai.bo (.w (.agg [.c (.slice none 0 0), .c (.slice none 0 0)])) (nM [] []) := J2 rfl fun j x y aa ag => by
 match j with
 | 0 => cases aa; cases ag; exact .inr ⟨rfl, 2, rfl⟩
 | 1 => cases aa; cases ag; exact .inr ⟨rfl, 1, rfl⟩
 | j + 2 => simp at aa
theorem acI {V l : List ao} {f t : Int} (au : 0 ≤ f ∧ f ≤ V.length) (aE : 0 ≤ t ∧ t ≤ V.length) (po : V.length ≤ 10000) (an : l.length ≤ 10000) : aX aj 181 [hk V, aW f, aW t, hk l] (hk (V.take f.toNat ++ l ++ V.drop t.toNat)) := by
 have J := Pl (LL := [V.take f.toNat, l, V.drop t.toNat]) (by show 3 ≤ 1100; decide) (by simp [cR]; omega);have dp : [V.take f.toNat, l, V.drop t.toNat].flatten = V.take f.toNat ++ l ++ V.drop t.toNat := by simp
 rw [dp] at J
 replace J : aX aj 186 [cI 1 3 [.p (cz 2 (V.take f.toNat).length (b3 (V.take f.toNat))), .p (cz 2 l.length (b3 l)), .p (cz 2 (V.drop t.toNat).length (b3 (V.drop t.toNat)))]] (hk (V.take f.toNat ++ l ++ V.drop t.toNat)) := J
 have a1 : 0 ≤ f := au.1;have a2 : f ≤ f := oL f;have a3 : f ≤ V.length := au.2;have a4 : 0 ≤ t := aE.1;have a5 : t ≤ V.length := aE.2;have SB : (V.length : Int) ≤ V.length := oL _;have m1 : f.toNat - 0 = (V.take f.toNat).length := by rw [eg]; omega
 have aI : ((b3 V).drop (0 * 2)).take ((V.take f.toNat).length * 2) = b3 (V.take f.toNat) := by
  have h : b3 V = b3 (V.take f.toNat) ++ b3 (V.drop f.toNat) := by rw [← r7, ks]
  rw [h, Nat.zero_mul, List.drop_zero, ← nw, List.take_left]
 have m2 : (V.length : Int).toNat - t.toNat = (V.drop t.toNat).length := by rw [hT]; omega
 have aN : ((b3 V).drop (t.toNat * 2)).take ((V.drop t.toNat).length * 2) = b3 (V.drop t.toNat) := by
  have h : b3 V = b3 (V.take t.toNat) ++ b3 (V.drop t.toNat) := by rw [← r7, ks]
  rw [h, show t.toNat * 2 = (b3 (V.take t.toNat)).length by rw [nw, eg]; omega, List.drop_left, Nj rfl]
 refine cl (f := 181) Tryz.func181 rfl rfl rfl rfl ?_;(repeat first | (with_reducible apply aA); exact rfl | (with_reducible apply dC); (iterate 3 exact rfl) | (with_reducible apply Fk); (iterate 4 exact rfl); (assumption); (assumption); (assumption); (assumption); (assumption); exact rfl | (with_reducible apply Fl); (iterate 5 exact rfl); (assumption); (assumption); (assumption); (assumption); (assumption); (assumption); exact rfl | (with_reducible apply l5); (iterate 10 exact rfl) | refine fN rfl rfl rfl (by (exact J)) rfl ?_ | (with_reducible apply hX); kernel_rfl | (with_reducible apply h0); kernel_rfl; kernel_rfl; exact rfl | (with_reducible first | apply bX | apply bN | apply bV | apply aB | apply cd))
 ((refine bU rfl (bE rfl bf) ?_))
 exact ai.bo.refl _
theorem acH {V l : List Int} {f t : Int} (au : 0 ≤ f ∧ f ≤ V.length) (aE : 0 ≤ t ∧ t ≤ V.length) (po : V.length ≤ 10000) (an : l.length ≤ 10000) : aX aj 182 [nN V, aW f, aW t, nN l] (nN (V.take f.toNat ++ l ++ V.drop t.toNat)) := by
 have J := Pk (LL := [V.take f.toNat, l, V.drop t.toNat]) (by show 3 ≤ 1100; decide) (by simp [cR]; omega);have dp : [V.take f.toNat, l, V.drop t.toNat].flatten = V.take f.toNat ++ l ++ V.drop t.toNat := by simp
 rw [dp] at J
 replace J : aX aj 187 [cI 1 3 [.p (cz 1 (V.take f.toNat).length (cD (V.take f.toNat))), .p (cz 1 l.length (cD l)), .p (cz 1 (V.drop t.toNat).length (cD (V.drop t.toNat)))]] (nN (V.take f.toNat ++ l ++ V.drop t.toNat)) := J
 have a1 : 0 ≤ f := au.1;have a2 : f ≤ f := oL f;have a3 : f ≤ V.length := au.2;have a4 : 0 ≤ t := aE.1;have a5 : t ≤ V.length := aE.2;have SB : (V.length : Int) ≤ V.length := oL _;have m1 : f.toNat - 0 = (V.take f.toNat).length := by rw [eg]; omega
 have aI : ((cD V).drop (0 * 1)).take ((V.take f.toNat).length * 1) = cD (V.take f.toNat) := by
  have h : cD V = cD (V.take f.toNat) ++ cD (V.drop f.toNat) := by rw [← CY, ks]
  rw [h, Nat.zero_mul, List.drop_zero, ← C0, List.take_left]
 have m2 : (V.length : Int).toNat - t.toNat = (V.drop t.toNat).length := by rw [hT]; omega
 have aN : ((cD V).drop (t.toNat * 1)).take ((V.drop t.toNat).length * 1) = cD (V.drop t.toNat) := by
  have h : cD V = cD (V.take t.toNat) ++ cD (V.drop t.toNat) := by rw [← CY, ks]
  rw [h, show t.toNat * 1 = (cD (V.take t.toNat)).length by rw [C0, eg]; omega, List.drop_left, M5 rfl]
 refine cl (f := 182) Tryz.func182 rfl rfl rfl rfl ?_;(repeat first | (with_reducible apply aA); exact rfl | (with_reducible apply dC); (iterate 3 exact rfl) | (with_reducible apply Fk); (iterate 4 exact rfl); (assumption); (assumption); (assumption); (assumption); (assumption); exact rfl | (with_reducible apply Fl); (iterate 5 exact rfl); (assumption); (assumption); (assumption); (assumption); (assumption); (assumption); exact rfl | (with_reducible apply l5); (iterate 10 exact rfl) | refine fN rfl rfl rfl (by (exact J)) rfl ?_ | (with_reducible apply hX); kernel_rfl | (with_reducible apply h0); kernel_rfl; kernel_rfl; exact rfl | (with_reducible first | apply bX | apply bN | apply bV | apply aB | apply cd))
 ((refine bU rfl (bE rfl bf) ?_))
 exact ai.bo.refl _
theorem Zj : Rm := by
 intro V D ab hd;have A7 := Pl (LL := [V]) (by show 1 ≤ 1100; decide) (by simp; omega);have A8 := Pk (LL := [D]) (by show 1 ≤ 1100; decide) (by simp; omega);rw [show [V].flatten = V by simp] at A7;rw [show [D].flatten = D by simp] at A8
 replace A7 : aX aj 186 [cI 1 1 [.p (cz 2 V.length (b3 V))]] (hk V) := A7
 replace A8 : aX aj 187 [cI 1 1 [.p (cz 1 D.length (cD D))]] (nN D) := A8
 refine cl (f := 133) Tryz.func133 rfl rfl rfl rfl ?_;(repeat first | (with_reducible apply aA); exact rfl | (with_reducible apply l5); (iterate 10 exact rfl) | refine fN rfl rfl rfl (by (first | exact A7 | exact A8)) rfl ?_ | (with_reducible apply hX); kernel_rfl | (with_reducible apply h0); kernel_rfl; kernel_rfl; exact rfl | (with_reducible first | apply bX | apply bN | apply bV | apply aB | apply cd))
 ((refine bU rfl (eV rfl rfl rfl bf) ?_))
 exact ai.bo.refl _
theorem afb {xs aV : List bG} (an : xs.length = aV.length) (h : ∀ (i : Nat) x y, xs[i]? = some x → aV[i]? = some y → ai.bo (.w x) (.w y)) : ai.bo (.cZ xs) (.cZ aV) := fun U ad W v hv => by
 obtain ⟨vs, e, aF, aY⟩ := hv
 exact ⟨vs, e, by rw [← an]; exact aF, fun i y u ag hu => by
  have hi : i < xs.length := by rw [an]; exact (bS.1 ag).1
  exact h i _ y (cm hi) ag U ad W u (aY i _ u (cm hi) hu)⟩
theorem VY : ai.bo (.cZ [.agg [.c (.slice none 0 0), .c (.slice none 0 0)], .one (.c (.bool false))]) (.cZ [.agg (vd [] []), .one (.c (.bool false))]) := afb rfl fun i x y aa ag => by
 match i with
 | 0 => cases aa; cases ag; exact Ug
 | 1 => cases aa; cases ag; exact ai.bo.refl _
 | i + 2 => simp at aa
theorem aeP {V l : List ao} {D : List Int} {j : Nat} (ab : V.length ≤ 1100) (hd : D.length ≤ 1100) (ae : j ≤ 1100)
  (cs : (j : Int) ≥ D.length ∨ (¬ (j : Int) ≥ D.length ∧ (j : Int) ≥ (V.length : Int) - 1) ∨ (¬ (j : Int) ≥ D.length ∧ ¬ (j : Int) ≥ (V.length : Int) - 1 ∧ (l.length : Int) = 0)) : aX aj 125 [nM V D, aW j, hk l] (.cZ [.agg (vd [] []), .one (.c (.bool false))]) := by
 have cY : ¬ (j : Int) < 0 := by omega
 generalize (j : Int) = fb at *;rcases cs with q1 | ⟨q1, q2⟩ | ⟨q1, q2, b5⟩
 all_goals
  refine cl (f := 125) Tryz.func125 rfl rfl rfl rfl ?_;(repeat first | (with_reducible apply aA); exact rfl | (with_reducible apply nX); (iterate 3 exact rfl); (exact da (by omega)); exact rfl | (with_reducible apply dC); (iterate 3 exact rfl) | (with_reducible apply c8 (c := true)); exact rfl; exact rfl; (exact bB (by omega)) | (with_reducible apply c8 (c := false)); exact rfl; exact rfl; (exact bR (by omega)) | (with_reducible first | apply bX | apply bN | apply bV | apply aB | apply cd | apply gy) | (with_reducible apply kE); exact rfl | (with_reducible apply hI); exact rfl; (exact bB (by omega)))
  ((refine bU rfl (eV rfl rfl rfl (bE rfl bf)) ?_))
  exact VY
theorem aeQ {V l : List ao} {D : List Int} {j : Nat} {fb n4 : Int} (iX : fb = j) (qq : D[j]? = some n4) (Md : 1 ≤ n4 ∧ n4 ≤ 1048576) (an : 0 < l.length) (kh : V.length = D.length + 1) (ab : V.length ≤ 1100) (n9 : l.length ≤ 1100) : aX aj 125 [nM V D, aW fb, hk l] (.cZ [.agg (vd (Em V j l) (Ap D j l.length)), .one (.c (.bool true))]) := by
 have CE : j < D.length := (bS.1 qq).1;have cY : ¬ fb < 0 := by omega
 have q1 : ¬ fb ≥ D.length := by omega
 have q2 : ¬ fb ≥ (V.length : Int) - 1 := by omega
 have b5 : ¬ (l.length : Int) = 0 := by omega
 have ew : fb < (D.length : Int) := by omega
 have iR := CZ iX qq;have kD := aca (d := n4 + 1) (m := l.length + 1) (by omega) (by omega);have iv := acI (V := V) (l := l) (f := fb + 1) (t := fb + 1) (by omega) (by omega) (by omega) (by omega);have Bc := acH (V := D) (l := List.replicate (l.length + 1) (n4 + 1)) (f := fb) (t := fb + 1) (by omega) (by omega) (by omega) (by rw [List.length_replicate]; omega);have aI : (fb + 1).toNat = j + 1 := by omega
 have aN : fb.toNat = j := by omega
 have cC : D.getD j 0 = n4 := by simp [List.getD, qq]
 have eH : D.take j ++ List.replicate (l.length + 1) (n4 + 1) ++ D.drop (j + 1) = Ap D j l.length := by unfold Ap; rw [cC]
 have k6 : V.take (j + 1) ++ l ++ V.drop (j + 1) = Em V j l := rfl;rw [aI, k6] at iv;rw [aI, aN, eH] at Bc;have rI : (((l.length + 1 : Nat) : Int)) = (l.length : Int) + 1 := by omega
 rw [rI] at kD;clear aI aN cC eH k6 rI;generalize Em V j l = JL at *;generalize Ap D j l.length = vI at *;generalize List.replicate (l.length + 1) (n4 + 1) = T at *;refine cl (f := 125) Tryz.func125 rfl rfl rfl rfl ?_;(repeat first | (with_reducible apply aA); exact rfl | (with_reducible apply qc); (iterate 5 exact rfl) | (with_reducible apply e7); (iterate 3 exact rfl); (omega); (omega); (assumption); exact rfl | (with_reducible apply fh); (iterate 3 exact rfl); (exact da (by omega)); exact rfl | (with_reducible apply nX); (iterate 3 exact rfl); (exact da (by omega)); exact rfl | (with_reducible apply dC); (iterate 3 exact rfl) | (with_reducible apply l5); (iterate 10 exact rfl) | refine dM rfl rfl rfl rfl (by (exact kD)) rfl ?_ | refine nb rfl rfl rfl rfl rfl rfl (by (first | exact iv | exact Bc)) rfl ?_ | (with_reducible apply c8 (c := false)); exact rfl; exact rfl; (exact bR (by omega)) | (with_reducible apply hX); kernel_rfl | (with_reducible apply h0); kernel_rfl; kernel_rfl; exact rfl | (with_reducible first | apply bX | apply bN | apply bV | apply aB | apply cd | apply fr) | (with_reducible apply hZ); exact rfl; (exact bR (by omega)))
 ((refine bU rfl (eV rfl rfl rfl (bE rfl bf)) ?_))
 exact ai.bo.refl _
theorem Zs : Rv := by
 intro V D j l po ab n9 ae uN;cases an : l with
 | nil => exact aeP (V := V) (D := D) (l := []) (j := j) (by omega) (by omega) (by omega) (.inr (.inr ⟨by omega, by omega, rfl⟩))
 | cons p m =>
  rw [← an];have e : l.isEmpty = false := by rw [an]; rfl
  rw [e];have GR : 0 < l.length := by rw [an]; exact jd _
  obtain ⟨n4, qq⟩ : ∃ n4, D[j]? = some n4 := ⟨_, cm ae⟩;exact aeQ (V := V) (l := l) (D := D) (j := j) rfl qq (uN n4 (dF qq)) GR po ab n9
theorem Uh (V : List ao) : ai.bo (.w (.agg [.p (cz 2 V.length (b3 V)), .c (.slice none 0 0)])) (nM V []) := J2 rfl fun j x y aa ag => by
 match j with
 | 0 => cases aa; cases ag; exact .inl rfl
 | 1 => cases aa; cases ag; exact .inr ⟨rfl, 1, rfl⟩
 | j + 2 => simp at aa
theorem Zn : Rq := by
 intro x y z w;cases al : dN x y z w with
 | true =>
  obtain ⟨rfl, rfl⟩ := rK.1 al;rw [show vi (x, y) (x, y) = [(x, y)] from if_pos rfl, show vh (x, y) (x, y) = [] from if_pos rfl];refine cl (f := 42) Tryz.func42 rfl rfl rfl rfl ?_;(repeat first | (with_reducible apply aA); exact rfl | (with_reducible apply vY); (iterate 4 exact rfl) | (with_reducible apply l5); (iterate 10 exact rfl) | (with_reducible first | apply bX | apply bN | apply bV | apply aB | apply cd | apply gy) | (with_reducible apply hI); exact rfl; (assumption))
  ((refine bU rfl (eV rfl rfl rfl bf) ?_))
  exact Uh [(x, y)]
 | false =>
  have aF : ¬ ((x, y) : ao) = (z, w) := fun e => by
   have := rK.2 (⟨congrArg Prod.fst e, congrArg Prod.snd e⟩ : x = z ∧ y = w);rw [al] at this; cases this
  rw [show vi (x, y) (z, w) = [(x, y), (z, w)] from if_neg aF, show vh (x, y) (z, w) = [1] from if_neg aF];refine cl (f := 42) Tryz.func42 rfl rfl rfl rfl ?_;(repeat first | (with_reducible apply aA); exact rfl | (with_reducible apply vY); (iterate 4 exact rfl) | (with_reducible apply l5); (iterate 10 exact rfl) | (with_reducible first | apply bX | apply bN | apply bV | apply aB | apply cd | apply fr) | (with_reducible apply hZ); exact rfl; (assumption))
  ((refine bU rfl (eV rfl rfl rfl bf) ?_))
  exact ai.bo.refl _
def RC (V : List ao) (D : List Int) (n : Nat) (aS : List (Nat × ai)) (bD : List (Nat × List AC)) : Prop :=
 ∃ (k : Nat) (fc d : Int), k ≤ D.length ∧ n = D.length - k ∧ fc = k ∧ d = n5 (D.take k) ∧ bD = [(1, vd V D)] ∧ aS = [(1, QS 1), (3, aW d), (7, cI 1 D.length (cD D)), (8, aW D.length), (9, aW fc)]
theorem U9 {D : List Int} {k : Nat} {d : Int} (h : D[k]? = some d) : n5 (D.take (k + 1)) = max (n5 (D.take k)) d := by
 have af := (bS.1 h).1
 have e : D.take (k + 1) = D.take k ++ [d] := by
  rw [nF af, (bS.1 h).2]
 unfold n5;rw [e, List.foldl_append]; rfl
theorem Zk : Rn := by
 intro V D ab hd;refine cl (f := 69) Tryz.func69 rfl rfl rfl rfl ?_;(repeat first | (with_reducible apply aA); exact rfl | (with_reducible apply dC); (iterate 3 exact rfl) | (with_reducible first | apply bX | apply bN | apply bV | apply aB | apply iS));refine yc 18 (RC V D) D.length _ [(1, vd V D)] ⟨0, 0, 0, eC _, rfl, rfl, rfl, rfl, rfl⟩ rfl ⟨rfl, rfl, rfl, rfl, rfl, trivial⟩ ⟨rfl, trivial⟩ rfl ?_;rintro n aS bD ⟨k, fc, d, af, rfl, kn, lI, rfl, rfl⟩ dU;clear dU
 by_cases al : k < D.length
 ·have q2 : fc < (D.length : Int) := by omega
  have b5 : 0 ≤ fc := by omega
  obtain ⟨e, g1⟩ : ∃ e, D[k]? = some e := ⟨_, cm al⟩;have iR := CZ kn g1;have aE := U9 g1;rw [← lI, show max d e = if e > d then e else d by split <;> omega] at aE;(repeat first | (with_reducible apply aA); exact rfl | (with_reducible apply qc); (iterate 5 exact rfl) | (with_reducible apply e7); (iterate 3 exact rfl); (omega); (omega); (assumption); exact rfl | (with_reducible apply fh); (iterate 3 exact rfl); (exact da (by omega)); exact rfl | (with_reducible apply uz); (iterate 4 exact rfl) | (with_reducible first | apply bX | apply bN | apply bV | apply aB | apply fr | apply iS | apply mX) | (with_reducible apply hI); exact rfl; (exact bB (by omega)));exact ⟨D.length - (k + 1), _, [(1, vd V D)], by omega, ⟨k + 1, fc + 1, _, by omega, rfl, by omega, aE.symm, rfl, rfl⟩, rfl, ⟨rfl, rfl, rfl, rfl, rfl, trivial⟩, ⟨rfl, trivial⟩, rfl⟩
 ·have q2 : ¬ fc < (D.length : Int) := by omega
  have dp : D.take k = D := hA (by omega);rw [dp] at lI;rw [← lI];(repeat first | (with_reducible apply aA); exact rfl | (with_reducible first | apply bX | apply bN | apply bV | apply aB | apply cd | apply vW | apply wb | apply wa) | (with_reducible apply hZ); exact rfl; (exact bR (by omega)))
  ((refine bU rfl (bE rfl bf) ?_))
  exact ai.bo.refl _
theorem QF {α : Type} {D E : List α} {k : Nat} {d e : α} (h : D.take k = E.take k) (g1 : D[k]? = some d) (g2 : E[k]? = some e) : (d = e → D.take (k + 1) = E.take (k + 1)) ∧ (d ≠ e → D ≠ E) := by
 refine ⟨fun hd => ?_, fun hd kh => hd ?_⟩
 ·rw [nF (bS.1 g1).1, nF (bS.1 g2).1, (bS.1 g1).2, (bS.1 g2).2, h, hd]
 ·rw [kh, g2] at g1; exact (mo g1).symm
def RE (D E : List Int) (n : Nat) (aS : List (Nat × ai)) (bD : List (Nat × List AC)) : Prop :=
 ∃ (k : Nat) (fc : Int), k ≤ D.length ∧ n = D.length - k ∧ fc = k ∧ D.take k = E.take k ∧ bD = [] ∧ aS = [(0, nN D), (1, nN E), (12, aW D.length), (13, aW fc)]
theorem abX {D E : List Int} (hd : D.length ≤ 1000000) : aX aj 98 [nN D, nN E] (bF (decide (D = E))) := by
 by_cases an : (D.length : Int) = E.length
 ·have XY : D.length = E.length := by omega
  refine cl (f := 98) Tryz.func98 rfl rfl rfl rfl ?_;(repeat first | (with_reducible apply aA); exact rfl | (with_reducible apply dC); (iterate 3 exact rfl) | (with_reducible first | apply bX | apply bN | apply bV | apply aB | apply fr | apply iS) | (with_reducible apply hZ); exact rfl; ((simp only [iz]; (omega))));refine yc 26 (RE D E) D.length _ [] ⟨0, 0, eC _, rfl, rfl, rfl, rfl, rfl⟩ rfl ⟨rfl, rfl, rfl, rfl, trivial⟩ trivial rfl ?_;rintro n aS bD ⟨k, fc, af, rfl, kn, lI, rfl, rfl⟩ dU;clear dU
  by_cases al : k < D.length
  ·have q2 : fc < (D.length : Int) := by omega
   have b5 : 0 ≤ fc := by omega
   have ew : fc < (E.length : Int) := by omega
   obtain ⟨d, g1⟩ : ∃ d, D[k]? = some d := ⟨_, cm al⟩;obtain ⟨e, g2⟩ : ∃ e, E[k]? = some e := ⟨_, cm (by omega)⟩;have iR := CZ kn g1;have p0 := CZ kn g2;have st := QF lI g1 g2
   by_cases he : d = e
   ·have aE := st.1 he;(repeat first | (with_reducible apply aA); exact rfl | (with_reducible apply qc); (iterate 5 exact rfl) | (with_reducible apply e7); (iterate 3 exact rfl); (omega); (omega); (assumption); exact rfl | (with_reducible apply fh); (iterate 3 exact rfl); (exact da (by omega)); exact rfl | (with_reducible apply hX); kernel_rfl | (with_reducible apply h0); kernel_rfl; kernel_rfl; exact rfl | (with_reducible first | apply bX | apply bN | apply bV | apply aB | apply fr | apply iS | apply mX) | (with_reducible apply hI); exact rfl; (exact bB (by omega)) | (with_reducible apply hZ); exact rfl; ((simp only [iz]; (omega))));exact ⟨D.length - (k + 1), _, [], by omega, ⟨k + 1, fc + 1, by omega, rfl, by omega, aE, rfl, rfl⟩, rfl, ⟨rfl, rfl, rfl, rfl, trivial⟩, trivial, rfl⟩
   ·rw [bR (st.2 he)];(repeat first | (with_reducible apply aA); exact rfl | (with_reducible apply qc); (iterate 5 exact rfl) | (with_reducible apply e7); (iterate 3 exact rfl); (omega); (omega); (assumption); exact rfl | (with_reducible apply hX); kernel_rfl | (with_reducible apply h0); kernel_rfl; kernel_rfl; exact rfl | (with_reducible first | apply bX | apply bN | apply bV | apply aB | apply cd | apply fr | apply gy | apply iS | apply rs) | (with_reducible apply hI); exact rfl; (first | exact bB (by omega) | (simp only [iz]; (omega))))
    ((refine bU rfl (bE rfl bf) ?_))
    exact ai.bo.refl _
  ·have q2 : ¬ fc < (D.length : Int) := by omega
   rw [hA (by omega), hA (by omega)] at lI;rw [bB lI];(repeat first | (with_reducible apply aA); exact rfl | (with_reducible first | apply bX | apply bN | apply bV | apply aB | apply cd | apply vW | apply wb | apply wa) | (with_reducible apply hZ); exact rfl; (exact bR (by omega)))
   ((refine bU rfl (bE rfl bf) ?_))
   exact ai.bo.refl _
 ·rw [bR (show ¬ D = E from fun e => an (by rw [e]))];refine cl (f := 98) Tryz.func98 rfl rfl rfl rfl ?_;(repeat first | (with_reducible apply aA); exact rfl | (with_reducible apply dC); (iterate 3 exact rfl) | (with_reducible first | apply bX | apply bN | apply bV | apply aB | apply cd | apply gy) | (with_reducible apply hI); exact rfl; ((simp only [iz]; (omega))))
  ((refine bU rfl (bE rfl bf) ?_))
  exact ai.bo.refl _
def RF (D E : List ao) (n : Nat) (aS : List (Nat × ai)) (bD : List (Nat × List AC)) : Prop :=
 ∃ (k : Nat) (fc : Int), k ≤ D.length ∧ n = D.length - k ∧ fc = k ∧ D.take k = E.take k ∧ bD = [] ∧ aS = [(0, hk D), (1, hk E), (12, aW D.length), (13, aW fc)]
theorem Ie {D E : List ao} (hd : D.length ≤ 1000000) : aX aj 84 [hk D, hk E] (bF (decide (D = E))) := by
 by_cases an : (D.length : Int) = E.length
 ·have XY : D.length = E.length := by omega
  refine cl (f := 84) Tryz.func84 rfl rfl rfl rfl ?_;(repeat first | (with_reducible apply aA); exact rfl | (with_reducible apply dC); (iterate 3 exact rfl) | (with_reducible first | apply bX | apply bN | apply bV | apply aB | apply fr | apply iS) | (with_reducible apply hZ); exact rfl; ((simp only [iz]; (omega))));refine yc 26 (RF D E) D.length _ [] ⟨0, 0, eC _, rfl, rfl, rfl, rfl, rfl⟩ rfl ⟨rfl, rfl, rfl, rfl, trivial⟩ trivial rfl ?_;rintro n aS bD ⟨k, fc, af, rfl, kn, lI, rfl, rfl⟩ dU;clear dU
  by_cases al : k < D.length
  ·have q2 : fc < (D.length : Int) := by omega
   have b5 : 0 ≤ fc := by omega
   have ew : fc < (E.length : Int) := by omega
   obtain ⟨x, y, g1⟩ : ∃ x y, D[k]? = some (x, y) := ⟨_, _, cm al⟩;obtain ⟨z, w, g2⟩ : ∃ z w, E[k]? = some (z, w) := ⟨_, _, cm (by omega)⟩;have iR := va kn g1;have p0 := va kn g2;have st := QF lI g1 g2;cases he : dN x y z w with
   | true =>
    have aE := st.1 (by obtain ⟨rfl, rfl⟩ := rK.1 he; rfl);(repeat first | (with_reducible apply aA); exact rfl | (with_reducible apply fZ); (iterate 5 exact rfl) | (with_reducible apply e7); (iterate 3 exact rfl); (omega); (omega); (assumption); exact rfl | (with_reducible apply x8); (iterate 4 exact rfl) | (with_reducible apply fh); (iterate 3 exact rfl); (exact da (by omega)); exact rfl | (with_reducible apply hX); kernel_rfl | (with_reducible apply h0); kernel_rfl; kernel_rfl; exact rfl | (with_reducible first | apply bX | apply bN | apply bV | apply aB | apply fr | apply iS | apply mX) | (with_reducible apply hI); exact rfl; (exact bB (by omega)) | (with_reducible apply hZ); exact rfl; ((simp only [iz]; (omega))));exact ⟨D.length - (k + 1), _, [], by omega, ⟨k + 1, fc + 1, by omega, rfl, by omega, aE, rfl, rfl⟩, rfl, ⟨rfl, rfl, rfl, rfl, trivial⟩, trivial, rfl⟩
   | false =>
    rw [bR (st.2 fun e => by
     have := rK.2 (⟨congrArg Prod.fst e, congrArg Prod.snd e⟩ : x = z ∧ y = w);rw [he] at this; cases this)]
    (repeat first | (with_reducible apply aA); exact rfl | (with_reducible apply fZ); (iterate 5 exact rfl) | (with_reducible apply e7); (iterate 3 exact rfl); (omega); (omega); (assumption); exact rfl | (with_reducible apply x8); (iterate 4 exact rfl) | (with_reducible apply hX); kernel_rfl | (with_reducible apply h0); kernel_rfl; kernel_rfl; exact rfl | (with_reducible first | apply bX | apply bN | apply bV | apply aB | apply cd | apply fr | apply gy | apply iS | apply rs) | (with_reducible apply hI); exact rfl; (first | exact bB (by omega) | (simp only [iz]; (omega))))
    ((refine bU rfl (bE rfl bf) ?_))
    exact ai.bo.refl _
  ·have q2 : ¬ fc < (D.length : Int) := by omega
   rw [hA (by omega), hA (by omega)] at lI;rw [bB lI];(repeat first | (with_reducible apply aA); exact rfl | (with_reducible first | apply bX | apply bN | apply bV | apply aB | apply cd | apply vW | apply wb | apply wa) | (with_reducible apply hZ); exact rfl; (exact bR (by omega)))
   ((refine bU rfl (bE rfl bf) ?_))
   exact ai.bo.refl _
 ·rw [bR (show ¬ D = E from fun e => an (by rw [e]))];refine cl (f := 84) Tryz.func84 rfl rfl rfl rfl ?_;(repeat first | (with_reducible apply aA); exact rfl | (with_reducible apply dC); (iterate 3 exact rfl) | (with_reducible first | apply bX | apply bN | apply bV | apply aB | apply cd | apply gy) | (with_reducible apply hI); exact rfl; ((simp only [iz]; (omega))))
  ((refine bU rfl (bE rfl bf) ?_))
  exact ai.bo.refl _
theorem Zr : Ru := by
 intro V W D E h1 h2 ap aL;have aP := Ie (D := V) (E := W) (by omega);have cc := abX (D := D) (E := E) (by omega);generalize decide (V = W) = p1 at *;generalize decide (D = E) = p2 at *;cases p1 with
 | false =>
  refine cl (f := 50) Tryz.func50 rfl rfl rfl rfl ?_;(repeat first | (with_reducible apply aA); exact rfl | refine dM rfl rfl rfl rfl (by (exact aP)) rfl ?_ | (with_reducible first | apply bX | apply bN | apply bV | apply aB | apply cd))
  ((refine bU rfl (bE rfl bf) ?_))
  exact ai.bo.refl _
 | true =>
  refine cl (f := 50) Tryz.func50 rfl rfl rfl rfl ?_;(repeat first | (with_reducible apply aA); exact rfl | refine dM rfl rfl rfl rfl (by (first | exact aP | exact cc)) rfl ?_ | (with_reducible first | apply bX | apply bN | apply bV | apply aB | apply cd))
  ((refine bU rfl (bE rfl bf) ?_))
  exact ai.bo.refl _
def p9 (r : Int) (L : List ao) (x y : Int) : List ao := if 0 ≤ kU L x y then L else if r ≤ (L.length : Int) then L else L ++ [(x, y)]
def mY (r : Int) (L : List ao) (x y : Int) : Bool := if 0 ≤ kU L x y then false else if r ≤ (L.length : Int) then false else true
def mZ (r : Int) (L : List ao) (x y : Int) : Int := if 0 ≤ kU L x y then 0 else if r ≤ (L.length : Int) then 90 else 0
theorem tO {L : List ao} {x y : Int} : 0 ≤ kU L x y ↔ (x, y) ∈ L := by
 unfold kU;cases h : L.findIdx? fun e => decide (e.1 = x) && decide (e.2 = y) with
 | none =>
  rw [List.findIdx?_eq_none_iff] at h;refine ⟨fun aC => absurd aC (by decide), fun aC => ?_⟩;have := h _ aC;simp at this
 | some k =>
  obtain ⟨af, h1, _⟩ := List.findIdx?_eq_some_iff_getElem.1 h;simp only [dQ, cB] at h1;refine ⟨fun _ => ?_, fun _ => Int.natCast_nonneg k⟩;have : L[k] = (x, y) := Prod.ext h1.1 h1.2;rw [← this]; exact List.getElem_mem af
abbrev Bg := Int → List ao → Value → eZ → Prop
def Rr (uw : Bg) : Prop := ∀ n : Int, E8 aj 54 [aW n] fun p S => ∃ b, p = dP b ∧ uw (sC n) [] p S
def Rl (uw : Bg) : Prop := ∀ (r : Int) L b S (x y : Int), uw r L (dP b) S → L.length ≤ 1100 → xZ aj 154 [aQ (dP b), bh x y] (dP b) S fun v dd => v = .cZ [.one (.c (.bool (mY r L x y))), .one (.c (.int .i64 (mZ r L x y)))] ∧ uw r (p9 r L x y) (dP b) dd
def Rt (uw : Bg) : Prop := ∀ (r : Int) L b S, uw r L (dP b) S → L.length ≤ 1100 → xZ aj 56 [aQ (dP b)] (dP b) S fun v dd => v = aW r ∧ uw r L (dP b) dd
end Go.Proofs.YtpochbhajmbfdaaGreat
namespace Go.Proofs.YtpochbhajmbfdaaGreat
def e4 (l : List di) (x y : Int) : Nat := (tV l x y).length
theorem Px (l : List di) (x y : Int) : e4 l x y ≤ l.length := ac9 l x y
theorem xm : ∀ {l : List di} (h : jN l) (x y : Int) (k : Nat) (e : di), l[k]? = some e → (k < e4 l x y ↔ lQ e.1 e.2.1 x y = true)
 | [], _, _, _, k, e, af => by simp at af
 | f :: l, h, x, y, k, e, af => by
  have ak := iN.1 h
  by_cases au : lQ f.1 f.2.1 x y = true
  ·have hp : e4 (f :: l) x y = e4 l x y + 1 := by
    unfold e4 tV;rw [List.filter_cons, if_pos au]; rfl
   rw [hp];cases k with
   | zero => simp at af; subst af; simp [au]
   | succ k =>
    have := xm ak.2 x y k e (by simpa using af);rw [← this]; omega
  ·have cX : ∀ g ∈ f :: l, ¬ lQ g.1 g.2.1 x y = true := by
    intro g aw;rcases gI.1 aw with rfl | aw
    ·exact au
    ·have h1 := ak.1 g aw;rw [oE] at h1 au ⊢;omega
   have hp : e4 (f :: l) x y = 0 := by
    unfold e4 tV;rw [List.filter_eq_nil_iff.2 cX]; rfl
   rw [hp];have := cX e (dF af);simp [this]
theorem IX {l : List di} (h : jN l) {x y : Int} : ∀ e ∈ l.take (e4 l x y), lQ e.1 e.2.1 x y = true := by
 intro e he;obtain ⟨k, af⟩ := jX he;have bi := (bS.1 af).1;rw [eg] at bi;rw [fK (by omega)] at af;exact (xm h x y k e af).1 (by omega)
theorem K4 {l : List di} (h : jN l) {x y : Int} : ∀ e ∈ l.drop (e4 l x y), ¬ lQ e.1 e.2.1 x y = true := by
 intro e he;obtain ⟨k, af⟩ := jX he;rw [gj] at af;intro bi;have := (xm h x y _ e af).2 bi;omega
theorem PK {l : List di} (h : jN l) {x y : Int} : tV l x y = l.take (e4 l x y) := by
 conv => lhs; rw [← ks (e4 l x y) l]
 unfold tV;rw [List.filter_append, List.filter_eq_self.2 (IX h), List.filter_eq_nil_iff.2 (K4 h), pF]
theorem Cs {l : List di} (h : jN l) {x y : Int} : gV l x y = true ↔ ∃ u, l[e4 l x y]? = some (x, y, u) := by
 constructor
 ·intro aY;unfold gV at aY;rw [List.any_eq_true] at aY;obtain ⟨e, he, al⟩ := aY;simp only [dQ, cB] at al;obtain ⟨k, af⟩ := jX he;have h1 := xm h x y k e af;have h2 : ¬ k < e4 l x y := by rw [h1, oE]; omega
  have GQ := (bS.1 af).1;have og : e4 l x y < l.length := by omega
  have hp := cm og;have ap := xm h x y _ _ hp
  by_cases bu : k = e4 l x y
  ·refine ⟨e.2.2, ?_⟩;rw [← bu, af];exact congrArg some (Prod.ext al.1 (Prod.ext al.2 rfl))
  ·exfalso;have aL := List.pairwise_iff_getElem.1 h (e4 l x y) k og GQ (by omega);have gU : l[k] = e := (bS.1 af).2;rw [gU, oE] at aL;have dx : lQ l[e4 l x y].1 l[e4 l x y].2.1 x y = true := by rw [oE]; omega
   have := ap.2 dx;omega
 ·rintro ⟨u, hu⟩;exact List.any_eq_true.2 ⟨_, dF hu, by simp⟩
theorem Va {l : List di} (h : jN l) {x y : Int} (aF : gV l x y = false) : ∀ e ∈ l.drop (e4 l x y), lQ x y e.1 e.2.1 = true := by
 intro e he;have h1 := K4 h e he
 have h2 : ¬ (e.1 = x ∧ e.2.1 = y) := by
  rintro ⟨ap, aL⟩;have : gV l x y = true := List.any_eq_true.2 ⟨_, mO he, by simp [ap, aL]⟩;rw [aF] at this; cases this
 rw [oE] at *;omega
theorem PL {l : List di} (h : jN l) {x y v : Int} (aF : gV l x y = false) : sn l x y v = l.take (e4 l x y) ++ (x, y, v) :: l.drop (e4 l x y) := by
 unfold sn;rw [PK h];congr 2
 conv => lhs; rw [← ks (e4 l x y) l]
 unfold DQ;rw [List.filter_append, List.filter_eq_self.2 (Va h aF), List.filter_eq_nil_iff.2 fun e he => ?_, List.nil_append];have := IX h e he;rw [oE] at *;omega
theorem ada {l : List di} (h : jN l) {x y v u : Int} (hp : l[e4 l x y]? = some (x, y, u)) : sn l x y v = l.take (e4 l x y) ++ (x, y, v) :: l.drop (e4 l x y + 1) := by
 unfold sn;rw [PK h];congr 2;have an := (bS.1 hp).1;have he := (bS.1 hp).2
 conv => lhs; rw [← ks (e4 l x y) l]
 unfold DQ;rw [List.filter_append, List.filter_eq_nil_iff.2 (fun e he => by have := IX h e he; rw [oE] at *; omega), List.nil_append, nE an, he, List.filter_cons_of_neg (by rw [oE]; simp)];refine List.filter_eq_self.2 fun e hm => ?_;obtain ⟨k, af⟩ := jX hm;rw [gj] at af;have GQ := (bS.1 af).1;have aL := List.pairwise_iff_getElem.1 h (e4 l x y) _ an GQ (by omega);rw [he, (bS.1 af).2] at aL;exact aL
theorem afp {l : List di} (h : jN l) {x y u : Int} (hp : l[e4 l x y]? = some (x, y, u)) : gV l x y = true ∧ nP l x y = u := QT h (dF hp)
abbrev ac4 (e : di) : ao := (e.1, e.2.1)
def oC : Nat → List ao → List di
 | _, [] => []
 | k, p :: l => (p.1, p.2, (k : Int)) :: oC (k + 1) l
theorem OK : ∀ (k : Nat) (l : List ao) (p : ao), oC k (l ++ [p]) = oC k l ++ [(p.1, p.2, ((k + l.length : Nat) : Int))]
 | k, [], p => by simp [oC]
 | k, q :: l, p => by
  simp only [List.cons_append, oC, OK (k + 1) l p, lm];rw [show k + 1 + l.length = k + (l.length + 1) by omega]
theorem OL : ∀ (k : Nat) (l : List ao), (oC k l).map ac4 = l
 | _, [] => rfl
 | k, p :: l => by simp only [oC, kv, OL (k + 1) l]
theorem abk (k : Nat) (l : List ao) : (oC k l).length = l.length := by
 have := congrArg List.length (OL k l);rwa [lU] at this
theorem Ia : ∀ (k : Nat) (l : List ao) (x y w : Int), (x, y, w) ∈ oC k l ↔ ∃ i : Nat, l[i]? = some (x, y) ∧ w = ((k + i : Nat) : Int)
 | k, [], x, y, w => by simp [oC]
 | k, p :: l, x, y, w => by
  rw [oC, gI, Ia (k + 1) l x y w]
  constructor
  ·rintro (h | ⟨i, h1, h2⟩)
   ·simp only [Prod.mk.injEq] at h;exact ⟨0, by rw [tX, h.1, h.2.1], by rw [h.2.2]; rfl⟩
   ·exact ⟨i + 1, by rw [List.getElem?_cons_succ]; exact h1, by rw [h2]; omega⟩
  ·rintro ⟨i, h1, h2⟩
   match i with
   | 0 => rw [tX] at h1; cases h1; exact .inl (by rw [h2]; rfl)
   | i + 1 => rw [List.getElem?_cons_succ] at h1; exact .inr ⟨i, h1, by rw [h2]; omega⟩
def mV (L : List ao) (es : List di) : Prop := jN es ∧ es.Perm (oC 0 L) ∧ L.Nodup
theorem mV.len {L : List ao} {es : List di} (h : mV L es) : es.length = L.length := by rw [h.2.1.length_eq, abk]
theorem abl {L : List ao} (aF : L.Nodup) {i : Nat} {x y : Int} (h : L[i]? = some (x, y)) : kU L x y = (i : Int) := by
 have aG : 0 ≤ kU L x y := tO.2 (dF h);unfold kU at aG ⊢;cases au : L.findIdx? fun e => decide (e.1 = x) && decide (e.2 = y) with
 | none => rw [au] at aG; exact absurd aG (by decide)
 | some k =>
  obtain ⟨af, h1, _⟩ := List.findIdx?_eq_some_iff_getElem.1 au;simp only [dQ, cB] at h1;have aI : L[k] = (x, y) := Prod.ext h1.1 h1.2;obtain ⟨hi, aN⟩ := bS.1 h;have := (List.getElem_inj (h₀ := af) (h₁ := hi) aF).1 (aI.trans aN.symm);rw [this]
theorem W8 {es : List di} {a b : Int} : gV es a b = true ↔ ∃ w, (a, b, w) ∈ es := by
 unfold gV;rw [List.any_eq_true]
 constructor
 ·rintro ⟨⟨p, q, w⟩, h1, h2⟩;simp only [dQ, cB] at h2;exact ⟨w, by rw [← h2.1, ← h2.2]; exact h1⟩
 ·rintro ⟨w, h⟩;exact ⟨_, h, by simp⟩
theorem mV.num {L : List ao} {es : List di} (h : mV L es) (x y : Int) : gV es x y = decide (0 ≤ kU L x y) ∧ (0 ≤ kU L x y → nP es x y = kU L x y) := by
 by_cases aY : 0 ≤ kU L x y
 ·obtain ⟨i, hi⟩ := jX (tO.1 aY);have hm : (x, y, ((0 + i : Nat) : Int)) ∈ es := h.2.1.mem_iff.2 ((Ia 0 L x y _).2 ⟨i, hi, rfl⟩);have h1 := QT h.1 hm;exact ⟨by rw [h1.1, bB aY], fun _ => by rw [h1.2, abl h.2.2 hi, jF]⟩
 ·refine ⟨?_, fun aC => absurd aC aY⟩;rw [bR aY];cases he : gV es x y with
  | false => rfl
  | true =>
   obtain ⟨w, hw⟩ := W8.1 he;obtain ⟨i, hi, _⟩ := (Ia 0 L x y w).1 (h.2.1.mem_iff.1 hw);exact absurd (tO.2 (dF hi)) aY
theorem mV.add {L : List ao} {es : List di} (h : mV L es) {x y : Int} (aF : ¬ 0 ≤ kU L x y) : mV (L ++ [(x, y)]) (sn es x y L.length) := by
 have cn : gV es x y = false := by rw [(h.num x y).1]; exact bR aF
 refine ⟨adb h.1 x y L.length, ?_, ?_⟩
 ·rw [PL h.1 cn, OK, jF];refine List.perm_middle.trans ?_;rw [ks];refine (h.2.1.cons _).trans ?_;exact (List.perm_append_singleton _ _).symm
 ·rw [List.nodup_append];refine ⟨h.2.2, by simp, fun a aK b ab e => ?_⟩;rw [jc] at ab;subst ab; subst e;exact aF (tO.2 aK)
theorem mV.nil : mV [] [] := ⟨.nil, .refl _, .nil⟩
theorem SK {r : Int} {L : List ao} {x y : Int} (h : 0 ≤ kU L x y) : p9 r L x y = L ∧ mY r L x y = false ∧ mZ r L x y = 0 := by unfold p9 mY mZ; rw [if_pos h, if_pos h, if_pos h]; exact ⟨rfl, rfl, rfl⟩
theorem SJ {r : Int} {L : List ao} {x y : Int} (h : ¬ 0 ≤ kU L x y) (h2 : r ≤ (L.length : Int)) : p9 r L x y = L ∧ mY r L x y = false ∧ mZ r L x y = 90 := by unfold p9 mY mZ; rw [if_neg h, if_neg h, if_neg h, if_pos h2, if_pos h2, if_pos h2]; exact ⟨rfl, rfl, rfl⟩
theorem SL {r : Int} {L : List ao} {x y : Int} (h : ¬ 0 ≤ kU L x y) (h2 : ¬ r ≤ (L.length : Int)) : p9 r L x y = L ++ [(x, y)] ∧ mY r L x y = true ∧ mZ r L x y = 0 := by unfold p9 mY mZ; rw [if_neg h, if_neg h, if_neg h, if_neg h2, if_neg h2, if_neg h2]; exact ⟨rfl, rfl, rfl⟩
end Go.Proofs.YtpochbhajmbfdaaGreat
namespace Go.Proofs.YtpochbhajmbfdaaGreat
open Go.RowKit
abbrev gG (v : Value) (l : List di) : bL := ⟨261, 3, v, l.length, dX l⟩
end Go.Proofs.YtpochbhajmbfdaaGreat
namespace Go.Proofs.YtpochbhajmbfdaaGreat
theorem OY {a1 a2 b1 b2 p1 p2 : Int} (h : cf a1 a2 b1 b2 p1 p2 = 0) : (b2 - a2) * a1 + (a1 - b1) * a2 = (b2 - a2) * p1 + (a1 - b1) * p2 := by unfold cf at h; grind
theorem O0 {a1 a2 b1 b2 c1 c2 d1 d2 p1 p2 : Int} (h : cf a1 a2 b1 b2 p1 p2 = 0) (k : cf c1 c2 d1 d2 p1 p2 = 0) :
  jz a1 a2 b1 b2 c1 c2 d1 d2 = p1 * cW a1 a2 b1 b2 c1 c2 d1 d2 ∧ jA a1 a2 b1 b2 c1 c2 d1 d2 = p2 * cW a1 a2 b1 b2 c1 c2 d1 d2 := by
 have e := OY h;have f := OY k;unfold jz jA cW;rw [e, f]
 constructor <;> grind
theorem Dy (p w : Int) : jb (p * w) w = p * h9 w := by
 unfold jb h9
 split
 ·rw [Int.mul_neg]
 ·rfl
theorem BA {p d a b : Int} (aG : gE a b ≤ p) (h1 : p ≤ gD a b) (hd : 0 < d) : kF (p * d) d a b :=
 ⟨pI aG (by omega), pI h1 (by omega)⟩
theorem LB {a1 a2 b1 b2 c1 c2 d1 d2 p1 p2 d : Int} (h : dj p1 p2 a1 a2 b1 b2) (k : dj p1 p2 c1 c2 d1 d2) (hd : 0 < d) : four a1 a2 b1 b2 c1 c2 d1 d2 (p1 * d) (p2 * d) d :=
 ⟨BA h.2.1 h.2.2.1 hd, BA h.2.2.2.1 h.2.2.2.2 hd, BA k.2.1 k.2.2.1 hd, BA k.2.2.2.1 k.2.2.2.2 hd⟩
theorem aaO {a1 a2 b1 b2 c1 c2 d1 d2 : Int} (h : cW a1 a2 b1 b2 c1 c2 d1 d2 = 0) :
  (hO a1 a2 b1 b2 c1 c2 d1 d2 = ht ∧ ∀ p1 p2, dj p1 p2 a1 a2 b1 b2 → ¬ dj p1 p2 c1 c2 d1 d2) ∨
  ∃ f1 f2 g1 g2, hO a1 a2 b1 b2 c1 c2 d1 d2 = u4 f1 f2 g1 g2 ∧ dl f1 f2 g1 g2 ∧ dj f1 f2 a1 a2 b1 b2 ∧ dj f1 f2 c1 c2 d1 d2 ∧ dj g1 g2 a1 a2 b1 b2 ∧ dj g1 g2 c1 c2 d1 d2
   ∧ f1 = en (eB a1 a2 b1 b2) (ef a1 a2 b1 b2) (eB c1 c2 d1 d2) (ef c1 c2 d1 d2) ∧ f2 = dO (eB a1 a2 b1 b2) (ef a1 a2 b1 b2) (eB c1 c2 d1 d2) (ef c1 c2 d1 d2)
   ∧ g1 = eB (en a1 a2 b1 b2) (dO a1 a2 b1 b2) (en c1 c2 d1 d2) (dO c1 c2 d1 d2) ∧ g2 = ef (en a1 a2 b1 b2) (dO a1 a2 b1 b2) (en c1 c2 d1 d2) (dO c1 c2 d1 d2)
   ∧ ∀ p1 p2, dj p1 p2 a1 a2 b1 b2 → dj p1 p2 c1 c2 d1 d2 → dl f1 f2 p1 p2 ∧ dl p1 p2 g1 g2 := by
 have hs := w5 a1 a2 b1 b2;have aE := w5 c1 c2 d1 d2
 have hw : oG (eB a1 a2 b1 b2) (ef a1 a2 b1 b2) (en a1 a2 b1 b2) (dO a1 a2 b1 b2) (eB c1 c2 d1 d2) (ef c1 c2 d1 d2) (en c1 c2 d1 d2) (dO c1 c2 d1 d2) = 0 := by
  have h1 := EC a1 a2 b1 b2 c1 c2 d1 d2;have h2 := Ay a1 a2 b1 b2 c1 c2 d1 d2;have ap := Ay b1 b2 a1 a2 c1 c2 d1 d2;rw [← QW];rcases mH a1 a2 b1 b2 with ⟨h1, h2, ap, aL, _⟩ | ⟨h1, h2, ap, aL, _⟩ <;> rcases mH c1 c2 d1 d2 with ⟨bA, b9, hr, iZ, _⟩ | ⟨bA, b9, hr, iZ, _⟩ <;> rw [h1, h2, ap, aL, bA, b9, hr, iZ] <;> omega
 have xA : ∀ p1 p2, dj p1 p2 (eB a1 a2 b1 b2) (ef a1 a2 b1 b2) (en a1 a2 b1 b2) (dO a1 a2 b1 b2) ↔ dj p1 p2 a1 a2 b1 b2 := fun _ _ => zU;have tO9 : ∀ p1 p2, dj p1 p2 (eB c1 c2 d1 d2) (ef c1 c2 d1 d2) (en c1 c2 d1 d2) (dO c1 c2 d1 d2) ↔ dj p1 p2 c1 c2 d1 d2 := fun _ _ => zU;unfold hO;rw [if_pos h];unfold u5 inl;generalize eB a1 a2 b1 b2 = s1 at *;generalize ef a1 a2 b1 b2 = s2 at *;generalize en a1 a2 b1 b2 = bO at *;generalize dO a1 a2 b1 b2 = bT at *;generalize eB c1 c2 d1 d2 = t1 at *;generalize ef c1 c2 d1 d2 = t2 at *;generalize en c1 c2 d1 d2 = t3 at *;generalize dO c1 c2 d1 d2 = t4 at *;have key := fun p1 p2 => @NM s1 s2 bO bT t1 t2 t3 t4 p1 p2 hs aE hw
 by_cases q : dj (en s1 s2 t1 t2) (dO s1 s2 t1 t2) s1 s2 bO bT ∧ dj (en s1 s2 t1 t2) (dO s1 s2 t1 t2) t1 t2 t3 t4
 ·right;rw [if_pos q];obtain ⟨cE, cF, jj, kZ, aiH, afi⟩ := key _ _ q.1 q.2;exact ⟨_, _, _, _, rfl, afi, (xA _ _).1 cE, (tO9 _ _).1 cF, (xA _ _).1 jj, (tO9 _ _).1 kZ, rfl, rfl, rfl, rfl, fun p1 p2 hp al => ⟨(key p1 p2 ((xA _ _).2 hp) ((tO9 _ _).2 al)).2.2.2.2.1, (key p1 p2 ((xA _ _).2 hp) ((tO9 _ _).2 al)).2.2.2.2.2⟩⟩
 ·left;rw [if_neg q];exact ⟨rfl, fun p1 p2 hp al => q ⟨(key p1 p2 ((xA _ _).2 hp) ((tO9 _ _).2 al)).1, (key p1 p2 ((xA _ _).2 hp) ((tO9 _ _).2 al)).2.1⟩⟩
theorem abG {a1 a2 b1 b2 f1 f2 g1 g2 p1 p2 : Int} (au : dj f1 f2 a1 a2 b1 b2) (aw : dj g1 g2 a1 a2 b1 b2) (hp : dj p1 p2 a1 a2 b1 b2) (aG : dl f1 f2 p1 p2) (h1 : dl p1 p2 g1 g2) : dj p1 p2 f1 f2 g1 g2 := by
 refine (vk (aG.trans h1)).2 ⟨?_, aG, h1⟩
 by_cases e : a1 = b1 ∧ a2 = b2
 ·obtain ⟨rfl, rfl⟩ := e;obtain ⟨rfl, rfl⟩ := zT au;obtain ⟨rfl, rfl⟩ := zT aw;obtain ⟨rfl, rfl⟩ := zT hp;exact FG ..
 ·have a := au.1;have b := aw.1;have c := hp.1;unfold cf at *;have d1 : (b1 - a1) * ((g1 - f1) * (p2 - f2) - (g2 - f2) * (p1 - f1)) = 0 := by grind
  have d2 : (b2 - a2) * ((g1 - f1) * (p2 - f2) - (g2 - f2) * (p1 - f1)) = 0 := by grind
  rcases sr.1 d1 with bu | bu
  ·rcases sr.1 d2 with f | f
   ·omega
   ·exact f
  ·exact bu
theorem aaN (a1 a2 b1 b2 c1 c2 d1 d2 : Int) :
  (hO a1 a2 b1 b2 c1 c2 d1 d2 = ht ∧ ∀ p1 p2, dj p1 p2 a1 a2 b1 b2 → ¬ dj p1 p2 c1 c2 d1 d2) ∨
  (∃ x y d, hO a1 a2 b1 b2 c1 c2 d1 d2 = iK x d y d ∧ 0 < d ∧ (d = 1 ∨ d = h9 (cW a1 a2 b1 b2 c1 c2 d1 d2)) ∧ four a1 a2 b1 b2 c1 c2 d1 d2 x y d ∧ ∀ p1 p2, dj p1 p2 a1 a2 b1 b2 → dj p1 p2 c1 c2 d1 d2 → x = p1 * d ∧ y = p2 * d) ∨
  (∃ f1 f2 g1 g2, hO a1 a2 b1 b2 c1 c2 d1 d2 = sT f1 f2 g1 g2 ∧ ¬ (f1 = g1 ∧ f2 = g2) ∧ dl f1 f2 g1 g2 ∧ dj f1 f2 a1 a2 b1 b2 ∧ dj f1 f2 c1 c2 d1 d2 ∧ dj g1 g2 a1 a2 b1 b2 ∧ dj g1 g2 c1 c2 d1 d2
   ∧ f1 = en (eB a1 a2 b1 b2) (ef a1 a2 b1 b2) (eB c1 c2 d1 d2) (ef c1 c2 d1 d2) ∧ f2 = dO (eB a1 a2 b1 b2) (ef a1 a2 b1 b2) (eB c1 c2 d1 d2) (ef c1 c2 d1 d2)
   ∧ g1 = eB (en a1 a2 b1 b2) (dO a1 a2 b1 b2) (en c1 c2 d1 d2) (dO c1 c2 d1 d2) ∧ g2 = ef (en a1 a2 b1 b2) (dO a1 a2 b1 b2) (en c1 c2 d1 d2) (dO c1 c2 d1 d2)
   ∧ ∀ p1 p2, dj p1 p2 a1 a2 b1 b2 → dj p1 p2 c1 c2 d1 d2 → dj p1 p2 f1 f2 g1 g2) := by
 by_cases h : cW a1 a2 b1 b2 c1 c2 d1 d2 = 0
 ·rcases aaO h with ⟨e, aF⟩ | ⟨f1, f2, g1, g2, e, an, cE, cF, jj, kZ, v1, v2, v3, v4, hp⟩
  ·exact .inl ⟨e, aF⟩
  ·right;rw [e];unfold u4
   by_cases q : f1 = g1 ∧ f2 = g2
   ·left;rw [if_pos q];refine ⟨f1, f2, 1, rfl, by omega, .inl rfl, ?_, fun p1 p2 aK ab => ?_⟩
    ·have := LB cE cF (d := 1) (by omega);rwa [Int.mul_one, Int.mul_one] at this
    ·obtain ⟨bA, b9⟩ := hp p1 p2 aK ab;obtain ⟨rfl, rfl⟩ := q;have := dl.Br bA b9;omega
   ·right;rw [if_neg q];exact ⟨f1, f2, g1, g2, rfl, q, an, cE, cF, jj, kZ, v1, v2, v3, v4, fun p1 p2 aK ab => abG cE jj aK (hp p1 p2 aK ab).1 (hp p1 p2 aK ab).2⟩
 ·have hd := OH h;unfold hO;rw [if_neg h];unfold mi tJ
  by_cases q : four a1 a2 b1 b2 c1 c2 d1 d2 (jb (jz a1 a2 b1 b2 c1 c2 d1 d2) (cW a1 a2 b1 b2 c1 c2 d1 d2)) (jb (jA a1 a2 b1 b2 c1 c2 d1 d2) (cW a1 a2 b1 b2 c1 c2 d1 d2)) (h9 (cW a1 a2 b1 b2 c1 c2 d1 d2))
  ·right; left;rw [if_pos q];refine ⟨_, _, _, rfl, hd, .inr rfl, q, fun p1 p2 aK ab => ?_⟩;obtain ⟨aI, aN⟩ := O0 aK.1 ab.1;rw [aI, aN, Dy, Dy];exact ⟨rfl, rfl⟩
  ·left;rw [if_neg q];refine ⟨rfl, fun p1 p2 aK ab => q ?_⟩;obtain ⟨aI, aN⟩ := O0 aK.1 ab.1;rw [aI, aN, Dy, Dy];exact LB aK ab hd
end Go.Proofs.YtpochbhajmbfdaaGreat
namespace Go.Proofs.YtpochbhajmbfdaaGreat
open Go.RowKit
theorem aft {a1 a2 b1 b2 c1 c2 d1 d2 : Int} (aK : cH a1 a2 = true) (ab : cH b1 b2 = true) (ak : cH c1 c2 = true) (hd : cH d1 d2 = true) : -144115188075855872 ≤ cW a1 a2 b1 b2 c1 c2 d1 d2 ∧ cW a1 a2 b1 b2 c1 c2 d1 d2 ≤ 144115188075855872 := by
 rw [sw] at aK ab ak hd;have m1 := Dr (x := b2 - a2) (y := c1 - d1) (by omega) (by omega) (by omega) (by omega);have m2 := Dr (x := a1 - b1) (y := d2 - c2) (by omega) (by omega) (by omega) (by omega);unfold cW;omega
theorem Kw {n d a b : Int} (h : kF n d a b) (a0 : -134217728 ≤ a) (a1 : a ≤ 134217728) (n1 : -134217728 ≤ b) (b1 : b ≤ 134217728) (d0 : 0 ≤ d) (d1 : d ≤ 144115188075855872) : -19342813113834066795298816 ≤ n ∧ n ≤ 19342813113834066795298816 := by
 obtain ⟨aG, h1⟩ := h;have i0 : -134217728 ≤ gE a b ∧ gE a b ≤ 134217728 := by unfold gE; split <;> omega
 have i1 : -134217728 ≤ gD a b ∧ gD a b ≤ 134217728 := by unfold gD; split <;> omega
 have m0 := Bv i0.1 i0.2 (show -144115188075855872 ≤ d by omega) d1;have m1 := Bv i1.1 i1.2 (show -144115188075855872 ≤ d by omega) d1;omega
def A0 (M : fz) : Prop := (M = ht) ∨ (∃ x y d, M = iK x d y d ∧ 0 < d ∧ d ≤ 144115188075855872 ∧ (-19342813113834066795298816 ≤ x ∧ x ≤ 19342813113834066795298816) ∧ (-19342813113834066795298816 ≤ y ∧ y ≤ 19342813113834066795298816)) ∨ (∃ f1 f2 g1 g2, M = sT f1 f2 g1 g2)
theorem Ws {a1 a2 b1 b2 c1 c2 d1 d2 x y d : Int} (aK : cH a1 a2 = true) (ab : cH b1 b2 = true) (ak : cH c1 c2 = true) (hd : cH d1 d2 = true) (aG : 0 < d) (h1 : d = 1 ∨ d = h9 (cW a1 a2 b1 b2 c1 c2 d1 d2)) (au : four a1 a2 b1 b2 c1 c2 d1 d2 x y d) :
  d ≤ 144115188075855872 ∧ (-19342813113834066795298816 ≤ x ∧ x ≤ 19342813113834066795298816) ∧ (-19342813113834066795298816 ≤ y ∧ y ≤ 19342813113834066795298816) := by
 have c5 := aft aK ab ak hd;rw [sw] at aK ab
 have rT : d ≤ 144115188075855872 := by
  rcases h1 with rfl | rfl
  ·omega
  ·unfold h9; split <;> omega
 exact ⟨rT, Kw au.1 aK.1.1 aK.1.2 ab.1.1 ab.1.2 (by omega) rT, Kw au.2.1 aK.2.1 aK.2.2 ab.2.1 ab.2.2 (by omega) rT⟩
theorem aan (a1 a2 b1 b2 c1 c2 d1 d2 : Int) : A0 (qC a1 a2 b1 b2 c1 c2 d1 d2) := by
 unfold qC
 by_cases h : (cH a1 a2 && cH b1 b2 && cH c1 c2 && cH d1 d2) = true
 ·rw [if_pos h];simp only [dQ] at h;rcases aaN a1 a2 b1 b2 c1 c2 d1 d2 with ⟨e, _⟩ | ⟨x, y, d, e, aG, h1, au, _⟩ | ⟨f1, f2, g1, g2, e, _⟩
  ·exact .inl e
  ·exact .inr (.inl ⟨x, y, d, e, aG, Ws h.1.1.1 h.1.1.2 h.1.2 h.2 aG h1 au⟩)
  ·exact .inr (.inr ⟨f1, f2, g1, g2, e⟩)
 ·rw [if_neg h]; exact .inl rfl
section
variable {P : Program} {R : aJ} {s : aD} {ops : Array Oper} {dr : Option (List Nat)} {ty : Nat} {pos : String} {after : Array Edge} {guard : Option (Nat × Bool)} {K : aJ → aD → Prop} {rest : List Oper} {c : Code} {Q : Exit → aJ → aD → Prop}
theorem Ee (az : aJ) (ZL : bH az R) (h : fp P c Q az s) : fp P c Q R s := fun ok br bY a w ⟨A, ad, ay⟩ => h ok br bY a w ⟨A, ad, ay.le ZL⟩
theorem QU {f : FuncId} {r : bL} {i j : Nat} {post : ai → bL → Prop} (hp : oS P f [cI r.sz r.n r.aV] post) (bQ : 0 < r.sz) (cO : ∀ y ∈ r.aV, y.bc = true) (hF : ∀ v q, post v q → v = aQ q.v ∧ uf q.aV) :
  dn P f [aQ r.v] ca (bI i r) fun v aH az => ∃ q, aH = ca ∧ az = bZ (bI j q) (bI i r) ∧ 0 < q.sz ∧ post v q := by
 have h := Xh (R0 := bI i r) (args := [aQ r.v]) (hp j) rfl (fun U ad W vs cK dH => ⟨dH.1, fun n x v aa hv => ?_⟩) (fun v aH bn al => ?_)
 ·refine ⟨fun U ad W vs cK ee dH => (h.call U ad W vs cK ee dH).mono ?_⟩;rintro e W' ⟨v, cP, aH, az, bg, cA, cY, ⟨bn, ⟨q, _, rfl, a6, al⟩, rfl, rfl⟩, lT⟩;exact ⟨v, cP, ca, _, bg, cA, cY, ⟨q, rfl, rfl, a6, al⟩, lT⟩
 ·match n with
  | 0 =>
   cases aa;have r0 := (dH.2 0 _ v rfl hv).1;subst r0;exact (cK.rows i r (by unfold bI; exact cr _ _ _)).1.QH bQ r.aV (fun xs an => an.map (fun b ab _ => ⟨.inl ab, rfl⟩) fun _ _ _ _ => rfl) cO fun b ab => .inr (.inr ⟨i, r, by unfold bI; exact cr _ _ _, ab⟩)
  | n + 1 => simp at aa
 ·obtain ⟨q, rfl, rfl, a6, al⟩ := al;obtain ⟨rfl, au⟩ := hF v q al;refine ⟨rfl, AZ.one, rfl, fun k cy af => ?_⟩;obtain ⟨rfl, rfl⟩ := fG af;exact ⟨a6, au⟩
theorem MQ (i j : Nat) (gg : i ≠ j) {d : Nat} {f : FuncId} {g : Operand} {aS : Array TypeId} {x : Operand} {r : bL} {post : ai → bL → Prop} [E : Enters P f] (hw : want ops ⟨some d, .call ⟨.value g, #[x], aS⟩, ty, pos, after, guard⟩ s = some true) (hm : dJ dr ⟨some d, .call ⟨.value g, #[x], aS⟩, ty, pos, after, guard⟩ = true)
  (aw : s.look g = some (aQ (.func (.func f) #[] #[]))) (aK : s.look x = some (aQ r.v)) (hp : oS P f [cI r.sz r.n r.aV] post) (hi : R i = some r) (bQ : 0 < r.sz) (cO : ∀ y ∈ r.aV, y.bc = true) (ae : R j = none) (hd : Nat.blt d s.n = true) (hF : ∀ v q, post v q → v = aQ q.v ∧ uf q.aV)
  (h : ∀ q, post (aQ q.v) q → cL P ops dr K rest R (s.put (some d) (cI q.sz q.n q.aV))) : cL P ops dr K (⟨some d, .call ⟨.value g, #[x], aS⟩, ty, pos, after, guard⟩ :: rest) R s := by
 refine ⟨true, hw, kI hd, .inr (.inr (.inr (.inr (.inr ⟨rfl, hm, f, [aQ r.v], ca, bI i r, _, ⟨⟨_, g, rfl, rfl, .inl ⟨[], aw, by simp [aK], rfl⟩⟩, E.h⟩, QU (j := j) hp bQ cO hF, fun x aa j ae => ?_, fun k' ar aC => (by cases aC), fun ft a8 aC => ?_, fun k' ar x j aC => (by cases aC), ?_⟩))))⟩
 ·simp at aa; subst aa; exact absurd ae (iJ _ j)
 ·obtain ⟨rfl, rfl⟩ := fG aC; exact hi
 rintro v aH az ⟨q, rfl, rfl, y5, al⟩ _ _ _;refine ⟨fun k' c aC => (by cases aC), ?_⟩;obtain ⟨rfl, _⟩ := hF v q al;have k8 : bZ (bZ (bI j q) (bI i r)) R j = some q := hf (hf (by unfold bI; exact cr _ _ _));refine ⟨j, d, q, rfl, k8, y5, cr _ _ _, (show d < s.n by simpa [Nat.blt_eq] using hd), ?_⟩
 have aI : (fun x => if x = j then none else bZ (bZ (bI j q) (bI i r)) R x) = R := by
  funext x
  by_cases e : x = j
  ·rw [if_pos e, e, ae]
  ·rw [if_neg e]
   by_cases bu : x = i
   ·subst bu;rw [hi];exact hf (by rw [hg (by unfold bI; rw [cj _ _ e]; rfl)]; unfold bI; exact cr _ _ _)
   ·exact hg (by rw [hg (by unfold bI; rw [cj _ _ e]; rfl)]; unfold bI; rw [cj _ _ bu]; rfl)
 rw [aI, tU, zY];exact h q al
end
section
variable {P : Program} {R : aJ} {s : aD} {ops : Array Oper} {dr : Option (List Nat)} {ty : Nat} {pos : String} {after : Array Edge} {guard : Option (Nat × Bool)} {K : aJ → aD → Prop} {rest : List Oper} {c : Code} {Q : Exit → aJ → aD → Prop}
theorem gm.one {U : Nat → Prop} {ad : Nat → Nat} {W : World} {y : AC} {v : Value} (h : gm U ad W y v) (ak : y.bc = true) : v.oneCell' = true := by
 cases y with
 | c u => rw [h.1]; exact h.2
 | own k o => cases ak
 | p S => exact S.cell _ _ h.1
theorem bP.exact {U cA : Nat → Prop} {ad bg : Nat → Nat} {W W' : World} {aV : List AC} {xs : List Value} (h : bP U ad W aV xs) (ak : ∀ y ∈ aV, y.bc = true) : bP cA bg W' (xs.map AC.c) xs := by
 refine ⟨by rw [lU], fun i x v aa hv => ?_⟩;rw [eD, hv] at aa;cases aa;have hi : i < aV.length := by rw [h.1]; exact (bS.1 hv).1
 have ag := cm hi;exact ⟨rfl, (h.2 i _ v ag hv).one (ak _ (dF ag))⟩
theorem bP.VB {U : Nat → Prop} {ad : Nat → Nat} {W : World} {xs xI : List Value} (h : bP U ad W (xs.map AC.c) xI) : xI = xs := by
 refine List.ext_getElem? fun i => ?_;cases aa : xI[i]? with
 | none =>
  have : xs.length ≤ i := by have := h.1; rw [lU] at this; rw [this]; exact List.getElem?_eq_none_iff.1 aa
  exact (List.getElem?_eq_none_iff.2 this).symm
 | some v =>
  have hi : i < (xs.map AC.c).length := by rw [h.1]; exact (bS.1 aa).1
  have ag := cm hi;have := (h.2 i _ v ag aa);rw [List.getElem_map] at this;rw [this.1, cm (by rwa [lU] at hi)]
theorem DG {e sz n : Nat} {v : Value} {aV zs : List AC} {g : Nat} (hs : 0 < sz) (h : (⟨e, sz, v, n, aV⟩ : bL).own g) : (⟨e, sz, v, n, zs⟩ : bL).own g := by
 have := bL.oD h hs;exact .inl this
theorem afr {f : FuncId} {r : bL} {i j : Nat} (gg : i ≠ j) (hp : ∀ aV : List AC, aV.length = r.aV.length → aV.all AC.bc = true → oS P f [cI r.sz r.n aV] fun v q => ∃ aZ, v = aQ aZ ∧ q = ⟨r.e, r.sz, aZ, r.n, aV⟩) (bQ : 0 < r.sz) (cO : ∀ y ∈ r.aV, y.bc = true) :
  dn P f [aQ r.v] ca (bI i r) fun v aH az => ∃ aZ, v = aQ aZ ∧ aH = ca ∧ az = bZ (bI j ⟨r.e, r.sz, aZ, r.n, r.aV⟩) (bI i r) := by
 refine ⟨fun U ad W vs cK ee dH => ?_⟩;have ko : ∀ q, bI i q i = some q := fun q => by unfold bI; exact cr _ _ _
 obtain ⟨iE, nm, wZ⟩ := cK.rows i r (ko r);obtain ⟨xs, ax, an⟩ := iE.row bQ;have hex : ∀ (U : Nat → Prop) (ad : Nat → Nat) (W : World), bP U ad W (xs.map AC.c) xs := fun U ad W => an.exact cO;have zj : ∀ y ∈ xs.map AC.c, AC.bc y = true := fun y ag => by obtain ⟨v, _, rfl⟩ := hU.1 ag; rfl
 have Mx : ∀ g, (⟨r.e, r.sz, r.v, r.n, xs.map AC.c⟩ : bL).own g → r.own g := fun g h => by
  have := bL.oD h bQ;exact .inl this
 have wW : ∀ g, r.own g → (⟨r.e, r.sz, r.v, r.n, xs.map AC.c⟩ : bL).own g := fun g h => by
  have := bL.oD h bQ;exact .inl this
 have l6 : eW U ad W ca (bI i ⟨r.e, r.sz, r.v, r.n, xs.map AC.c⟩) := by
  refine ⟨fun k cs af => (by cases af), fun k cs x j af => (by cases af), fun k k' cs ar af => (by cases af), fun k q af => ?_, fun a b q cy aK ab mD => ?_⟩
  ·obtain ⟨rfl, rfl⟩ := fG af;exact ⟨.inl ⟨bQ, xs, ax, hex _ _ _⟩, zj, fun g aw => ⟨(wZ g (Mx g aw)).1, fun k cs af => (by cases af)⟩⟩
  ·obtain ⟨rfl, rfl⟩ := fG aK;obtain ⟨rfl, rfl⟩ := fG ab;exact absurd rfl mD
 have hF := QU (i := i) (j := j) (r := ⟨r.e, r.sz, r.v, r.n, xs.map AC.c⟩) (hp (xs.map AC.c) (by rw [lU]; exact an.1.symm) (cu.2 zj)) bQ zj (fun v q ⟨aZ, hv, al⟩ => by
  subst al; exact ⟨hv, uf.of fun y ag => by obtain ⟨v, _, rfl⟩ := hU.1 ag; exact ⟨v, rfl⟩⟩)
 refine (hF.call U ad W vs l6 ee dH).mono ?_;rintro e W' ⟨v, cP, aH, az, bg, cA, cY, ⟨q, rfl, rfl, a6, aZ, rfl, rfl⟩, h2, ap, aL, dx, gd, mC, pk, iA⟩
 have y4 : ∀ b, ec ad ca (bI i ⟨r.e, r.sz, r.v, r.n, xs.map AC.c⟩) b → r.own b := fun b ab => by
  rcases ab with ⟨k, cs, af, _⟩ | ⟨k, q, af, aw⟩
  ·cases af
  ·obtain ⟨rfl, rfl⟩ := fG af; exact Mx b aw
 have zf : ∀ b, U b → b < W.heap.size → W'.heap[b]? = W.heap[b]? := fun b ab bi => iA.block b ⟨bi, fun aY => (wZ b (y4 b aY)).1 ab⟩
 have mF : ∀ k q, bZ (bI j ⟨r.e, r.sz, aZ, r.n, r.aV⟩) (bI i r) k = some q → ∃ u, q = ⟨r.e, r.sz, u, r.n, r.aV⟩ ∧ bZ (bI j ⟨r.e, r.sz, aZ, r.n, xs.map AC.c⟩) (bI i ⟨r.e, r.sz, r.v, r.n, xs.map AC.c⟩) k = some ⟨r.e, r.sz, u, r.n, xs.map AC.c⟩ := fun k q af => by
  rcases jC af with af | ⟨aF, af⟩
  ·obtain ⟨rfl, rfl⟩ := fG af;exact ⟨aZ, rfl, hf (by unfold bI; exact cr _ _ _)⟩
  ·obtain ⟨rfl, rfl⟩ := fG af;refine ⟨q.v, rfl, ?_⟩;rw [hg (by unfold bI; rw [cj _ _ gg]; rfl)];exact ko _
 refine ⟨v, aQ aZ, ca, bZ (bI j ⟨r.e, r.sz, aZ, r.n, r.aV⟩) (bI i r), bg, fun b => cA b ∨ (U b ∧ b < W.heap.size), cY, ⟨aZ, rfl, rfl, rfl⟩, ⟨fun k cs af => (by cases af), fun k cs x j af => (by cases af), fun k k' cs ar af => (by cases af), fun k q af => ?_, fun a b q cy aK ab mD g aw eu => ?_⟩, ap, fun j ae => absurd ae (iJ _ j), fun k cs af => (by cases af), fun k q af => ?_, fun b ab => ?_, fun b ab => ?_, ⟨iA.os, iA.tape, iA.output, iA.size, fun b ab => iA.block b ⟨ab.1, fun aY => ab.2 (.inr ⟨i, r, ko r, y4 b aY⟩)⟩⟩⟩
 ·obtain ⟨u, rfl, eJ⟩ := mF k q af;obtain ⟨iP, z2, z3⟩ := h2.rows k _ eJ;obtain ⟨xI, gB, hq⟩ := iP.row bQ;have := bP.VB hq;subst this;refine ⟨.inl ⟨bQ, xI, gB, an.map (fun b ab bi => ⟨.inr ⟨ab, bi⟩, zf b ab bi⟩) fun k x aa ae => absurd ae (AC.dw (cO x aa) k)⟩, cO, fun g aw => ⟨?_, fun k cs af => (by cases af)⟩⟩;have eu := DG (zs := xI.map AC.c) bQ aw;rintro (dy | ⟨dy, bi⟩)
  ·exact (z3 g eu).1 dy
  ·rcases pk g (.inr ⟨k, _, eJ, eu⟩) with aY | aY
   ·exact (wZ g (y4 g aY)).1 dy
   ·omega
 ·obtain ⟨u, rfl, pp⟩ := mF a q aK;obtain ⟨kx, rfl, c5⟩ := mF b cy ab;exact h2.apart a b _ _ pp c5 mD g (DG bQ aw) (DG bQ eu)
 ·obtain ⟨rfl, rfl⟩ := fG af;exact ⟨q, by rw [hg (by unfold bI; rw [cj _ _ gg]; rfl)]; exact ko q⟩
 ·rcases ab with ab | ab
  ·rcases mC b ab with h | h | h
   ·exact .inl h
   ·exact .inr (.inl h)
   ·exact .inr (.inr (.inr ⟨i, r, ko r, y4 b h⟩))
  ·exact .inl ab.1
 ·rcases ab with ⟨k, cs, af, _⟩ | ⟨k, q, af, aw⟩
  ·cases af
  ·obtain ⟨u, rfl, eJ⟩ := mF k q af;rcases pk b (.inr ⟨k, _, eJ, DG bQ aw⟩) with h | h
   ·exact .inl (.inr ⟨i, r, ko r, y4 b h⟩)
   ·exact .inr h
theorem Hb (i j : Nat) (gg : i ≠ j) {dst : Option Nat} {f : FuncId} {g : Operand} {aS : Array TypeId} {x : Operand} {r : bL} [E : Enters P f] (hw : want ops ⟨dst, .call ⟨.value g, #[x], aS⟩, ty, pos, after, guard⟩ s = some true) (hm : dJ dr ⟨dst, .call ⟨.value g, #[x], aS⟩, ty, pos, after, guard⟩ = true)
  (aw : s.look g = some (aQ (.func (.func f) #[] #[]))) (aK : s.look x = some (aQ r.v)) (hp : ∀ aV : List AC, aV.length = r.aV.length → aV.all AC.bc = true → oS P f [cI r.sz r.n aV] fun v q => ∃ aZ, v = aQ aZ ∧ q = ⟨r.e, r.sz, aZ, r.n, aV⟩) (hi : R i = some r) (bQ : 0 < r.sz) (cO : ∀ y ∈ r.aV, y.bc = true) (hd : kH dst s.n = true)
  (h : ∀ aZ, cL P ops dr K rest (bM R j ⟨r.e, r.sz, aZ, r.n, r.aV⟩) (s.put dst (aQ aZ))) : cL P ops dr K (⟨dst, .call ⟨.value g, #[x], aS⟩, ty, pos, after, guard⟩ :: rest) R s := by
 refine MK (l := [x]) (args := [aQ r.v]) hw hm aw (by simp [aK]) (afr (j := j) gg hp bQ cO) (fun k q af => ?_) rfl hd ?_
 ·obtain ⟨rfl, rfl⟩ := fG af; exact hi
 rintro v aH az ⟨aZ, rfl, rfl, rfl⟩;refine ⟨rfl, ?_⟩
 have aI : bZ (bZ (bI j ⟨r.e, r.sz, aZ, r.n, r.aV⟩) (bI i r)) R = bM R j ⟨r.e, r.sz, aZ, r.n, r.aV⟩ := by
  funext k
  by_cases gU : k = j
  ·subst gU;rw [cr];exact hf (hf (by unfold bI; exact cr _ _ _))
  ·rw [cj _ _ gU]
   by_cases qi : k = i
   ·subst qi;rw [hi];exact hf (by rw [hg (by unfold bI; rw [cj _ _ gU]; rfl)]; unfold bI; exact cr _ _ _)
   ·exact hg (by rw [hg (by unfold bI; rw [cj _ _ gU]; rfl)]; unfold bI; rw [cj _ _ qi]; rfl)
 rw [aI];exact h aZ
end
section
variable {P : Program} {s : aD} {ops : Array Oper} {K : aD → Prop} {rest : List Oper} {ty : Nat} {pos : String} {after : Array Edge} {guard : Option (Nat × Bool)} {d : Nat}
theorem Fh {t dI k off : Nat} {x : Operand} (hw : want ops ⟨some d, .binOp .eql t x (.const (.pointer none)) dI, ty, pos, after, guard⟩ s = some true) (aa : s.look x = some (.w (.one (.own k off)))) (hu : Nb P t = true) (hd : Nat.blt d s.n = true) (h : bj P ops K rest (s.put (some d) (bF false))) : bj P ops K (⟨some d, .binOp .eql t x (.const (.pointer none)) dI, ty, pos, after, guard⟩ :: rest) s := by
 obtain ⟨e, he⟩ : ∃ e, P.underlying t = some (.pointer e) := by
  unfold Nb at hu
  split at hu
  ·rename_i e he; exact ⟨e, he⟩
  ·cases hu
 refine fO (av := bF false) hw ⟨fun _ _ h => (by cases h), fun z a6 => ?_, fun U ad W env Mh => ?_, fun j ae => absurd ae (iJ _ j)⟩ hd h
 ·simp [Op.operands] at a6;rcases a6 with rfl | rfl
  ·exact ⟨_, aa⟩
  ·exact ⟨_, rfl⟩
 ·have aI := Mh x (by simp [Op.operands]) _ aa;have aI : env x = .pointer (some ⟨ad k, off, none⟩) := aI;have aN : env (.const (.pointer none)) = .pointer none := (Mh (.const (.pointer none)) (by simp [Op.operands]) _ rfl).1;refine ⟨.bool false, ?_, rfl, rfl⟩;simp only [execOp, aI, aN, Ww, Sem.run_bind, Sem.run_pure, Result.andThen_ok, ad4 he]
end
section
variable {P : Program} {f : FuncId} {args : List ai} {m0 : Mem} {R0 : aJ} {Post Post2 : ai → Mem → aJ → Prop}
def n6 (i : Nat) (R : aJ) : aJ := fun j => if j = i then none else R j
theorem dn.uE (i : Nat) (h : dn P f args m0 R0 Post) (aG : R0 i = none)
  (hp : ∀ b7 aH az, Post b7 aH az → ∃ q Ah, az i = some q ∧ 0 < q.sz ∧ (∀ U ad W v, dc U ad W b7 v → gm U ad W (.p (cz q.sz q.n q.aV)) q.v → dc U ad W Ah v) ∧ (∀ j, Ah.owns j → b7.owns j) ∧ Post2 Ah aH (n6 i az)) : dn P f args m0 R0 Post2 := by
 refine ⟨fun U ad W vs cK ee dH => (h.call U ad W vs cK ee dH).mono ?_⟩;rintro e W' ⟨v, r, aH, az, bg, cA, cY, h1, h2, ap, aL, dx, gd, mC, pk, iA⟩;obtain ⟨q, Ah, hi, a6, hv, hw, WD⟩ := hp r aH az h1;obtain ⟨iP, z2, z3⟩ := h2.rows i q hi;have CK : ∀ b, cA b → b < W'.heap.size → (fun b => cA b ∨ q.own b) b ∧ W'.heap[b]? = W'.heap[b]? := fun b ab _ => ⟨.inl ab, rfl⟩;have Yy : gm (fun b => cA b ∨ q.own b) bg W' (.p (cz q.sz q.n q.aV)) q.v := iP.QH a6 q.aV (fun xs an => an.map CK fun _ _ _ _ => rfl) z2 fun b ab => .inr ab;have aq : dc (fun b => cA b ∨ q.own b) bg W' r v := ap.map CK fun _ _ => rfl
 have Cx : ∀ k x, n6 i az k = some x → k ≠ i ∧ az k = some x := fun k x af => by
  unfold n6 at af
  split at af
  ·cases af
  ·rename_i cn; exact ⟨cn, af⟩
 refine ⟨v, Ah, aH, n6 i az, bg, fun b => cA b ∨ q.own b, cY, WD, ⟨fun k cs af => ?_, h2.fE, h2.inj, fun k x af => ?_, fun a b x y aK ab mD g aw eu => ?_⟩, hv _ _ _ _ aq Yy, fun j ae => aL j (hw j ae), dx, fun k x af => ?_, fun b ab => ?_, fun b ab => ?_, iA⟩
 ·obtain ⟨xs, ty, a1, a2, a3⟩ := h2.du k cs af;exact ⟨xs, ty, a1, a2.map CK fun _ _ _ _ => rfl, fun aY => aY.elim a3 fun aw => (z3 _ aw).2 k cs af rfl⟩
 ·obtain ⟨cn, eJ⟩ := Cx k x af;obtain ⟨a1, a2, a3⟩ := h2.rows k x eJ;exact ⟨a1.kept a2 (fun _ _ => rfl) (dL _) CK, a2, fun g aw => ⟨fun aY => aY.elim (a3 g aw).1 fun eu => h2.apart k i x q eJ hi cn g aw eu, (a3 g aw).2⟩⟩
 ·obtain ⟨_, pp⟩ := Cx a x aK;obtain ⟨_, c5⟩ := Cx b y ab;exact h2.apart a b x y pp c5 mD g aw eu
 ·obtain ⟨x', kp⟩ := gd k x af;refine ⟨x', ?_⟩;unfold n6;rw [if_neg (fun e => by subst e; rw [aG] at af; cases af)];exact kp
 ·rcases ab with ab | ab
  ·exact mC b ab
  ·rcases pk b (.inr ⟨i, q, hi, ab⟩) with aY | aY
   ·exact .inr (.inr aY)
   ·exact .inr (.inl aY)
 ·refine pk b ?_;rcases ab with ⟨k, cs, af, e⟩ | ⟨k, x, af, aw⟩
  ·exact .inl ⟨k, cs, af, e⟩
  ·exact .inr ⟨k, x, (Cx k x af).2, aw⟩
theorem AC.pP (x : AC) : x.bd (fun j => j) = x := by cases x <;> rfl
theorem AC.PW (xs : List AC) : xs.map (AC.bd fun j => j) = xs := by
 conv => rhs; rw [← List.map_id xs]
 exact pG fun x _ => AC.pP x
theorem bG.pP (x : bG) : x.bd (fun j => j) = x := by
 cases x with
 | one x => show bG.one (x.bd _) = _; rw [AC.pP]
 | agg xs => show bG.agg (xs.map _) = _; rw [AC.PW]
theorem ai.pP (x : ai) : x.bd (fun j => j) = x := by
 cases x with
 | w x => show ai.w (x.bd _) = _; rw [bG.pP]
 | cZ xs =>
  show ai.cZ (xs.map _) = _;congr 1
  conv => rhs; rw [← List.map_id xs]
  exact pG fun x _ => bG.pP x
theorem Mem.pP (m : Mem) : Mem.bd (fun j => j) m = m := by
 funext k;show (m k).map _ = m k;cases m k with
 | none => rfl
 | some cs => show some (cs.map _) = _; rw [AC.PW]
theorem dn.rn {cq : Nat → Nat} (gq : ∀ j, cq (cq j) = j) (h : dn P f args m0 R0 Post) : dn P f args m0 (R0.bd cq) fun b7 aH az => ∃ bn, Post b7 aH bn ∧ az = bn.bd cq := by
 have h1 := h.bd (bJ := fun j => j) (fun _ => rfl) (cq := cq) (ir := cq) gq gq
 rw [show args.map (ai.bd fun j => j) = args from by
  conv => rhs; rw [← List.map_id args]
  exact pG fun x _ => ai.pP x, Mem.pP] at h1
 refine ⟨fun U ad W vs cK ee dH => (h1.call U ad W vs cK ee dH).mono ?_⟩;rintro dp W' ⟨v, r, aH, az, bg, cA, cY, ⟨cP, m1, bn, al, rfl, rfl, rfl⟩, lT⟩;rw [ai.pP, Mem.pP] at lT;exact ⟨v, cP, m1, bn.bd cq, bg, cA, cY, ⟨bn, al, rfl⟩, lT⟩
theorem dn.imp (h : dn P f args m0 R0 Post) (hp : ∀ b7 aH az, Post b7 aH az → Post2 b7 aH az) : dn P f args m0 R0 Post2 :=
 ⟨fun U ad W vs cK ee dH => (h.call U ad W vs cK ee dH).mono (by
  rintro dp W' ⟨v, r, aH, az, bg, cA, cY, h1, lT⟩;exact ⟨v, r, aH, az, bg, cA, cY, hp _ _ _ h1, lT⟩)⟩
end
end Go.Proofs.YtpochbhajmbfdaaGreat
namespace Go.Proofs.YtpochbhajmbfdaaGreat
open Go.ChangeShapes Go.WideShapes Go.ChangeAt Go.RowKit Go.Joins
def rN (L : List (List Int)) : List AC := L.flatten.map fun x => .c (.int .i64 x)
theorem Ue {W : World} {b : Addr} {v : Value} (h : W.cell? b = some v) : b.block < W.heap.size := by
 unfold World.cell? at h
 split at h
 ·rename_i aY; exact (ku.1 aY).1
 ·cases h
theorem Lx {W : World} {a : Addr} {z : Nat} : ∀ (L : List (List Int)) (k : Nat), (∀ (i : Nat) (x : List Int), L[i]? = some x → x.length = z ∧ ∀ (o : Nat) (y : Int), x[o]? = some y → W.cell? (a.add ((k + i) * z + o)) = some (.int .i64 y)) →
  ∀ (j : Nat) (u : Int), L.flatten[j]? = some u → W.cell? (a.add (k * z + j)) = some (.int .i64 u)
 | [], k, h, j, u, hu => by simp at hu
 | x :: L, k, h, j, u, hu => by
  obtain ⟨an, aa⟩ := h 0 x rfl;rw [List.flatten_cons] at hu;rcases iL j x.length with ae | ae
  ·rw [fV ae] at hu;have := aa j u hu;rwa [Nat.add_zero] at this
  ·rw [gr ae] at hu
   have := Lx L (k + 1) (fun i y ag => by
    have := h (i + 1) y (by simpa using ag);rw [show k + (i + 1) = k + 1 + i by omega] at this;exact this) (j - x.length) u hu
   rw [show (k + 1) * z + (j - x.length) = k * z + j by rw [jY, Nat.one_mul]; omega] at this;exact this
theorem abI {H : Type} {enc : TypeId × Value → H} {P : Program} {W : World} {t e : TypeId} (z : Nat) (aE : P.underlying t = some (.slice e)) (ce : P.cellsOf e = z)
  (yQ : ∀ (n : Nat) (cs : List Value) d, DataW.trod enc P W 0 (fun _ => true) true n e cs = some d → ∃ xs : List Int, cs = xs.map (Value.int .i64))
  {v : Value} {d : DataW H} {p : List MemPlace} (hv : ∃ a len cap, v = .slice a len cap) (aG : DataW.Trod enc P W 0 (fun _ => true) true t v d p) (a6 : 0 < z) :
  ∃ L : List (List Int), (L.length : Int) ≤ 9223372036854775807 ∧ (∀ x ∈ L, x.length = z) ∧ dc (fun _ => True) id W (cI z L.length (rN L)) v := by
 obtain ⟨a0, r8, af0, rfl⟩ := hv;obtain ⟨fa, au⟩ := aG;rcases Go.Deep.open_slice aE au with ⟨et, aa⟩ | ⟨a, len, cap, m, n, D, afI, et, ab, an, hm, tz, aa, hi⟩
 ·simp [Value.cells] at et;obtain ⟨rfl, rfl, rfl⟩ := et;exact ⟨[], by decide, fun x aa => (by cases aa), ⟨none, 0, rfl, dL _, by simp [rN], fun h => absurd h (Nat.lt_irrefl _)⟩, fun _ _ => trivial⟩
 ·simp [Value.cells] at et;obtain ⟨rfl, rfl, rfl⟩ := et;simp only [if_true] at tz;subst tz;rw [ce] at hi
  have each : ∀ i, i < m → ∃ q : List Int, q.length = z ∧ ∀ (o : Nat) (y : Int), q[o]? = some y → W.cell? (a.add (i * z + o)) = some (.int .i64 y) := fun i h => by
   obtain ⟨ar, h1, h2⟩ := hi i h;obtain ⟨_, hlen, nj⟩ := World.cells?_some h1;obtain ⟨xs, rfl⟩ := yQ _ _ _ h2;refine ⟨xs, by simpa using hlen, fun o y ag => ?_⟩
   have ax : o < z := by
    have := (bS.1 ag).1;simp at hlen; omega
   have := nj o ax;rw [Go.Deep.add_add, eD, ag] at this;exact this
  obtain ⟨q, al⟩ := Go.Deep.choose_lt each
  have cX : ∀ (i : Nat) (x : List Int), ((List.range r8).map q)[i]? = some x → x.length = z ∧ ∀ (o : Nat) (y : Int), x[o]? = some y → W.cell? (a.add ((0 + i) * z + o)) = some (.int .i64 y) := by
   intro i x aa;rw [eD] at aa;cases aq : (List.range r8)[i]? with
   | none => rw [aq] at aa; cases aa
   | some j =>
    rw [aq] at aa;cases aa;obtain ⟨ap, aL⟩ := bS.1 aq;simp at ap aL;subst aL;rw [jF];exact al i (by omega)
  have gn := Lx ((List.range r8).map q) 0 cX
  have yW : ∀ x ∈ (List.range r8).map q, x.length = z := fun x aa => by
   obtain ⟨i, de⟩ := jX aa;exact (cX i x de).1
  have wP : ∀ L : List (List Int), (∀ x ∈ L, x.length = z) → L.flatten.length = L.length * z := by
   intro L
   induction L with
   | nil => intro _; simp
   | cons x L cp =>
    intro h;rw [List.flatten_cons, cR, cp (fun y ag => h y (by simp [ag])), h x (by simp), lm, jY];omega
  refine ⟨(List.range r8).map q, by simp; unfold maxLen at hm; omega, yW, ?_⟩;refine ⟨⟨some a, m, by simp, by simpa using an, by rw [rN, lU, wP _ yW], fun aF => ⟨a, ((List.range r8).map q).flatten.map fun x => Value.int .i64 x, rfl, ?_, ⟨by rw [rN, lU, lU], fun i x u aa hu => ?_⟩, fun j u hu => ?_, fun y ag => ?_⟩⟩, fun _ _ => trivial⟩
  ·have GY : 0 < r8 := by simpa using aF
   obtain ⟨h1, h2⟩ := al 0 (by omega);have := Ue (h2 0 _ (cm (by omega)));rwa [block_add] at this
  ·unfold rN at aa;rw [eD] at aa hu;cases aq : ((List.range r8).map q).flatten[i]? with
   | none => rw [aq] at aa; cases aa
   | some y =>
    rw [aq] at aa hu;cases aa; cases hu;exact ⟨rfl, rfl⟩
  ·rw [eD] at hu;cases aq : ((List.range r8).map q).flatten[j]? with
   | none => rw [aq] at hu; cases hu
   | some y =>
    rw [aq] at hu;cases hu;have := gn j y aq;rwa [Nat.zero_mul, jF] at this
  ·unfold rN at ag;obtain ⟨x, _, rfl⟩ := hU.1 ag;rfl
theorem FQ {H : Type} {enc : TypeId × Value → H} {P : Program} {W : World} {e : TypeId} (jy : P.underlying e = some (.int .i64)) {n : Nat} {cs : List Value} {d : DataW H × List MemPlace} (h : DataW.trod enc P W 0 (fun _ => true) true n e cs = some d) (an : cs.length = 1) : ∃ x : Int, cs = [.int .i64 x] := by
 match cs, an with
 | [v], _ =>
  obtain ⟨x, aa, _⟩ := DataW.trod_int jy h;simp at aa;exact ⟨x, by rw [aa]⟩
theorem La {H : Type} {enc : TypeId × Value → H} {P : Program} {W : World} {e : TypeId} {f0 f1 : Field} (he : P.underlying e = some (.struct #[f0, f1])) (ce : P.cellsOf e = 2) (DB : f0.offset = 0) (o1 : f1.offset = 1) (k4 : P.cellsOf f0.type = 1) (c1 : P.cellsOf f1.type = 1) (jy : P.underlying f0.type = some (.int .i64)) (bA : P.underlying f1.type = some (.int .i64))
  {n : Nat} {cs : List Value} {d : DataW H × List MemPlace} (h : DataW.trod enc P W 0 (fun _ => true) true n e cs = some d) : ∃ x y : Int, cs = [.int .i64 x, .int .i64 y] := by
 obtain ⟨xs, k, _, _, cO, oj, au⟩ := DataW.trod_struct he h;rw [ce] at cO
 match cs, cO, xs, oj with
 | [u, v], _, [d0, d1], _ =>
  have g0 := au 0 f0 rfl;have g1 := au 1 f1 rfl;simp [DB, o1, k4, c1] at g0 g1;obtain ⟨x, aa⟩ := FQ jy g0 rfl;obtain ⟨y, ag⟩ := FQ bA g1 rfl;cases aa; cases ag;exact ⟨x, y, rfl⟩
end Go.Proofs.YtpochbhajmbfdaaGreat
