/-
  My own texts, without what this claim does not need. My own text.
-/
import Derived.Deep.SlicePairs
import Derived.Carry
import Derived.Test.YtpochbhajmbfdaaGreatSRunsK9
set_option maxRecDepth 100000
set_option maxHeartbeats 64000000
set_option linter.unusedVariables false
set_option linter.unusedSimpArgs false
set_option linter.unusedSectionVars false
open Go.Proofs.Tryz renaming prog → aj
namespace Go.Proofs.YtpochbhajmbfdaaGreat
open Go.RowKit
theorem adk {V l : List an} {f t : Int} (au : 0 ≤ f ∧ f ≤ V.length) (aD : 0 ≤ t ∧ t ≤ V.length) (pT : V.length ≤ 10000) (ao : l.length ≤ 10000) : aT aj 181 [hW V, aV f, aV t, hW l] (hW (V.take f.toNat ++ l ++ V.drop t.toNat)) := by
 have J := PS (LL := [V.take f.toNat, l, V.drop t.toNat]) (by show 3 ≤ 1100; decide) (by simp [dl]; omega);have dn : [V.take f.toNat, l, V.drop t.toNat].flatten = V.take f.toNat ++ l ++ V.drop t.toNat := by simp
 rw [dn] at J
 replace J : aT aj 186 [cU 1 3 [.p (cA 2 (V.take f.toNat).length (bM (V.take f.toNat))), .p (cA 2 l.length (bM l)), .p (cA 2 (V.drop t.toNat).length (bM (V.drop t.toNat)))]] (hW (V.take f.toNat ++ l ++ V.drop t.toNat)) := J
 have a1 : 0 ≤ f := au.1;have a2 : f ≤ f := pg f;have a3 : f ≤ V.length := au.2;have a4 : 0 ≤ t := aD.1;have a5 : t ≤ V.length := aD.2;have Tk : (V.length : Int) ≤ V.length := pg _;have m1 : f.toNat - 0 = (V.take f.toNat).length := by rw [eI]; omega
 have aG : ((bM V).drop (0 * 2)).take ((V.take f.toNat).length * 2) = bM (V.take f.toNat) := by
  have h : bM V = bM (V.take f.toNat) ++ bM (V.drop f.toNat) := by rw [← oZ, j9]
  rw [h, Nat.zero_mul, List.drop_zero, ← lM, List.take_left]
 have m2 : (V.length : Int).toNat - t.toNat = (V.drop t.toNat).length := by rw [jF]; omega
 have aO : ((bM V).drop (t.toNat * 2)).take ((V.drop t.toNat).length * 2) = bM (V.drop t.toNat) := by
  have h : bM V = bM (V.take t.toNat) ++ bM (V.drop t.toNat) := by rw [← oZ, j9]
  rw [h, show t.toNat * 2 = (bM (V.take t.toNat)).length by rw [lM, eI]; omega, List.drop_left, NR rfl]
 refine cd (f := 181) Tryz.func181 rfl rfl rfl rfl ?_;(repeat first | (with_reducible apply ax); rfl | (with_reducible apply cx); (iterate 3 rfl) | (with_reducible apply FY); (iterate 4 rfl); (assumption); (assumption); (assumption); (assumption); (assumption); rfl | (with_reducible apply FZ); (iterate 5 rfl); (assumption); (assumption); (assumption); (assumption); (assumption); (assumption); rfl | (with_reducible apply nk); (iterate 10 rfl) | refine dj rfl rfl rfl (by (exact J)) rfl ?_ | (with_reducible apply hH); kernel_rfl | (with_reducible apply hI); kernel_rfl; kernel_rfl; rfl | (with_reducible first | apply bR | apply bJ | apply bO | apply ay | apply b7))
 ((refine bX rfl (bG rfl bc) ?_))
 exact ai.br.refl _
theorem adj {V l : List Int} {f t : Int} (au : 0 ≤ f ∧ f ≤ V.length) (aD : 0 ≤ t ∧ t ≤ V.length) (pT : V.length ≤ 10000) (ao : l.length ≤ 10000) : aT aj 182 [lu V, aV f, aV t, lu l] (lu (V.take f.toNat ++ l ++ V.drop t.toNat)) := by
 have J := PR (LL := [V.take f.toNat, l, V.drop t.toNat]) (by show 3 ≤ 1100; decide) (by simp [dl]; omega);have dn : [V.take f.toNat, l, V.drop t.toNat].flatten = V.take f.toNat ++ l ++ V.drop t.toNat := by simp
 rw [dn] at J
 replace J : aT aj 187 [cU 1 3 [.p (cA 1 (V.take f.toNat).length (cB (V.take f.toNat))), .p (cA 1 l.length (cB l)), .p (cA 1 (V.drop t.toNat).length (cB (V.drop t.toNat)))]] (lu (V.take f.toNat ++ l ++ V.drop t.toNat)) := J
 have a1 : 0 ≤ f := au.1;have a2 : f ≤ f := pg f;have a3 : f ≤ V.length := au.2;have a4 : 0 ≤ t := aD.1;have a5 : t ≤ V.length := aD.2;have Tk : (V.length : Int) ≤ V.length := pg _;have m1 : f.toNat - 0 = (V.take f.toNat).length := by rw [eI]; omega
 have aG : ((cB V).drop (0 * 1)).take ((V.take f.toNat).length * 1) = cB (V.take f.toNat) := by
  have h : cB V = cB (V.take f.toNat) ++ cB (V.drop f.toNat) := by rw [← Dv, j9]
  rw [h, Nat.zero_mul, List.drop_zero, ← Dw, List.take_left]
 have m2 : (V.length : Int).toNat - t.toNat = (V.drop t.toNat).length := by rw [jF]; omega
 have aO : ((cB V).drop (t.toNat * 1)).take ((V.drop t.toNat).length * 1) = cB (V.drop t.toNat) := by
  have h : cB V = cB (V.take t.toNat) ++ cB (V.drop t.toNat) := by rw [← Dv, j9]
  rw [h, show t.toNat * 1 = (cB (V.take t.toNat)).length by rw [Dw, eI]; omega, List.drop_left, NC rfl]
 refine cd (f := 182) Tryz.func182 rfl rfl rfl rfl ?_;(repeat first | (with_reducible apply ax); rfl | (with_reducible apply cx); (iterate 3 rfl) | (with_reducible apply FY); (iterate 4 rfl); (assumption); (assumption); (assumption); (assumption); (assumption); rfl | (with_reducible apply FZ); (iterate 5 rfl); (assumption); (assumption); (assumption); (assumption); (assumption); (assumption); rfl | (with_reducible apply nk); (iterate 10 rfl) | refine dj rfl rfl rfl (by (exact J)) rfl ?_ | (with_reducible apply hH); kernel_rfl | (with_reducible apply hI); kernel_rfl; kernel_rfl; rfl | (with_reducible first | apply bR | apply bJ | apply bO | apply ay | apply b7))
 ((refine bX rfl (bG rfl bc) ?_))
 exact ai.br.refl _
theorem ZT : R4 := by
 intro V D ab hd;have BE := PS (LL := [V]) (by show 1 ≤ 1100; decide) (by simp; omega);have BF := PR (LL := [D]) (by show 1 ≤ 1100; decide) (by simp; omega);rw [show [V].flatten = V by simp] at BE;rw [show [D].flatten = D by simp] at BF
 replace BE : aT aj 186 [cU 1 1 [.p (cA 2 V.length (bM V))]] (hW V) := BE
 replace BF : aT aj 187 [cU 1 1 [.p (cA 1 D.length (cB D))]] (lu D) := BF
 refine cd (f := 133) Tryz.func133 rfl rfl rfl rfl ?_;(repeat first | (with_reducible apply ax); rfl | (with_reducible apply nk); (iterate 10 rfl) | refine dj rfl rfl rfl (by (first | exact BE | exact BF)) rfl ?_ | (with_reducible apply hH); kernel_rfl | (with_reducible apply hI); kernel_rfl; kernel_rfl; rfl | (with_reducible first | apply bR | apply bJ | apply bO | apply ay | apply b7))
 ((refine bX rfl (fj rfl rfl rfl bc) ?_))
 exact ai.br.refl _
theorem afO {xs aU : List bK} (ao : xs.length = aU.length) (h : ∀ (i : Nat) x y, xs[i]? = some x → aU[i]? = some y → ai.br (.w x) (.w y)) : ai.br (.da xs) (.da aU) := fun U ad W v hv => by
 obtain ⟨vs, e, aE, a6⟩ := hv
 exact ⟨vs, e, by rw [← ao]; exact aE, fun i y u ag hu => by
  have hi : i < xs.length := by rw [ao]; exact (bV.1 ag).1
  exact h i _ y (cl hi) ag U ad W u (a6 i _ u (cl hi) hu)⟩
theorem WE : ai.br (.da [.agg [.c (.slice none 0 0), .c (.slice none 0 0)], .one (.c (.bool false))]) (.da [.agg (vN [] []), .one (.c (.bool false))]) := afO rfl fun i x y aa ag => by
 match i with
 | 0 => cases aa; cases ag; exact UZ
 | 1 => cases aa; cases ag; exact ai.br.refl _
 | i + 2 => simp at aa
theorem aft {V l : List an} {D : List Int} {j : Nat} (ab : V.length ≤ 1100) (hd : D.length ≤ 1100) (ae : j ≤ 1100)
  (cs : (j : Int) ≥ D.length ∨ (¬ (j : Int) ≥ D.length ∧ (j : Int) ≥ (V.length : Int) - 1) ∨ (¬ (j : Int) ≥ D.length ∧ ¬ (j : Int) ≥ (V.length : Int) - 1 ∧ (l.length : Int) = 0)) : aT aj 125 [om V D, aV j, hW l] (.da [.agg (vN [] []), .one (.c (.bool false))]) := by
 have c9 : ¬ (j : Int) < 0 := by omega
 generalize (j : Int) = dM at *;rcases cs with q1 | ⟨q1, q2⟩ | ⟨q1, q2, cj⟩
 all_goals
  refine cd (f := 125) Tryz.func125 rfl rfl rfl rfl ?_;(repeat first | (with_reducible apply ax); rfl | (with_reducible apply oz); (iterate 3 rfl); (exact cp (by omega)); rfl | (with_reducible apply cx); (iterate 3 rfl) | (with_reducible apply bW (c := true)); rfl; rfl; (exact bg (by omega)) | (with_reducible apply bW (c := false)); rfl; rfl; (exact bl (by omega)) | (with_reducible first | apply bR | apply bJ | apply bO | apply ay | apply b7 | apply fL) | (with_reducible apply ik); rfl | (with_reducible apply fZ); rfl; (exact bg (by omega)))
  ((refine bX rfl (fj rfl rfl rfl (bG rfl bc)) ?_))
  exact WE
theorem afu {V l : List an} {D : List Int} {j : Nat} {dM oG : Int} (oN : dM = j) (qV : D[j]? = some oG) (MK : 1 ≤ oG ∧ oG ≤ 1048576) (ao : 0 < l.length) (kN : V.length = D.length + 1) (ab : V.length ≤ 1100) (oK : l.length ≤ 1100) : aT aj 125 [om V D, aV dM, hW l] (.da [.agg (vN (EW V j l) (AX D j l.length)), .one (.c (.bool true))]) := by
 have C8 : j < D.length := (bV.1 qV).1;have c9 : ¬ dM < 0 := by omega
 have q1 : ¬ dM ≥ D.length := by omega
 have q2 : ¬ dM ≥ (V.length : Int) - 1 := by omega
 have cj : ¬ (l.length : Int) = 0 := by omega
 have eH : dM < (D.length : Int) := by omega
 have jv := zR oN qV;have kk := acM (d := oG + 1) (m := l.length + 1) (by omega) (by omega);have iZ := adk (V := V) (l := l) (f := dM + 1) (t := dM + 1) (by omega) (by omega) (by omega) (by omega);have BL := adj (V := D) (l := List.replicate (l.length + 1) (oG + 1)) (f := dM) (t := dM + 1) (by omega) (by omega) (by omega) (by rw [List.length_replicate]; omega);have aG : (dM + 1).toNat = j + 1 := by omega
 have aO : dM.toNat = j := by omega
 have cz : D.getD j 0 = oG := by simp [List.getD, qV]
 have eX : D.take j ++ List.replicate (l.length + 1) (oG + 1) ++ D.drop (j + 1) = AX D j l.length := by unfold AX; rw [cz]
 have lD : V.take (j + 1) ++ l ++ V.drop (j + 1) = EW V j l := rfl;rw [aG, lD] at iZ;rw [aG, aO, eX] at BL;have sa : (((l.length + 1 : Nat) : Int)) = (l.length : Int) + 1 := by omega
 rw [sa] at kk;clear aG aO cz eX lD sa;generalize EW V j l = Ki at *;generalize AX D j l.length = wy at *;generalize List.replicate (l.length + 1) (oG + 1) = T at *;refine cd (f := 125) Tryz.func125 rfl rfl rfl rfl ?_;(repeat first | (with_reducible apply ax); rfl | (with_reducible apply e9); (iterate 5 rfl) | (with_reducible apply dC); (iterate 3 rfl); (omega); (omega); (assumption); rfl | (with_reducible apply dB); (iterate 3 rfl); (exact cp (by omega)); rfl | (with_reducible apply oz); (iterate 3 rfl); (exact cp (by omega)); rfl | (with_reducible apply cx); (iterate 3 rfl) | (with_reducible apply nk); (iterate 10 rfl) | refine cI rfl rfl rfl rfl (by (exact kk)) rfl ?_ | refine nR rfl rfl rfl rfl rfl rfl (by (first | exact iZ | exact BL)) rfl ?_ | (with_reducible apply bW (c := false)); rfl; rfl; (exact bl (by omega)) | (with_reducible apply hH); kernel_rfl | (with_reducible apply hI); kernel_rfl; kernel_rfl; rfl | (with_reducible first | apply bR | apply bJ | apply bO | apply ay | apply b7 | apply eU) | (with_reducible apply gT); rfl; (exact bl (by omega)))
 ((refine bX rfl (fj rfl rfl rfl (bG rfl bc)) ?_))
 exact ai.br.refl _
theorem Z2 : Sd := by
 intro V D j l pT ab oK ae vo;cases ao : l with
 | nil => exact aft (V := V) (D := D) (l := []) (j := j) (by omega) (by omega) (by omega) (.inr (.inr ⟨by omega, by omega, rfl⟩))
 | cons p m =>
  rw [← ao];have e : l.isEmpty = false := by rw [ao]; rfl
  rw [e];have Hp : 0 < l.length := by rw [ao]; exact jG _
  obtain ⟨oG, qV⟩ : ∃ oG, D[j]? = some oG := ⟨_, cl ae⟩;exact afu (V := V) (l := l) (D := D) (j := j) rfl qV (vo oG (dJ qV)) Hp pT ab oK
theorem U0 (V : List an) : ai.br (.w (.agg [.p (cA 2 V.length (bM V)), .c (.slice none 0 0)])) (om V []) := Kz rfl fun j x y aa ag => by
 match j with
 | 0 => cases aa; cases ag; exact .inl rfl
 | 1 => cases aa; cases ag; exact .inr ⟨rfl, 1, rfl⟩
 | j + 2 => simp at aa
theorem NV : R8 := by
 intro x y z w;cases al : dZ x y z w with
 | true =>
  obtain ⟨rfl, rfl⟩ := sc.1 al;rw [show ur (x, y) (x, y) = [(x, y)] from if_pos rfl, show uq (x, y) (x, y) = [] from if_pos rfl];refine cd (f := 42) Tryz.func42 rfl rfl rfl rfl ?_;(repeat first | (with_reducible apply ax); rfl | (with_reducible apply gf); (iterate 4 rfl) | (with_reducible apply nk); (iterate 10 rfl) | (with_reducible first | apply bR | apply bJ | apply bO | apply ay | apply b7 | apply fL) | (with_reducible apply fZ); rfl; (assumption))
  ((refine bX rfl (fj rfl rfl rfl bc) ?_))
  exact U0 [(x, y)]
 | false =>
  have aE : ¬ ((x, y) : an) = (z, w) := fun e => by
   have := sc.2 (⟨congrArg Prod.fst e, congrArg Prod.snd e⟩ : x = z ∧ y = w);rw [al] at this; cases this
  rw [show ur (x, y) (z, w) = [(x, y), (z, w)] from if_neg aE, show uq (x, y) (z, w) = [1] from if_neg aE];refine cd (f := 42) Tryz.func42 rfl rfl rfl rfl ?_;(repeat first | (with_reducible apply ax); rfl | (with_reducible apply gf); (iterate 4 rfl) | (with_reducible apply nk); (iterate 10 rfl) | (with_reducible first | apply bR | apply bJ | apply bO | apply ay | apply b7 | apply eU) | (with_reducible apply gT); rfl; (assumption))
  ((refine bX rfl (fj rfl rfl rfl bc) ?_))
  exact ai.br.refl _
def Sj (V : List an) (D : List Int) (n : Nat) (ts : List (Nat × ai)) (bw : List (Nat × List AC)) : Prop :=
 ∃ (k : Nat) (fz d : Int), k ≤ D.length ∧ n = D.length - k ∧ fz = k ∧ d = pL (D.take k) ∧ bw = [(1, vN V D)] ∧ ts = [(1, wo 1), (3, aV d), (7, cU 1 D.length (cB D)), (8, aV D.length), (9, aV fz)]
theorem VO {D : List Int} {k : Nat} {d : Int} (h : D[k]? = some d) : pL (D.take (k + 1)) = max (pL (D.take k)) d := by
 have af := (bV.1 h).1
 have e : D.take (k + 1) = D.take k ++ [d] := by
  rw [pi af, (bV.1 h).2]
 unfold pL;rw [e, List.foldl_append]; rfl
theorem ZU : R5 := by
 intro V D ab hd;refine cd (f := 69) Tryz.func69 rfl rfl rfl rfl ?_;(repeat first | (with_reducible apply ax); rfl | (with_reducible apply cx); (iterate 3 rfl) | (with_reducible first | apply bR | apply bJ | apply bO | apply ay | apply gg));refine wL 18 (Sj V D) D.length _ [(1, vN V D)] ⟨0, 0, 0, ez _, rfl, rfl, rfl, rfl, rfl⟩ rfl ⟨rfl, rfl, rfl, rfl, rfl, trivial⟩ ⟨rfl, trivial⟩ rfl ?_;rintro n ts bw ⟨k, fz, d, af, rfl, kT, mb, rfl, rfl⟩ dD;clear dD
 by_cases al : k < D.length
 ·have q2 : fz < (D.length : Int) := by omega
  have cj : 0 ≤ fz := by omega
  obtain ⟨e, g1⟩ : ∃ e, D[k]? = some e := ⟨_, cl al⟩;have jv := zR kT g1;have aD := VO g1;rw [← mb, show max d e = if e > d then e else d by split <;> omega] at aD;(repeat first | (with_reducible apply ax); rfl | (with_reducible apply e9); (iterate 5 rfl) | (with_reducible apply dC); (iterate 3 rfl); (omega); (omega); (assumption); rfl | (with_reducible apply dB); (iterate 3 rfl); (exact cp (by omega)); rfl | (with_reducible apply fX); (iterate 4 rfl) | (with_reducible first | apply bR | apply bJ | apply bO | apply ay | apply eU | apply gg | apply lA) | (with_reducible apply fZ); rfl; (exact bg (by omega)));exact ⟨D.length - (k + 1), _, [(1, vN V D)], by omega, ⟨k + 1, fz + 1, _, by omega, rfl, by omega, aD.symm, rfl, rfl⟩, rfl, ⟨rfl, rfl, rfl, rfl, rfl, trivial⟩, ⟨rfl, trivial⟩, rfl⟩
 ·have q2 : ¬ fz < (D.length : Int) := by omega
  have dn : D.take k = D := iy (by omega);rw [dn] at mb;rw [← mb];(repeat first | (with_reducible apply ax); rfl | (with_reducible first | apply bR | apply bJ | apply bO | apply ay | apply b7 | apply qC | apply qJ | apply qI) | (with_reducible apply gT); rfl; (exact bl (by omega)))
  ((refine bX rfl (bG rfl bc) ?_))
  exact ai.br.refl _
theorem Ro {α : Type} {D E : List α} {k : Nat} {d e : α} (h : D.take k = E.take k) (g1 : D[k]? = some d) (g2 : E[k]? = some e) : (d = e → D.take (k + 1) = E.take (k + 1)) ∧ (d ≠ e → D ≠ E) := by
 refine ⟨fun hd => ?_, fun hd kN => hd ?_⟩
 ·rw [pi (bV.1 g1).1, pi (bV.1 g2).1, (bV.1 g1).2, (bV.1 g2).2, h, hd]
 ·rw [kN, g2] at g1; exact (mY g1).symm
def Sl (D E : List Int) (n : Nat) (ts : List (Nat × ai)) (bw : List (Nat × List AC)) : Prop :=
 ∃ (k : Nat) (fz : Int), k ≤ D.length ∧ n = D.length - k ∧ fz = k ∧ D.take k = E.take k ∧ bw = [] ∧ ts = [(0, lu D), (1, lu E), (12, aV D.length), (13, aV fz)]
theorem acz {D E : List Int} (hd : D.length ≤ 1000000) : aT aj 98 [lu D, lu E] (bD (decide (D = E))) := by
 by_cases ao : (D.length : Int) = E.length
 ·have Yz : D.length = E.length := by omega
  refine cd (f := 98) Tryz.func98 rfl rfl rfl rfl ?_;(repeat first | (with_reducible apply ax); rfl | (with_reducible apply cx); (iterate 3 rfl) | (with_reducible first | apply bR | apply bJ | apply bO | apply ay | apply eU | apply gg) | (with_reducible apply gT); rfl; ((simp only [bB]; (omega))));refine wL 26 (Sl D E) D.length _ [] ⟨0, 0, ez _, rfl, rfl, rfl, rfl, rfl⟩ rfl ⟨rfl, rfl, rfl, rfl, trivial⟩ trivial rfl ?_;rintro n ts bw ⟨k, fz, af, rfl, kT, mb, rfl, rfl⟩ dD;clear dD
  by_cases al : k < D.length
  ·have q2 : fz < (D.length : Int) := by omega
   have cj : 0 ≤ fz := by omega
   have eH : fz < (E.length : Int) := by omega
   obtain ⟨d, g1⟩ : ∃ d, D[k]? = some d := ⟨_, cl al⟩;obtain ⟨e, g2⟩ : ∃ e, E[k]? = some e := ⟨_, cl (by omega)⟩;have jv := zR kT g1;have qy := zR kT g2;have st := Ro mb g1 g2
   by_cases he : d = e
   ·have aD := st.1 he;(repeat first | (with_reducible apply ax); rfl | (with_reducible apply e9); (iterate 5 rfl) | (with_reducible apply dC); (iterate 3 rfl); (omega); (omega); (assumption); rfl | (with_reducible apply dB); (iterate 3 rfl); (exact cp (by omega)); rfl | (with_reducible apply hH); kernel_rfl | (with_reducible apply hI); kernel_rfl; kernel_rfl; rfl | (with_reducible first | apply bR | apply bJ | apply bO | apply ay | apply eU | apply gg | apply lA) | (with_reducible apply fZ); rfl; (exact bg (by omega)) | (with_reducible apply gT); rfl; ((simp only [bB]; (omega))));exact ⟨D.length - (k + 1), _, [], by omega, ⟨k + 1, fz + 1, by omega, rfl, by omega, aD, rfl, rfl⟩, rfl, ⟨rfl, rfl, rfl, rfl, trivial⟩, trivial, rfl⟩
   ·rw [bl (st.2 he)];(repeat first | (with_reducible apply ax); rfl | (with_reducible apply e9); (iterate 5 rfl) | (with_reducible apply dC); (iterate 3 rfl); (omega); (omega); (assumption); rfl | (with_reducible apply hH); kernel_rfl | (with_reducible apply hI); kernel_rfl; kernel_rfl; rfl | (with_reducible first | apply bR | apply bJ | apply bO | apply ay | apply b7 | apply eU | apply fL | apply gg | apply k4) | (with_reducible apply fZ); rfl; (first | exact bg (by omega) | (simp only [bB]; (omega))))
    ((refine bX rfl (bG rfl bc) ?_))
    exact ai.br.refl _
  ·have q2 : ¬ fz < (D.length : Int) := by omega
   rw [iy (by omega), iy (by omega)] at mb;rw [bg mb];(repeat first | (with_reducible apply ax); rfl | (with_reducible first | apply bR | apply bJ | apply bO | apply ay | apply b7 | apply qC | apply qJ | apply qI) | (with_reducible apply gT); rfl; (exact bl (by omega)))
   ((refine bX rfl (bG rfl bc) ?_))
   exact ai.br.refl _
 ·rw [bl (show ¬ D = E from fun e => ao (by rw [e]))];refine cd (f := 98) Tryz.func98 rfl rfl rfl rfl ?_;(repeat first | (with_reducible apply ax); rfl | (with_reducible apply cx); (iterate 3 rfl) | (with_reducible first | apply bR | apply bJ | apply bO | apply ay | apply b7 | apply fL) | (with_reducible apply fZ); rfl; ((simp only [bB]; (omega))))
  ((refine bX rfl (bG rfl bc) ?_))
  exact ai.br.refl _
def Sm (D E : List an) (n : Nat) (ts : List (Nat × ai)) (bw : List (Nat × List AC)) : Prop :=
 ∃ (k : Nat) (fz : Int), k ≤ D.length ∧ n = D.length - k ∧ fz = k ∧ D.take k = E.take k ∧ bw = [] ∧ ts = [(0, hW D), (1, hW E), (12, aV D.length), (13, aV fz)]
theorem IQ {D E : List an} (hd : D.length ≤ 1000000) : aT aj 84 [hW D, hW E] (bD (decide (D = E))) := by
 by_cases ao : (D.length : Int) = E.length
 ·have Yz : D.length = E.length := by omega
  refine cd (f := 84) Tryz.func84 rfl rfl rfl rfl ?_;(repeat first | (with_reducible apply ax); rfl | (with_reducible apply cx); (iterate 3 rfl) | (with_reducible first | apply bR | apply bJ | apply bO | apply ay | apply eU | apply gg) | (with_reducible apply gT); rfl; ((simp only [bB]; (omega))));refine wL 26 (Sm D E) D.length _ [] ⟨0, 0, ez _, rfl, rfl, rfl, rfl, rfl⟩ rfl ⟨rfl, rfl, rfl, rfl, trivial⟩ trivial rfl ?_;rintro n ts bw ⟨k, fz, af, rfl, kT, mb, rfl, rfl⟩ dD;clear dD
  by_cases al : k < D.length
  ·have q2 : fz < (D.length : Int) := by omega
   have cj : 0 ≤ fz := by omega
   have eH : fz < (E.length : Int) := by omega
   obtain ⟨x, y, g1⟩ : ∃ x y, D[k]? = some (x, y) := ⟨_, _, cl al⟩;obtain ⟨z, w, g2⟩ : ∃ z w, E[k]? = some (z, w) := ⟨_, _, cl (by omega)⟩;have jv := vK kT g1;have qy := vK kT g2;have st := Ro mb g1 g2;cases he : dZ x y z w with
   | true =>
    have aD := st.1 (by obtain ⟨rfl, rfl⟩ := sc.1 he; rfl);(repeat first | (with_reducible apply ax); rfl | (with_reducible apply ed); (iterate 5 rfl) | (with_reducible apply dC); (iterate 3 rfl); (omega); (omega); (assumption); rfl | (with_reducible apply yy); (iterate 4 rfl) | (with_reducible apply dB); (iterate 3 rfl); (exact cp (by omega)); rfl | (with_reducible apply hH); kernel_rfl | (with_reducible apply hI); kernel_rfl; kernel_rfl; rfl | (with_reducible first | apply bR | apply bJ | apply bO | apply ay | apply eU | apply gg | apply lA) | (with_reducible apply fZ); rfl; (exact bg (by omega)) | (with_reducible apply gT); rfl; ((simp only [bB]; (omega))));exact ⟨D.length - (k + 1), _, [], by omega, ⟨k + 1, fz + 1, by omega, rfl, by omega, aD, rfl, rfl⟩, rfl, ⟨rfl, rfl, rfl, rfl, trivial⟩, trivial, rfl⟩
   | false =>
    rw [bl (st.2 fun e => by
     have := sc.2 (⟨congrArg Prod.fst e, congrArg Prod.snd e⟩ : x = z ∧ y = w);rw [he] at this; cases this)]
    (repeat first | (with_reducible apply ax); rfl | (with_reducible apply ed); (iterate 5 rfl) | (with_reducible apply dC); (iterate 3 rfl); (omega); (omega); (assumption); rfl | (with_reducible apply yy); (iterate 4 rfl) | (with_reducible apply hH); kernel_rfl | (with_reducible apply hI); kernel_rfl; kernel_rfl; rfl | (with_reducible first | apply bR | apply bJ | apply bO | apply ay | apply b7 | apply eU | apply fL | apply gg | apply k4) | (with_reducible apply fZ); rfl; (first | exact bg (by omega) | (simp only [bB]; (omega))))
    ((refine bX rfl (bG rfl bc) ?_))
    exact ai.br.refl _
  ·have q2 : ¬ fz < (D.length : Int) := by omega
   rw [iy (by omega), iy (by omega)] at mb;rw [bg mb];(repeat first | (with_reducible apply ax); rfl | (with_reducible first | apply bR | apply bJ | apply bO | apply ay | apply b7 | apply qC | apply qJ | apply qI) | (with_reducible apply gT); rfl; (exact bl (by omega)))
   ((refine bX rfl (bG rfl bc) ?_))
   exact ai.br.refl _
 ·rw [bl (show ¬ D = E from fun e => ao (by rw [e]))];refine cd (f := 84) Tryz.func84 rfl rfl rfl rfl ?_;(repeat first | (with_reducible apply ax); rfl | (with_reducible apply cx); (iterate 3 rfl) | (with_reducible first | apply bR | apply bJ | apply bO | apply ay | apply b7 | apply fL) | (with_reducible apply fZ); rfl; ((simp only [bB]; (omega))))
  ((refine bX rfl (bG rfl bc) ?_))
  exact ai.br.refl _
theorem Z1 : Sc := by
 intro V W D E h1 h2 aq aK;have aM := IQ (D := V) (E := W) (by omega);have bI := acz (D := D) (E := E) (by omega);generalize decide (V = W) = p1 at *;generalize decide (D = E) = p2 at *;cases p1 with
 | false =>
  refine cd (f := 50) Tryz.func50 rfl rfl rfl rfl ?_;(repeat first | (with_reducible apply ax); rfl | refine cI rfl rfl rfl rfl (by (exact aM)) rfl ?_ | (with_reducible first | apply bR | apply bJ | apply bO | apply ay | apply b7))
  ((refine bX rfl (bG rfl bc) ?_))
  exact ai.br.refl _
 | true =>
  refine cd (f := 50) Tryz.func50 rfl rfl rfl rfl ?_;(repeat first | (with_reducible apply ax); rfl | refine cI rfl rfl rfl rfl (by (first | exact aM | exact bI)) rfl ?_ | (with_reducible first | apply bR | apply bJ | apply bO | apply ay | apply b7))
  ((refine bX rfl (bG rfl bc) ?_))
  exact ai.br.refl _
def qD (r : Int) (L : List an) (x y : Int) : List an := if 0 ≤ lm L x y then L else if r ≤ (L.length : Int) then L else L ++ [(x, y)]
def nO (r : Int) (L : List an) (x y : Int) : Bool := if 0 ≤ lm L x y then false else if r ≤ (L.length : Int) then false else true
def nP (r : Int) (L : List an) (x y : Int) : Int := if 0 ≤ lm L x y then 0 else if r ≤ (L.length : Int) then 90 else 0
theorem uv {L : List an} {x y : Int} : 0 ≤ lm L x y ↔ (x, y) ∈ L := by unfold lm; grind
abbrev BP := Int → List an → Value → fm → Prop
def R9 (u2 : BP) : Prop := ∀ n : Int, FM aj 54 [aV n] fun p S => ∃ b, p = eb b ∧ u2 (s3 n) [] p S
def R3 (u2 : BP) : Prop := ∀ (r : Int) L b S (x y : Int), u2 r L (eb b) S → L.length ≤ 1100 → yp aj 154 [aR (eb b), bh x y] (eb b) S fun v dm => v = .da [.one (.c (.bool (nO r L x y))), .one (.c (.int .i64 (nP r L x y)))] ∧ u2 r (qD r L x y) (eb b) dm
def Sb (u2 : BP) : Prop := ∀ (r : Int) L b S, u2 r L (eb b) S → L.length ≤ 1100 → yp aj 56 [aR (eb b)] (eb b) S fun v dm => v = aV r ∧ u2 r L (eb b) dm
end Go.Proofs.YtpochbhajmbfdaaGreat
namespace Go.Proofs.YtpochbhajmbfdaaGreat
def fs (l : List dw) (x y : Int) : Nat := (uF l x y).length
theorem P4 (l : List dw) (x y : Int) : fs l x y ≤ l.length := adL l x y
theorem xO : ∀ {l : List dw} (h : kn l) (x y : Int) (k : Nat) (e : dw), l[k]? = some e → (k < fs l x y ↔ ml e.1 e.2.1 x y = true)
 | [], _, _, _, k, e, af => by simp at af
 | f :: l, h, x, y, k, e, af => by
  have ak := js.1 h
  by_cases au : ml f.1 f.2.1 x y = true
  ·have hp : fs (f :: l) x y = fs l x y + 1 := by
    unfold fs uF;rw [List.filter_cons, if_pos au]; rfl
   rw [hp];cases k with
   | zero => simp at af; subst af; simp [au]
   | succ k =>
    have := xO ak.2 x y k e (by simpa using af);rw [← this]; omega
  ·have dp : ∀ g ∈ f :: l, ¬ ml g.1 g.2.1 x y = true := by
    intro g aw;rcases hf.1 aw with rfl | aw
    ·exact au
    ·have h1 := ak.1 g aw;rw [pa] at h1 au ⊢;omega
   have hp : fs (f :: l) x y = 0 := by
    unfold fs uF;rw [List.filter_eq_nil_iff.2 dp]; rfl
   rw [hp];have := dp e (dJ af);simp [this]
theorem Ju {l : List dw} (h : kn l) {x y : Int} : ∀ e ∈ l.take (fs l x y), ml e.1 e.2.1 x y = true := by
 intro e he;obtain ⟨k, af⟩ := kw he;have bj := (bV.1 af).1;rw [eI] at bj;rw [gm (by omega)] at af;exact (xO h x y k e af).1 (by omega)
theorem LD {l : List dw} (h : kn l) {x y : Int} : ∀ e ∈ l.drop (fs l x y), ¬ ml e.1 e.2.1 x y = true := by
 intro e he;obtain ⟨k, af⟩ := kw he;rw [gF] at af;intro bj;have := (xO h x y _ e af).2 bj;omega
theorem Qi {l : List dw} (h : kn l) {x y : Int} : uF l x y = l.take (fs l x y) := by
 conv => lhs; rw [← j9 (fs l x y) l]
 unfold uF;rw [List.filter_append, List.filter_eq_self.2 (Ju h), List.filter_eq_nil_iff.2 (LD h), qe]
theorem CX {l : List dw} (h : kn l) {x y : Int} : hL l x y = true ↔ ∃ u, l[fs l x y]? = some (x, y, u) := by
 constructor
 ·intro a6;unfold hL at a6;rw [List.any_eq_true] at a6;obtain ⟨e, he, al⟩ := a6;simp only [eo, c0] at al;obtain ⟨k, af⟩ := kw he;have h1 := xO h x y k e af;have h2 : ¬ k < fs l x y := by rw [h1, pa]; omega
  have Ho := (bV.1 af).1;have oQ : fs l x y < l.length := by omega
  have hp := cl oQ;have aq := xO h x y _ _ hp
  by_cases bz : k = fs l x y
  ·refine ⟨e.2.2, ?_⟩;rw [← bz, af];exact congrArg some (Prod.ext al.1 (Prod.ext al.2 rfl))
  ·exfalso;have aK := List.pairwise_iff_getElem.1 h (fs l x y) k oQ Ho (by omega);have gV : l[k] = e := (bV.1 af).2;rw [gV, pa] at aK;have cO : ml l[fs l x y].1 l[fs l x y].2.1 x y = true := by rw [pa]; omega
   have := aq.2 cO;omega
 ·rintro ⟨u, hu⟩;exact List.any_eq_true.2 ⟨_, dJ hu, by simp⟩
theorem VP {l : List dw} (h : kn l) {x y : Int} (aE : hL l x y = false) : ∀ e ∈ l.drop (fs l x y), ml x y e.1 e.2.1 = true := by
 intro e he;have h1 := LD h e he
 have h2 : ¬ (e.1 = x ∧ e.2.1 = y) := by
  rintro ⟨aq, aK⟩;have : hL l x y = true := List.any_eq_true.2 ⟨_, ob he, by simp [aq, aK]⟩;rw [aE] at this; cases this
 rw [pa] at *;omega
theorem Qj {l : List dw} (h : kn l) {x y v : Int} (aE : hL l x y = false) : sQ l x y v = l.take (fs l x y) ++ (x, y, v) :: l.drop (fs l x y) := by
 unfold sQ;rw [Qi h];congr 2
 conv => lhs; rw [← j9 (fs l x y) l]
 unfold Ep;rw [List.filter_append, List.filter_eq_self.2 (VP h aE), List.filter_eq_nil_iff.2 fun e he => ?_, List.nil_append];have := Ju h e he;rw [pa] at *;omega
theorem adM {l : List dw} (h : kn l) {x y v u : Int} (hp : l[fs l x y]? = some (x, y, u)) : sQ l x y v = l.take (fs l x y) ++ (x, y, v) :: l.drop (fs l x y + 1) := by
 unfold sQ;rw [Qi h];congr 2;have ao := (bV.1 hp).1;have he := (bV.1 hp).2
 conv => lhs; rw [← j9 (fs l x y) l]
 unfold Ep;rw [List.filter_append, List.filter_eq_nil_iff.2 (fun e he => by have := Ju h e he; rw [pa] at *; omega), List.nil_append, mr ao, he, List.filter_cons_of_neg (by rw [pa]; simp)];refine List.filter_eq_self.2 fun e hm => ?_;obtain ⟨k, af⟩ := kw hm;rw [gF] at af;have Ho := (bV.1 af).1;have aK := List.pairwise_iff_getElem.1 h (fs l x y) _ ao Ho (by omega);rw [he, (bV.1 af).2] at aK;exact aK
theorem af0 {l : List dw} (h : kn l) {x y u : Int} (hp : l[fs l x y]? = some (x, y, u)) : hL l x y = true ∧ oq l x y = u := RA h (dJ hp)
abbrev adG (e : dw) : an := (e.1, e.2.1)
def o8 : Nat → List an → List dw
 | _, [] => []
 | k, p :: l => (p.1, p.2, (k : Int)) :: o8 (k + 1) l
theorem Pf : ∀ (k : Nat) (l : List an) (p : an), o8 k (l ++ [p]) = o8 k l ++ [(p.1, p.2, ((k + l.length : Nat) : Int))]
 | k, [], p => by simp [o8]
 | k, q :: l, p => by
  simp only [List.cons_append, o8, Pf (k + 1) l p, mq];rw [show k + 1 + l.length = k + (l.length + 1) by omega]
theorem Pg : ∀ (k : Nat) (l : List an), (o8 k l).map adG = l
 | _, [] => rfl
 | k, p :: l => by simp only [o8, lp, Pg (k + 1) l]
theorem abV (k : Nat) (l : List an) : (o8 k l).length = l.length := by
 have := congrArg List.length (Pg k l);rwa [mZ] at this
theorem IK : ∀ (k : Nat) (l : List an) (x y w : Int), (x, y, w) ∈ o8 k l ↔ ∃ i : Nat, l[i]? = some (x, y) ∧ w = ((k + i : Nat) : Int)
 | k, [], x, y, w => by simp [o8]
 | k, p :: l, x, y, w => by
  rw [o8, hf, IK (k + 1) l x y w]
  constructor
  ·rintro (h | ⟨i, h1, h2⟩)
   ·simp only [Prod.mk.injEq] at h;exact ⟨0, by rw [sS, h.1, h.2.1], by rw [h.2.2]; rfl⟩
   ·exact ⟨i + 1, by rw [xQ]; exact h1, by rw [h2]; omega⟩
  ·rintro ⟨i, h1, h2⟩
   match i with
   | 0 => rw [sS] at h1; cases h1; exact .inl (by rw [h2]; rfl)
   | i + 1 => rw [xQ] at h1; exact .inr ⟨i, h1, by rw [h2]; omega⟩
def nL (L : List an) (es : List dw) : Prop := kn es ∧ es.Perm (o8 0 L) ∧ L.Nodup
theorem nL.len {L : List an} {es : List dw} (h : nL L es) : es.length = L.length := by rw [h.2.1.length_eq, abV]
theorem abW {L : List an} (aE : L.Nodup) {i : Nat} {x y : Int} (h : L[i]? = some (x, y)) : lm L x y = (i : Int) := by
 have aI : 0 ≤ lm L x y := uv.2 (dJ h);unfold lm at aI ⊢;cases au : L.findIdx? fun e => decide (e.1 = x) && decide (e.2 = y) with
 | none => rw [au] at aI; exact absurd aI (by decide)
 | some k =>
  obtain ⟨af, h1, _⟩ := List.findIdx?_eq_some_iff_getElem.1 au;simp only [eo, c0] at h1;have aG : L[k] = (x, y) := Prod.ext h1.1 h1.2;obtain ⟨hi, aO⟩ := bV.1 h;have := (List.getElem_inj (h₀ := af) (h₁ := hi) aE).1 (aG.trans aO.symm);rw [this]
theorem XM {es : List dw} {a b : Int} : hL es a b = true ↔ ∃ w, (a, b, w) ∈ es := by unfold hL; grind
theorem nL.num {L : List an} {es : List dw} (h : nL L es) (x y : Int) : hL es x y = decide (0 ≤ lm L x y) ∧ (0 ≤ lm L x y → oq es x y = lm L x y) := by
 by_cases a6 : 0 ≤ lm L x y
 ·obtain ⟨i, hi⟩ := kw (uv.1 a6);have hm : (x, y, ((0 + i : Nat) : Int)) ∈ es := h.2.1.mem_iff.2 ((IK 0 L x y _).2 ⟨i, hi, rfl⟩);have h1 := RA h.1 hm;exact ⟨by rw [h1.1, bg a6], fun _ => by rw [h1.2, abW h.2.2 hi, jr]⟩
 ·refine ⟨?_, fun aF => absurd aF a6⟩;rw [bl a6];cases he : hL es x y with
  | false => rfl
  | true =>
   obtain ⟨w, hw⟩ := XM.1 he;obtain ⟨i, hi, _⟩ := (IK 0 L x y w).1 (h.2.1.mem_iff.1 hw);exact absurd (uv.2 (dJ hi)) a6
theorem nL.add {L : List an} {es : List dw} (h : nL L es) {x y : Int} (aE : ¬ 0 ≤ lm L x y) : nL (L ++ [(x, y)]) (sQ es x y L.length) := by
 have ck : hL es x y = false := by rw [(h.num x y).1]; exact bl aE
 refine ⟨adN h.1 x y L.length, ?_, ?_⟩
 ·rw [Qj h.1 ck, Pf, jr];refine List.perm_middle.trans ?_;rw [j9];refine (h.2.1.cons _).trans ?_;exact (List.perm_append_singleton _ _).symm
 ·rw [List.nodup_append];refine ⟨h.2.2, by simp, fun a aL b ab e => ?_⟩;rw [mu] at ab;subst ab; subst e;exact aE (uv.2 aL)
theorem nL.nil : nL [] [] := ⟨.nil, .refl _, .nil⟩
theorem Tt {r : Int} {L : List an} {x y : Int} (h : 0 ≤ lm L x y) : qD r L x y = L ∧ nO r L x y = false ∧ nP r L x y = 0 := by unfold qD nO nP; rw [if_pos h, if_pos h, if_pos h]; exact ⟨rfl, rfl, rfl⟩
theorem Ts {r : Int} {L : List an} {x y : Int} (h : ¬ 0 ≤ lm L x y) (h2 : r ≤ (L.length : Int)) : qD r L x y = L ∧ nO r L x y = false ∧ nP r L x y = 90 := by unfold qD nO nP; rw [if_neg h, if_neg h, if_neg h, if_pos h2, if_pos h2, if_pos h2]; exact ⟨rfl, rfl, rfl⟩
theorem Tu {r : Int} {L : List an} {x y : Int} (h : ¬ 0 ≤ lm L x y) (h2 : ¬ r ≤ (L.length : Int)) : qD r L x y = L ++ [(x, y)] ∧ nO r L x y = true ∧ nP r L x y = 0 := by unfold qD nO nP; rw [if_neg h, if_neg h, if_neg h, if_neg h2, if_neg h2, if_neg h2]; exact ⟨rfl, rfl, rfl⟩
end Go.Proofs.YtpochbhajmbfdaaGreat
namespace Go.Proofs.YtpochbhajmbfdaaGreat
open Go.RowKit
abbrev hc (v : Value) (l : List dw) : bQ := ⟨261, 3, v, l.length, ej l⟩
end Go.Proofs.YtpochbhajmbfdaaGreat
namespace Go.Proofs.YtpochbhajmbfdaaGreat
theorem Pw {a1 a2 b1 b2 p1 p2 : Int} (h : ct a1 a2 b1 b2 p1 p2 = 0) : (b2 - a2) * a1 + (a1 - b1) * a2 = (b2 - a2) * p1 + (a1 - b1) * p2 := by unfold ct at h; grind
theorem Py {a1 a2 b1 b2 c1 c2 d1 d2 p1 p2 : Int} (h : ct a1 a2 b1 b2 p1 p2 = 0) (k : ct c1 c2 d1 d2 p1 p2 = 0) :
  j3 a1 a2 b1 b2 c1 c2 d1 d2 = p1 * db a1 a2 b1 b2 c1 c2 d1 d2 ∧ j4 a1 a2 b1 b2 c1 c2 d1 d2 = p2 * db a1 a2 b1 b2 c1 c2 d1 d2 := by
 have e := Pw h;have f := Pw k;unfold j3 j4 db;rw [e, f]
 constructor <;> grind
theorem D8 (p w : Int) : jE (p * w) w = p * iK w := by
 unfold jE iK
 split
 ·rw [Int.mul_neg]
 ·rfl
theorem B9 {p d a b : Int} (aI : hR a b ≤ p) (h1 : p ≤ hQ a b) (hd : 0 < d) : k5 (p * d) d a b :=
 ⟨qg aI (by omega), qg h1 (by omega)⟩
theorem Mc {a1 a2 b1 b2 c1 c2 d1 d2 p1 p2 d : Int} (h : dx p1 p2 a1 a2 b1 b2) (k : dx p1 p2 c1 c2 d1 d2) (hd : 0 < d) : four a1 a2 b1 b2 c1 c2 d1 d2 (p1 * d) (p2 * d) d :=
 ⟨B9 h.2.1 h.2.2.1 hd, B9 h.2.2.2.1 h.2.2.2.2 hd, B9 k.2.1 k.2.2.1 hd, B9 k.2.2.2.1 k.2.2.2.2 hd⟩
theorem abp {a1 a2 b1 b2 c1 c2 d1 d2 : Int} (h : db a1 a2 b1 b2 c1 c2 d1 d2 = 0) :
  (iv a1 a2 b1 b2 c1 c2 d1 d2 = h7 ∧ ∀ p1 p2, dx p1 p2 a1 a2 b1 b2 → ¬ dx p1 p2 c1 c2 d1 d2) ∨
  ∃ f1 f2 g1 g2, iv a1 a2 b1 b2 c1 c2 d1 d2 = vG f1 f2 g1 g2 ∧ dz f1 f2 g1 g2 ∧ dx f1 f2 a1 a2 b1 b2 ∧ dx f1 f2 c1 c2 d1 d2 ∧ dx g1 g2 a1 a2 b1 b2 ∧ dx g1 g2 c1 c2 d1 d2
   ∧ f1 = eD (eS a1 a2 b1 b2) (ey a1 a2 b1 b2) (eS c1 c2 d1 d2) (ey c1 c2 d1 d2) ∧ f2 = ea (eS a1 a2 b1 b2) (ey a1 a2 b1 b2) (eS c1 c2 d1 d2) (ey c1 c2 d1 d2)
   ∧ g1 = eS (eD a1 a2 b1 b2) (ea a1 a2 b1 b2) (eD c1 c2 d1 d2) (ea c1 c2 d1 d2) ∧ g2 = ey (eD a1 a2 b1 b2) (ea a1 a2 b1 b2) (eD c1 c2 d1 d2) (ea c1 c2 d1 d2)
   ∧ ∀ p1 p2, dx p1 p2 a1 a2 b1 b2 → dx p1 p2 c1 c2 d1 d2 → dz f1 f2 p1 p2 ∧ dz p1 p2 g1 g2 := by
 have hs := xy a1 a2 b1 b2;have aD := xy c1 c2 d1 d2
 have hw : pc (eS a1 a2 b1 b2) (ey a1 a2 b1 b2) (eD a1 a2 b1 b2) (ea a1 a2 b1 b2) (eS c1 c2 d1 d2) (ey c1 c2 d1 d2) (eD c1 c2 d1 d2) (ea c1 c2 d1 d2) = 0 := by
  have h1 := Fe a1 a2 b1 b2 c1 c2 d1 d2;have h2 := A7 a1 a2 b1 b2 c1 c2 d1 d2;have aq := A7 b1 b2 a1 a2 c1 c2 d1 d2;rw [← RD];rcases nw a1 a2 b1 b2 with ⟨h1, h2, aq, aK, _⟩ | ⟨h1, h2, aq, aK, _⟩ <;> rcases nw c1 c2 d1 d2 with ⟨bC, cf, h5, jD, _⟩ | ⟨bC, cf, h5, jD, _⟩ <;> rw [h1, h2, aq, aK, bC, cf, h5, jD] <;> omega
 have x0 : ∀ p1 p2, dx p1 p2 (eS a1 a2 b1 b2) (ey a1 a2 b1 b2) (eD a1 a2 b1 b2) (ea a1 a2 b1 b2) ↔ dx p1 p2 a1 a2 b1 b2 := fun _ _ => Ar;have tO9 : ∀ p1 p2, dx p1 p2 (eS c1 c2 d1 d2) (ey c1 c2 d1 d2) (eD c1 c2 d1 d2) (ea c1 c2 d1 d2) ↔ dx p1 p2 c1 c2 d1 d2 := fun _ _ => Ar;unfold iv;rw [if_pos h];unfold vH inl;generalize eS a1 a2 b1 b2 = s1 at *;generalize ey a1 a2 b1 b2 = s2 at *;generalize eD a1 a2 b1 b2 = bY at *;generalize ea a1 a2 b1 b2 = b3 at *;generalize eS c1 c2 d1 d2 = t1 at *;generalize ey c1 c2 d1 d2 = t2 at *;generalize eD c1 c2 d1 d2 = t3 at *;generalize ea c1 c2 d1 d2 = t4 at *;have key := fun p1 p2 => @Of s1 s2 bY b3 t1 t2 t3 t4 p1 p2 hs aD hw
 by_cases q : dx (eD s1 s2 t1 t2) (ea s1 s2 t1 t2) s1 s2 bY b3 ∧ dx (eD s1 s2 t1 t2) (ea s1 s2 t1 t2) t1 t2 t3 t4
 ·right;rw [if_pos q];obtain ⟨cP, cw, ig, jL, uN, wh⟩ := key _ _ q.1 q.2;exact ⟨_, _, _, _, rfl, wh, (x0 _ _).1 cP, (tO9 _ _).1 cw, (x0 _ _).1 ig, (tO9 _ _).1 jL, rfl, rfl, rfl, rfl, fun p1 p2 hp al => ⟨(key p1 p2 ((x0 _ _).2 hp) ((tO9 _ _).2 al)).2.2.2.2.1, (key p1 p2 ((x0 _ _).2 hp) ((tO9 _ _).2 al)).2.2.2.2.2⟩⟩
 ·left;rw [if_neg q];exact ⟨rfl, fun p1 p2 hp al => q ⟨(key p1 p2 ((x0 _ _).2 hp) ((tO9 _ _).2 al)).1, (key p1 p2 ((x0 _ _).2 hp) ((tO9 _ _).2 al)).2.1⟩⟩
theorem acg {a1 a2 b1 b2 f1 f2 g1 g2 p1 p2 : Int} (au : dx f1 f2 a1 a2 b1 b2) (aw : dx g1 g2 a1 a2 b1 b2) (hp : dx p1 p2 a1 a2 b1 b2) (aI : dz f1 f2 p1 p2) (h1 : dz p1 p2 g1 g2) : dx p1 p2 f1 f2 g1 g2 := by
 refine (vS (aI.trans h1)).2 ⟨?_, aI, h1⟩
 by_cases e : a1 = b1 ∧ a2 = b2
 ·obtain ⟨rfl, rfl⟩ := e;obtain ⟨rfl, rfl⟩ := Aq au;obtain ⟨rfl, rfl⟩ := Aq aw;obtain ⟨rfl, rfl⟩ := Aq hp;exact Gg ..
 ·have a := au.1;have b := aw.1;have c := hp.1;unfold ct at *;have d1 : (b1 - a1) * ((g1 - f1) * (p2 - f2) - (g2 - f2) * (p1 - f1)) = 0 := by grind
  have d2 : (b2 - a2) * ((g1 - f1) * (p2 - f2) - (g2 - f2) * (p1 - f1)) = 0 := by grind
  rcases sT.1 d1 with bz | bz
  ·rcases sT.1 d2 with f | f
   ·omega
   ·exact f
  ·exact bz
theorem abo (a1 a2 b1 b2 c1 c2 d1 d2 : Int) :
  (iv a1 a2 b1 b2 c1 c2 d1 d2 = h7 ∧ ∀ p1 p2, dx p1 p2 a1 a2 b1 b2 → ¬ dx p1 p2 c1 c2 d1 d2) ∨
  (∃ x y d, iv a1 a2 b1 b2 c1 c2 d1 d2 = jm x d y d ∧ 0 < d ∧ (d = 1 ∨ d = iK (db a1 a2 b1 b2 c1 c2 d1 d2)) ∧ four a1 a2 b1 b2 c1 c2 d1 d2 x y d ∧ ∀ p1 p2, dx p1 p2 a1 a2 b1 b2 → dx p1 p2 c1 c2 d1 d2 → x = p1 * d ∧ y = p2 * d) ∨
  (∃ f1 f2 g1 g2, iv a1 a2 b1 b2 c1 c2 d1 d2 = tk f1 f2 g1 g2 ∧ ¬ (f1 = g1 ∧ f2 = g2) ∧ dz f1 f2 g1 g2 ∧ dx f1 f2 a1 a2 b1 b2 ∧ dx f1 f2 c1 c2 d1 d2 ∧ dx g1 g2 a1 a2 b1 b2 ∧ dx g1 g2 c1 c2 d1 d2
   ∧ f1 = eD (eS a1 a2 b1 b2) (ey a1 a2 b1 b2) (eS c1 c2 d1 d2) (ey c1 c2 d1 d2) ∧ f2 = ea (eS a1 a2 b1 b2) (ey a1 a2 b1 b2) (eS c1 c2 d1 d2) (ey c1 c2 d1 d2)
   ∧ g1 = eS (eD a1 a2 b1 b2) (ea a1 a2 b1 b2) (eD c1 c2 d1 d2) (ea c1 c2 d1 d2) ∧ g2 = ey (eD a1 a2 b1 b2) (ea a1 a2 b1 b2) (eD c1 c2 d1 d2) (ea c1 c2 d1 d2)
   ∧ ∀ p1 p2, dx p1 p2 a1 a2 b1 b2 → dx p1 p2 c1 c2 d1 d2 → dx p1 p2 f1 f2 g1 g2) := by
 by_cases h : db a1 a2 b1 b2 c1 c2 d1 d2 = 0
 ·rcases abp h with ⟨e, aE⟩ | ⟨f1, f2, g1, g2, e, ao, cP, cw, ig, jL, v1, v2, v3, v4, hp⟩
  ·exact .inl ⟨e, aE⟩
  ·right;rw [e];unfold vG
   by_cases q : f1 = g1 ∧ f2 = g2
   ·left;rw [if_pos q];refine ⟨f1, f2, 1, rfl, by omega, .inl rfl, ?_, fun p1 p2 aL ab => ?_⟩
    ·have := Mc cP cw (d := 1) (by omega);rwa [Int.mul_one, Int.mul_one] at this
    ·obtain ⟨bC, cf⟩ := hp p1 p2 aL ab;obtain ⟨rfl, rfl⟩ := q;have := dz.B2 bC cf;omega
   ·right;rw [if_neg q];exact ⟨f1, f2, g1, g2, rfl, q, ao, cP, cw, ig, jL, v1, v2, v3, v4, fun p1 p2 aL ab => acg cP ig aL (hp p1 p2 aL ab).1 (hp p1 p2 aL ab).2⟩
 ·have hd := Pc h;unfold iv;rw [if_neg h];unfold mT uk
  by_cases q : four a1 a2 b1 b2 c1 c2 d1 d2 (jE (j3 a1 a2 b1 b2 c1 c2 d1 d2) (db a1 a2 b1 b2 c1 c2 d1 d2)) (jE (j4 a1 a2 b1 b2 c1 c2 d1 d2) (db a1 a2 b1 b2 c1 c2 d1 d2)) (iK (db a1 a2 b1 b2 c1 c2 d1 d2))
  ·right; left;rw [if_pos q];refine ⟨_, _, _, rfl, hd, .inr rfl, q, fun p1 p2 aL ab => ?_⟩;obtain ⟨aG, aO⟩ := Py aL.1 ab.1;rw [aG, aO, D8, D8];exact ⟨rfl, rfl⟩
  ·left;rw [if_neg q];refine ⟨rfl, fun p1 p2 aL ab => q ?_⟩;obtain ⟨aG, aO⟩ := Py aL.1 ab.1;rw [aG, aO, D8, D8];exact Mc aL ab hd
end Go.Proofs.YtpochbhajmbfdaaGreat
namespace Go.Proofs.YtpochbhajmbfdaaGreat
open Go.RowKit
theorem af4 {a1 a2 b1 b2 c1 c2 d1 d2 : Int} (aL : cH a1 a2 = true) (ab : cH b1 b2 = true) (ak : cH c1 c2 = true) (hd : cH d1 d2 = true) : -144115188075855872 ≤ db a1 a2 b1 b2 c1 c2 d1 d2 ∧ db a1 a2 b1 b2 c1 c2 d1 d2 ≤ 144115188075855872 := by
 rw [sX] at aL ab ak hd;have m1 := DY (x := b2 - a2) (y := c1 - d1) (by omega) (by omega) (by omega) (by omega);have m2 := DY (x := a1 - b1) (y := d2 - c2) (by omega) (by omega) (by omega) (by omega);unfold db;omega
theorem K4 {n d a b : Int} (h : k5 n d a b) (a0 : -134217728 ≤ a) (a1 : a ≤ 134217728) (oC : -134217728 ≤ b) (b1 : b ≤ 134217728) (d0 : 0 ≤ d) (d1 : d ≤ 144115188075855872) : -19342813113834066795298816 ≤ n ∧ n ≤ 19342813113834066795298816 := by
 obtain ⟨aI, h1⟩ := h;have i0 : -134217728 ≤ hR a b ∧ hR a b ≤ 134217728 := by unfold hR; split <;> omega
 have i1 : -134217728 ≤ hQ a b ∧ hQ a b ≤ 134217728 := by unfold hQ; split <;> omega
 have m0 := B6 i0.1 i0.2 (show -144115188075855872 ≤ d by omega) d1;have m1 := B6 i1.1 i1.2 (show -144115188075855872 ≤ d by omega) d1;omega
def Bw (M : fP) : Prop := (M = h7) ∨ (∃ x y d, M = jm x d y d ∧ 0 < d ∧ d ≤ 144115188075855872 ∧ (-19342813113834066795298816 ≤ x ∧ x ≤ 19342813113834066795298816) ∧ (-19342813113834066795298816 ≤ y ∧ y ≤ 19342813113834066795298816)) ∨ (∃ f1 f2 g1 g2, M = tk f1 f2 g1 g2)
theorem Xa {a1 a2 b1 b2 c1 c2 d1 d2 x y d : Int} (aL : cH a1 a2 = true) (ab : cH b1 b2 = true) (ak : cH c1 c2 = true) (hd : cH d1 d2 = true) (aI : 0 < d) (h1 : d = 1 ∨ d = iK (db a1 a2 b1 b2 c1 c2 d1 d2)) (au : four a1 a2 b1 b2 c1 c2 d1 d2 x y d) :
  d ≤ 144115188075855872 ∧ (-19342813113834066795298816 ≤ x ∧ x ≤ 19342813113834066795298816) ∧ (-19342813113834066795298816 ≤ y ∧ y ≤ 19342813113834066795298816) := by
 have du := af4 aL ab ak hd;rw [sX] at aL ab
 have so : d ≤ 144115188075855872 := by
  rcases h1 with rfl | rfl
  ·omega
  ·unfold iK; split <;> omega
 exact ⟨so, K4 au.1 aL.1.1 aL.1.2 ab.1.1 ab.1.2 (by omega) so, K4 au.2.1 aL.2.1 aL.2.2 ab.2.1 ab.2.2 (by omega) so⟩
theorem aaY (a1 a2 b1 b2 c1 c2 d1 d2 : Int) : Bw (q8 a1 a2 b1 b2 c1 c2 d1 d2) := by
 unfold q8
 by_cases h : (cH a1 a2 && cH b1 b2 && cH c1 c2 && cH d1 d2) = true
 ·rw [if_pos h];simp only [eo] at h;rcases abo a1 a2 b1 b2 c1 c2 d1 d2 with ⟨e, _⟩ | ⟨x, y, d, e, aI, h1, au, _⟩ | ⟨f1, f2, g1, g2, e, _⟩
  ·exact .inl e
  ·exact .inr (.inl ⟨x, y, d, e, aI, Xa h.1.1.1 h.1.1.2 h.1.2 h.2 aI h1 au⟩)
  ·exact .inr (.inr ⟨f1, f2, g1, g2, e⟩)
 ·rw [if_neg h]; exact .inl rfl
section
variable {P : Program} {R : aJ} {s : aC} {ops : Array Oper} {dr : Option (List Nat)} {ty : Nat} {pos : String} {after : Array Edge} {guard : Option (Nat × Bool)} {K : aJ → aC → Prop} {rest : List Oper} {c : Code} {Q : Exit → aJ → aC → Prop}
theorem EO (aB : aJ) (aam : bH aB R) (h : fJ P c Q aB s) : fJ P c Q R s := fun ok bp bU a w ⟨A, ad, aA⟩ => h ok bp bU a w ⟨A, ad, aA.le aam⟩
theorem RB {f : FuncId} {r : bQ} {i j : Nat} {post : ai → bQ → Prop} (hp : pq P f [cU r.sz r.n r.aU] post) (b0 : 0 < r.sz) (cW : ∀ y ∈ r.aU, y.ba = true) (hF : ∀ v q, post v q → v = aR q.v ∧ uU q.aU) :
  dt P f [aR r.v] cg (bL i r) fun v aH aB => ∃ q, aH = cg ∧ aB = b5 (bL j q) (bL i r) ∧ 0 < q.sz ∧ post v q := by
 have h := XV (R0 := bL i r) (args := [aR r.v]) (hp j) rfl (fun U ad W vs cS dT => ⟨dT.1, fun n x v aa hv => ?_⟩) (fun v aH bo al => ?_)
 ·refine ⟨fun U ad W vs cS ew dT => (h.call U ad W vs cS ew dT).mono ?_⟩;rintro e bq ⟨v, c3, aH, aB, bf, cM, c9, ⟨bo, ⟨q, _, rfl, aZ, al⟩, rfl, rfl⟩, mo⟩;exact ⟨v, c3, cg, _, bf, cM, c9, ⟨q, rfl, rfl, aZ, al⟩, mo⟩
 ·match n with
  | 0 =>
   cases aa;have sy := (dT.2 0 _ v rfl hv).1;subst sy;exact (cS.rows i r (by unfold bL; exact cy _ _ _)).1.Rq b0 r.aU (fun xs ao => ao.map (fun b ab _ => ⟨.inl ab, rfl⟩) fun _ _ _ _ => rfl) cW fun b ab => .inr (.inr ⟨i, r, by unfold bL; exact cy _ _ _, ab⟩)
  | n + 1 => simp at aa
 ·obtain ⟨q, rfl, rfl, aZ, al⟩ := al;obtain ⟨rfl, au⟩ := hF v q al;refine ⟨rfl, Bv.one, rfl, fun k cK af => ?_⟩;obtain ⟨rfl, rfl⟩ := fV af;exact ⟨aZ, au⟩
theorem Nl (i j : Nat) (gL : i ≠ j) {d : Nat} {f : FuncId} {g : Operand} {ts : Array TypeId} {x : Operand} {r : bQ} {post : ai → bQ → Prop} [E : Enters P f] (hw : want ops ⟨some d, .call ⟨.value g, #[x], ts⟩, ty, pos, after, guard⟩ s = some true) (hm : dW dr ⟨some d, .call ⟨.value g, #[x], ts⟩, ty, pos, after, guard⟩ = true)
  (aw : s.look g = some (aR (.func (.func f) #[] #[]))) (aL : s.look x = some (aR r.v)) (hp : pq P f [cU r.sz r.n r.aU] post) (hi : R i = some r) (b0 : 0 < r.sz) (cW : ∀ y ∈ r.aU, y.ba = true) (ae : R j = none) (hd : Nat.blt d s.n = true) (hF : ∀ v q, post v q → v = aR q.v ∧ uU q.aU)
  (h : ∀ q, post (aR q.v) q → cT P ops dr K rest R (s.put (some d) (cU q.sz q.n q.aU))) : cT P ops dr K (⟨some d, .call ⟨.value g, #[x], ts⟩, ty, pos, after, guard⟩ :: rest) R s := by
 refine ⟨true, hw, k9 hd, .inr (.inr (.inr (.inr (.inr ⟨rfl, hm, f, [aR r.v], cg, bL i r, _, ⟨⟨_, g, rfl, rfl, .inl ⟨[], aw, by simp [aL], rfl⟩⟩, E.h⟩, RB (j := j) hp b0 cW hF, fun x aa j ae => ?_, fun k' ar aF => (by cases aF), fun fN a8 aF => ?_, fun k' ar x j aF => (by cases aF), ?_⟩))))⟩
 ·simp at aa; subst aa; exact absurd ae (iJ _ j)
 ·obtain ⟨rfl, rfl⟩ := fV aF; exact hi
 rintro v aH aB ⟨q, rfl, rfl, zA, al⟩ _ _ _;refine ⟨fun k' c aF => (by cases aF), ?_⟩;obtain ⟨rfl, _⟩ := hF v q al;have lE : b5 (b5 (bL j q) (bL i r)) R j = some q := gv (gv (by unfold bL; exact cy _ _ _));refine ⟨j, d, q, rfl, lE, zA, cy _ _ _, (show d < s.n by simpa [Nat.blt_eq] using hd), ?_⟩
 have aG : (fun x => if x = j then none else b5 (b5 (bL j q) (bL i r)) R x) = R := by
  funext x
  by_cases e : x = j
  ·rw [if_pos e, e, ae]
  ·rw [if_neg e]
   by_cases bz : x = i
   ·subst bz;rw [hi];exact gv (by rw [gw (by unfold bL; rw [ca _ _ e]; rfl)]; unfold bL; exact cy _ _ _)
   ·exact gw (by rw [gw (by unfold bL; rw [ca _ _ e]; rfl)]; unfold bL; rw [ca _ _ bz]; rfl)
 rw [aG, uC, Aw];exact h q al
end
section
variable {P : Program} {R : aJ} {s : aC} {ops : Array Oper} {dr : Option (List Nat)} {ty : Nat} {pos : String} {after : Array Edge} {guard : Option (Nat × Bool)} {K : aJ → aC → Prop} {rest : List Oper} {c : Code} {Q : Exit → aJ → aC → Prop}
theorem gI.one {U : Nat → Prop} {ad : Nat → Nat} {W : World} {y : AC} {v : Value} (h : gI U ad W y v) (ak : y.ba = true) : v.oneCell' = true := by
 cases y with
 | c u => rw [h.1]; exact h.2
 | own k o => cases ak
 | p S => exact S.cell _ _ h.1
theorem bZ.exact {U cM : Nat → Prop} {ad bf : Nat → Nat} {W bq : World} {aU : List AC} {xs : List Value} (h : bZ U ad W aU xs) (ak : ∀ y ∈ aU, y.ba = true) : bZ cM bf bq (xs.map AC.c) xs := by
 refine ⟨by rw [mZ], fun i x v aa hv => ?_⟩;rw [eJ, hv] at aa;cases aa;have hi : i < aU.length := by rw [h.1]; exact (bV.1 hv).1
 have ag := cl hi;exact ⟨rfl, (h.2 i _ v ag hv).one (ak _ (dJ ag))⟩
theorem bZ.Wh {U : Nat → Prop} {ad : Nat → Nat} {W : World} {xs x7 : List Value} (h : bZ U ad W (xs.map AC.c) x7) : x7 = xs := by
 refine List.ext_getElem? fun i => ?_;cases aa : x7[i]? with
 | none =>
  have : xs.length ≤ i := by have := h.1; rw [mZ] at this; rw [this]; exact List.getElem?_eq_none_iff.1 aa
  exact (List.getElem?_eq_none_iff.2 this).symm
 | some v =>
  have hi : i < (xs.map AC.c).length := by rw [h.1]; exact (bV.1 aa).1
  have ag := cl hi;have := (h.2 i _ v ag aa);rw [List.getElem_map] at this;rw [this.1, cl (by rwa [mZ] at hi)]
theorem Eg {e sz n : Nat} {v : Value} {aU zs : List AC} {g : Nat} (hs : 0 < sz) (h : (⟨e, sz, v, n, aU⟩ : bQ).own g) : (⟨e, sz, v, n, zs⟩ : bQ).own g := by
 have := bQ.o9 h hs;exact .inl this
theorem af2 {f : FuncId} {r : bQ} {i j : Nat} (gL : i ≠ j) (hp : ∀ aU : List AC, aU.length = r.aU.length → aU.all AC.ba = true → pq P f [cU r.sz r.n aU] fun v q => ∃ aW, v = aR aW ∧ q = ⟨r.e, r.sz, aW, r.n, aU⟩) (b0 : 0 < r.sz) (cW : ∀ y ∈ r.aU, y.ba = true) :
  dt P f [aR r.v] cg (bL i r) fun v aH aB => ∃ aW, v = aR aW ∧ aH = cg ∧ aB = b5 (bL j ⟨r.e, r.sz, aW, r.n, r.aU⟩) (bL i r) := by
 refine ⟨fun U ad W vs cS ew dT => ?_⟩;have jB : ∀ q, bL i q i = some q := fun q => by unfold bL; exact cy _ _ _
 obtain ⟨jf, n2, xr⟩ := cS.rows i r (jB r);obtain ⟨xs, az, ao⟩ := jf.row b0;have hex : ∀ (U : Nat → Prop) (ad : Nat → Nat) (W : World), bZ U ad W (xs.map AC.c) xs := fun U ad W => ao.exact cW;have zL : ∀ y ∈ xs.map AC.c, AC.ba y = true := fun y ag => by obtain ⟨v, _, rfl⟩ := ix.1 ag; rfl
 have M2 : ∀ g, (⟨r.e, r.sz, r.v, r.n, xs.map AC.c⟩ : bQ).own g → r.own g := fun g h => by
  have := bQ.o9 h b0;exact .inl this
 have xo : ∀ g, r.own g → (⟨r.e, r.sz, r.v, r.n, xs.map AC.c⟩ : bQ).own g := fun g h => by
  have := bQ.o9 h b0;exact .inl this
 have mG : fk U ad W cg (bL i ⟨r.e, r.sz, r.v, r.n, xs.map AC.c⟩) := by
  refine ⟨fun k cs af => (by cases af), fun k cs x j af => (by cases af), fun k k' cs ar af => (by cases af), fun k q af => ?_, fun a b q cK aL ab nr => ?_⟩
  ·obtain ⟨rfl, rfl⟩ := fV af;exact ⟨.inl ⟨b0, xs, az, hex _ _ _⟩, zL, fun g aw => ⟨(xr g (M2 g aw)).1, fun k cs af => (by cases af)⟩⟩
  ·obtain ⟨rfl, rfl⟩ := fV aL;obtain ⟨rfl, rfl⟩ := fV ab;exact absurd rfl nr
 have hF := RB (i := i) (j := j) (r := ⟨r.e, r.sz, r.v, r.n, xs.map AC.c⟩) (hp (xs.map AC.c) (by rw [mZ]; exact ao.1.symm) (cC.2 zL)) b0 zL (fun v q ⟨aW, hv, al⟩ => by
  subst al; exact ⟨hv, uU.of fun y ag => by obtain ⟨v, _, rfl⟩ := ix.1 ag; exact ⟨v, rfl⟩⟩)
 refine (hF.call U ad W vs mG ew dT).mono ?_;rintro e bq ⟨v, c3, aH, aB, bf, cM, c9, ⟨q, rfl, rfl, aZ, aW, rfl, rfl⟩, h2, aq, aK, cO, ek, np, pR, jc⟩
 have zy : ∀ b, eu ad cg (bL i ⟨r.e, r.sz, r.v, r.n, xs.map AC.c⟩) b → r.own b := fun b ab => by
  rcases ab with ⟨k, cs, af, _⟩ | ⟨k, q, af, aw⟩
  ·cases af
  ·obtain ⟨rfl, rfl⟩ := fV af; exact M2 b aw
 have zI : ∀ b, U b → b < W.heap.size → bq.heap[b]? = W.heap[b]? := fun b ab bj => jc.block b ⟨bj, fun a6 => (xr b (zy b a6)).1 ab⟩
 have nu : ∀ k q, b5 (bL j ⟨r.e, r.sz, aW, r.n, r.aU⟩) (bL i r) k = some q → ∃ u, q = ⟨r.e, r.sz, u, r.n, r.aU⟩ ∧ b5 (bL j ⟨r.e, r.sz, aW, r.n, xs.map AC.c⟩) (bL i ⟨r.e, r.sz, r.v, r.n, xs.map AC.c⟩) k = some ⟨r.e, r.sz, u, r.n, xs.map AC.c⟩ := fun k q af => by
  rcases j7 af with af | ⟨aE, af⟩
  ·obtain ⟨rfl, rfl⟩ := fV af;exact ⟨aW, rfl, gv (by unfold bL; exact cy _ _ _)⟩
  ·obtain ⟨rfl, rfl⟩ := fV af;refine ⟨q.v, rfl, ?_⟩;rw [gw (by unfold bL; rw [ca _ _ gL]; rfl)];exact jB _
 refine ⟨v, aR aW, cg, b5 (bL j ⟨r.e, r.sz, aW, r.n, r.aU⟩) (bL i r), bf, fun b => cM b ∨ (U b ∧ b < W.heap.size), c9, ⟨aW, rfl, rfl, rfl⟩, ⟨fun k cs af => (by cases af), fun k cs x j af => (by cases af), fun k k' cs ar af => (by cases af), fun k q af => ?_, fun a b q cK aL ab nr g aw eN => ?_⟩, aq, fun j ae => absurd ae (iJ _ j), fun k cs af => (by cases af), fun k q af => ?_, fun b ab => ?_, fun b ab => ?_, ⟨jc.os, jc.tape, jc.output, jc.size, fun b ab => jc.block b ⟨ab.1, fun a6 => ab.2 (.inr ⟨i, r, jB r, zy b a6⟩)⟩⟩⟩
 ·obtain ⟨u, rfl, e0⟩ := nu k q af;obtain ⟨kf, z2, z3⟩ := h2.rows k _ e0;obtain ⟨x7, gY, h4⟩ := kf.row b0;have := bZ.Wh h4;subst this;refine ⟨.inl ⟨b0, x7, gY, ao.map (fun b ab bj => ⟨.inr ⟨ab, bj⟩, zI b ab bj⟩) fun k x aa ae => absurd ae (AC.dH (cW x aa) k)⟩, cW, fun g aw => ⟨?_, fun k cs af => (by cases af)⟩⟩;have eN := Eg (zs := x7.map AC.c) b0 aw;rintro (dI | ⟨dI, bj⟩)
  ·exact (z3 g eN).1 dI
  ·rcases pR g (.inr ⟨k, _, e0, eN⟩) with a6 | a6
   ·exact (xr g (zy g a6)).1 dI
   ·omega
 ·obtain ⟨u, rfl, pU⟩ := nu a q aL;obtain ⟨kF, rfl, du⟩ := nu b cK ab;exact h2.apart a b _ _ pU du nr g (Eg b0 aw) (Eg b0 eN)
 ·obtain ⟨rfl, rfl⟩ := fV af;exact ⟨q, by rw [gw (by unfold bL; rw [ca _ _ gL]; rfl)]; exact jB q⟩
 ·rcases ab with ab | ab
  ·rcases np b ab with h | h | h
   ·exact .inl h
   ·exact .inr (.inl h)
   ·exact .inr (.inr (.inr ⟨i, r, jB r, zy b h⟩))
  ·exact .inl ab.1
 ·rcases ab with ⟨k, cs, af, _⟩ | ⟨k, q, af, aw⟩
  ·cases af
  ·obtain ⟨u, rfl, e0⟩ := nu k q af;rcases pR b (.inr ⟨k, _, e0, Eg b0 aw⟩) with h | h
   ·exact .inl (.inr ⟨i, r, jB r, zy b h⟩)
   ·exact .inr h
theorem HI (i j : Nat) (gL : i ≠ j) {dst : Option Nat} {f : FuncId} {g : Operand} {ts : Array TypeId} {x : Operand} {r : bQ} [E : Enters P f] (hw : want ops ⟨dst, .call ⟨.value g, #[x], ts⟩, ty, pos, after, guard⟩ s = some true) (hm : dW dr ⟨dst, .call ⟨.value g, #[x], ts⟩, ty, pos, after, guard⟩ = true)
  (aw : s.look g = some (aR (.func (.func f) #[] #[]))) (aL : s.look x = some (aR r.v)) (hp : ∀ aU : List AC, aU.length = r.aU.length → aU.all AC.ba = true → pq P f [cU r.sz r.n aU] fun v q => ∃ aW, v = aR aW ∧ q = ⟨r.e, r.sz, aW, r.n, aU⟩) (hi : R i = some r) (b0 : 0 < r.sz) (cW : ∀ y ∈ r.aU, y.ba = true) (hd : k8 dst s.n = true)
  (h : ∀ aW, cT P ops dr K rest (bS R j ⟨r.e, r.sz, aW, r.n, r.aU⟩) (s.put dst (aR aW))) : cT P ops dr K (⟨dst, .call ⟨.value g, #[x], ts⟩, ty, pos, after, guard⟩ :: rest) R s := by
 refine Nf (l := [x]) (args := [aR r.v]) hw hm aw (by simp [aL]) (af2 (j := j) gL hp b0 cW) (fun k q af => ?_) rfl hd ?_
 ·obtain ⟨rfl, rfl⟩ := fV af; exact hi
 rintro v aH aB ⟨aW, rfl, rfl, rfl⟩;refine ⟨rfl, ?_⟩
 have aG : b5 (b5 (bL j ⟨r.e, r.sz, aW, r.n, r.aU⟩) (bL i r)) R = bS R j ⟨r.e, r.sz, aW, r.n, r.aU⟩ := by
  funext k
  by_cases gV : k = j
  ·subst gV;rw [cy];exact gv (gv (by unfold bL; exact cy _ _ _))
  ·rw [ca _ _ gV]
   by_cases qO : k = i
   ·subst qO;rw [hi];exact gv (by rw [gw (by unfold bL; rw [ca _ _ gV]; rfl)]; unfold bL; exact cy _ _ _)
   ·exact gw (by rw [gw (by unfold bL; rw [ca _ _ gV]; rfl)]; unfold bL; rw [ca _ _ qO]; rfl)
 rw [aG];exact h aW
end
section
variable {P : Program} {s : aC} {ops : Array Oper} {K : aC → Prop} {rest : List Oper} {ty : Nat} {pos : String} {after : Array Edge} {guard : Option (Nat × Bool)} {d : Nat}
theorem h3 {t dK k off : Nat} {x : Operand} (hw : want ops ⟨some d, .binOp .eql t x (.const (.pointer none)) dK, ty, pos, after, guard⟩ s = some true) (aa : s.look x = some (.w (.one (.own k off)))) (hu : Dy P t = true) (hd : Nat.blt d s.n = true) (h : bi P ops K rest (s.put (some d) (bD false))) : bi P ops K (⟨some d, .binOp .eql t x (.const (.pointer none)) dK, ty, pos, after, guard⟩ :: rest) s := by
 obtain ⟨e, he⟩ : ∃ e, P.underlying t = some (.pointer e) := by
  unfold Dy at hu
  split at hu
  ·rename_i e he; exact ⟨e, he⟩
  ·cases hu
 refine fY (av := bD false) hw ⟨fun _ _ h => (by cases h), fun z aZ => ?_, fun U ad W env zk => ?_, fun j ae => absurd ae (iJ _ j)⟩ hd h
 ·simp [Op.operands] at aZ;rcases aZ with rfl | rfl
  ·exact ⟨_, aa⟩
  ·exact ⟨_, rfl⟩
 ·have aG := zk x (by simp [Op.operands]) _ aa;have aG : env x = .pointer (some ⟨ad k, off, none⟩) := aG;have aO : env (.const (.pointer none)) = .pointer none := (zk (.const (.pointer none)) (by simp [Op.operands]) _ rfl).1;refine ⟨.bool false, ?_, rfl, rfl⟩;simp only [execOp, aG, aO, Mn, Sem.run_bind, Sem.run_pure, Result.andThen_ok, aeF he]
theorem iD {t dK k off : Nat} {x : Operand} (hw : want ops ⟨some d, .binOp .neq t x (.const (.pointer none)) dK, ty, pos, after, guard⟩ s = some true) (aa : s.look x = some (.w (.one (.own k off)))) (hu : Dy P t = true) (hd : Nat.blt d s.n = true) (h : bi P ops K rest (s.put (some d) (bD true))) : bi P ops K (⟨some d, .binOp .neq t x (.const (.pointer none)) dK, ty, pos, after, guard⟩ :: rest) s := by
 obtain ⟨e, he⟩ : ∃ e, P.underlying t = some (.pointer e) := by
  unfold Dy at hu
  split at hu
  ·rename_i e he; exact ⟨e, he⟩
  ·cases hu
 refine fY (av := bD true) hw ⟨fun _ _ h => (by cases h), fun z aZ => ?_, fun U ad W env zk => ?_, fun j ae => absurd ae (iJ _ j)⟩ hd h
 ·simp [Op.operands] at aZ;rcases aZ with rfl | rfl
  ·exact ⟨_, aa⟩
  ·exact ⟨_, rfl⟩
 ·have aG := zk x (by simp [Op.operands]) _ aa;have aG : env x = .pointer (some ⟨ad k, off, none⟩) := aG;have aO : env (.const (.pointer none)) = .pointer none := (zk (.const (.pointer none)) (by simp [Op.operands]) _ rfl).1;refine ⟨.bool true, ?_, rfl, rfl⟩;simp only [execOp, aG, aO, Mn, Sem.run_bind, Sem.run_pure, Result.andThen_ok, aeH he]
end
section
variable {P : Program} {f : FuncId} {args : List ai} {m0 : Mem} {R0 : aJ} {Post Post2 : ai → Mem → aJ → Prop}
def oH (i : Nat) (R : aJ) : aJ := fun j => if j = i then none else R j
theorem dt.vc (i : Nat) (h : dt P f args m0 R0 Post) (aI : R0 i = none)
  (hp : ∀ b9 aH aB, Post b9 aH aB → ∃ q AN, aB i = some q ∧ 0 < q.sz ∧ (∀ U ad W v, di U ad W b9 v → gI U ad W (.p (cA q.sz q.n q.aU)) q.v → di U ad W AN v) ∧ (∀ j, AN.owns j → b9.owns j) ∧ Post2 AN aH (oH i aB)) : dt P f args m0 R0 Post2 := by
 refine ⟨fun U ad W vs cS ew dT => (h.call U ad W vs cS ew dT).mono ?_⟩;rintro e bq ⟨v, r, aH, aB, bf, cM, c9, h1, h2, aq, aK, cO, ek, np, pR, jc⟩;obtain ⟨q, AN, hi, aZ, hv, hw, Xk⟩ := hp r aH aB h1;obtain ⟨kf, z2, z3⟩ := h2.rows i q hi;have De : ∀ b, cM b → b < bq.heap.size → (fun b => cM b ∨ q.own b) b ∧ bq.heap[b]? = bq.heap[b]? := fun b ab _ => ⟨.inl ab, rfl⟩;have zK : gI (fun b => cM b ∨ q.own b) bf bq (.p (cA q.sz q.n q.aU)) q.v := kf.Rq aZ q.aU (fun xs ao => ao.map De fun _ _ _ _ => rfl) z2 fun b ab => .inr ab;have ap : di (fun b => cM b ∨ q.own b) bf bq r v := aq.map De fun _ _ => rfl
 have C1 : ∀ k x, oH i aB k = some x → k ≠ i ∧ aB k = some x := fun k x af => by
  unfold oH at af
  split at af
  ·cases af
  ·rename_i ck; exact ⟨ck, af⟩
 refine ⟨v, AN, aH, oH i aB, bf, fun b => cM b ∨ q.own b, c9, Xk, ⟨fun k cs af => ?_, h2.fT, h2.inj, fun k x af => ?_, fun a b x y aL ab nr g aw eN => ?_⟩, hv _ _ _ _ ap zK, fun j ae => aK j (hw j ae), cO, fun k x af => ?_, fun b ab => ?_, fun b ab => ?_, jc⟩
 ·obtain ⟨xs, ty, a1, a2, a3⟩ := h2.dG k cs af;exact ⟨xs, ty, a1, a2.map De fun _ _ _ _ => rfl, fun a6 => a6.elim a3 fun aw => (z3 _ aw).2 k cs af rfl⟩
 ·obtain ⟨ck, e0⟩ := C1 k x af;obtain ⟨a1, a2, a3⟩ := h2.rows k x e0;exact ⟨a1.kept a2 (fun _ _ => rfl) (dU _) De, a2, fun g aw => ⟨fun a6 => a6.elim (a3 g aw).1 fun eN => h2.apart k i x q e0 hi ck g aw eN, (a3 g aw).2⟩⟩
 ·obtain ⟨_, pU⟩ := C1 a x aL;obtain ⟨_, du⟩ := C1 b y ab;exact h2.apart a b x y pU du nr g aw eN
 ·obtain ⟨x', kU⟩ := ek k x af;refine ⟨x', ?_⟩;unfold oH;rw [if_neg (fun e => by subst e; rw [aI] at af; cases af)];exact kU
 ·rcases ab with ab | ab
  ·exact np b ab
  ·rcases pR b (.inr ⟨i, q, hi, ab⟩) with a6 | a6
   ·exact .inr (.inr a6)
   ·exact .inr (.inl a6)
 ·refine pR b ?_;rcases ab with ⟨k, cs, af, e⟩ | ⟨k, x, af, aw⟩
  ·exact .inl ⟨k, cs, af, e⟩
  ·exact .inr ⟨k, x, (C1 k x af).2, aw⟩
theorem AC.qn (x : AC) : x.bd (fun j => j) = x := by cases x <;> rfl
theorem AC.Qv (xs : List AC) : xs.map (AC.bd fun j => j) = xs := by
 conv => rhs; rw [← List.map_id xs]
 exact qf fun x _ => AC.qn x
theorem bK.qn (x : bK) : x.bd (fun j => j) = x := by
 cases x with
 | one x => show bK.one (x.bd _) = _; rw [AC.qn]
 | agg xs => show bK.agg (xs.map _) = _; rw [AC.Qv]
theorem ai.qn (x : ai) : x.bd (fun j => j) = x := by
 cases x with
 | w x => show ai.w (x.bd _) = _; rw [bK.qn]
 | da xs =>
  show ai.da (xs.map _) = _;congr 1
  conv => rhs; rw [← List.map_id xs]
  exact qf fun x _ => bK.qn x
theorem Mem.qn (m : Mem) : Mem.bd (fun j => j) m = m := by
 funext k;show (m k).map _ = m k;cases m k with
 | none => rfl
 | some cs => show some (cs.map _) = _; rw [AC.Qv]
theorem dt.rn {cu : Nat → Nat} (gM : ∀ j, cu (cu j) = j) (h : dt P f args m0 R0 Post) : dt P f args m0 (R0.bd cu) fun b9 aH aB => ∃ bo, Post b9 aH bo ∧ aB = bo.bd cu := by
 have h1 := h.bd (bP := fun j => j) (fun _ => rfl) (cu := cu) (iX := cu) gM gM
 rw [show args.map (ai.bd fun j => j) = args from by
  conv => rhs; rw [← List.map_id args]
  exact qf fun x _ => ai.qn x, Mem.qn] at h1
 refine ⟨fun U ad W vs cS ew dT => (h1.call U ad W vs cS ew dT).mono ?_⟩;rintro dn bq ⟨v, r, aH, aB, bf, cM, c9, ⟨c3, m1, bo, al, rfl, rfl, rfl⟩, mo⟩;rw [ai.qn, Mem.qn] at mo;exact ⟨v, c3, m1, bo.bd cu, bf, cM, c9, ⟨bo, al, rfl⟩, mo⟩
theorem dt.imp (h : dt P f args m0 R0 Post) (hp : ∀ b9 aH aB, Post b9 aH aB → Post2 b9 aH aB) : dt P f args m0 R0 Post2 :=
 ⟨fun U ad W vs cS ew dT => (h.call U ad W vs cS ew dT).mono (by
  rintro dn bq ⟨v, r, aH, aB, bf, cM, c9, h1, mo⟩;exact ⟨v, r, aH, aB, bf, cM, c9, hp _ _ _ h1, mo⟩)⟩
end
end Go.Proofs.YtpochbhajmbfdaaGreat
namespace Go.Proofs.YtpochbhajmbfdaaGreat
open Go.ChangeShapes Go.WideShapes Go.ChangeAt Go.RowKit Go.Joins
def sf (L : List (List Int)) : List AC := L.flatten.map fun x => .c (.int .i64 x)
theorem Lc {W : World} {b : Addr} {v : Value} (h : W.cell? b = some v) : b.block < W.heap.size := by
 unfold World.cell? at h
 split at h
 ·rename_i a6; exact (ln.1 a6).1
 ·cases h
theorem L9 {W : World} {a : Addr} {z : Nat} : ∀ (L : List (List Int)) (k : Nat), (∀ (i : Nat) (x : List Int), L[i]? = some x → x.length = z ∧ ∀ (o : Nat) (y : Int), x[o]? = some y → W.cell? (a.add ((k + i) * z + o)) = some (.int .i64 y)) →
  ∀ (j : Nat) (u : Int), L.flatten[j]? = some u → W.cell? (a.add (k * z + j)) = some (.int .i64 u)
 | [], k, h, j, u, hu => by simp at hu
 | x :: L, k, h, j, u, hu => by
  obtain ⟨ao, aa⟩ := h 0 x rfl;rw [List.flatten_cons] at hu;rcases jn j x.length with ae | ae
  ·rw [gG ae] at hu;have := aa j u hu;rwa [Nat.add_zero] at this
  ·rw [gH ae] at hu
   have := L9 L (k + 1) (fun i y ag => by
    have := h (i + 1) y (by simpa using ag);rw [show k + (i + 1) = k + 1 + i by omega] at this;exact this) (j - x.length) u hu
   rw [show (k + 1) * z + (j - x.length) = k * z + j by rw [kx, Nat.one_mul]; omega] at this;exact this
theorem aci {H : Type} {enc : TypeId × Value → H} {P : Program} {W : World} {t e : TypeId} (z : Nat) (aD : P.underlying t = some (.slice e)) (ce : P.cellsOf e = z)
  (zi : ∀ (n : Nat) (cs : List Value) d, DataW.trod enc P W 0 (fun _ => true) true n e cs = some d → ∃ xs : List Int, cs = xs.map (Value.int .i64))
  {v : Value} {d : DataW H} {p : List MemPlace} (hv : ∃ a len cap, v = .slice a len cap) (aI : DataW.Trod enc P W 0 (fun _ => true) true t v d p) (aZ : 0 < z) :
  ∃ L : List (List Int), (L.length : Int) ≤ 9223372036854775807 ∧ (∀ x ∈ L, x.length = z) ∧ di (fun _ => True) id W (cU z L.length (sf L)) v := by
 obtain ⟨a0, mi, UU, rfl⟩ := hv;obtain ⟨fu, au⟩ := aI;rcases Go.Deep.open_slice aD au with ⟨eg, aa⟩ | ⟨a, len, cap, m, n, D, agl, eg, ab, ao, hm, p0, aa, hi⟩
 ·simp [Value.cells] at eg;obtain ⟨rfl, rfl, rfl⟩ := eg;exact ⟨[], by decide, fun x aa => (by cases aa), ⟨none, 0, rfl, dU _, by simp [sf], fun h => absurd h (Nat.lt_irrefl _)⟩, fun _ _ => trivial⟩
 ·simp [Value.cells] at eg;obtain ⟨rfl, rfl, rfl⟩ := eg;simp only [if_true] at p0;subst p0;rw [ce] at hi
  have each : ∀ i, i < m → ∃ q : List Int, q.length = z ∧ ∀ (o : Nat) (y : Int), q[o]? = some y → W.cell? (a.add (i * z + o)) = some (.int .i64 y) := fun i h => by
   obtain ⟨ar, h1, h2⟩ := hi i h;obtain ⟨_, hlen, nX⟩ := World.cells?_some h1;obtain ⟨xs, rfl⟩ := zi _ _ _ h2;refine ⟨xs, by simpa using hlen, fun o y ag => ?_⟩
   have az : o < z := by
    have := (bV.1 ag).1;simp at hlen; omega
   have := nX o az;rw [Go.Deep.add_add, eJ, ag] at this;exact this
  obtain ⟨q, al⟩ := Go.Deep.choose_lt each
  have dp : ∀ (i : Nat) (x : List Int), ((List.range mi).map q)[i]? = some x → x.length = z ∧ ∀ (o : Nat) (y : Int), x[o]? = some y → W.cell? (a.add ((0 + i) * z + o)) = some (.int .i64 y) := by
   intro i x aa;rw [eJ] at aa;cases ap : (List.range mi)[i]? with
   | none => rw [ap] at aa; cases aa
   | some j =>
    rw [ap] at aa;cases aa;obtain ⟨aq, aK⟩ := bV.1 ap;simp at aq aK;subst aK;rw [jr];exact al i (by omega)
  have gr := L9 ((List.range mi).map q) 0 dp
  have zp : ∀ x ∈ (List.range mi).map q, x.length = z := fun x aa => by
   obtain ⟨i, dq⟩ := kw aa;exact (dp i x dq).1
  have xi : ∀ L : List (List Int), (∀ x ∈ L, x.length = z) → L.flatten.length = L.length * z := by
   intro L
   induction L with
   | nil => intro _; simp
   | cons x L cF =>
    intro h;rw [List.flatten_cons, dl, cF (fun y ag => h y (by simp [ag])), h x (by simp), mq, kx];omega
  refine ⟨(List.range mi).map q, by simp; unfold maxLen at hm; omega, zp, ?_⟩;refine ⟨⟨some a, m, by simp, by simpa using ao, by rw [sf, mZ, xi _ zp], fun aE => ⟨a, ((List.range mi).map q).flatten.map fun x => Value.int .i64 x, rfl, ?_, ⟨by rw [sf, mZ, mZ], fun i x u aa hu => ?_⟩, fun j u hu => ?_, fun y ag => ?_⟩⟩, fun _ _ => trivial⟩
  ·have Dg : 0 < mi := by simpa using aE
   obtain ⟨h1, h2⟩ := al 0 (by omega);have := Lc (h2 0 _ (cl (by omega)));rwa [block_add] at this
  ·unfold sf at aa;rw [eJ] at aa hu;cases ap : ((List.range mi).map q).flatten[i]? with
   | none => rw [ap] at aa; cases aa
   | some y =>
    rw [ap] at aa hu;cases aa; cases hu;exact ⟨rfl, rfl⟩
  ·rw [eJ] at hu;cases ap : ((List.range mi).map q).flatten[j]? with
   | none => rw [ap] at hu; cases hu
   | some y =>
    rw [ap] at hu;cases hu;have := gr j y ap;rwa [Nat.zero_mul, jr] at this
  ·unfold sf at ag;obtain ⟨x, _, rfl⟩ := ix.1 ag;rfl
theorem Gq {H : Type} {enc : TypeId × Value → H} {P : Program} {W : World} {e : TypeId} (jj : P.underlying e = some (.int .i64)) {n : Nat} {cs : List Value} {d : DataW H × List MemPlace} (h : DataW.trod enc P W 0 (fun _ => true) true n e cs = some d) (ao : cs.length = 1) : ∃ x : Int, cs = [.int .i64 x] := by
 match cs, ao with
 | [v], _ =>
  obtain ⟨x, aa, _⟩ := DataW.trod_int jj h;simp at aa;exact ⟨x, by rw [aa]⟩
theorem LK {H : Type} {enc : TypeId × Value → H} {P : Program} {W : World} {e : TypeId} {f0 f1 : Field} (he : P.underlying e = some (.struct #[f0, f1])) (ce : P.cellsOf e = 2) (Ea : f0.offset = 0) (o1 : f1.offset = 1) (kK : P.cellsOf f0.type = 1) (c1 : P.cellsOf f1.type = 1) (jj : P.underlying f0.type = some (.int .i64)) (bC : P.underlying f1.type = some (.int .i64))
  {n : Nat} {cs : List Value} {d : DataW H × List MemPlace} (h : DataW.trod enc P W 0 (fun _ => true) true n e cs = some d) : ∃ x y : Int, cs = [.int .i64 x, .int .i64 y] := by
 obtain ⟨xs, k, _, _, cW, oT, au⟩ := DataW.trod_struct he h;rw [ce] at cW
 match cs, cW, xs, oT with
 | [u, v], _, [d0, d1], _ =>
  have g0 := au 0 f0 rfl;have g1 := au 1 f1 rfl;simp [Ea, o1, kK, c1] at g0 g1;obtain ⟨x, aa⟩ := Gq jj g0 rfl;obtain ⟨y, ag⟩ := Gq bC g1 rfl;cases aa; cases ag;exact ⟨x, y, rfl⟩
end Go.Proofs.YtpochbhajmbfdaaGreat
