/-
  My own texts, without what this claim does not need. My own text.
-/
import Derived.Deep.SlicePairs
import Derived.Carry
import Derived.Test.YtbcecodakfejaaaGreatSApartK10
set_option maxRecDepth 100000
set_option maxHeartbeats 64000000
set_option linter.unusedVariables false
set_option linter.unusedSimpArgs false
set_option linter.unusedSectionVars false
open Go.Proofs.Tryz renaming prog → ag
namespace Go.Proofs.YtbcecodakfejaaaGreat
open Go.RowKit
theorem ab5 {x y : Nat} (aa : x < 9223372036854775808) (ai : y < 9223372036854775808) (h : x * y < 9223372036854775808) : aC ag 179 [aM (.int .u64 (x : Nat)), aM (.int .u64 (y : Nat))] (.cj [.one (.c (.int .u64 0)), .one (.c (.int .u64 ((x * y : Nat) : Int)))]) := by
 refine ho [.int .u64 (x : Nat), .int .u64 (y : Nat)] (.tuple #[.int .u64 0, .int .u64 ((x * y : Nat) : Int)]) rfl rfl rfl rfl rfl fun W => ?_;refine (Tryz.bits_Mul64 x y (by omega) (by omega) W).mono ?_;rintro e w' ⟨rfl, rfl⟩;have aF : x * y / 18446744073709551616 = 0 := Nat.div_eq_of_lt (by omega);have aN : x * y % 18446744073709551616 = x * y := Nat.mod_eq_of_lt (by omega);rw [aF, aN];exact ⟨rfl, Below.refl _ _⟩
theorem ab3 {y : Nat} (ai : y < 9223372036854775808) : aC ag 157 [aM (.int .u64 1), aM (.int .u64 (y : Nat))] (.cj [.one (.c (.int .u64 0)), .one (.c (.int .u64 (y : Nat)))]) := by
 have aU := ab5 (x := 1) (y := y) (by decide) ai (by omega);rw [Nat.one_mul] at aU
 replace aU : aC ag 179 [aM (.int .u64 1), aM (.int .u64 (y : Nat))] (.cj [.one (.c (.int .u64 0)), .one (.c (.int .u64 (y : Nat)))]) := aU
 refine bi (f := 157) Tryz.func157 rfl rfl rfl rfl ?_;(refine bZ ?_)
 ((refine ba rfl (a6 rfl (a6 rfl aK)) ?_))
 exact ah.aQ.refl _
def SU (d : Int) (m : Nat) (v : Value) (fe : List AC) (n : Nat) (R : aG) (aL : List (Nat × ah)) (bj : List (Nat × List AC)) : Prop :=
 ∃ (k : Nat) (e1 : Int), 1 ≤ k ∧ k ≤ m ∧ n = m - k ∧ e1 = k ∧ R = bw 0 ⟨3, 1, v, m, cu (List.replicate k d) ++ fe.drop k⟩ ∧ bj = [] ∧ aL = [(7, aM v), (8, aB e1)]
theorem ab8 {d : Int} {m : Nat} (wx : 1 ≤ m) (hm : m ≤ 100000) : aC ag 133 [mw [d], aB m] (mw (List.replicate m d)) := by
 have I5 := ab3 (y := m) (by omega);have w1 : IntKind.u64.wrap (m : Int) = m := by rw [IntKind.wrap_u64]; omega
 have w2 : IntKind.i64.wrap (m : Int) = m := la (by omega);have q0 : ¬ (m : Int) < 0 := by omega
 have q1 : ¬ (m : Int) > 9223372036854775807 := by omega
 have bd : Nat.min 1 m = 1 := oJ wx;refine bi (f := 133) Tryz.func133 rfl rfl rfl rfl ?_;refine rb ?_;(refine mx ?_);refine yO (l := m) (c' := m) 0 rfl rfl rfl rfl (dl _) rfl rfl ?h2 (kL (by omega)) rfl (fun v hv => ?_)
 case h2 => show 8 * m ≤ 281474976710656; omega
 generalize dD : hA m 1 _ = fe;have BG : fe.length = m := by rw [← dD]; simp [hA]
 have W6 : fe.all AC.aV = true := by
  rw [← dD];refine cb.2 fun y ai => ?_;simp only [hA, h9] at ai;obtain ⟨j, _, rfl⟩ := ai;rfl
 clear dD
 have s1 : eu fe (0 * 1) ((cu [d]).take (1 * 1)) = cu (List.replicate 1 d) ++ fe.drop 1 := by
  unfold eu; simp [cu]
 (repeat first | refine cF ?_ | (with_reducible apply Yp 0); (iterate 6 rfl); (rfl); rfl; (assumption); (assumption); rfl);refine Ii 0 (r := ⟨3, 1, v, m, cu (List.replicate 1 d) ++ fe.drop 1⟩) rfl (fun eO c hZ eI ju dR hlen => ?_);have lD : v = .slice eO m c := hZ;have hu : iE v 1 0 m v := by rw [lD]; exact iE.all 1 eI dR
 clear hZ eI ju dR hlen lD;refine j7 48 (SU d m v fe) (m - 1) (bw 0 ⟨3, 1, v, m, cu (List.replicate 1 d) ++ fe.drop 1⟩) _ [] ⟨1, 1, dl _, wx, rfl, rfl, rfl, rfl, rfl⟩ (ms _ _ _) rfl ⟨rfl, rfl, trivial⟩ trivial rfl ?_;clear I5 w1 w2 q0 q1 bd s1;rintro n R aL bj ⟨k, e1, qo, af, rfl, rfl, rfl, rfl, rfl⟩ c3;clear c3
 by_cases ak : k < m
 ·have q2 : (k : Int) < (m : Int) := by omega
  obtain ⟨x, aa⟩ : ∃ x, Nat.min k (m - k) = x := ⟨_, rfl⟩;have ahJ : 1 ≤ x := by rw [← aa]; exact Nat.le_min.2 ⟨qo, by omega⟩
  have YK : x ≤ k := by rw [← aa]; exact Nat.min_le_left _ _
  have ahK : x ≤ m - k := by rw [← aa]; exact Nat.min_le_right _ _
  have m0 : m - 0 = m := Nat.sub_zero m;have cr := hu.sl m0 af (dA _);have cm := hu.afg (k := k) (by omega);rw [jj] at cr cm;have cW : 0 + k = k := jj k
  have o9 : (cu (List.replicate k d) ++ fe.drop k).all AC.aV = true := by
   rw [List.all_append, M8, mq];exact cb.2 fun y ai => cb.1 W6 y (mm ai)
  have s1 : eu (cu (List.replicate k d) ++ fe.drop k) (k * 1) ((((cu (List.replicate k d) ++ fe.drop k).drop (0 * 1)).take (k * 1)).take (x * 1)) = cu (List.replicate (k + x) d) ++ fe.drop (k + x) := by
   have lk : (cu (List.replicate k d)).length = k * 1 := by simp [cu]
   rw [Nat.zero_mul, List.drop_zero, ← lk, List.take_left, Iu rfl]
   have b5 : (cu (List.replicate k d)).take (x * 1) = cu (List.replicate x d) := by
    simp only [cu, List.map_replicate, Nat.mul_one, List.take_replicate];rw [oJ YK]
   rw [b5, pL, ← Cc, List.replicate_append_replicate, show (cu (List.replicate x d)).length = x by simp [cu]]
  have w1 : IntKind.i64.wrap ((k : Int) + (x : Int)) = (k : Int) + (x : Int) := la (by omega);(repeat first | (with_reducible apply dj (id := 9) [0,1,2,3,4,5,6,7,8,9]); kernel_rfl; kernel_rfl; rfl | refine cF ?_ | (with_reducible apply hX); rfl; (repeat first | refine iB ?_ | (with_reducible apply EE); (iterate 3 rfl); assumption; (assumption); (assumption); rfl | (with_reducible apply Uj); (iterate 3 rfl); assumption; (assumption); (assumption); rfl); (with_reducible apply gY) | (with_reducible apply mP 0); (iterate 4 rfl); kernel_rfl; rfl | (with_reducible apply Yq 0); (iterate 3 rfl); assumption; rfl; assumption; assumption; assumption; rfl; rfl; (assumption); (exact dl _); (assumption); rfl; assumption; assumption; rfl);exact ⟨m - (k + x), _, _, [], by omega, ⟨k + x, (k : Int) + (x : Int), by omega, by omega, rfl, by omega, rfl, rfl, rfl⟩, ms _ _ _, rfl, ⟨rfl, rfl, trivial⟩, trivial, rfl⟩
 ·have q2 : ¬ (k : Int) < (m : Int) := by omega
  have cW : cu (List.replicate k d) ++ fe.drop k = cu (List.replicate m d) := by
   rw [show k = m by omega, tA (by omega), mn]
  rw [cW];refine zN 0 7 ⟨3, 1, v, m, cu (List.replicate m d)⟩ rfl rfl ?_
  have el : cz 1 m (cu (List.replicate m d)) = mw (List.replicate m d) := by
   show cz 1 m _ = cz 1 (List.replicate m d).length _;rw [List.length_replicate]
  rw [← el];(refine aZ ?_)
  ((refine ba rfl (a6 rfl aK) ?_))
  exact ah.aQ.refl _
end Go.Proofs.YtbcecodakfejaaaGreat
namespace Go.Proofs.YtbcecodakfejaaaGreat
def uX (p q : an) : List an := if p = q then [p] else [p, q]
def uW (p q : an) : List Int := if p = q then [] else [1]
end Go.Proofs.YtbcecodakfejaaaGreat
namespace Go.Proofs.YtbcecodakfejaaaGreat
open Go.RowKit
def pc (D : List Int) : Int := D.foldl max 0
def R5 : Prop := ∀ x y z w : Int, aC ag 129 [aP x y, aP z w] (nV (uX (x, y) (z, w)) (uW (x, y) (z, w)))
def Sa : Prop := ∀ (V : List an) (D : List Int) (j : Nat) (l : List an), V.length = D.length + 1 → V.length ≤ 1100 → l.length ≤ 1100 → j < D.length → (∀ d ∈ D, 1 ≤ d ∧ d ≤ 1048576) →
 aC ag 99 [nV V D, aB j, gT l] (.cj [.agg (uS (if l.isEmpty then [] else DB V j l) (if l.isEmpty then [] else zU D j l.length)), .one (.c (.bool (!l.isEmpty)))])
def R2 : Prop := ∀ (V : List an) (D : List Int), V.length ≤ 1100 → D.length ≤ 1100 → aC ag 40 [nV V D] (aB (pc D))
def R9 : Prop := ∀ (V W : List an) (D E : List Int), V.length ≤ 1100 → D.length ≤ 1100 → W.length ≤ 1100 → E.length ≤ 1100 → aC ag 61 [nV V D, nV W E] (bf (decide (V = W) && decide (D = E)))
def R1 : Prop := ∀ (V : List an) (D : List Int), V.length ≤ 1100 → D.length ≤ 1100 → aC ag 64 [nV V D] (nV V D)
theorem U4 : ah.aQ (.w (.agg [.c (.slice none 0 0), .c (.slice none 0 0)])) (nV [] []) := Jx rfl fun j x y aa ai => by
 match j with
 | 0 => cases aa; cases ai; exact .inr ⟨rfl, 2, rfl⟩
 | 1 => cases aa; cases ai; exact .inr ⟨rfl, 1, rfl⟩
 | j + 2 => simp at aa
theorem acO {V l : List an} {f t : Int} (ap : 0 ≤ f ∧ f ≤ V.length) (ax : 0 ≤ t ∧ t ≤ V.length) (pk : V.length ≤ 10000) (hl : l.length ≤ 10000) : aC ag 134 [gT V, aB f, aB t, gT l] (gT (V.take f.toNat ++ l ++ V.drop t.toNat)) := by
 have J := Pu (LL := [V.take f.toNat, l, V.drop t.toNat]) (by show 3 ≤ 1100; decide) (by simp [cx]; omega);have cW : [V.take f.toNat, l, V.drop t.toNat].flatten = V.take f.toNat ++ l ++ V.drop t.toNat := by simp
 rw [cW] at J
 replace J : aC ag 106 [cz 1 3 [.p (cl 2 (V.take f.toNat).length (bL (V.take f.toNat))), .p (cl 2 l.length (bL l)), .p (cl 2 (V.drop t.toNat).length (bL (V.drop t.toNat)))]] (gT (V.take f.toNat ++ l ++ V.drop t.toNat)) := J
 have a1 : 0 ≤ f := ap.1;have a2 : f ≤ f := nM f;have a3 : f ≤ V.length := ap.2;have a4 : 0 ≤ t := ax.1;have a5 : t ≤ V.length := ax.2;have Ta : (V.length : Int) ≤ V.length := nM _;have m1 : f.toNat - 0 = (V.take f.toNat).length := by rw [dS]; omega
 have aF : ((bL V).drop (0 * 2)).take ((V.take f.toNat).length * 2) = bL (V.take f.toNat) := by
  have h : bL V = bL (V.take f.toNat) ++ bL (V.drop f.toNat) := by rw [← rO, jG]
  rw [h, Nat.zero_mul, List.drop_zero, ← nI, List.take_left]
 have m2 : (V.length : Int).toNat - t.toNat = (V.drop t.toNat).length := by rw [hN]; omega
 have aN : ((bL V).drop (t.toNat * 2)).take ((V.drop t.toNat).length * 2) = bL (V.drop t.toNat) := by
  have h : bL V = bL (V.take t.toNat) ++ bL (V.drop t.toNat) := by rw [← rO, jG]
  rw [h, show t.toNat * 2 = (bL (V.take t.toNat)).length by rw [nI, dS]; omega, List.drop_left, Nq rfl]
 refine bi (f := 134) Tryz.func134 rfl rfl rfl rfl ?_;(repeat first | refine ec ?_ | refine gF ?_ | (with_reducible apply EF); (iterate 4 rfl); (assumption); (assumption); (assumption); (assumption); (assumption); rfl | (with_reducible apply EG); (iterate 5 rfl); (assumption); (assumption); (assumption); (assumption); (assumption); (assumption); rfl)
 ((refine ba rfl (a6 rfl aK) ?_))
 exact ah.aQ.refl _
theorem acN {V l : List Int} {f t : Int} (ap : 0 ≤ f ∧ f ≤ V.length) (ax : 0 ≤ t ∧ t ≤ V.length) (pk : V.length ≤ 10000) (hl : l.length ≤ 10000) : aC ag 135 [mw V, aB f, aB t, mw l] (mw (V.take f.toNat ++ l ++ V.drop t.toNat)) := by
 have J := Pt (LL := [V.take f.toNat, l, V.drop t.toNat]) (by show 3 ≤ 1100; decide) (by simp [cx]; omega);have cW : [V.take f.toNat, l, V.drop t.toNat].flatten = V.take f.toNat ++ l ++ V.drop t.toNat := by simp
 rw [cW] at J
 replace J : aC ag 107 [cz 1 3 [.p (cl 1 (V.take f.toNat).length (cu (V.take f.toNat))), .p (cl 1 l.length (cu l)), .p (cl 1 (V.drop t.toNat).length (cu (V.drop t.toNat)))]] (mw (V.take f.toNat ++ l ++ V.drop t.toNat)) := J
 have a1 : 0 ≤ f := ap.1;have a2 : f ≤ f := nM f;have a3 : f ≤ V.length := ap.2;have a4 : 0 ≤ t := ax.1;have a5 : t ≤ V.length := ax.2;have Ta : (V.length : Int) ≤ V.length := nM _;have m1 : f.toNat - 0 = (V.take f.toNat).length := by rw [dS]; omega
 have aF : ((cu V).drop (0 * 1)).take ((V.take f.toNat).length * 1) = cu (V.take f.toNat) := by
  have h : cu V = cu (V.take f.toNat) ++ cu (V.drop f.toNat) := by rw [← Cc, jG]
  rw [h, Nat.zero_mul, List.drop_zero, ← Ce, List.take_left]
 have m2 : (V.length : Int).toNat - t.toNat = (V.drop t.toNat).length := by rw [hN]; omega
 have aN : ((cu V).drop (t.toNat * 1)).take ((V.drop t.toNat).length * 1) = cu (V.drop t.toNat) := by
  have h : cu V = cu (V.take t.toNat) ++ cu (V.drop t.toNat) := by rw [← Cc, jG]
  rw [h, show t.toNat * 1 = (cu (V.take t.toNat)).length by rw [Ce, dS]; omega, List.drop_left, M9 rfl]
 refine bi (f := 135) Tryz.func135 rfl rfl rfl rfl ?_;(repeat first | refine ec ?_ | refine gF ?_ | (with_reducible apply EF); (iterate 4 rfl); (assumption); (assumption); (assumption); (assumption); (assumption); rfl | (with_reducible apply EG); (iterate 5 rfl); (assumption); (assumption); (assumption); (assumption); (assumption); (assumption); rfl)
 ((refine ba rfl (a6 rfl aK) ?_))
 exact ah.aQ.refl _
theorem Zj : R1 := by
 intro V D ab hd;have D9 := Pu (LL := [V]) (by show 1 ≤ 1100; decide) (by simp; omega);have Ea := Pt (LL := [D]) (by show 1 ≤ 1100; decide) (by simp; omega);rw [show [V].flatten = V by simp] at D9;rw [show [D].flatten = D by simp] at Ea
 replace D9 : aC ag 106 [cz 1 1 [.p (cl 2 V.length (bL V))]] (gT V) := D9
 replace Ea : aC ag 107 [cz 1 1 [.p (cl 1 D.length (cu D))]] (mw D) := Ea
 refine bi (f := 64) Tryz.func64 rfl rfl rfl rfl ?_;(refine bZ ?_)
 ((refine ba rfl (cL rfl rfl rfl aK) ?_))
 exact ah.aQ.refl _
theorem afQ {xs aO : List br} (hl : xs.length = aO.length) (h : ∀ (i : Nat) x y, xs[i]? = some x → aO[i]? = some y → ah.aQ (.w x) (.w y)) : ah.aQ (.cj xs) (.cj aO) := fun U ad W v hv => by
 obtain ⟨vs, e, au, aR⟩ := hv
 exact ⟨vs, e, by rw [← hl]; exact au, fun i y u ai hu => by
  have hi : i < xs.length := by rw [hl]; exact (bF.1 ai).1
  exact h i _ y (bQ hi) ai U ad W u (aR i _ u (bQ hi) hu)⟩
theorem Wi : ah.aQ (.cj [.agg [.c (.slice none 0 0), .c (.slice none 0 0)], .one (.c (.bool false))]) (.cj [.agg (uS [] []), .one (.c (.bool false))]) := afQ rfl fun i x y aa ai => by
 match i with
 | 0 => cases aa; cases ai; exact U4
 | 1 => cases aa; cases ai; exact ah.aQ.refl _
 | i + 2 => simp at aa
theorem afr {V l : List an} {D : List Int} {j : Nat} (ab : V.length ≤ 1100) (hd : D.length ≤ 1100) (ae : j ≤ 1100)
  (cs : (j : Int) ≥ D.length ∨ (¬ (j : Int) ≥ D.length ∧ (j : Int) ≥ (V.length : Int) - 1) ∨ (¬ (j : Int) ≥ D.length ∧ ¬ (j : Int) ≥ (V.length : Int) - 1 ∧ (l.length : Int) = 0)) : aC ag 99 [nV V D, aB j, gT l] (.cj [.agg (uS [] []), .one (.c (.bool false))]) := by
 have q0 : ¬ (j : Int) < 0 := by omega
 generalize (j : Int) = en at *;rcases cs with q1 | ⟨q1, q2⟩ | ⟨q1, q2, bE⟩
 all_goals
  refine bi (f := 99) Tryz.func99 rfl rfl rfl rfl ?_;(repeat first | refine ec ?_ | (with_reducible apply cc (c := true)); rfl; rfl; (exact ck (by omega)) | (with_reducible apply cc (c := false)); rfl; rfl; (exact cC (by omega)))
  ((refine ba rfl (cL rfl rfl rfl (a6 rfl aK)) ?_))
  exact Wi
theorem afs {V l : List an} {D : List Int} {j : Nat} {en n8 : Int} (og : en = j) (qm : D[j]? = some n8) (Mk : 1 ≤ n8 ∧ n8 ≤ 1048576) (hl : 0 < l.length) (ey : V.length = D.length + 1) (ab : V.length ≤ 1100) (wg : l.length ≤ 1100) : aC ag 99 [nV V D, aB en, gT l] (.cj [.agg (uS (DB V j l) (zU D j l.length)), .one (.c (.bool true))]) := by
 have BU : j < D.length := (bF.1 qm).1;have q0 : ¬ en < 0 := by omega
 have q1 : ¬ en ≥ D.length := by omega
 have q2 : ¬ en ≥ (V.length : Int) - 1 := by omega
 have bE : ¬ (l.length : Int) = 0 := by omega
 have c4 : en < (D.length : Int) := by omega
 have kW := Cd og qm;have kd := ab8 (d := n8 + 1) (m := l.length + 1) (by omega) (by omega);have iD := acO (V := V) (l := l) (f := en + 1) (t := en + 1) (by omega) (by omega) (by omega) (by omega);have Ef := acN (V := D) (l := List.replicate (l.length + 1) (n8 + 1)) (f := en) (t := en + 1) (by omega) (by omega) (by omega) (by rw [List.length_replicate]; omega);have aF : (en + 1).toNat = j + 1 := by omega
 have aN : en.toNat = j := by omega
 have b5 : D.getD j 0 = n8 := by simp [List.getD, qm]
 have eB : D.take j ++ List.replicate (l.length + 1) (n8 + 1) ++ D.drop (j + 1) = zU D j l.length := by unfold zU; rw [b5]
 have lx : V.take (j + 1) ++ l ++ V.drop (j + 1) = DB V j l := rfl;rw [aF, lx] at iD;rw [aF, aN, eB] at Ef;have rk : (((l.length + 1 : Nat) : Int)) = (l.length : Int) + 1 := by omega
 rw [rk] at kd;clear aF aN b5 eB lx rk;generalize DB V j l = Jo at *;generalize zU D j l.length = vp at *;generalize List.replicate (l.length + 1) (n8 + 1) = T at *;refine bi (f := 99) Tryz.func99 rfl rfl rfl rfl ?_;(repeat first | refine ec ?_ | refine gF ?_ | refine lp iD ?_ | (with_reducible apply cc (c := false)); rfl; rfl; (exact cC (by omega)))
 ((refine ba rfl (cL rfl rfl rfl (a6 rfl aK)) ?_))
 exact ah.aQ.refl _
theorem Zt : Sa := by
 intro V D j l pk ab wg ae yp;cases hl : l with
 | nil => exact afr (V := V) (D := D) (l := []) (j := j) (by omega) (by omega) (by omega) (.inr (.inr ⟨by omega, by omega, rfl⟩))
 | cons p m =>
  rw [← hl];have e : l.isEmpty = false := by rw [hl]; rfl
  rw [e];have Ge : 0 < l.length := by rw [hl]; exact jk _
  obtain ⟨n8, qm⟩ : ∃ n8, D[j]? = some n8 := ⟨_, bQ ae⟩;exact afs (V := V) (l := l) (D := D) (j := j) rfl qm (yp n8 (c5 qm)) Ge pk ab wg
theorem U5 (V : List an) : ah.aQ (.w (.agg [.p (cl 2 V.length (bL V)), .c (.slice none 0 0)])) (nV V []) := Jx rfl fun j x y aa ai => by
 match j with
 | 0 => cases aa; cases ai; exact .inl rfl
 | 1 => cases aa; cases ai; exact .inr ⟨rfl, 1, rfl⟩
 | j + 2 => simp at aa
theorem Zo : R5 := by
 intro x y z w;cases ak : dI x y z w with
 | true =>
  obtain ⟨rfl, rfl⟩ := pd.1 ak;rw [show uX (x, y) (x, y) = [(x, y)] from if_pos rfl, show uW (x, y) (x, y) = [] from if_pos rfl];refine bi (f := 129) Tryz.func129 rfl rfl rfl rfl ?_;(refine fl ?_)
  ((refine ba rfl (cL rfl rfl rfl aK) ?_))
  exact U5 [(x, y)]
 | false =>
  have au : ¬ ((x, y) : an) = (z, w) := fun e => by
   have := pd.2 (⟨congrArg Prod.fst e, congrArg Prod.snd e⟩ : x = z ∧ y = w);rw [ak] at this; cases this
  rw [show uX (x, y) (z, w) = [(x, y), (z, w)] from if_neg au, show uW (x, y) (z, w) = [1] from if_neg au];refine bi (f := 129) Tryz.func129 rfl rfl rfl rfl ?_;(refine fl ?_)
  ((refine ba rfl (cL rfl rfl rfl aK) ?_))
  exact ah.aQ.refl _
def Sf (V : List an) (D : List Int) (n : Nat) (aL : List (Nat × ah)) (bj : List (Nat × List AC)) : Prop :=
 ∃ (k : Nat) (e1 d : Int), k ≤ D.length ∧ n = D.length - k ∧ e1 = k ∧ d = pc (D.take k) ∧ bj = [(1, uS V D)] ∧ aL = [(1, Rv 1), (3, aB d), (7, cz 1 D.length (cu D)), (8, aB D.length), (9, aB e1)]
theorem Vz {D : List Int} {k : Nat} {d : Int} (h : D[k]? = some d) : pc (D.take (k + 1)) = max (pc (D.take k)) d := by
 have af := (bF.1 h).1
 have e : D.take (k + 1) = D.take k ++ [d] := by
  rw [nO af, (bF.1 h).2]
 unfold pc;rw [e, List.foldl_append]; rfl
theorem Zk : R2 := by
 intro V D ab hd;refine bi (f := 40) Tryz.func40 rfl rfl rfl rfl ?_;(refine fl ?_);refine sD 18 (Sf V D) D.length _ [(1, uS V D)] ⟨0, 0, 0, dA _, rfl, rfl, rfl, rfl, rfl⟩ rfl ⟨rfl, rfl, rfl, rfl, rfl, trivial⟩ ⟨rfl, trivial⟩ rfl ?_;rintro n aL bj ⟨k, e1, d, af, rfl, ko, lB, rfl, rfl⟩ c3;clear c3
 by_cases ak : k < D.length
 ·have q2 : e1 < (D.length : Int) := by omega
  have bE : 0 ≤ e1 := by omega
  obtain ⟨e, g1⟩ : ∃ e, D[k]? = some e := ⟨_, bQ ak⟩;have kW := Cd ko g1;have ax := Vz g1;rw [← lB, show max d e = if e > d then e else d by split <;> omega] at ax;(refine fl ?_);exact ⟨D.length - (k + 1), _, [(1, uS V D)], by omega, ⟨k + 1, e1 + 1, _, by omega, rfl, by omega, ax.symm, rfl, rfl⟩, rfl, ⟨rfl, rfl, rfl, rfl, rfl, trivial⟩, ⟨rfl, trivial⟩, rfl⟩
 ·have q2 : ¬ e1 < (D.length : Int) := by omega
  have cW : D.take k = D := hq (by omega);rw [cW] at lB;rw [← lB];(refine fl ?_)
  ((refine ba rfl (a6 rfl aK) ?_))
  exact ah.aQ.refl _
theorem Rj {α : Type} {D E : List α} {k : Nat} {d e : α} (h : D.take k = E.take k) (g1 : D[k]? = some d) (g2 : E[k]? = some e) : (d = e → D.take (k + 1) = E.take (k + 1)) ∧ (d ≠ e → D ≠ E) := by
 refine ⟨fun hd => ?_, fun hd ey => hd ?_⟩
 ·rw [nO (bF.1 g1).1, nO (bF.1 g2).1, (bF.1 g1).2, (bF.1 g2).2, h, hd]
 ·rw [ey, g2] at g1; exact (lP g1).symm
def Si (D E : List Int) (n : Nat) (aL : List (Nat × ah)) (bj : List (Nat × List AC)) : Prop :=
 ∃ (k : Nat) (e1 : Int), k ≤ D.length ∧ n = D.length - k ∧ e1 = k ∧ D.take k = E.take k ∧ bj = [] ∧ aL = [(0, mw D), (1, mw E), (12, aB D.length), (13, aB e1)]
theorem abR {D E : List Int} (hd : D.length ≤ 1000000) : aC ag 105 [mw D, mw E] (bf (decide (D = E))) := by
 by_cases hl : (D.length : Int) = E.length
 ·have X0 : D.length = E.length := by omega
  refine bi (f := 105) Tryz.func105 rfl rfl rfl rfl ?_;(refine fl ?_);refine sD 26 (Si D E) D.length _ [] ⟨0, 0, dA _, rfl, rfl, rfl, rfl, rfl⟩ rfl ⟨rfl, rfl, rfl, rfl, trivial⟩ trivial rfl ?_;rintro n aL bj ⟨k, e1, af, rfl, ko, lB, rfl, rfl⟩ c3;clear c3
  by_cases ak : k < D.length
  ·have q2 : e1 < (D.length : Int) := by omega
   have bE : 0 ≤ e1 := by omega
   have c4 : e1 < (E.length : Int) := by omega
   obtain ⟨d, g1⟩ : ∃ d, D[k]? = some d := ⟨_, bQ ak⟩;obtain ⟨e, g2⟩ : ∃ e, E[k]? = some e := ⟨_, bQ (by omega)⟩;have kW := Cd ko g1;have xo := Cd ko g2;have st := Rj lB g1 g2
   by_cases he : d = e
   ·have ax := st.1 he;(refine fl ?_);exact ⟨D.length - (k + 1), _, [], by omega, ⟨k + 1, e1 + 1, by omega, rfl, by omega, ax, rfl, rfl⟩, rfl, ⟨rfl, rfl, rfl, rfl, trivial⟩, trivial, rfl⟩
   ·rw [cC (st.2 he)];(refine fl ?_)
    ((refine ba rfl (a6 rfl aK) ?_))
    exact ah.aQ.refl _
  ·have q2 : ¬ e1 < (D.length : Int) := by omega
   rw [hq (by omega), hq (by omega)] at lB;rw [ck lB];(refine fl ?_)
   ((refine ba rfl (a6 rfl aK) ?_))
   exact ah.aQ.refl _
 ·rw [cC (show ¬ D = E from fun e => hl (by rw [e]))];refine bi (f := 105) Tryz.func105 rfl rfl rfl rfl ?_;(refine fl ?_)
  ((refine ba rfl (a6 rfl aK) ?_))
  exact ah.aQ.refl _
def Sj (D E : List an) (n : Nat) (aL : List (Nat × ah)) (bj : List (Nat × List AC)) : Prop :=
 ∃ (k : Nat) (e1 : Int), k ≤ D.length ∧ n = D.length - k ∧ e1 = k ∧ D.take k = E.take k ∧ bj = [] ∧ aL = [(0, gT D), (1, gT E), (12, aB D.length), (13, aB e1)]
theorem HG {D E : List an} (hd : D.length ≤ 1000000) : aC ag 59 [gT D, gT E] (bf (decide (D = E))) := by
 by_cases hl : (D.length : Int) = E.length
 ·have X0 : D.length = E.length := by omega
  refine bi (f := 59) Tryz.func59 rfl rfl rfl rfl ?_;(refine fl ?_);refine sD 26 (Sj D E) D.length _ [] ⟨0, 0, dA _, rfl, rfl, rfl, rfl, rfl⟩ rfl ⟨rfl, rfl, rfl, rfl, trivial⟩ trivial rfl ?_;rintro n aL bj ⟨k, e1, af, rfl, ko, lB, rfl, rfl⟩ c3;clear c3
  by_cases ak : k < D.length
  ·have q2 : e1 < (D.length : Int) := by omega
   have bE : 0 ≤ e1 := by omega
   have c4 : e1 < (E.length : Int) := by omega
   obtain ⟨x, y, g1⟩ : ∃ x y, D[k]? = some (x, y) := ⟨_, _, bQ ak⟩;obtain ⟨z, w, g2⟩ : ∃ z w, E[k]? = some (z, w) := ⟨_, _, bQ (by omega)⟩;have kW := qt ko g1;have xo := qt ko g2;have st := Rj lB g1 g2;cases he : dI x y z w with
   | true =>
    have ax := st.1 (by obtain ⟨rfl, rfl⟩ := pd.1 he; rfl);(refine fl ?_);exact ⟨D.length - (k + 1), _, [], by omega, ⟨k + 1, e1 + 1, by omega, rfl, by omega, ax, rfl, rfl⟩, rfl, ⟨rfl, rfl, rfl, rfl, trivial⟩, trivial, rfl⟩
   | false =>
    rw [cC (st.2 fun e => by
     have := pd.2 (⟨congrArg Prod.fst e, congrArg Prod.snd e⟩ : x = z ∧ y = w);rw [he] at this; cases this)]
    (refine fl ?_)
    ((refine ba rfl (a6 rfl aK) ?_))
    exact ah.aQ.refl _
  ·have q2 : ¬ e1 < (D.length : Int) := by omega
   rw [hq (by omega), hq (by omega)] at lB;rw [ck lB];(refine fl ?_)
   ((refine ba rfl (a6 rfl aK) ?_))
   exact ah.aQ.refl _
 ·rw [cC (show ¬ D = E from fun e => hl (by rw [e]))];refine bi (f := 59) Tryz.func59 rfl rfl rfl rfl ?_;(refine fl ?_)
  ((refine ba rfl (a6 rfl aK) ?_))
  exact ah.aQ.refl _
theorem Zs : R9 := by
 intro V W D E h1 h2 h3 aE;have aU := HG (D := V) (E := W) (by omega);have bD := abR (D := D) (E := E) (by omega);generalize decide (V = W) = p1 at *;generalize decide (D = E) = p2 at *;cases p1 with
 | false =>
  refine bi (f := 61) Tryz.func61 rfl rfl rfl rfl ?_;(refine bZ ?_)
  ((refine ba rfl (a6 rfl aK) ?_))
  exact ah.aQ.refl _
 | true =>
  refine bi (f := 61) Tryz.func61 rfl rfl rfl rfl ?_;(refine bZ ?_)
  ((refine ba rfl (a6 rfl aK) ?_))
  exact ah.aQ.refl _
def p5 (r : Int) (L : List an) (x y : Int) : List an := if 0 ≤ kO L x y then L else if r ≤ (L.length : Int) then L else L ++ [(x, y)]
def np (r : Int) (L : List an) (x y : Int) : Bool := if 0 ≤ kO L x y then false else if r ≤ (L.length : Int) then false else true
def nr (r : Int) (L : List an) (x y : Int) : Int := if 0 ≤ kO L x y then 0 else if r ≤ (L.length : Int) then 90 else 0
theorem ti {L : List an} {x y : Int} : 0 ≤ kO L x y ↔ (x, y) ∈ L := by
 unfold kO;cases h : L.findIdx? fun e => decide (e.1 = x) && decide (e.2 = y) with
 | none =>
  rw [List.findIdx?_eq_none_iff] at h;refine ⟨fun aJ => absurd aJ (by decide), fun aJ => ?_⟩;have := h _ aJ;simp at this
 | some k =>
  obtain ⟨af, h1, _⟩ := List.findIdx?_eq_some_iff_getElem.1 h;simp only [dx, ca] at h1;refine ⟨fun _ => ?_, fun _ => Int.natCast_nonneg k⟩;have : L[k] = (x, y) := Prod.ext h1.1 h1.2;rw [← this]; exact List.getElem_mem af
abbrev AH := Int → List an → Value → eQ → Prop
def R6 (ua : AH) : Prop := ∀ n : Int, Es ag 50 [aB n] fun p S => ∃ b, p = dO b ∧ ua (lj n) [] p S
def RZ (ua : AH) : Prop := ∀ (r : Int) L b S (x y : Int), ua r L (dO b) S → L.length ≤ 1100 → xK ag 121 [aM (dO b), aP x y] (dO b) S fun v c7 => v = .cj [.one (.c (.bool (np r L x y))), .one (.c (.int .i64 (nr r L x y)))] ∧ ua r (p5 r L x y) (dO b) c7
def R8 (ua : AH) : Prop := ∀ (r : Int) L b S, ua r L (dO b) S → L.length ≤ 1100 → xK ag 52 [aM (dO b)] (dO b) S fun v c7 => v = aB r ∧ ua r L (dO b) c7
end Go.Proofs.YtbcecodakfejaaaGreat
namespace Go.Proofs.YtbcecodakfejaaaGreat
def eV (l : List df) (x y : Int) : Nat := (tv l x y).length
theorem PT (l : List df) (x y : Int) : eV l x y ≤ l.length := adB l x y
theorem wW : ∀ {l : List df} (h : jQ l) (x y : Int) (k : Nat) (e : df), l[k]? = some e → (k < eV l x y ↔ lJ e.1 e.2.1 x y = true)
 | [], _, _, _, k, e, af => by simp at af
 | f :: l, h, x, y, k, e, af => by
  have aj := iV.1 h
  by_cases ap : lJ f.1 f.2.1 x y = true
  ·have hp : eV (f :: l) x y = eV l x y + 1 := by
    unfold eV tv;rw [List.filter_cons, if_pos ap]; rfl
   rw [hp];cases k with
   | zero => simp at af; subst af; simp [ap]
   | succ k =>
    have := wW aj.2 x y k e (by simpa using af);rw [← this]; omega
  ·have dn : ∀ g ∈ f :: l, ¬ lJ g.1 g.2.1 x y = true := by
    intro g ao;rcases fQ.1 ao with rfl | ao
    ·exact ap
    ·have h1 := aj.1 g ao;rw [oB] at h1 ap ⊢;omega
   have hp : eV (f :: l) x y = 0 := by
    unfold eV tv;rw [List.filter_eq_nil_iff.2 dn]; rfl
   rw [hp];have := dn e (c5 af);simp [this]
theorem Iz {l : List df} (h : jQ l) {x y : Int} : ∀ e ∈ l.take (eV l x y), lJ e.1 e.2.1 x y = true := by
 intro e he;obtain ⟨k, af⟩ := jh he;have a8 := (bF.1 af).1;rw [dS] at a8;rw [fk (by omega)] at af;exact (wW h x y k e af).1 (by omega)
theorem K4 {l : List df} (h : jQ l) {x y : Int} : ∀ e ∈ l.drop (eV l x y), ¬ lJ e.1 e.2.1 x y = true := by
 intro e he;obtain ⟨k, af⟩ := jh he;rw [fC] at af;intro a8;have := (wW h x y _ e af).2 a8;omega
theorem Qc {l : List df} (h : jQ l) {x y : Int} : tv l x y = l.take (eV l x y) := by
 conv => lhs; rw [← jG (eV l x y) l]
 unfold tv;rw [List.filter_append, List.filter_eq_self.2 (Iz h), List.filter_eq_nil_iff.2 (K4 h), mn]
theorem BH {l : List df} (h : jQ l) {x y : Int} : hb l x y = true ↔ ∃ u, l[eV l x y]? = some (x, y, u) := by
 constructor
 ·intro aR;unfold hb at aR;rw [tz] at aR;obtain ⟨e, he, ak⟩ := aR;simp only [dx, ca] at ak;obtain ⟨k, af⟩ := jh he;have h1 := wW h x y k e af;have h2 : ¬ k < eV l x y := by rw [h1, oB]; omega
  have Gd := (bF.1 af).1;have qq : eV l x y < l.length := by omega
  have hp := bQ qq;have h3 := wW h x y _ _ hp
  by_cases bm : k = eV l x y
  ·refine ⟨e.2.2, ?_⟩;rw [← bm, af];exact congrArg some (Prod.ext ak.1 (Prod.ext ak.2 rfl))
  ·exfalso;have aE := List.pairwise_iff_getElem.1 h (eV l x y) k qq Gd (by omega);have hT : l[k] = e := (bF.1 af).2;rw [hT, oB] at aE;have cZ : lJ l[eV l x y].1 l[eV l x y].2.1 x y = true := by rw [oB]; omega
   have := h3.2 cZ;omega
 ·rintro ⟨u, hu⟩;exact tz.2 ⟨_, c5 hu, by simp⟩
theorem VA {l : List df} (h : jQ l) {x y : Int} (au : hb l x y = false) : ∀ e ∈ l.drop (eV l x y), lJ x y e.1 e.2.1 = true := by
 intro e he;have h1 := K4 h e he
 have h2 : ¬ (e.1 = x ∧ e.2.1 = y) := by
  rintro ⟨h3, aE⟩;have : hb l x y = true := tz.2 ⟨_, mm he, by simp [h3, aE]⟩;rw [au] at this; cases this
 rw [oB] at *;omega
theorem Qd {l : List df} (h : jQ l) {x y v : Int} (au : hb l x y = false) : r0 l x y v = l.take (eV l x y) ++ (x, y, v) :: l.drop (eV l x y) := by
 unfold r0;rw [Qc h];congr 2
 conv => lhs; rw [← jG (eV l x y) l]
 unfold C8;rw [List.filter_append, List.filter_eq_self.2 (VA h au), List.filter_eq_nil_iff.2 fun e he => ?_, List.nil_append];have := Iz h e he;rw [oB] at *;omega
theorem adC {l : List df} (h : jQ l) {x y v u : Int} (hp : l[eV l x y]? = some (x, y, u)) : r0 l x y v = l.take (eV l x y) ++ (x, y, v) :: l.drop (eV l x y + 1) := by
 unfold r0;rw [Qc h];congr 2;have hl := (bF.1 hp).1;have he := (bF.1 hp).2
 conv => lhs; rw [← jG (eV l x y) l]
 unfold C8;rw [List.filter_append, List.filter_eq_nil_iff.2 (fun e he => by have := Iz h e he; rw [oB] at *; omega), List.nil_append, ml hl, he, List.filter_cons_of_neg (by rw [oB]; simp)];refine List.filter_eq_self.2 fun e hm => ?_;obtain ⟨k, af⟩ := jh hm;rw [fC] at af;have Gd := (bF.1 af).1;have aE := List.pairwise_iff_getElem.1 h (eV l x y) _ hl Gd (by omega);rw [he, (bF.1 af).2] at aE;exact aE
theorem af5 {l : List df} (h : jQ l) {x y u : Int} (hp : l[eV l x y]? = some (x, y, u)) : hb l x y = true ∧ nX l x y = u := Rw h (c5 hp)
abbrev adq (e : df) : an := (e.1, e.2.1)
def oz : Nat → List an → List df
 | _, [] => []
 | k, p :: l => (p.1, p.2, (k : Int)) :: oz (k + 1) l
theorem ON : ∀ (k : Nat) (l : List an) (p : an), oz k (l ++ [p]) = oz k l ++ [(p.1, p.2, ((k + l.length : Nat) : Int))]
 | k, [], p => by simp [oz]
 | k, q :: l, p => by
  simp only [List.cons_append, oz, ON (k + 1) l p, jZ];rw [show k + 1 + l.length = k + (l.length + 1) by omega]
theorem OO : ∀ (k : Nat) (l : List an), (oz k l).map adq = l
 | _, [] => rfl
 | k, p :: l => by simp only [oz, kQ, OO (k + 1) l]
theorem abf (k : Nat) (l : List an) : (oz k l).length = l.length := by
 have := congrArg List.length (OO k l);rwa [mo] at this
theorem HC : ∀ (k : Nat) (l : List an) (x y w : Int), (x, y, w) ∈ oz k l ↔ ∃ i : Nat, l[i]? = some (x, y) ∧ w = ((k + i : Nat) : Int)
 | k, [], x, y, w => by simp [oz]
 | k, p :: l, x, y, w => by
  rw [oz, fQ, HC (k + 1) l x y w]
  constructor
  ·rintro (h | ⟨i, h1, h2⟩)
   ·simp only [Prod.mk.injEq] at h;exact ⟨0, by rw [pI, h.1, h.2.1], by rw [h.2.2]; rfl⟩
   ·exact ⟨i + 1, by rw [va]; exact h1, by rw [h2]; omega⟩
  ·rintro ⟨i, h1, h2⟩
   match i with
   | 0 => rw [pI] at h1; cases h1; exact .inl (by rw [h2]; rfl)
   | i + 1 => rw [va] at h1; exact .inr ⟨i, h1, by rw [h2]; omega⟩
def nl (L : List an) (es : List df) : Prop := jQ es ∧ es.Perm (oz 0 L) ∧ L.Nodup
theorem nl.len {L : List an} {es : List df} (h : nl L es) : es.length = L.length := by rw [h.2.1.length_eq, abf]
theorem abg {L : List an} (au : L.Nodup) {i : Nat} {x y : Int} (h : L[i]? = some (x, y)) : kO L x y = (i : Int) := by
 have aA : 0 ≤ kO L x y := ti.2 (c5 h);unfold kO at aA ⊢;cases ap : L.findIdx? fun e => decide (e.1 = x) && decide (e.2 = y) with
 | none => rw [ap] at aA; exact absurd aA (by decide)
 | some k =>
  obtain ⟨af, h1, _⟩ := List.findIdx?_eq_some_iff_getElem.1 ap;simp only [dx, ca] at h1;have aF : L[k] = (x, y) := Prod.ext h1.1 h1.2;obtain ⟨hi, aN⟩ := bF.1 h;have := (List.getElem_inj (h₀ := af) (h₁ := hi) au).1 (aF.trans aN.symm);rw [this]
theorem Xc {es : List df} {a b : Int} : hb es a b = true ↔ ∃ w, (a, b, w) ∈ es := by
 unfold hb;rw [tz]
 constructor
 ·rintro ⟨⟨p, q, w⟩, h1, h2⟩;simp only [dx, ca] at h2;exact ⟨w, by rw [← h2.1, ← h2.2]; exact h1⟩
 ·rintro ⟨w, h⟩;exact ⟨_, h, by simp⟩
theorem nl.num {L : List an} {es : List df} (h : nl L es) (x y : Int) : hb es x y = decide (0 ≤ kO L x y) ∧ (0 ≤ kO L x y → nX es x y = kO L x y) := by
 by_cases aR : 0 ≤ kO L x y
 ·obtain ⟨i, hi⟩ := jh (ti.1 aR);have hm : (x, y, ((0 + i : Nat) : Int)) ∈ es := h.2.1.mem_iff.2 ((HC 0 L x y _).2 ⟨i, hi, rfl⟩);have h1 := Rw h.1 hm;exact ⟨by rw [h1.1, ck aR], fun _ => by rw [h1.2, abg h.2.2 hi, jj]⟩
 ·refine ⟨?_, fun aJ => absurd aJ aR⟩;rw [cC aR];cases he : hb es x y with
  | false => rfl
  | true =>
   obtain ⟨w, hw⟩ := Xc.1 he;obtain ⟨i, hi, _⟩ := (HC 0 L x y w).1 (h.2.1.mem_iff.1 hw);exact absurd (ti.2 (c5 hi)) aR
theorem nl.add {L : List an} {es : List df} (h : nl L es) {x y : Int} (au : ¬ 0 ≤ kO L x y) : nl (L ++ [(x, y)]) (r0 es x y L.length) := by
 have bX : hb es x y = false := by rw [(h.num x y).1]; exact cC au
 refine ⟨adD h.1 x y L.length, ?_, ?_⟩
 ·rw [Qd h.1 bX, ON, jj];refine List.perm_middle.trans ?_;rw [jG];refine (h.2.1.cons _).trans ?_;exact (List.perm_append_singleton _ _).symm
 ·rw [List.nodup_append];refine ⟨h.2.2, by simp, fun a aH b ab e => ?_⟩;rw [ix] at ab;subst ab; subst e;exact au (ti.2 aH)
theorem nl.nil : nl [] [] := ⟨.nil, .refl _, .nil⟩
theorem Tm {r : Int} {L : List an} {x y : Int} (h : 0 ≤ kO L x y) : p5 r L x y = L ∧ np r L x y = false ∧ nr r L x y = 0 := by unfold p5 np nr; rw [if_pos h, if_pos h, if_pos h]; exact ⟨rfl, rfl, rfl⟩
theorem Tl {r : Int} {L : List an} {x y : Int} (h : ¬ 0 ≤ kO L x y) (h2 : r ≤ (L.length : Int)) : p5 r L x y = L ∧ np r L x y = false ∧ nr r L x y = 90 := by unfold p5 np nr; rw [if_neg h, if_neg h, if_neg h, if_pos h2, if_pos h2, if_pos h2]; exact ⟨rfl, rfl, rfl⟩
theorem Tn {r : Int} {L : List an} {x y : Int} (h : ¬ 0 ≤ kO L x y) (h2 : ¬ r ≤ (L.length : Int)) : p5 r L x y = L ++ [(x, y)] ∧ np r L x y = true ∧ nr r L x y = 0 := by unfold p5 np nr; rw [if_neg h, if_neg h, if_neg h, if_neg h2, if_neg h2, if_neg h2]; exact ⟨rfl, rfl, rfl⟩
end Go.Proofs.YtbcecodakfejaaaGreat
namespace Go.Proofs.YtbcecodakfejaaaGreat
open Go.RowKit
abbrev gB (v : Value) (l : List df) : bz := ⟨214, 3, v, l.length, dU l⟩
end Go.Proofs.YtbcecodakfejaaaGreat
namespace Go.Proofs.YtbcecodakfejaaaGreat
theorem O6 {a1 a2 b1 b2 p1 p2 : Int} (h : bV a1 a2 b1 b2 p1 p2 = 0) : (b2 - a2) * a1 + (a1 - b1) * a2 = (b2 - a2) * p1 + (a1 - b1) * p2 := by unfold bV at h; grind
theorem O8 {a1 a2 b1 b2 c1 c2 d1 d2 p1 p2 : Int} (h : bV a1 a2 b1 b2 p1 p2 = 0) (k : bV c1 c2 d1 d2 p1 p2 = 0) :
  jB a1 a2 b1 b2 c1 c2 d1 d2 = p1 * cU a1 a2 b1 b2 c1 c2 d1 d2 ∧ jC a1 a2 b1 b2 c1 c2 d1 d2 = p2 * cU a1 a2 b1 b2 c1 c2 d1 d2 := by
 have e := O6 h;have f := O6 k;unfold jB jC cU;rw [e, f]
 constructor <;> grind
theorem CN (p w : Int) : jg (p * w) w = p * ir w := by
 unfold jg ir
 split
 ·rw [Int.mul_neg]
 ·rfl
theorem A5 {p d a b : Int} (aA : gz a b ≤ p) (h1 : p ≤ gy a b) (hd : 0 < d) : kA (p * d) d a b :=
 ⟨lh aA (by omega), lh h1 (by omega)⟩
theorem LK {a1 a2 b1 b2 c1 c2 d1 d2 p1 p2 d : Int} (h : dh p1 p2 a1 a2 b1 b2) (k : dh p1 p2 c1 c2 d1 d2) (hd : 0 < d) : four a1 a2 b1 b2 c1 c2 d1 d2 (p1 * d) (p2 * d) d :=
 ⟨A5 h.2.1 h.2.2.1 hd, A5 h.2.2.2.1 h.2.2.2.2 hd, A5 k.2.1 k.2.2.1 hd, A5 k.2.2.2.1 k.2.2.2.2 hd⟩
theorem aaW {a1 a2 b1 b2 c1 c2 d1 d2 : Int} (h : cU a1 a2 b1 b2 c1 c2 d1 d2 = 0) :
  (h5 a1 a2 b1 b2 c1 c2 d1 d2 = hI ∧ ∀ p1 p2, dh p1 p2 a1 a2 b1 b2 → ¬ dh p1 p2 c1 c2 d1 d2) ∨
  ∃ f1 f2 g1 g2, h5 a1 a2 b1 b2 c1 c2 d1 d2 = uP f1 f2 g1 g2 ∧ di f1 f2 g1 g2 ∧ dh f1 f2 a1 a2 b1 b2 ∧ dh f1 f2 c1 c2 d1 d2 ∧ dh g1 g2 a1 a2 b1 b2 ∧ dh g1 g2 c1 c2 d1 d2
   ∧ f1 = ee (eA a1 a2 b1 b2) (eb a1 a2 b1 b2) (eA c1 c2 d1 d2) (eb c1 c2 d1 d2) ∧ f2 = dN (eA a1 a2 b1 b2) (eb a1 a2 b1 b2) (eA c1 c2 d1 d2) (eb c1 c2 d1 d2)
   ∧ g1 = eA (ee a1 a2 b1 b2) (dN a1 a2 b1 b2) (ee c1 c2 d1 d2) (dN c1 c2 d1 d2) ∧ g2 = eb (ee a1 a2 b1 b2) (dN a1 a2 b1 b2) (ee c1 c2 d1 d2) (dN c1 c2 d1 d2)
   ∧ ∀ p1 p2, dh p1 p2 a1 a2 b1 b2 → dh p1 p2 c1 c2 d1 d2 → di f1 f2 p1 p2 ∧ di p1 p2 g1 g2 := by
 have hs := wL a1 a2 b1 b2;have ax := wL c1 c2 d1 d2
 have hw : oE (eA a1 a2 b1 b2) (eb a1 a2 b1 b2) (ee a1 a2 b1 b2) (dN a1 a2 b1 b2) (eA c1 c2 d1 d2) (eb c1 c2 d1 d2) (ee c1 c2 d1 d2) (dN c1 c2 d1 d2) = 0 := by
  have h1 := DP a1 a2 b1 b2 c1 c2 d1 d2;have h2 := Ab a1 a2 b1 b2 c1 c2 d1 d2;have h3 := Ab b1 b2 a1 a2 c1 c2 d1 d2;rw [← Rz];rcases mT a1 a2 b1 b2 with ⟨h1, h2, h3, aE, _⟩ | ⟨h1, h2, h3, aE, _⟩ <;> rcases mT c1 c2 d1 d2 with ⟨bd, bC, ez, jz, _⟩ | ⟨bd, bC, ez, jz, _⟩ <;> rw [h1, h2, h3, aE, bd, bC, ez, jz] <;> omega
 have xb : ∀ p1 p2, dh p1 p2 (eA a1 a2 b1 b2) (eb a1 a2 b1 b2) (ee a1 a2 b1 b2) (dN a1 a2 b1 b2) ↔ dh p1 p2 a1 a2 b1 b2 := fun _ _ => zq;have tO9 : ∀ p1 p2, dh p1 p2 (eA c1 c2 d1 d2) (eb c1 c2 d1 d2) (ee c1 c2 d1 d2) (dN c1 c2 d1 d2) ↔ dh p1 p2 c1 c2 d1 d2 := fun _ _ => zq;unfold h5;rw [if_pos h];unfold uQ inl;generalize eA a1 a2 b1 b2 = s1 at *;generalize eb a1 a2 b1 b2 = s2 at *;generalize ee a1 a2 b1 b2 = bM at *;generalize dN a1 a2 b1 b2 = bN at *;generalize eA c1 c2 d1 d2 = t1 at *;generalize eb c1 c2 d1 d2 = t2 at *;generalize ee c1 c2 d1 d2 = t3 at *;generalize dN c1 c2 d1 d2 = t4 at *;have key := fun p1 p2 => @NN s1 s2 bM bN t1 t2 t3 t4 p1 p2 hs ax hw
 by_cases q : dh (ee s1 s2 t1 t2) (dN s1 s2 t1 t2) s1 s2 bM bN ∧ dh (ee s1 s2 t1 t2) (dN s1 s2 t1 t2) t1 t2 t3 t4
 ·right;rw [if_pos q];obtain ⟨cr, cm, iW, kT, aiq, afX⟩ := key _ _ q.1 q.2;exact ⟨_, _, _, _, rfl, afX, (xb _ _).1 cr, (tO9 _ _).1 cm, (xb _ _).1 iW, (tO9 _ _).1 kT, rfl, rfl, rfl, rfl, fun p1 p2 hp ak => ⟨(key p1 p2 ((xb _ _).2 hp) ((tO9 _ _).2 ak)).2.2.2.2.1, (key p1 p2 ((xb _ _).2 hp) ((tO9 _ _).2 ak)).2.2.2.2.2⟩⟩
 ·left;rw [if_neg q];exact ⟨rfl, fun p1 p2 hp ak => q ⟨(key p1 p2 ((xb _ _).2 hp) ((tO9 _ _).2 ak)).1, (key p1 p2 ((xb _ _).2 hp) ((tO9 _ _).2 ak)).2.1⟩⟩
theorem abz {a1 a2 b1 b2 f1 f2 g1 g2 p1 p2 : Int} (ap : dh f1 f2 a1 a2 b1 b2) (ao : dh g1 g2 a1 a2 b1 b2) (hp : dh p1 p2 a1 a2 b1 b2) (aA : di f1 f2 p1 p2) (h1 : di p1 p2 g1 g2) : dh p1 p2 f1 f2 g1 g2 := by
 refine (u2 (aA.trans h1)).2 ⟨?_, aA, h1⟩
 by_cases e : a1 = b1 ∧ a2 = b2
 ·obtain ⟨rfl, rfl⟩ := e;obtain ⟨rfl, rfl⟩ := zp ap;obtain ⟨rfl, rfl⟩ := zp ao;obtain ⟨rfl, rfl⟩ := zp hp;exact EV ..
 ·have a := ap.1;have b := ao.1;have c := hp.1;unfold bV at *;have d1 : (b1 - a1) * ((g1 - f1) * (p2 - f2) - (g2 - f2) * (p1 - f1)) = 0 := by grind
  have d2 : (b2 - a2) * ((g1 - f1) * (p2 - f2) - (g2 - f2) * (p1 - f1)) = 0 := by grind
  rcases r3.1 d1 with bm | bm
  ·rcases r3.1 d2 with f | f
   ·omega
   ·exact f
  ·exact bm
theorem aaV (a1 a2 b1 b2 c1 c2 d1 d2 : Int) :
  (h5 a1 a2 b1 b2 c1 c2 d1 d2 = hI ∧ ∀ p1 p2, dh p1 p2 a1 a2 b1 b2 → ¬ dh p1 p2 c1 c2 d1 d2) ∨
  (∃ x y d, h5 a1 a2 b1 b2 c1 c2 d1 d2 = iT x d y d ∧ 0 < d ∧ (d = 1 ∨ d = ir (cU a1 a2 b1 b2 c1 c2 d1 d2)) ∧ four a1 a2 b1 b2 c1 c2 d1 d2 x y d ∧ ∀ p1 p2, dh p1 p2 a1 a2 b1 b2 → dh p1 p2 c1 c2 d1 d2 → x = p1 * d ∧ y = p2 * d) ∨
  (∃ f1 f2 g1 g2, h5 a1 a2 b1 b2 c1 c2 d1 d2 = sw f1 f2 g1 g2 ∧ ¬ (f1 = g1 ∧ f2 = g2) ∧ di f1 f2 g1 g2 ∧ dh f1 f2 a1 a2 b1 b2 ∧ dh f1 f2 c1 c2 d1 d2 ∧ dh g1 g2 a1 a2 b1 b2 ∧ dh g1 g2 c1 c2 d1 d2
   ∧ f1 = ee (eA a1 a2 b1 b2) (eb a1 a2 b1 b2) (eA c1 c2 d1 d2) (eb c1 c2 d1 d2) ∧ f2 = dN (eA a1 a2 b1 b2) (eb a1 a2 b1 b2) (eA c1 c2 d1 d2) (eb c1 c2 d1 d2)
   ∧ g1 = eA (ee a1 a2 b1 b2) (dN a1 a2 b1 b2) (ee c1 c2 d1 d2) (dN c1 c2 d1 d2) ∧ g2 = eb (ee a1 a2 b1 b2) (dN a1 a2 b1 b2) (ee c1 c2 d1 d2) (dN c1 c2 d1 d2)
   ∧ ∀ p1 p2, dh p1 p2 a1 a2 b1 b2 → dh p1 p2 c1 c2 d1 d2 → dh p1 p2 f1 f2 g1 g2) := by
 by_cases h : cU a1 a2 b1 b2 c1 c2 d1 d2 = 0
 ·rcases aaW h with ⟨e, au⟩ | ⟨f1, f2, g1, g2, e, hl, cr, cm, iW, kT, v1, v2, v3, v4, hp⟩
  ·exact .inl ⟨e, au⟩
  ·right;rw [e];unfold uP
   by_cases q : f1 = g1 ∧ f2 = g2
   ·left;rw [if_pos q];refine ⟨f1, f2, 1, rfl, by omega, .inl rfl, ?_, fun p1 p2 aH ab => ?_⟩
    ·have := LK cr cm (d := 1) (by omega);rwa [Int.mul_one, Int.mul_one] at this
    ·obtain ⟨bd, bC⟩ := hp p1 p2 aH ab;obtain ⟨rfl, rfl⟩ := q;have := di.AU bd bC;omega
   ·right;rw [if_neg q];exact ⟨f1, f2, g1, g2, rfl, q, hl, cr, cm, iW, kT, v1, v2, v3, v4, fun p1 p2 aH ab => abz cr iW aH (hp p1 p2 aH ab).1 (hp p1 p2 aH ab).2⟩
 ·have hd := OK h;unfold h5;rw [if_neg h];unfold mg td
  by_cases q : four a1 a2 b1 b2 c1 c2 d1 d2 (jg (jB a1 a2 b1 b2 c1 c2 d1 d2) (cU a1 a2 b1 b2 c1 c2 d1 d2)) (jg (jC a1 a2 b1 b2 c1 c2 d1 d2) (cU a1 a2 b1 b2 c1 c2 d1 d2)) (ir (cU a1 a2 b1 b2 c1 c2 d1 d2))
  ·right; left;rw [if_pos q];refine ⟨_, _, _, rfl, hd, .inr rfl, q, fun p1 p2 aH ab => ?_⟩;obtain ⟨aF, aN⟩ := O8 aH.1 ab.1;rw [aF, aN, CN, CN];exact ⟨rfl, rfl⟩
  ·left;rw [if_neg q];refine ⟨rfl, fun p1 p2 aH ab => q ?_⟩;obtain ⟨aF, aN⟩ := O8 aH.1 ab.1;rw [aF, aN, CN, CN];exact LK aH ab hd
end Go.Proofs.YtbcecodakfejaaaGreat
namespace Go.Proofs.YtbcecodakfejaaaGreat
open Go.RowKit
theorem agc {a1 a2 b1 b2 c1 c2 d1 d2 : Int} (aH : b7 a1 a2 = true) (ab : b7 b1 b2 = true) (aj : b7 c1 c2 = true) (hd : b7 d1 d2 = true) : -144115188075855872 ≤ cU a1 a2 b1 b2 c1 c2 d1 d2 ∧ cU a1 a2 b1 b2 c1 c2 d1 d2 ≤ 144115188075855872 := by
 rw [oL] at aH ab aj hd;have m1 := CE (x := b2 - a2) (y := c1 - d1) (by omega) (by omega) (by omega) (by omega);have m2 := CE (x := a1 - b1) (y := d2 - c2) (by omega) (by omega) (by omega) (by omega);unfold cU;omega
theorem Kk {n d a b : Int} (h : kA n d a b) (a0 : -134217728 ≤ a) (a1 : a ≤ 134217728) (fN : -134217728 ≤ b) (b1 : b ≤ 134217728) (d0 : 0 ≤ d) (d1 : d ≤ 144115188075855872) : -19342813113834066795298816 ≤ n ∧ n ≤ 19342813113834066795298816 := by
 obtain ⟨aA, h1⟩ := h;have i0 : -134217728 ≤ gz a b ∧ gz a b ≤ 134217728 := by unfold gz; split <;> omega
 have i1 : -134217728 ≤ gy a b ∧ gy a b ≤ 134217728 := by unfold gy; split <;> omega
 have m0 := A2 i0.1 i0.2 (show -144115188075855872 ≤ d by omega) d1;have m1 := A2 i1.1 i1.2 (show -144115188075855872 ≤ d by omega) d1;omega
def At (M : fm) : Prop := (M = hI) ∨ (∃ x y d, M = iT x d y d ∧ 0 < d ∧ d ≤ 144115188075855872 ∧ (-19342813113834066795298816 ≤ x ∧ x ≤ 19342813113834066795298816) ∧ (-19342813113834066795298816 ≤ y ∧ y ≤ 19342813113834066795298816)) ∨ (∃ f1 f2 g1 g2, M = sw f1 f2 g1 g2)
theorem Wy {a1 a2 b1 b2 c1 c2 d1 d2 x y d : Int} (aH : b7 a1 a2 = true) (ab : b7 b1 b2 = true) (aj : b7 c1 c2 = true) (hd : b7 d1 d2 = true) (aA : 0 < d) (h1 : d = 1 ∨ d = ir (cU a1 a2 b1 b2 c1 c2 d1 d2)) (ap : four a1 a2 b1 b2 c1 c2 d1 d2 x y d) :
  d ≤ 144115188075855872 ∧ (-19342813113834066795298816 ≤ x ∧ x ≤ 19342813113834066795298816) ∧ (-19342813113834066795298816 ≤ y ∧ y ≤ 19342813113834066795298816) := by
 have c0 := agc aH ab aj hd;rw [oL] at aH ab
 have rv : d ≤ 144115188075855872 := by
  rcases h1 with rfl | rfl
  ·omega
  ·unfold ir; split <;> omega
 exact ⟨rv, Kk ap.1 aH.1.1 aH.1.2 ab.1.1 ab.1.2 (by omega) rv, Kk ap.2.1 aH.2.1 aH.2.2 ab.2.1 ab.2.2 (by omega) rv⟩
theorem aaj (a1 a2 b1 b2 c1 c2 d1 d2 : Int) : At (qA a1 a2 b1 b2 c1 c2 d1 d2) := by
 unfold qA
 by_cases h : (b7 a1 a2 && b7 b1 b2 && b7 c1 c2 && b7 d1 d2) = true
 ·rw [if_pos h];simp only [dx] at h;rcases aaV a1 a2 b1 b2 c1 c2 d1 d2 with ⟨e, _⟩ | ⟨x, y, d, e, aA, h1, ap, _⟩ | ⟨f1, f2, g1, g2, e, _⟩
  ·exact .inl e
  ·exact .inr (.inl ⟨x, y, d, e, aA, Wy h.1.1.1 h.1.1.2 h.1.2 h.2 aA h1 ap⟩)
  ·exact .inr (.inr ⟨f1, f2, g1, g2, e⟩)
 ·rw [if_neg h]; exact .inl rfl
section
variable {P : Program} {R : aG} {s : az} {ops : Array Oper} {dr : Option (List Nat)} {ty : Nat} {pos : String} {after : Array Edge} {guard : Option (Nat × Bool)} {K : aG → az → Prop} {rest : List Oper} {c : Code} {Q : Exit → aG → az → Prop}
theorem Du (aw : aG) (ZR : bt aw R) (h : e4 P c Q aw s) : e4 P c Q R s := fun ok bo bG a w ⟨A, ad, ar⟩ => h ok bo bG a w ⟨A, ad, ar.le ZR⟩
theorem Rx {f : FuncId} {r : bz} {i j : Nat} {post : ah → bz → Prop} (hp : oS P f [cz r.sz r.n r.aO] post) (bB : 0 < r.sz) (cA : ∀ y ∈ r.aO, y.aV = true) (hF : ∀ v q, post v q → v = aM q.v ∧ tO q.aO) :
  cY P f [aM r.v] bW (bw i r) fun v aD aw => ∃ q, aD = bW ∧ aw = bJ (bw j q) (bw i r) ∧ 0 < q.sz ∧ post v q := by
 have h := Xj (R0 := bw i r) (args := [aM r.v]) (hp j) rfl (fun U ad W vs cH cI => ⟨cI.1, fun n x v aa hv => ?_⟩) (fun v aD bg ak => ?_)
 ·refine ⟨fun U ad W vs cH cB cI => (h.call U ad W vs cH cB cI).mono ?_⟩;rintro e bb ⟨v, b9, aD, aw, aY, cq, q0, ⟨bg, ⟨q, _, rfl, aI, ak⟩, rfl, rfl⟩, lM⟩;exact ⟨v, b9, bW, _, aY, cq, q0, ⟨q, rfl, rfl, aI, ak⟩, lM⟩
 ·match n with
  | 0 =>
   cases aa;have ol := (cI.2 0 _ v rfl hv).1;subst ol;exact (cH.rows i r (by unfold bw; exact cf _ _ _)).1.Rm bB r.aO (fun xs hl => hl.map (fun b ab _ => ⟨.inl ab, rfl⟩) fun _ _ _ _ => rfl) cA fun b ab => .inr (.inr ⟨i, r, by unfold bw; exact cf _ _ _, ab⟩)
  | n + 1 => simp at aa
 ·obtain ⟨q, rfl, rfl, aI, ak⟩ := ak;obtain ⟨rfl, ap⟩ := hF v q ak;refine ⟨rfl, As.one, rfl, fun k cd af => ?_⟩;obtain ⟨rfl, rfl⟩ := fu af;exact ⟨aI, ap⟩
theorem MV (i j : Nat) (fg : i ≠ j) {d : Nat} {f : FuncId} {g : Operand} {aL : Array TypeId} {x : Operand} {r : bz} {post : ah → bz → Prop} [E : Enters P f] (hw : want ops ⟨some d, .call ⟨.value g, #[x], aL⟩, ty, pos, after, guard⟩ s = some true) (hm : dL dr ⟨some d, .call ⟨.value g, #[x], aL⟩, ty, pos, after, guard⟩ = true)
  (ao : s.look g = some (aM (.func (.func f) #[] #[]))) (aH : s.look x = some (aM r.v)) (hp : oS P f [cz r.sz r.n r.aO] post) (hi : R i = some r) (bB : 0 < r.sz) (cA : ∀ y ∈ r.aO, y.aV = true) (ae : R j = none) (hd : Nat.blt d s.n = true) (hF : ∀ v q, post v q → v = aM q.v ∧ tO q.aO)
  (h : ∀ q, post (aM q.v) q → ct P ops dr K rest R (s.put (some d) (cz q.sz q.n q.aO))) : ct P ops dr K (⟨some d, .call ⟨.value g, #[x], aL⟩, ty, pos, after, guard⟩ :: rest) R s := by
 refine ⟨true, hw, jT hd, .inr (.inr (.inr (.inr (.inr ⟨rfl, hm, f, [aM r.v], bW, bw i r, _, ⟨⟨_, g, rfl, rfl, .inl ⟨[], ao, by simp [aH], rfl⟩⟩, E.h⟩, Rx (j := j) hp bB cA hF, fun x aa j ae => ?_, fun k' aq aJ => (by cases aJ), fun fi aT aJ => ?_, fun k' aq x j aJ => (by cases aJ), ?_⟩))))⟩
 ·simp at aa; subst aa; exact absurd ae (iR _ j)
 ·obtain ⟨rfl, rfl⟩ := fu aJ; exact hi
 rintro v aD aw ⟨q, rfl, rfl, yH, ak⟩ _ _ _;refine ⟨fun k' c aJ => (by cases aJ), ?_⟩;obtain ⟨rfl, _⟩ := hF v q ak;have ij : bJ (bJ (bw j q) (bw i r)) R j = some q := hk (hk (by unfold bw; exact cf _ _ _));refine ⟨j, d, q, rfl, ij, yH, cf _ _ _, (show d < s.n by simpa [Nat.blt_eq] using hd), ?_⟩
 have aF : (fun x => if x = j then none else bJ (bJ (bw j q) (bw i r)) R x) = R := by
  funext x
  by_cases e : x = j
  ·rw [if_pos e, e, ae]
  ·rw [if_neg e]
   by_cases bm : x = i
   ·subst bm;rw [hi];exact hk (by rw [hn (by unfold bw; rw [b3 _ _ e]; rfl)]; unfold bw; exact cf _ _ _)
   ·exact hn (by rw [hn (by unfold bw; rw [b3 _ _ e]; rfl)]; unfold bw; rw [b3 _ _ bm]; rfl)
 rw [aF, tp, zy];exact h q ak
end
section
variable {P : Program} {R : aG} {s : az} {ops : Array Oper} {dr : Option (List Nat)} {ty : Nat} {pos : String} {after : Array Edge} {guard : Option (Nat × Bool)} {K : aG → az → Prop} {rest : List Oper} {c : Code} {Q : Exit → aG → az → Prop}
theorem gd.one {U : Nat → Prop} {ad : Nat → Nat} {W : World} {y : AC} {v : Value} (h : gd U ad W y v) (aj : y.aV = true) : v.oneCell' = true := by
 cases y with
 | c u => rw [h.1]; exact h.2
 | own k o => cases aj
 | p S => exact S.cell _ _ h.1
theorem bH.exact {U cq : Nat → Prop} {ad aY : Nat → Nat} {W bb : World} {aO : List AC} {xs : List Value} (h : bH U ad W aO xs) (aj : ∀ y ∈ aO, y.aV = true) : bH cq aY bb (xs.map AC.c) xs := by
 refine ⟨by rw [mo], fun i x v aa hv => ?_⟩;rw [ef, hv] at aa;cases aa;have hi : i < aO.length := by rw [h.1]; exact (bF.1 hv).1
 have ai := bQ hi;exact ⟨rfl, (h.2 i _ v ai hv).one (aj _ (c5 ai))⟩
theorem bH.Wa {U : Nat → Prop} {ad : Nat → Nat} {W : World} {xs xm : List Value} (h : bH U ad W (xs.map AC.c) xm) : xm = xs := by
 refine List.ext_getElem? fun i => ?_;cases aa : xm[i]? with
 | none =>
  have : xs.length ≤ i := by have := h.1; rw [mo] at this; rw [this]; exact List.getElem?_eq_none_iff.1 aa
  exact (List.getElem?_eq_none_iff.2 this).symm
 | some v =>
  have hi : i < (xs.map AC.c).length := by rw [h.1]; exact (bF.1 aa).1
  have ai := bQ hi;have := (h.2 i _ v ai aa);rw [List.getElem_map] at this;rw [this.1, bQ (by rwa [mo] at hi)]
theorem CW {e sz n : Nat} {v : Value} {aO zs : List AC} {g : Nat} (hs : 0 < sz) (h : (⟨e, sz, v, n, aO⟩ : bz).own g) : (⟨e, sz, v, n, zs⟩ : bz).own g := by
 have := bz.oA h hs;exact .inl this
theorem af7 {f : FuncId} {r : bz} {i j : Nat} (fg : i ≠ j) (hp : ∀ aO : List AC, aO.length = r.aO.length → aO.all AC.aV = true → oS P f [cz r.sz r.n aO] fun v q => ∃ v', v = aM v' ∧ q = ⟨r.e, r.sz, v', r.n, aO⟩) (bB : 0 < r.sz) (cA : ∀ y ∈ r.aO, y.aV = true) :
  cY P f [aM r.v] bW (bw i r) fun v aD aw => ∃ v', v = aM v' ∧ aD = bW ∧ aw = bJ (bw j ⟨r.e, r.sz, v', r.n, r.aO⟩) (bw i r) := by
 refine ⟨fun U ad W vs cH cB cI => ?_⟩;have rF : ∀ q, bw i q i = some q := fun q => by unfold bw; exact cf _ _ _
 obtain ⟨iO, nE, wC⟩ := cH.rows i r (rF r);obtain ⟨xs, ay, hl⟩ := iO.row bB;have hex : ∀ (U : Nat → Prop) (ad : Nat → Nat) (W : World), bH U ad W (xs.map AC.c) xs := fun U ad W => hl.exact cA;have yW : ∀ y ∈ xs.map AC.c, AC.aV y = true := fun y ai => by obtain ⟨v, _, rfl⟩ := h9.1 ai; rfl
 have MC : ∀ g, (⟨r.e, r.sz, r.v, r.n, xs.map AC.c⟩ : bz).own g → r.own g := fun g h => by
  have := bz.oA h bB;exact .inl this
 have wz : ∀ g, r.own g → (⟨r.e, r.sz, r.v, r.n, xs.map AC.c⟩ : bz).own g := fun g h => by
  have := bz.oA h bB;exact .inl this
 have l7 : eS U ad W bW (bw i ⟨r.e, r.sz, r.v, r.n, xs.map AC.c⟩) := by
  refine ⟨fun k cs af => (by cases af), fun k cs x j af => (by cases af), fun k k' cs aq af => (by cases af), fun k q af => ?_, fun a b q cd aH ab mH => ?_⟩
  ·obtain ⟨rfl, rfl⟩ := fu af;exact ⟨.inl ⟨bB, xs, ay, hex _ _ _⟩, yW, fun g ao => ⟨(wC g (MC g ao)).1, fun k cs af => (by cases af)⟩⟩
  ·obtain ⟨rfl, rfl⟩ := fu aH;obtain ⟨rfl, rfl⟩ := fu ab;exact absurd rfl mH
 have hF := Rx (i := i) (j := j) (r := ⟨r.e, r.sz, r.v, r.n, xs.map AC.c⟩) (hp (xs.map AC.c) (by rw [mo]; exact hl.1.symm) (cb.2 yW)) bB yW (fun v q ⟨v', hv, ak⟩ => by
  subst ak; exact ⟨hv, tO.of fun y ai => by obtain ⟨v, _, rfl⟩ := h9.1 ai; exact ⟨v, rfl⟩⟩)
 refine (hF.call U ad W vs l7 cB cI).mono ?_;rintro e bb ⟨v, b9, aD, aw, aY, cq, q0, ⟨q, rfl, rfl, aI, v', rfl, rfl⟩, h2, h3, aE, cZ, ff, js, pg, iJ⟩
 have yE : ∀ b, ea ad bW (bw i ⟨r.e, r.sz, r.v, r.n, xs.map AC.c⟩) b → r.own b := fun b ab => by
  rcases ab with ⟨k, cs, af, _⟩ | ⟨k, q, af, ao⟩
  ·cases af
  ·obtain ⟨rfl, rfl⟩ := fu af; exact MC b ao
 have yT : ∀ b, U b → b < W.heap.size → bb.heap[b]? = W.heap[b]? := fun b ab a8 => iJ.block b ⟨a8, fun aR => (wC b (yE b aR)).1 ab⟩
 have mO : ∀ k q, bJ (bw j ⟨r.e, r.sz, v', r.n, r.aO⟩) (bw i r) k = some q → ∃ u, q = ⟨r.e, r.sz, u, r.n, r.aO⟩ ∧ bJ (bw j ⟨r.e, r.sz, v', r.n, xs.map AC.c⟩) (bw i ⟨r.e, r.sz, r.v, r.n, xs.map AC.c⟩) k = some ⟨r.e, r.sz, u, r.n, xs.map AC.c⟩ := fun k q af => by
  rcases jE af with af | ⟨au, af⟩
  ·obtain ⟨rfl, rfl⟩ := fu af;exact ⟨v', rfl, hk (by unfold bw; exact cf _ _ _)⟩
  ·obtain ⟨rfl, rfl⟩ := fu af;refine ⟨q.v, rfl, ?_⟩;rw [hn (by unfold bw; rw [b3 _ _ fg]; rfl)];exact rF _
 refine ⟨v, aM v', bW, bJ (bw j ⟨r.e, r.sz, v', r.n, r.aO⟩) (bw i r), aY, fun b => cq b ∨ (U b ∧ b < W.heap.size), q0, ⟨v', rfl, rfl, rfl⟩, ⟨fun k cs af => (by cases af), fun k cs x j af => (by cases af), fun k k' cs aq af => (by cases af), fun k q af => ?_, fun a b q cd aH ab mH g ao dX => ?_⟩, h3, fun j ae => absurd ae (iR _ j), fun k cs af => (by cases af), fun k q af => ?_, fun b ab => ?_, fun b ab => ?_, ⟨iJ.os, iJ.tape, iJ.output, iJ.size, fun b ab => iJ.block b ⟨ab.1, fun aR => ab.2 (.inr ⟨i, r, rF r, yE b aR⟩)⟩⟩⟩
 ·obtain ⟨u, rfl, eD⟩ := mO k q af;obtain ⟨gU, z2, z3⟩ := h2.rows k _ eD;obtain ⟨xm, gK, e0⟩ := gU.row bB;have := bH.Wa e0;subst this;refine ⟨.inl ⟨bB, xm, gK, hl.map (fun b ab a8 => ⟨.inr ⟨ab, a8⟩, yT b ab a8⟩) fun k x aa ae => absurd ae (AC.dd (cA x aa) k)⟩, cA, fun g ao => ⟨?_, fun k cs af => (by cases af)⟩⟩;have dX := CW (zs := xm.map AC.c) bB ao;rintro (c8 | ⟨c8, a8⟩)
  ·exact (z3 g dX).1 c8
  ·rcases pg g (.inr ⟨k, _, eD, dX⟩) with aR | aR
   ·exact (wC g (yE g aR)).1 c8
   ·omega
 ·obtain ⟨u, rfl, oc⟩ := mO a q aH;obtain ⟨nU, rfl, c0⟩ := mO b cd ab;exact h2.apart a b _ _ oc c0 mH g (CW bB ao) (CW bB dX)
 ·obtain ⟨rfl, rfl⟩ := fu af;exact ⟨q, by rw [hn (by unfold bw; rw [b3 _ _ fg]; rfl)]; exact rF q⟩
 ·rcases ab with ab | ab
  ·rcases js b ab with h | h | h
   ·exact .inl h
   ·exact .inr (.inl h)
   ·exact .inr (.inr (.inr ⟨i, r, rF r, yE b h⟩))
  ·exact .inl ab.1
 ·rcases ab with ⟨k, cs, af, _⟩ | ⟨k, q, af, ao⟩
  ·cases af
  ·obtain ⟨u, rfl, eD⟩ := mO k q af;rcases pg b (.inr ⟨k, _, eD, CW bB ao⟩) with h | h
   ·exact .inl (.inr ⟨i, r, rF r, yE b h⟩)
   ·exact .inr h
theorem GA (i j : Nat) (fg : i ≠ j) {dst : Option Nat} {f : FuncId} {g : Operand} {aL : Array TypeId} {x : Operand} {r : bz} [E : Enters P f] (hw : want ops ⟨dst, .call ⟨.value g, #[x], aL⟩, ty, pos, after, guard⟩ s = some true) (hm : dL dr ⟨dst, .call ⟨.value g, #[x], aL⟩, ty, pos, after, guard⟩ = true)
  (ao : s.look g = some (aM (.func (.func f) #[] #[]))) (aH : s.look x = some (aM r.v)) (hp : ∀ aO : List AC, aO.length = r.aO.length → aO.all AC.aV = true → oS P f [cz r.sz r.n aO] fun v q => ∃ v', v = aM v' ∧ q = ⟨r.e, r.sz, v', r.n, aO⟩) (hi : R i = some r) (bB : 0 < r.sz) (cA : ∀ y ∈ r.aO, y.aV = true) (hd : kC dst s.n = true)
  (h : ∀ v', ct P ops dr K rest (bA R j ⟨r.e, r.sz, v', r.n, r.aO⟩) (s.put dst (aM v'))) : ct P ops dr K (⟨dst, .call ⟨.value g, #[x], aL⟩, ty, pos, after, guard⟩ :: rest) R s := by
 refine MO (l := [x]) (args := [aM r.v]) hw hm ao (by simp [aH]) (af7 (j := j) fg hp bB cA) (fun k q af => ?_) rfl hd ?_
 ·obtain ⟨rfl, rfl⟩ := fu af; exact hi
 rintro v aD aw ⟨v', rfl, rfl, rfl⟩;refine ⟨rfl, ?_⟩
 have aF : bJ (bJ (bw j ⟨r.e, r.sz, v', r.n, r.aO⟩) (bw i r)) R = bA R j ⟨r.e, r.sz, v', r.n, r.aO⟩ := by
  funext k
  by_cases hT : k = j
  ·subst hT;rw [cf];exact hk (hk (by unfold bw; exact cf _ _ _))
  ·rw [b3 _ _ hT]
   by_cases mF : k = i
   ·subst mF;rw [hi];exact hk (by rw [hn (by unfold bw; rw [b3 _ _ hT]; rfl)]; unfold bw; exact cf _ _ _)
   ·exact hn (by rw [hn (by unfold bw; rw [b3 _ _ hT]; rfl)]; unfold bw; rw [b3 _ _ mF]; rfl)
 rw [aF];exact h v'
end
section
variable {P : Program} {s : az} {ops : Array Oper} {K : az → Prop} {rest : List Oper} {ty : Nat} {pos : String} {after : Array Edge} {guard : Option (Nat × Bool)} {d : Nat}
theorem TK {t dK k off : Nat} {x : Operand} (hw : want ops ⟨some d, .binOp .eql t x (.const (.pointer none)) dK, ty, pos, after, guard⟩ s = some true) (aa : s.look x = some (.w (.one (.own k off)))) (hu : Nh P t = true) (hd : Nat.blt d s.n = true) (h : a7 P ops K rest (s.put (some d) (bf false))) : a7 P ops K (⟨some d, .binOp .eql t x (.const (.pointer none)) dK, ty, pos, after, guard⟩ :: rest) s := by
 obtain ⟨e, he⟩ : ∃ e, P.underlying t = some (.pointer e) := by
  unfold Nh at hu
  split at hu
  ·rename_i e he; exact ⟨e, he⟩
  ·cases hu
 refine fF (av := bf false) hw ⟨fun _ _ h => (by cases h), fun z aI => ?_, fun U ad W env Mn => ?_, fun j ae => absurd ae (iR _ j)⟩ hd h
 ·simp [Op.operands] at aI;rcases aI with rfl | rfl
  ·exact ⟨_, aa⟩
  ·exact ⟨_, rfl⟩
 ·have aF := Mn x (by simp [Op.operands]) _ aa;have aF : env x = .pointer (some ⟨ad k, off, none⟩) := aF;have aN : env (.const (.pointer none)) = .pointer none := (Mn (.const (.pointer none)) (by simp [Op.operands]) _ rfl).1;refine ⟨.bool false, ?_, rfl, rfl⟩;simp only [execOp, aF, aN, WD, Sem.run_bind, Sem.run_pure, Result.andThen_ok, aey he]
end
section
variable {P : Program} {f : FuncId} {args : List ah} {m0 : Mem} {R0 : aG} {Post Post2 : ah → Mem → aG → Prop}
def n9 (i : Nat) (R : aG) : aG := fun j => if j = i then none else R j
theorem cY.ui (i : Nat) (h : cY P f args m0 R0 Post) (aA : R0 i = none)
  (hp : ∀ bR aD aw, Post bR aD aw → ∃ q zL, aw i = some q ∧ 0 < q.sz ∧ (∀ U ad W v, cR U ad W bR v → gd U ad W (.p (cl q.sz q.n q.aO)) q.v → cR U ad W zL v) ∧ (∀ j, zL.owns j → bR.owns j) ∧ Post2 zL aD (n9 i aw)) : cY P f args m0 R0 Post2 := by
 refine ⟨fun U ad W vs cH cB cI => (h.call U ad W vs cH cB cI).mono ?_⟩;rintro e bb ⟨v, r, aD, aw, aY, cq, q0, h1, h2, h3, aE, cZ, ff, js, pg, iJ⟩;obtain ⟨q, zL, hi, aI, hv, hw, WK⟩ := hp r aD aw h1;obtain ⟨gU, z2, z3⟩ := h2.rows i q hi;have B2 : ∀ b, cq b → b < bb.heap.size → (fun b => cq b ∨ q.own b) b ∧ bb.heap[b]? = bb.heap[b]? := fun b ab _ => ⟨.inl ab, rfl⟩;have Yz : gd (fun b => cq b ∨ q.own b) aY bb (.p (cl q.sz q.n q.aO)) q.v := gU.Rm aI q.aO (fun xs hl => hl.map B2 fun _ _ _ _ => rfl) z2 fun b ab => .inr ab;have al : cR (fun b => cq b ∨ q.own b) aY bb r v := h3.map B2 fun _ _ => rfl
 have BL : ∀ k x, n9 i aw k = some x → k ≠ i ∧ aw k = some x := fun k x af => by
  unfold n9 at af
  split at af
  ·cases af
  ·rename_i bX; exact ⟨bX, af⟩
 refine ⟨v, zL, aD, n9 i aw, aY, fun b => cq b ∨ q.own b, q0, WK, ⟨fun k cs af => ?_, h2.fs, h2.inj, fun k x af => ?_, fun a b x y aH ab mH g ao dX => ?_⟩, hv _ _ _ _ al Yz, fun j ae => aE j (hw j ae), cZ, fun k x af => ?_, fun b ab => ?_, fun b ab => ?_, iJ⟩
 ·obtain ⟨xs, ty, a1, a2, a3⟩ := h2.dt k cs af;exact ⟨xs, ty, a1, a2.map B2 fun _ _ _ _ => rfl, fun aR => aR.elim a3 fun ao => (z3 _ ao).2 k cs af rfl⟩
 ·obtain ⟨bX, eD⟩ := BL k x af;obtain ⟨a1, a2, a3⟩ := h2.rows k x eD;exact ⟨a1.kept a2 (fun _ _ => rfl) (dl _) B2, a2, fun g ao => ⟨fun aR => aR.elim (a3 g ao).1 fun dX => h2.apart k i x q eD hi bX g ao dX, (a3 g ao).2⟩⟩
 ·obtain ⟨_, oc⟩ := BL a x aH;obtain ⟨_, c0⟩ := BL b y ab;exact h2.apart a b x y oc c0 mH g ao dX
 ·obtain ⟨x', kq⟩ := ff k x af;refine ⟨x', ?_⟩;unfold n9;rw [if_neg (fun e => by subst e; rw [aA] at af; cases af)];exact kq
 ·rcases ab with ab | ab
  ·exact js b ab
  ·rcases pg b (.inr ⟨i, q, hi, ab⟩) with aR | aR
   ·exact .inr (.inr aR)
   ·exact .inr (.inl aR)
 ·refine pg b ?_;rcases ab with ⟨k, cs, af, e⟩ | ⟨k, x, af, ao⟩
  ·exact .inl ⟨k, cs, af, e⟩
  ·exact .inr ⟨k, x, (BL k x af).2, ao⟩
theorem AC.pN (x : AC) : x.aW (fun j => j) = x := by cases x <;> rfl
theorem AC.Qv (xs : List AC) : xs.map (AC.aW fun j => j) = xs := by
 conv => rhs; rw [← List.map_id xs]
 exact oI fun x _ => AC.pN x
theorem br.pN (x : br) : x.aW (fun j => j) = x := by
 cases x with
 | one x => show br.one (x.aW _) = _; rw [AC.pN]
 | agg xs => show br.agg (xs.map _) = _; rw [AC.Qv]
theorem ah.pN (x : ah) : x.aW (fun j => j) = x := by
 cases x with
 | w x => show ah.w (x.aW _) = _; rw [br.pN]
 | cj xs =>
  show ah.cj (xs.map _) = _;congr 1
  conv => rhs; rw [← List.map_id xs]
  exact oI fun x _ => br.pN x
theorem Mem.pN (m : Mem) : Mem.aW (fun j => j) m = m := by
 funext k;show (m k).map _ = m k;cases m k with
 | none => rfl
 | some cs => show some (cs.map _) = _; rw [AC.Qv]
theorem cY.rn {bS : Nat → Nat} (fr : ∀ j, bS (bS j) = j) (h : cY P f args m0 R0 Post) : cY P f args m0 (R0.aW bS) fun bR aD aw => ∃ bg, Post bR aD bg ∧ aw = bg.aW bS := by
 have h1 := h.aW (bx := fun j => j) (fun _ => rfl) (bS := bS) (ib := bS) fr fr
 rw [show args.map (ah.aW fun j => j) = args from by
  conv => rhs; rw [← List.map_id args]
  exact oI fun x _ => ah.pN x, Mem.pN] at h1
 refine ⟨fun U ad W vs cH cB cI => (h1.call U ad W vs cH cB cI).mono ?_⟩;rintro cW bb ⟨v, r, aD, aw, aY, cq, q0, ⟨b9, m1, bg, ak, rfl, rfl, rfl⟩, lM⟩;rw [ah.pN, Mem.pN] at lM;exact ⟨v, b9, m1, bg.aW bS, aY, cq, q0, ⟨bg, ak, rfl⟩, lM⟩
theorem cY.imp (h : cY P f args m0 R0 Post) (hp : ∀ bR aD aw, Post bR aD aw → Post2 bR aD aw) : cY P f args m0 R0 Post2 :=
 ⟨fun U ad W vs cH cB cI => (h.call U ad W vs cH cB cI).mono (by
  rintro cW bb ⟨v, r, aD, aw, aY, cq, q0, h1, lM⟩;exact ⟨v, r, aD, aw, aY, cq, q0, hp _ _ _ h1, lM⟩)⟩
end
end Go.Proofs.YtbcecodakfejaaaGreat
namespace Go.Proofs.YtbcecodakfejaaaGreat
open Go.ChangeShapes Go.WideShapes Go.ChangeAt Go.RowKit Go.Joins
def rq (L : List (List Int)) : List AC := L.flatten.map fun x => .c (.int .i64 x)
theorem U2 {W : World} {b : Addr} {v : Value} (h : W.cell? b = some v) : b.block < W.heap.size := by
 unfold World.cell? at h
 split at h
 ·rename_i aR; exact (jH.1 aR).1
 ·cases h
theorem LH {W : World} {a : Addr} {z : Nat} : ∀ (L : List (List Int)) (k : Nat), (∀ (i : Nat) (x : List Int), L[i]? = some x → x.length = z ∧ ∀ (o : Nat) (y : Int), x[o]? = some y → W.cell? (a.add ((k + i) * z + o)) = some (.int .i64 y)) →
  ∀ (j : Nat) (u : Int), L.flatten[j]? = some u → W.cell? (a.add (k * z + j)) = some (.int .i64 u)
 | [], k, h, j, u, hu => by simp at hu
 | x :: L, k, h, j, u, hu => by
  obtain ⟨hl, aa⟩ := h 0 x rfl;rw [List.flatten_cons] at hu;rcases hM j x.length with ae | ae
  ·rw [fK ae] at hu;have := aa j u hu;rwa [Nat.add_zero] at this
  ·rw [gm ae] at hu
   have := LH L (k + 1) (fun i y ai => by
    have := h (i + 1) y (by simpa using ai);rw [show k + (i + 1) = k + 1 + i by omega] at this;exact this) (j - x.length) u hu
   rw [show (k + 1) * z + (j - x.length) = k * z + j by rw [j0, Nat.one_mul]; omega] at this;exact this
theorem abB {H : Type} {enc : TypeId × Value → H} {P : Program} {W : World} {t e : TypeId} (z : Nat) (ax : P.underlying t = some (.slice e)) (ce : P.cellsOf e = z)
  (yr : ∀ (n : Nat) (cs : List Value) d, DataW.trod enc P W 0 (fun _ => true) true n e cs = some d → ∃ xs : List Int, cs = xs.map (Value.int .i64))
  {v : Value} {d : DataW H} {p : List MemPlace} (hv : ∃ a len cap, v = .slice a len cap) (aA : DataW.Trod enc P W 0 (fun _ => true) true t v d p) (aI : 0 < z) :
  ∃ L : List (List Int), (L.length : Int) ≤ 9223372036854775807 ∧ (∀ x ∈ L, x.length = z) ∧ cR (fun _ => True) id W (cz z L.length (rq L)) v := by
 obtain ⟨a0, rP, agT, rfl⟩ := hv;obtain ⟨eZ, ap⟩ := aA;rcases Go.Deep.open_slice ax ap with ⟨ej, aa⟩ | ⟨a, len, cap, m, n, D, ags, ej, ab, hl, hm, sZ, aa, hi⟩
 ·simp [Value.cells] at ej;obtain ⟨rfl, rfl, rfl⟩ := ej;exact ⟨[], by decide, fun x aa => (by cases aa), ⟨none, 0, rfl, dl _, by simp [rq], fun h => absurd h (Nat.lt_irrefl _)⟩, fun _ _ => trivial⟩
 ·simp [Value.cells] at ej;obtain ⟨rfl, rfl, rfl⟩ := ej;simp only [if_true] at sZ;subst sZ;rw [ce] at hi
  have each : ∀ i, i < m → ∃ q : List Int, q.length = z ∧ ∀ (o : Nat) (y : Int), q[o]? = some y → W.cell? (a.add (i * z + o)) = some (.int .i64 y) := fun i h => by
   obtain ⟨aq, h1, h2⟩ := hi i h;obtain ⟨_, hlen, jc⟩ := World.cells?_some h1;obtain ⟨xs, rfl⟩ := yr _ _ _ h2;refine ⟨xs, by simpa using hlen, fun o y ai => ?_⟩
   have ay : o < z := by
    have := (bF.1 ai).1;simp at hlen; omega
   have := jc o ay;rw [Go.Deep.add_add, ef, ai] at this;exact this
  obtain ⟨q, ak⟩ := Go.Deep.choose_lt each
  have dn : ∀ (i : Nat) (x : List Int), ((List.range rP).map q)[i]? = some x → x.length = z ∧ ∀ (o : Nat) (y : Int), x[o]? = some y → W.cell? (a.add ((0 + i) * z + o)) = some (.int .i64 y) := by
   intro i x aa;rw [ef] at aa;cases al : (List.range rP)[i]? with
   | none => rw [al] at aa; cases aa
   | some j =>
    rw [al] at aa;cases aa;obtain ⟨h3, aE⟩ := bF.1 al;simp at h3 aE;subst aE;rw [jj];exact ak i (by omega)
  have gf := LH ((List.range rP).map q) 0 dn
  have yy : ∀ x ∈ (List.range rP).map q, x.length = z := fun x aa => by
   obtain ⟨i, cP⟩ := jh aa;exact (dn i x cP).1
  have wo : ∀ L : List (List Int), (∀ x ∈ L, x.length = z) → L.flatten.length = L.length * z := by
   intro L
   induction L with
   | nil => intro _; simp
   | cons x L bO =>
    intro h;rw [List.flatten_cons, cx, bO (fun y ai => h y (by simp [ai])), h x (by simp), jZ, j0];omega
  refine ⟨(List.range rP).map q, by simp; unfold maxLen at hm; omega, yy, ?_⟩;refine ⟨⟨some a, m, by simp, by simpa using hl, by rw [rq, mo, wo _ yy], fun au => ⟨a, ((List.range rP).map q).flatten.map fun x => Value.int .i64 x, rfl, ?_, ⟨by rw [rq, mo, mo], fun i x u aa hu => ?_⟩, fun j u hu => ?_, fun y ai => ?_⟩⟩, fun _ _ => trivial⟩
  ·have Gl : 0 < rP := by simpa using au
   obtain ⟨h1, h2⟩ := ak 0 (by omega);have := U2 (h2 0 _ (bQ (by omega)));rwa [block_add] at this
  ·unfold rq at aa;rw [ef] at aa hu;cases al : ((List.range rP).map q).flatten[i]? with
   | none => rw [al] at aa; cases aa
   | some y =>
    rw [al] at aa hu;cases aa; cases hu;exact ⟨rfl, rfl⟩
  ·rw [ef] at hu;cases al : ((List.range rP).map q).flatten[j]? with
   | none => rw [al] at hu; cases hu
   | some y =>
    rw [al] at hu;cases hu;have := gf j y al;rwa [Nat.zero_mul, jj] at this
  ·unfold rq at ai;obtain ⟨x, _, rfl⟩ := h9.1 ai;rfl
theorem E9 {H : Type} {enc : TypeId × Value → H} {P : Program} {W : World} {e : TypeId} (fX : P.underlying e = some (.int .i64)) {n : Nat} {cs : List Value} {d : DataW H × List MemPlace} (h : DataW.trod enc P W 0 (fun _ => true) true n e cs = some d) (hl : cs.length = 1) : ∃ x : Int, cs = [.int .i64 x] := by
 match cs, hl with
 | [v], _ =>
  obtain ⟨x, aa, _⟩ := DataW.trod_int fX h;simp at aa;exact ⟨x, by rw [aa]⟩
theorem Lb {H : Type} {enc : TypeId × Value → H} {P : Program} {W : World} {e : TypeId} {f0 f1 : Field} (he : P.underlying e = some (.struct #[f0, f1])) (ce : P.cellsOf e = 2) (CQ : f0.offset = 0) (o1 : f1.offset = 1) (gr : P.cellsOf f0.type = 1) (c1 : P.cellsOf f1.type = 1) (fX : P.underlying f0.type = some (.int .i64)) (bd : P.underlying f1.type = some (.int .i64))
  {n : Nat} {cs : List Value} {d : DataW H × List MemPlace} (h : DataW.trod enc P W 0 (fun _ => true) true n e cs = some d) : ∃ x y : Int, cs = [.int .i64 x, .int .i64 y] := by
 obtain ⟨xs, k, _, _, cA, oo, ap⟩ := DataW.trod_struct he h;rw [ce] at cA
 match cs, cA, xs, oo with
 | [u, v], _, [d0, d1], _ =>
  have g0 := ap 0 f0 rfl;have g1 := ap 1 f1 rfl;simp [CQ, o1, gr, c1] at g0 g1;obtain ⟨x, aa⟩ := E9 fX g0 rfl;obtain ⟨y, ai⟩ := E9 bd g1 rfl;cases aa; cases ai;exact ⟨x, y, rfl⟩
end Go.Proofs.YtbcecodakfejaaaGreat
