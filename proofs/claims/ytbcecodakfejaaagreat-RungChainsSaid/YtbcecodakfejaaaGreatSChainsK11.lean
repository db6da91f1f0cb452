/-
  My own texts, without what this claim does not need. My own text.
-/
import Derived.Deep.SlicePairs
import Derived.Carry
import Derived.Test.YtbcecodakfejaaaGreatSChainsK10
set_option maxRecDepth 100000
set_option maxHeartbeats 64000000
set_option linter.unusedVariables false
set_option linter.unusedSimpArgs false
set_option linter.unusedSectionVars false
open Go.Proofs.Tryz renaming prog → ag
namespace Go.Proofs.YtbcecodakfejaaaGreat
open Go.RowKit
theorem ac6 {x y : Nat} (aa : x < 9223372036854775808) (ai : y < 9223372036854775808) (h : x * y < 9223372036854775808) : aH ag 179 [aQ (.int .u64 (x : Nat)), aQ (.int .u64 (y : Nat))] (.cn [.one (.c (.int .u64 0)), .one (.c (.int .u64 ((x * y : Nat) : Int)))]) := by
 refine hJ [.int .u64 (x : Nat), .int .u64 (y : Nat)] (.tuple #[.int .u64 0, .int .u64 ((x * y : Nat) : Int)]) rfl rfl rfl rfl rfl fun W => ?_;refine (Tryz.bits_Mul64 x y (by omega) (by omega) W).mono ?_;rintro e w' ⟨rfl, rfl⟩;have aF : x * y / 18446744073709551616 = 0 := Nat.div_eq_of_lt (by omega);have aP : x * y % 18446744073709551616 = x * y := Nat.mod_eq_of_lt (by omega);rw [aF, aP];exact ⟨rfl, Below.refl _ _⟩
theorem ac4 {y : Nat} (ai : y < 9223372036854775808) : aH ag 157 [aQ (.int .u64 1), aQ (.int .u64 (y : Nat))] (.cn [.one (.c (.int .u64 0)), .one (.c (.int .u64 (y : Nat)))]) := by
 have aW := ac6 (x := 1) (y := y) (by decide) ai (by omega);rw [Nat.one_mul] at aW
 replace aW : aH ag 179 [aQ (.int .u64 1), aQ (.int .u64 (y : Nat))] (.cn [.one (.c (.int .u64 0)), .one (.c (.int .u64 (y : Nat)))]) := aW
 refine bl (f := 157) Tryz.func157 rfl rfl rfl rfl ?_;(refine cc ?_)
 ((refine bd rfl (a8 rfl (a8 rfl aL)) ?_))
 exact ah.aS.refl _
def TQ (d : Int) (m : Nat) (v : Value) (fo : List AC) (n : Nat) (R : aI) (aM : List (Nat × ah)) (bi : List (Nat × List AC)) : Prop :=
 ∃ (k : Nat) (cU : Int), 1 ≤ k ∧ k ≤ m ∧ n = m - k ∧ cU = k ∧ R = bt 0 ⟨3, 1, v, m, ck (List.replicate k d) ++ fo.drop k⟩ ∧ bi = [] ∧ aM = [(7, aQ v), (8, aE cU)]
theorem ade {d : Int} {m : Nat} (rV : 1 ≤ m) (hm : m ≤ 100000) : aH ag 133 [ol [d], aE m] (ol (List.replicate m d)) := by
 have JP := ac4 (y := m) (by omega);have w1 : IntKind.u64.wrap (m : Int) = m := by rw [IntKind.wrap_u64]; omega
 have w2 : IntKind.i64.wrap (m : Int) = m := mw (by omega);have c0 : ¬ (m : Int) < 0 := by omega
 have q1 : ¬ (m : Int) > 9223372036854775807 := by omega
 have bn : Nat.min 1 m = 1 := o7 rV;refine bl (f := 133) Tryz.func133 rfl rfl rfl rfl ?_;refine pw ?_;(refine nF ?_);refine zb (l := m) (c' := m) 0 rfl rfl rfl rfl (dE _) rfl rfl ?h2 (js (by omega)) rfl (fun v hv => ?_)
 case h2 => show 8 * m ≤ 281474976710656; omega
 generalize dQ : h4 m 1 _ = fo;have B5 : fo.length = m := by rw [← dQ]; simp [h4]
 have X1 : fo.all AC.aY = true := by
  rw [← dQ];refine b6.2 fun y ai => ?_;simp only [h4, gm] at ai;obtain ⟨j, _, rfl⟩ := ai;rfl
 clear dQ
 have s1 : eD fo (0 * 1) ((ck [d]).take (1 * 1)) = ck (List.replicate 1 d) ++ fo.drop 1 := by
  unfold eD; simp [ck]
 (repeat first | refine cu ?_ | (with_reducible apply Zp 0); (iterate 6 rfl); (rfl); rfl; (assumption); (assumption); rfl);refine I1 0 (r := ⟨3, 1, v, m, ck (List.replicate 1 d) ++ fo.drop 1⟩) rfl (fun eY c iW eO iS ec hlen => ?_);have nk : v = .slice eY m c := iW;have hu : iN v 1 0 m v := by rw [nk]; exact iN.all 1 eO ec
 clear iW eO iS ec hlen nk;refine jW 48 (TQ d m v fo) (m - 1) (bt 0 ⟨3, 1, v, m, ck (List.replicate 1 d) ++ fo.drop 1⟩) _ [] ⟨1, 1, dE _, rV, rfl, rfl, rfl, rfl, rfl⟩ (kI _ _ _) rfl ⟨rfl, rfl, trivial⟩ trivial rfl ?_;clear JP w1 w2 c0 q1 bn s1;rintro n R aM bi ⟨k, cU, qM, af, rfl, rfl, rfl, rfl, rfl⟩ cT;clear cT
 by_cases an : k < m
 ·have q2 : (k : Int) < (m : Int) := by omega
  obtain ⟨x, aa⟩ : ∃ x, Nat.min k (m - k) = x := ⟨_, rfl⟩;have aiV : 1 ≤ x := by rw [← aa]; exact Nat.le_min.2 ⟨qM, by omega⟩
  have ZG : x ≤ k := by rw [← aa]; exact Nat.min_le_left _ _
  have aiW : x ≤ m - k := by rw [← aa]; exact Nat.min_le_right _ _
  have m0 : m - 0 = m := Nat.sub_zero m;have cy := hu.sl m0 af (dx _);have cz := hu.agl (k := k) (by omega);rw [je] at cy cz;have cq : 0 + k = k := je k
  have pA : (ck (List.replicate k d) ++ fo.drop k).all AC.aY = true := by
   rw [List.all_append, N8, l8];exact b6.2 fun y ai => b6.1 X1 y (mJ ai)
  have s1 : eD (ck (List.replicate k d) ++ fo.drop k) (k * 1) ((((ck (List.replicate k d) ++ fo.drop k).drop (0 * 1)).take (k * 1)).take (x * 1)) = ck (List.replicate (k + x) d) ++ fo.drop (k + x) := by
   have lk : (ck (List.replicate k d)).length = k * 1 := by simp [ck]
   rw [Nat.zero_mul, List.drop_zero, ← lk, List.take_left, Jd rfl]
   have cr : (ck (List.replicate k d)).take (x * 1) = ck (List.replicate x d) := by
    simp only [ck, List.map_replicate, Nat.mul_one, List.take_replicate];rw [o7 ZG]
   rw [cr, re, ← CL, List.replicate_append_replicate, show (ck (List.replicate x d)).length = x by simp [ck]]
  have w1 : IntKind.i64.wrap ((k : Int) + (x : Int)) = (k : Int) + (x : Int) := mw (by omega);(repeat first | (with_reducible apply cQ (id := 9) [0,1,2,3,4,5,6,7,8,9]); kernel_rfl; kernel_rfl; rfl | refine cu ?_ | (with_reducible apply gf); rfl; (repeat first | refine gP ?_ | (with_reducible apply Fa); (iterate 3 rfl); assumption; (assumption); (assumption); rfl | (with_reducible apply U8); (iterate 3 rfl); assumption; (assumption); (assumption); rfl); (with_reducible apply fL) | (with_reducible apply lr 0); (iterate 4 rfl); kernel_rfl; rfl | (with_reducible apply Zq 0); (iterate 3 rfl); assumption; rfl; assumption; assumption; assumption; rfl; rfl; (assumption); (exact dE _); (assumption); rfl; assumption; assumption; rfl);exact ⟨m - (k + x), _, _, [], by omega, ⟨k + x, (k : Int) + (x : Int), by omega, by omega, rfl, by omega, rfl, rfl, rfl⟩, kI _ _ _, rfl, ⟨rfl, rfl, trivial⟩, trivial, rfl⟩
 ·have q2 : ¬ (k : Int) < (m : Int) := by omega
  have cq : ck (List.replicate k d) ++ fo.drop k = ck (List.replicate m d) := by
   rw [show k = m by omega, tW (by omega), p0]
  rw [cq];refine Af 0 7 ⟨3, 1, v, m, ck (List.replicate m d)⟩ rfl rfl ?_
  have el : cM 1 m (ck (List.replicate m d)) = ol (List.replicate m d) := by
   show cM 1 m _ = cM 1 (List.replicate m d).length _;rw [List.length_replicate]
  rw [← el];(refine ba ?_)
  ((refine bd rfl (a8 rfl aL) ?_))
  exact ah.aS.refl _
end Go.Proofs.YtbcecodakfejaaaGreat
namespace Go.Proofs.YtbcecodakfejaaaGreat
def vm (p q : aj) : List aj := if p = q then [p] else [p, q]
def vl (p q : aj) : List Int := if p = q then [] else [1]
theorem Xv {v : Int} (r : Nat) : -(2 ^ r) ≤ 2 * v - 2 * (2 ^ r * bB v r) ∧ 2 * v - 2 * (2 ^ r * bB v r) ≤ 2 ^ r := by
 have hS : (0 : Int) < 2 ^ r := gp (by decide);unfold bB;generalize (2 : Int) ^ r = S at *;have h1 := o6 (2 * v + S) (2 * S);have h2 := nB (2 * v + S) (show 2 * S ≠ 0 by omega);have ao := mK (2 * v + S) (show 0 < 2 * S by omega);have e : 2 * S * ((2 * v + S) / (2 * S)) = 2 * (S * ((2 * v + S) / (2 * S))) := by grind
 generalize (2 * v + S) / (2 * S) = g at *;generalize (2 * v + S) % (2 * S) = m at *;omega
theorem PA {a1 a2 b1 b2 : Int} {r : Nat} : kD a1 a2 b1 b2 (2 ^ r) (1 * aO (2 ^ r)) 0 (bB a1 r, bB a2 r) := by
 have key : ∀ v w : Int, n7 (aO v) (aO w) (2 * (aO (2 ^ r) * aO (bB v r))) (1 * aO (2 ^ r)) 0 := fun v w => by
  obtain ⟨eJ, ft⟩ := Xv (v := v) r;have m1 := mM.2 eJ;have m2 := mM.2 ft;simp only [aO, p7, lC, Rat.intCast_neg] at m1 m2
  constructor
  ·simp only [aO]; grind
  ·simp only [aO]; grind
 exact ⟨key a1 b1, key a2 b2⟩
theorem ab1 {a1 a2 b1 b2 : Int} {r : Nat} : kD a1 a2 b1 b2 (2 ^ r) (1 * aO (2 ^ r)) 1 (bB b1 r, bB b2 r) := by
 have := acf (PA (a1 := b1) (a2 := b2) (b1 := a1) (b2 := a2) (r := r));rw [show (1 : Rat) - 0 = 1 by grind] at this;exact this
end Go.Proofs.YtbcecodakfejaaaGreat
namespace Go.Proofs.YtbcecodakfejaaaGreat
open Go.RowKit
open Classical in
noncomputable def sy (r : Nat) (V : List aj) (D : List Int) : Bool := decide (vz r V D)
theorem RP {r : Nat} {V : List aj} {D : List Int} (h : vz r V D) : sy r V D = true := by unfold sy; exact @decide_eq_true _ (Classical.propDecidable _) h
theorem vy {r : Nat} {V : List aj} {D : List Int} (h : ¬ vz r V D) : sy r V D = false := by unfold sy; exact @decide_eq_false _ (Classical.propDecidable _) h
def eX (D : List Int) : Int := D.foldl max 0
theorem FD {D : List Int} {m : Int} (az : 0 ≤ m) (h : ∀ d ∈ D, d ≤ m) : 0 ≤ eX D ∧ eX D ≤ m := by
 have key : ∀ (D : List Int) (n : Int), 0 ≤ n → n ≤ m → (∀ d ∈ D, d ≤ m) → 0 ≤ D.foldl max n ∧ D.foldl max n ≤ m := by
  intro D
  induction D with
  | nil => intro n g1 g2 _; exact ⟨g1, g2⟩
  | cons d D bI =>
   intro n g1 g2 g3;rw [p5];have := g3 d (jd ..);exact bI _ (by omega) (by omega) fun e he => g3 e (k5 _ he)
 exact key D 0 (mH _) az h
def S0 : Prop := ∀ x y z w : Int, aH ag 129 [aZ x y, aZ z w] (jz (vm (x, y) (z, w)) (vl (x, y) (z, w)))
def S5 : Prop := ∀ (V : List aj) (D : List Int) (j : Nat) (l : List aj), V.length = D.length + 1 → V.length ≤ 1100 → l.length ≤ 1100 → j < D.length → (∀ d ∈ D, 1 ≤ d ∧ d ≤ 1048576) →
 aH ag 99 [jz V D, aE j, gq l] (.cn [.agg (jL (if l.isEmpty then [] else Ed V j l) (if l.isEmpty then [] else Am D j l.length)), .one (.c (.bool (!l.isEmpty)))])
def SX : Prop := ∀ (V : List aj) (D : List Int), V.length ≤ 1100 → D.length ≤ 1100 → aH ag 40 [jz V D] (aE (eX D))
def S4 : Prop := ∀ (V W : List aj) (D E : List Int), V.length ≤ 1100 → D.length ≤ 1100 → W.length ≤ 1100 → E.length ≤ 1100 → aH ag 61 [jz V D, jz W E] (bk (decide (V = W) && decide (D = E)))
def SW : Prop := ∀ (V : List aj) (D : List Int), V.length ≤ 1100 → D.length ≤ 1100 → aH ag 64 [jz V D] (jz V D)
theorem VR : ah.aS (.w (.agg [.c (.slice none 0 0), .c (.slice none 0 0)])) (jz [] []) := Kj rfl fun j x y aa ai => by
 match j with
 | 0 => cases aa; cases ai; exact .inr ⟨rfl, 2, rfl⟩
 | 1 => cases aa; cases ai; exact .inr ⟨rfl, 1, rfl⟩
 | j + 2 => simp at aa
theorem adS {V l : List aj} {f t : Int} (au : 0 ≤ f ∧ f ≤ V.length) (aB : 0 ≤ t ∧ t ≤ V.length) (mr : V.length ≤ 10000) (ak : l.length ≤ 10000) : aH ag 134 [gq V, aE f, aE t, gq l] (gq (V.take f.toNat ++ l ++ V.drop t.toNat)) := by
 have J := Qs (LL := [V.take f.toNat, l, V.drop t.toNat]) (by show 3 ≤ 1100; decide) (by simp [cF]; omega);have cq : [V.take f.toNat, l, V.drop t.toNat].flatten = V.take f.toNat ++ l ++ V.drop t.toNat := by simp
 rw [cq] at J
 replace J : aH ag 106 [cM 1 3 [.p (bX 2 (V.take f.toNat).length (bD (V.take f.toNat))), .p (bX 2 l.length (bD l)), .p (bX 2 (V.drop t.toNat).length (bD (V.drop t.toNat)))]] (gq (V.take f.toNat ++ l ++ V.drop t.toNat)) := J
 have a1 : 0 ≤ f := au.1;have a2 : f ≤ f := mH f;have a3 : f ≤ V.length := au.2;have a4 : 0 ≤ t := aB.1;have a5 : t ≤ V.length := aB.2;have T5 : (V.length : Int) ≤ V.length := mH _;have m1 : f.toNat - 0 = (V.take f.toNat).length := by rw [dX]; omega
 have aF : ((bD V).drop (0 * 2)).take ((V.take f.toNat).length * 2) = bD (V.take f.toNat) := by
  have h : bD V = bD (V.take f.toNat) ++ bD (V.drop f.toNat) := by rw [← qQ, ju]
  rw [h, Nat.zero_mul, List.drop_zero, ← n5, List.take_left]
 have m2 : (V.length : Int).toNat - t.toNat = (V.drop t.toNat).length := by rw [h0]; omega
 have aP : ((bD V).drop (t.toNat * 2)).take ((V.drop t.toNat).length * 2) = bD (V.drop t.toNat) := by
  have h : bD V = bD (V.take t.toNat) ++ bD (V.drop t.toNat) := by rw [← qQ, ju]
  rw [h, show t.toNat * 2 = (bD (V.take t.toNat)).length by rw [n5, dX]; omega, List.drop_left, Oo rfl]
 refine bl (f := 134) Tryz.func134 rfl rfl rfl rfl ?_;(repeat first | refine eA ?_ | refine fi ?_ | (with_reducible apply Fb); (iterate 4 rfl); (assumption); (assumption); (assumption); (assumption); (assumption); rfl | (with_reducible apply Fc); (iterate 5 rfl); (assumption); (assumption); (assumption); (assumption); (assumption); (assumption); rfl)
 ((refine bd rfl (a8 rfl aL) ?_))
 exact ah.aS.refl _
theorem adR {V l : List Int} {f t : Int} (au : 0 ≤ f ∧ f ≤ V.length) (aB : 0 ≤ t ∧ t ≤ V.length) (mr : V.length ≤ 10000) (ak : l.length ≤ 10000) : aH ag 135 [ol V, aE f, aE t, ol l] (ol (V.take f.toNat ++ l ++ V.drop t.toNat)) := by
 have J := Qr (LL := [V.take f.toNat, l, V.drop t.toNat]) (by show 3 ≤ 1100; decide) (by simp [cF]; omega);have cq : [V.take f.toNat, l, V.drop t.toNat].flatten = V.take f.toNat ++ l ++ V.drop t.toNat := by simp
 rw [cq] at J
 replace J : aH ag 107 [cM 1 3 [.p (bX 1 (V.take f.toNat).length (ck (V.take f.toNat))), .p (bX 1 l.length (ck l)), .p (bX 1 (V.drop t.toNat).length (ck (V.drop t.toNat)))]] (ol (V.take f.toNat ++ l ++ V.drop t.toNat)) := J
 have a1 : 0 ≤ f := au.1;have a2 : f ≤ f := mH f;have a3 : f ≤ V.length := au.2;have a4 : 0 ≤ t := aB.1;have a5 : t ≤ V.length := aB.2;have T5 : (V.length : Int) ≤ V.length := mH _;have m1 : f.toNat - 0 = (V.take f.toNat).length := by rw [dX]; omega
 have aF : ((ck V).drop (0 * 1)).take ((V.take f.toNat).length * 1) = ck (V.take f.toNat) := by
  have h : ck V = ck (V.take f.toNat) ++ ck (V.drop f.toNat) := by rw [← CL, ju]
  rw [h, Nat.zero_mul, List.drop_zero, ← CM, List.take_left]
 have m2 : (V.length : Int).toNat - t.toNat = (V.drop t.toNat).length := by rw [h0]; omega
 have aP : ((ck V).drop (t.toNat * 1)).take ((V.drop t.toNat).length * 1) = ck (V.drop t.toNat) := by
  have h : ck V = ck (V.take t.toNat) ++ ck (V.drop t.toNat) := by rw [← CL, ju]
  rw [h, show t.toNat * 1 = (ck (V.take t.toNat)).length by rw [CM, dX]; omega, List.drop_left, N9 rfl]
 refine bl (f := 135) Tryz.func135 rfl rfl rfl rfl ?_;(repeat first | refine eA ?_ | refine fi ?_ | (with_reducible apply Fb); (iterate 4 rfl); (assumption); (assumption); (assumption); (assumption); (assumption); rfl | (with_reducible apply Fc); (iterate 5 rfl); (assumption); (assumption); (assumption); (assumption); (assumption); (assumption); rfl)
 ((refine bd rfl (a8 rfl aL) ?_))
 exact ah.aS.refl _
theorem aah : SW := by
 intro V D ab hd;have EL := Qs (LL := [V]) (by show 1 ≤ 1100; decide) (by simp; omega);have EM := Qr (LL := [D]) (by show 1 ≤ 1100; decide) (by simp; omega);rw [show [V].flatten = V by simp] at EL;rw [show [D].flatten = D by simp] at EM
 replace EL : aH ag 106 [cM 1 1 [.p (bX 2 V.length (bD V))]] (gq V) := EL
 replace EM : aH ag 107 [cM 1 1 [.p (bX 1 D.length (ck D))]] (ol D) := EM
 refine bl (f := 64) Tryz.func64 rfl rfl rfl rfl ?_;(refine cc ?_)
 ((refine bd rfl (cL rfl rfl rfl aL) ?_))
 exact ah.aS.refl _
theorem agV {xs aT : List bx} (ak : xs.length = aT.length) (h : ∀ (i : Nat) x y, xs[i]? = some x → aT[i]? = some y → ah.aS (.w x) (.w y)) : ah.aS (.cn xs) (.cn aT) := fun U ad W v hv => by
 obtain ⟨vs, e, ax, aR⟩ := hv
 exact ⟨vs, e, by rw [← ak]; exact ax, fun i y u ai hu => by
  have hi : i < xs.length := by rw [ak]; exact (bA.1 ai).1
  exact h i _ y (bJ hi) ai U ad W u (aR i _ u (bJ hi) hu)⟩
theorem Xe : ah.aS (.cn [.agg [.c (.slice none 0 0), .c (.slice none 0 0)], .one (.c (.bool false))]) (.cn [.agg (jL [] []), .one (.c (.bool false))]) := agV rfl fun i x y aa ai => by
 match i with
 | 0 => cases aa; cases ai; exact VR
 | 1 => cases aa; cases ai; exact ah.aS.refl _
 | i + 2 => simp at aa
theorem agw {V l : List aj} {D : List Int} {j : Nat} (ab : V.length ≤ 1100) (hd : D.length ≤ 1100) (ae : j ≤ 1100)
  (cs : (j : Int) ≥ D.length ∨ (¬ (j : Int) ≥ D.length ∧ (j : Int) ≥ (V.length : Int) - 1) ∨ (¬ (j : Int) ≥ D.length ∧ ¬ (j : Int) ≥ (V.length : Int) - 1 ∧ (l.length : Int) = 0)) : aH ag 99 [jz V D, aE j, gq l] (.cn [.agg (jL [] []), .one (.c (.bool false))]) := by
 have c0 : ¬ (j : Int) < 0 := by omega
 generalize (j : Int) = ek at *;rcases cs with q1 | ⟨q1, q2⟩ | ⟨q1, q2, bR⟩
 all_goals
  refine bl (f := 99) Tryz.func99 rfl rfl rfl rfl ?_;(repeat first | refine eA ?_ | (with_reducible apply cg (c := true)); rfl; rfl; (exact bZ (by omega)) | (with_reducible apply cg (c := false)); rfl; rfl; (exact cp (by omega)))
  ((refine bd rfl (cL rfl rfl rfl (a8 rfl aL)) ?_))
  exact Xe
theorem agx {V l : List aj} {D : List Int} {j : Nat} {ek oA : Int} (nc : ek = j) (qJ : D[j]? = some oA) (B9 : 1 ≤ oA ∧ oA ≤ 1048576) (ak : 0 < l.length) (eG : V.length = D.length + 1) (ab : V.length ≤ 1100) (wJ : l.length ≤ 1100) : aH ag 99 [jz V D, aE ek, gq l] (.cn [.agg (jL (Ed V j l) (Am D j l.length)), .one (.c (.bool true))]) := by
 have Cl : j < D.length := (bA.1 qJ).1;have c0 : ¬ ek < 0 := by omega
 have q1 : ¬ ek ≥ D.length := by omega
 have q2 : ¬ ek ≥ (V.length : Int) - 1 := by omega
 have bR : ¬ (l.length : Int) = 0 := by omega
 have dD : ek < (D.length : Int) := by omega
 have iK := w5 nc qJ;have ko := ade (d := oA + 1) (m := l.length + 1) (by omega) (by omega);have iM := adS (V := V) (l := l) (f := ek + 1) (t := ek + 1) (by omega) (by omega) (by omega) (by omega);have EN := adR (V := D) (l := List.replicate (l.length + 1) (oA + 1)) (f := ek) (t := ek + 1) (by omega) (by omega) (by omega) (by rw [List.length_replicate]; omega);have aF : (ek + 1).toNat = j + 1 := by omega
 have aP : ek.toNat = j := by omega
 have cr : D.getD j 0 = oA := by simp [List.getD, qJ]
 have ew : D.take j ++ List.replicate (l.length + 1) (oA + 1) ++ D.drop (j + 1) = Am D j l.length := by unfold Am; rw [cr]
 have lN : V.take (j + 1) ++ l ++ V.drop (j + 1) = Ed V j l := rfl;rw [aF, lN] at iM;rw [aF, aP, ew] at EN;have rJ : (((l.length + 1 : Nat) : Int)) = (l.length : Int) + 1 := by omega
 rw [rJ] at ko;clear aF aP cr ew lN rJ;generalize Ed V j l = Kb at *;generalize Am D j l.length = vM at *;generalize List.replicate (l.length + 1) (oA + 1) = T at *;refine bl (f := 99) Tryz.func99 rfl rfl rfl rfl ?_;(repeat first | refine eA ?_ | refine fi ?_ | refine lH iM ?_ | (with_reducible apply cg (c := false)); rfl; rfl; (exact cp (by omega)))
 ((refine bd rfl (cL rfl rfl rfl (a8 rfl aL)) ?_))
 exact ah.aS.refl _
theorem aaq : S5 := by
 intro V D j l mr ab wJ ae kv;cases ak : l with
 | nil => exact agw (V := V) (D := D) (l := []) (j := j) (by omega) (by omega) (by omega) (.inr (.inr ⟨by omega, by omega, rfl⟩))
 | cons p m =>
  rw [← ak];have e : l.isEmpty = false := by rw [ak]; rfl
  rw [e];have GS : 0 < l.length := by rw [ak]; exact jw _
  obtain ⟨oA, qJ⟩ : ∃ oA, D[j]? = some oA := ⟨_, bJ ae⟩;exact agx (V := V) (l := l) (D := D) (j := j) rfl qJ (kv oA (cV qJ)) GS mr ab wJ
theorem VS (V : List aj) : ah.aS (.w (.agg [.p (bX 2 V.length (bD V)), .c (.slice none 0 0)])) (jz V []) := Kj rfl fun j x y aa ai => by
 match j with
 | 0 => cases aa; cases ai; exact .inl rfl
 | 1 => cases aa; cases ai; exact .inr ⟨rfl, 1, rfl⟩
 | j + 2 => simp at aa
theorem aal : S0 := by
 intro x y z w;cases an : c7 x y z w with
 | true =>
  obtain ⟨rfl, rfl⟩ := mX.1 an;rw [show vm (x, y) (x, y) = [(x, y)] from if_pos rfl, show vl (x, y) (x, y) = [] from if_pos rfl];refine bl (f := 129) Tryz.func129 rfl rfl rfl rfl ?_;(refine eS ?_)
  ((refine bd rfl (cL rfl rfl rfl aL) ?_))
  exact VS [(x, y)]
 | false =>
  have ax : ¬ ((x, y) : aj) = (z, w) := fun e => by
   have := mX.2 (⟨congrArg Prod.fst e, congrArg Prod.snd e⟩ : x = z ∧ y = w);rw [an] at this; cases this
  rw [show vm (x, y) (z, w) = [(x, y), (z, w)] from if_neg ax, show vl (x, y) (z, w) = [1] from if_neg ax];refine bl (f := 129) Tryz.func129 rfl rfl rfl rfl ?_;(refine eS ?_)
  ((refine bd rfl (cL rfl rfl rfl aL) ?_))
  exact ah.aS.refl _
def Td (V : List aj) (D : List Int) (n : Nat) (aM : List (Nat × ah)) (bi : List (Nat × List AC)) : Prop :=
 ∃ (k : Nat) (cU d : Int), k ≤ D.length ∧ n = D.length - k ∧ cU = k ∧ d = eX (D.take k) ∧ bi = [(1, jL V D)] ∧ aM = [(1, jZ 1), (3, aE d), (7, cM 1 D.length (ck D)), (8, aE D.length), (9, aE cU)]
theorem LY {D : List Int} {k : Nat} {d : Int} (h : D[k]? = some d) : eX (D.take (k + 1)) = max (eX (D.take k)) d := by
 have af := (bA.1 h).1
 have e : D.take (k + 1) = D.take k ++ [d] := by
  rw [jT af, (bA.1 h).2]
 unfold eX;rw [e, List.foldl_append]; rfl
theorem aai : SX := by
 intro V D ab hd;refine bl (f := 40) Tryz.func40 rfl rfl rfl rfl ?_;(refine eS ?_);refine qv 18 (Td V D) D.length _ [(1, jL V D)] ⟨0, 0, 0, dx _, rfl, rfl, rfl, rfl, rfl⟩ rfl ⟨rfl, rfl, rfl, rfl, rfl, trivial⟩ ⟨rfl, trivial⟩ rfl ?_;rintro n aM bi ⟨k, cU, d, af, rfl, hA, j9, rfl, rfl⟩ cT;clear cT
 by_cases an : k < D.length
 ·have q2 : cU < (D.length : Int) := by omega
  have bR : 0 ≤ cU := by omega
  obtain ⟨e, g1⟩ : ∃ e, D[k]? = some e := ⟨_, bJ an⟩;have iK := w5 hA g1;have aB := LY g1;rw [← j9, show max d e = if e > d then e else d by split <;> omega] at aB;(refine eS ?_);exact ⟨D.length - (k + 1), _, [(1, jL V D)], by omega, ⟨k + 1, cU + 1, _, by omega, rfl, by omega, aB.symm, rfl, rfl⟩, rfl, ⟨rfl, rfl, rfl, rfl, rfl, trivial⟩, ⟨rfl, trivial⟩, rfl⟩
 ·have q2 : ¬ cU < (D.length : Int) := by omega
  have cq : D.take k = D := gn (by omega);rw [cq] at j9;rw [← j9];(refine eS ?_)
  ((refine bd rfl (a8 rfl aL) ?_))
  exact ah.aS.refl _
theorem Sg {α : Type} {D E : List α} {k : Nat} {d e : α} (h : D.take k = E.take k) (g1 : D[k]? = some d) (g2 : E[k]? = some e) : (d = e → D.take (k + 1) = E.take (k + 1)) ∧ (d ≠ e → D ≠ E) := by
 refine ⟨fun hd => ?_, fun hd eG => hd ?_⟩
 ·rw [jT (bA.1 g1).1, jT (bA.1 g2).1, (bA.1 g1).2, (bA.1 g2).2, h, hd]
 ·rw [eG, g2] at g1; exact (ny g1).symm
def Tg (D E : List Int) (n : Nat) (aM : List (Nat × ah)) (bi : List (Nat × List AC)) : Prop :=
 ∃ (k : Nat) (cU : Int), k ≤ D.length ∧ n = D.length - k ∧ cU = k ∧ D.take k = E.take k ∧ bi = [] ∧ aM = [(0, ol D), (1, ol E), (12, aE D.length), (13, aE cU)]
theorem acU {D E : List Int} (hd : D.length ≤ 1000000) : aH ag 105 [ol D, ol E] (bk (decide (D = E))) := by
 by_cases ak : (D.length : Int) = E.length
 ·have Y0 : D.length = E.length := by omega
  refine bl (f := 105) Tryz.func105 rfl rfl rfl rfl ?_;(refine eS ?_);refine qv 26 (Tg D E) D.length _ [] ⟨0, 0, dx _, rfl, rfl, rfl, rfl, rfl⟩ rfl ⟨rfl, rfl, rfl, rfl, trivial⟩ trivial rfl ?_;rintro n aM bi ⟨k, cU, af, rfl, hA, j9, rfl, rfl⟩ cT;clear cT
  by_cases an : k < D.length
  ·have q2 : cU < (D.length : Int) := by omega
   have bR : 0 ≤ cU := by omega
   have dD : cU < (E.length : Int) := by omega
   obtain ⟨d, g1⟩ : ∃ d, D[k]? = some d := ⟨_, bJ an⟩;obtain ⟨e, g2⟩ : ∃ e, E[k]? = some e := ⟨_, bJ (by omega)⟩;have iK := w5 hA g1;have uk := w5 hA g2;have st := Sg j9 g1 g2
   by_cases he : d = e
   ·have aB := st.1 he;(refine eS ?_);exact ⟨D.length - (k + 1), _, [], by omega, ⟨k + 1, cU + 1, by omega, rfl, by omega, aB, rfl, rfl⟩, rfl, ⟨rfl, rfl, rfl, rfl, trivial⟩, trivial, rfl⟩
   ·rw [cp (st.2 he)];(refine eS ?_)
    ((refine bd rfl (a8 rfl aL) ?_))
    exact ah.aS.refl _
  ·have q2 : ¬ cU < (D.length : Int) := by omega
   rw [gn (by omega), gn (by omega)] at j9;rw [bZ j9];(refine eS ?_)
   ((refine bd rfl (a8 rfl aL) ?_))
   exact ah.aS.refl _
 ·rw [cp (show ¬ D = E from fun e => ak (by rw [e]))];refine bl (f := 105) Tryz.func105 rfl rfl rfl rfl ?_;(refine eS ?_)
  ((refine bd rfl (a8 rfl aL) ?_))
  exact ah.aS.refl _
def Th (D E : List aj) (n : Nat) (aM : List (Nat × ah)) (bi : List (Nat × List AC)) : Prop :=
 ∃ (k : Nat) (cU : Int), k ≤ D.length ∧ n = D.length - k ∧ cU = k ∧ D.take k = E.take k ∧ bi = [] ∧ aM = [(0, gq D), (1, gq E), (12, aE D.length), (13, aE cU)]
theorem Ih {D E : List aj} (hd : D.length ≤ 1000000) : aH ag 59 [gq D, gq E] (bk (decide (D = E))) := by
 by_cases ak : (D.length : Int) = E.length
 ·have Y0 : D.length = E.length := by omega
  refine bl (f := 59) Tryz.func59 rfl rfl rfl rfl ?_;(refine eS ?_);refine qv 26 (Th D E) D.length _ [] ⟨0, 0, dx _, rfl, rfl, rfl, rfl, rfl⟩ rfl ⟨rfl, rfl, rfl, rfl, trivial⟩ trivial rfl ?_;rintro n aM bi ⟨k, cU, af, rfl, hA, j9, rfl, rfl⟩ cT;clear cT
  by_cases an : k < D.length
  ·have q2 : cU < (D.length : Int) := by omega
   have bR : 0 ≤ cU := by omega
   have dD : cU < (E.length : Int) := by omega
   obtain ⟨x, y, g1⟩ : ∃ x y, D[k]? = some (x, y) := ⟨_, _, bJ an⟩;obtain ⟨z, w, g2⟩ : ∃ z w, E[k]? = some (z, w) := ⟨_, _, bJ (by omega)⟩;have iK := lV hA g1;have uk := lV hA g2;have st := Sg j9 g1 g2;cases he : c7 x y z w with
   | true =>
    have aB := st.1 (by obtain ⟨rfl, rfl⟩ := mX.1 he; rfl);(refine eS ?_);exact ⟨D.length - (k + 1), _, [], by omega, ⟨k + 1, cU + 1, by omega, rfl, by omega, aB, rfl, rfl⟩, rfl, ⟨rfl, rfl, rfl, rfl, trivial⟩, trivial, rfl⟩
   | false =>
    rw [cp (st.2 fun e => by
     have := mX.2 (⟨congrArg Prod.fst e, congrArg Prod.snd e⟩ : x = z ∧ y = w);rw [he] at this; cases this)]
    (refine eS ?_)
    ((refine bd rfl (a8 rfl aL) ?_))
    exact ah.aS.refl _
  ·have q2 : ¬ cU < (D.length : Int) := by omega
   rw [gn (by omega), gn (by omega)] at j9;rw [bZ j9];(refine eS ?_)
   ((refine bd rfl (a8 rfl aL) ?_))
   exact ah.aS.refl _
 ·rw [cp (show ¬ D = E from fun e => ak (by rw [e]))];refine bl (f := 59) Tryz.func59 rfl rfl rfl rfl ?_;(refine eS ?_)
  ((refine bd rfl (a8 rfl aL) ?_))
  exact ah.aS.refl _
theorem aap : S4 := by
 intro V W D E h1 h2 ao aD;have aW := Ih (D := V) (E := W) (by omega);have bH := acU (D := D) (E := E) (by omega);generalize decide (V = W) = p1 at *;generalize decide (D = E) = p2 at *;cases p1 with
 | false =>
  refine bl (f := 61) Tryz.func61 rfl rfl rfl rfl ?_;(refine cc ?_)
  ((refine bd rfl (a8 rfl aL) ?_))
  exact ah.aS.refl _
 | true =>
  refine bl (f := 61) Tryz.func61 rfl rfl rfl rfl ?_;(refine cc ?_)
  ((refine bd rfl (a8 rfl aL) ?_))
  exact ah.aS.refl _
def qp (r : Int) (L : List aj) (x y : Int) : List aj := if 0 ≤ iB L x y then L else if r ≤ (L.length : Int) then L else L ++ [(x, y)]
def nM (r : Int) (L : List aj) (x y : Int) : Bool := if 0 ≤ iB L x y then false else if r ≤ (L.length : Int) then false else true
def nN (r : Int) (L : List aj) (x y : Int) : Int := if 0 ≤ iB L x y then 0 else if r ≤ (L.length : Int) then 90 else 0
theorem se {L : List aj} {x y : Int} : 0 ≤ iB L x y ↔ (x, y) ∈ L := by
 unfold iB;cases h : L.findIdx? fun e => decide (e.1 = x) && decide (e.2 = y) with
 | none =>
  rw [List.findIdx?_eq_none_iff] at h;refine ⟨fun aK => absurd aK (by decide), fun aK => ?_⟩;have := h _ aK;simp at this
 | some k =>
  obtain ⟨af, h1, _⟩ := zX.1 h;simp only [c5, b4] at h1;refine ⟨fun _ => ?_, fun _ => Int.natCast_nonneg k⟩;have : L[k] = (x, y) := Prod.ext h1.1 h1.2;rw [← this]; exact List.getElem_mem af
abbrev A4 := Int → List aj → Value → e0 → Prop
def S1 (uC : A4) : Prop := ∀ n : Int, E0 ag 50 [aE n] fun p S => ∃ b, p = eb b ∧ uC (lE n) [] p S
def SV (uC : A4) : Prop := ∀ (r : Int) L b S (x y : Int), uC r L (eb b) S → L.length ≤ 1100 → x9 ag 121 [aQ (eb b), aZ x y] (eb b) S fun v dh => v = .cn [.one (.c (.bool (nM r L x y))), .one (.c (.int .i64 (nN r L x y)))] ∧ uC r (qp r L x y) (eb b) dh
def S3 (uC : A4) : Prop := ∀ (r : Int) L b S, uC r L (eb b) S → L.length ≤ 1100 → x9 ag 52 [aQ (eb b)] (eb b) S fun v dh => v = aE r ∧ uC r L (eb b) dh
end Go.Proofs.YtbcecodakfejaaaGreat
namespace Go.Proofs.YtbcecodakfejaaaGreat
def e5 (l : List du) (x y : Int) : Nat := (tT l x y).length
theorem QQ (l : List du) (x y : Int) : e5 l x y ≤ l.length := aeD l x y
theorem xm : ∀ {l : List du} (h : j5 l) (x y : Int) (k : Nat) (e : du), l[k]? = some e → (k < e5 l x y ↔ lZ e.1 e.2.1 x y = true)
 | [], _, _, _, k, e, af => by simp at af
 | f :: l, h, x, y, k, e, af => by
  have al := ir.1 h
  by_cases au : lZ f.1 f.2.1 x y = true
  ·have hp : e5 (f :: l) x y = e5 l x y + 1 := by
    unfold e5 tT;rw [List.filter_cons, if_pos au]; rfl
   rw [hp];cases k with
   | zero => simp at af; subst af; simp [au]
   | succ k =>
    have := xm al.2 x y k e (by simpa using af);rw [← this]; omega
  ·have dz : ∀ g ∈ f :: l, ¬ lZ g.1 g.2.1 x y = true := by
    intro g aq;rcases gj.1 aq with rfl | aq
    ·exact au
    ·have h1 := al.1 g aq;rw [oW] at h1 au ⊢;omega
   have hp : e5 (f :: l) x y = 0 := by
    unfold e5 tT;rw [List.filter_eq_nil_iff.2 dz]; rfl
   rw [hp];have := dz e (cV af);simp [this]
theorem Jh {l : List du} (h : j5 l) {x y : Int} : ∀ e ∈ l.take (e5 l x y), lZ e.1 e.2.1 x y = true := by
 intro e he;obtain ⟨k, af⟩ := jR he;have bb := (bA.1 af).1;rw [dX] at bb;rw [fw (by omega)] at af;exact (xm h x y k e af).1 (by omega)
theorem L0 {l : List du} (h : j5 l) {x y : Int} : ∀ e ∈ l.drop (e5 l x y), ¬ lZ e.1 e.2.1 x y = true := by
 intro e he;obtain ⟨k, af⟩ := jR he;rw [fP] at af;intro bb;have := (xm h x y _ e af).2 bb;omega
theorem Rb {l : List du} (h : j5 l) {x y : Int} : tT l x y = l.take (e5 l x y) := by
 conv => lhs; rw [← ju (e5 l x y) l]
 unfold tT;rw [List.filter_append, List.filter_eq_self.2 (Jh h), List.filter_eq_nil_iff.2 (L0 h), p0]
theorem B6 {l : List du} (h : j5 l) {x y : Int} : hz l x y = true ↔ ∃ u, l[e5 l x y]? = some (x, y, u) := by
 constructor
 ·intro aR;unfold hz at aR;rw [List.any_eq_true] at aR;obtain ⟨e, he, an⟩ := aR;simp only [c5, b4] at an;obtain ⟨k, af⟩ := jR he;have h1 := xm h x y k e af;have h2 : ¬ k < e5 l x y := by rw [h1, oW]; omega
  have GR := (bA.1 af).1;have oI : e5 l x y < l.length := by omega
  have hp := bJ oI;have ao := xm h x y _ _ hp
  by_cases bo : k = e5 l x y
  ·refine ⟨e.2.2, ?_⟩;rw [← bo, af];exact congrArg some (Prod.ext an.1 (Prod.ext an.2 rfl))
  ·exfalso;have aD := List.pairwise_iff_getElem.1 h (e5 l x y) k oI GR (by omega);have hT : l[k] = e := (bA.1 af).2;rw [hT, oW] at aD;have cm : lZ l[e5 l x y].1 l[e5 l x y].2.1 x y = true := by rw [oW]; omega
   have := ao.2 cm;omega
 ·rintro ⟨u, hu⟩;exact List.any_eq_true.2 ⟨_, cV hu, by simp⟩
theorem Wv {l : List du} (h : j5 l) {x y : Int} (ax : hz l x y = false) : ∀ e ∈ l.drop (e5 l x y), lZ x y e.1 e.2.1 = true := by
 intro e he;have h1 := L0 h e he
 have h2 : ¬ (e.1 = x ∧ e.2.1 = y) := by
  rintro ⟨ao, aD⟩;have : hz l x y = true := List.any_eq_true.2 ⟨_, mJ he, by simp [ao, aD]⟩;rw [ax] at this; cases this
 rw [oW] at *;omega
theorem Rc {l : List du} (h : j5 l) {x y v : Int} (ax : hz l x y = false) : sj l x y v = l.take (e5 l x y) ++ (x, y, v) :: l.drop (e5 l x y) := by
 unfold sj;rw [Rb h];congr 2
 conv => lhs; rw [← ju (e5 l x y) l]
 unfold DL;rw [List.filter_append, List.filter_eq_self.2 (Wv h ax), List.filter_eq_nil_iff.2 fun e he => ?_, List.nil_append];have := Jh h e he;rw [oW] at *;omega
theorem aeE {l : List du} (h : j5 l) {x y v u : Int} (hp : l[e5 l x y]? = some (x, y, u)) : sj l x y v = l.take (e5 l x y) ++ (x, y, v) :: l.drop (e5 l x y + 1) := by
 unfold sj;rw [Rb h];congr 2;have ak := (bA.1 hp).1;have he := (bA.1 hp).2
 conv => lhs; rw [← ju (e5 l x y) l]
 unfold DL;rw [List.filter_append, List.filter_eq_nil_iff.2 (fun e he => by have := Jh h e he; rw [oW] at *; omega), List.nil_append, mG ak, he, List.filter_cons_of_neg (by rw [oW]; simp)];refine List.filter_eq_self.2 fun e hm => ?_;obtain ⟨k, af⟩ := jR hm;rw [fP] at af;have GR := (bA.1 af).1;have aD := List.pairwise_iff_getElem.1 h (e5 l x y) _ ak GR (by omega);rw [he, (bA.1 af).2] at aD;exact aD
theorem ahb {l : List du} (h : j5 l) {x y u : Int} (hp : l[e5 l x y]? = some (x, y, u)) : hz l x y = true ∧ oo l x y = u := St h (cV hp)
abbrev aen (e : du) : aj := (e.1, e.2.1)
def oU : Nat → List aj → List du
 | _, [] => []
 | k, p :: l => (p.1, p.2, (k : Int)) :: oU (k + 1) l
theorem PO : ∀ (k : Nat) (l : List aj) (p : aj), oU k (l ++ [p]) = oU k l ++ [(p.1, p.2, ((k + l.length : Nat) : Int))]
 | k, [], p => by simp [oU]
 | k, q :: l, p => by
  simp only [List.cons_append, oU, PO (k + 1) l p, jQ];rw [show k + 1 + l.length = k + (l.length + 1) by omega]
theorem PP : ∀ (k : Nat) (l : List aj), (oU k l).map aen = l
 | _, [] => rfl
 | k, p :: l => by simp only [oU, kG, PP (k + 1) l]
theorem acg (k : Nat) (l : List aj) : (oU k l).length = l.length := by
 have := congrArg List.length (PP k l);rwa [lA] at this
theorem Ib : ∀ (k : Nat) (l : List aj) (x y w : Int), (x, y, w) ∈ oU k l ↔ ∃ i : Nat, l[i]? = some (x, y) ∧ w = ((k + i : Nat) : Int)
 | k, [], x, y, w => by simp [oU]
 | k, p :: l, x, y, w => by
  rw [oU, gj, Ib (k + 1) l x y w]
  constructor
  ·rintro (h | ⟨i, h1, h2⟩)
   ·simp only [Prod.mk.injEq] at h;exact ⟨0, by rw [sk, h.1, h.2.1], by rw [h.2.2]; rfl⟩
   ·exact ⟨i + 1, by rw [xp]; exact h1, by rw [h2]; omega⟩
  ·rintro ⟨i, h1, h2⟩
   match i with
   | 0 => rw [sk] at h1; cases h1; exact .inl (by rw [h2]; rfl)
   | i + 1 => rw [xp] at h1; exact .inr ⟨i, h1, by rw [h2]; omega⟩
def nJ (L : List aj) (es : List du) : Prop := j5 es ∧ es.Perm (oU 0 L) ∧ L.Nodup
theorem nJ.len {L : List aj} {es : List du} (h : nJ L es) : es.length = L.length := by rw [h.2.1.length_eq, acg]
theorem ach {L : List aj} (ax : L.Nodup) {i : Nat} {x y : Int} (h : L[i]? = some (x, y)) : iB L x y = (i : Int) := by
 have az : 0 ≤ iB L x y := se.2 (cV h);unfold iB at az ⊢;cases au : L.findIdx? fun e => decide (e.1 = x) && decide (e.2 = y) with
 | none => rw [au] at az; exact absurd az (by decide)
 | some k =>
  obtain ⟨af, h1, _⟩ := zX.1 au;simp only [c5, b4] at h1;have aF : L[k] = (x, y) := Prod.ext h1.1 h1.2;obtain ⟨hi, aP⟩ := bA.1 h;have := (List.getElem_inj (h₀ := af) (h₁ := hi) ax).1 (aF.trans aP.symm);rw [this]
theorem X7 {es : List du} {a b : Int} : hz es a b = true ↔ ∃ w, (a, b, w) ∈ es := by
 unfold hz;rw [List.any_eq_true]
 constructor
 ·rintro ⟨⟨p, q, w⟩, h1, h2⟩;simp only [c5, b4] at h2;exact ⟨w, by rw [← h2.1, ← h2.2]; exact h1⟩
 ·rintro ⟨w, h⟩;exact ⟨_, h, by simp⟩
theorem nJ.num {L : List aj} {es : List du} (h : nJ L es) (x y : Int) : hz es x y = decide (0 ≤ iB L x y) ∧ (0 ≤ iB L x y → oo es x y = iB L x y) := by
 by_cases aR : 0 ≤ iB L x y
 ·obtain ⟨i, hi⟩ := jR (se.1 aR);have hm : (x, y, ((0 + i : Nat) : Int)) ∈ es := h.2.1.mem_iff.2 ((Ib 0 L x y _).2 ⟨i, hi, rfl⟩);have h1 := St h.1 hm;exact ⟨by rw [h1.1, bZ aR], fun _ => by rw [h1.2, ach h.2.2 hi, je]⟩
 ·refine ⟨?_, fun aK => absurd aK aR⟩;rw [cp aR];cases he : hz es x y with
  | false => rfl
  | true =>
   obtain ⟨w, hw⟩ := X7.1 he;obtain ⟨i, hi, _⟩ := (Ib 0 L x y w).1 (h.2.1.mem_iff.1 hw);exact absurd (se.2 (cV hi)) aR
theorem nJ.add {L : List aj} {es : List du} (h : nJ L es) {x y : Int} (ax : ¬ 0 ≤ iB L x y) : nJ (L ++ [(x, y)]) (sj es x y L.length) := by
 have bU : hz es x y = false := by rw [(h.num x y).1]; exact cp ax
 refine ⟨aeF h.1 x y L.length, ?_, ?_⟩
 ·rw [Rc h.1 bU, PO, je];refine List.perm_middle.trans ?_;rw [ju];refine (h.2.1.cons _).trans ?_;exact (List.perm_append_singleton _ _).symm
 ·rw [List.nodup_append];refine ⟨h.2.2, by simp, fun a aJ b ab e => ?_⟩;rw [kF] at ab;subst ab; subst e;exact ax (se.2 aJ)
theorem nJ.nil : nJ [] [] := ⟨.nil, .refl _, .nil⟩
theorem Uh {r : Int} {L : List aj} {x y : Int} (h : 0 ≤ iB L x y) : qp r L x y = L ∧ nM r L x y = false ∧ nN r L x y = 0 := by unfold qp nM nN; rw [if_pos h, if_pos h, if_pos h]; exact ⟨rfl, rfl, rfl⟩
theorem Ug {r : Int} {L : List aj} {x y : Int} (h : ¬ 0 ≤ iB L x y) (h2 : r ≤ (L.length : Int)) : qp r L x y = L ∧ nM r L x y = false ∧ nN r L x y = 90 := by unfold qp nM nN; rw [if_neg h, if_neg h, if_neg h, if_pos h2, if_pos h2, if_pos h2]; exact ⟨rfl, rfl, rfl⟩
theorem Ui {r : Int} {L : List aj} {x y : Int} (h : ¬ 0 ≤ iB L x y) (h2 : ¬ r ≤ (L.length : Int)) : qp r L x y = L ++ [(x, y)] ∧ nM r L x y = true ∧ nN r L x y = 0 := by unfold qp nM nN; rw [if_neg h, if_neg h, if_neg h, if_neg h2, if_neg h2, if_neg h2]; exact ⟨rfl, rfl, rfl⟩
end Go.Proofs.YtbcecodakfejaaaGreat
namespace Go.Proofs.YtbcecodakfejaaaGreat
open Go.RowKit
abbrev gZ (v : Value) (l : List du) : bE := ⟨214, 3, v, l.length, ee l⟩
end Go.Proofs.YtbcecodakfejaaaGreat
namespace Go.Proofs.YtbcecodakfejaaaGreat
theorem P7 {a1 a2 b1 b2 p1 p2 : Int} (h : b0 a1 a2 b1 b2 p1 p2 = 0) : (b2 - a2) * a1 + (a1 - b1) * a2 = (b2 - a2) * p1 + (a1 - b1) * p2 := by unfold b0 at h; grind
theorem P9 {a1 a2 b1 b2 c1 c2 d1 d2 p1 p2 : Int} (h : b0 a1 a2 b1 b2 p1 p2 = 0) (k : b0 c1 c2 d1 d2 p1 p2 = 0) :
  jM a1 a2 b1 b2 c1 c2 d1 d2 = p1 * c3 a1 a2 b1 b2 c1 c2 d1 d2 ∧ jN a1 a2 b1 b2 c1 c2 d1 d2 = p2 * c3 a1 a2 b1 b2 c1 c2 d1 d2 := by
 have e := P7 h;have f := P7 k;unfold jM jN c3;rw [e, f]
 constructor <;> grind
theorem Dp (p w : Int) : jt (p * w) w = p * iA w := by
 unfold jt iA
 split
 ·rw [Int.mul_neg]
 ·rfl
theorem Bm {p d a b : Int} (az : gX a b ≤ p) (h1 : p ≤ gW a b) (hd : 0 < d) : kR (p * d) d a b :=
 ⟨nA az (by omega), nA h1 (by omega)⟩
theorem MF {a1 a2 b1 b2 c1 c2 d1 d2 p1 p2 d : Int} (h : df p1 p2 a1 a2 b1 b2) (k : df p1 p2 c1 c2 d1 d2) (hd : 0 < d) : four a1 a2 b1 b2 c1 c2 d1 d2 (p1 * d) (p2 * d) d :=
 ⟨Bm h.2.1 h.2.2.1 hd, Bm h.2.2.2.1 h.2.2.2.2 hd, Bm k.2.1 k.2.2.1 hd, Bm k.2.2.2.1 k.2.2.2.2 hd⟩
theorem abV {a1 a2 b1 b2 c1 c2 d1 d2 : Int} (h : c3 a1 a2 b1 b2 c1 c2 d1 d2 = 0) :
  (ih a1 a2 b1 b2 c1 c2 d1 d2 = hU ∧ ∀ p1 p2, df p1 p2 a1 a2 b1 b2 → ¬ df p1 p2 c1 c2 d1 d2) ∨
  ∃ f1 f2 g1 g2, ih a1 a2 b1 b2 c1 c2 d1 d2 = ve f1 f2 g1 g2 ∧ dv f1 f2 g1 g2 ∧ df f1 f2 a1 a2 b1 b2 ∧ df f1 f2 c1 c2 d1 d2 ∧ df g1 g2 a1 a2 b1 b2 ∧ df g1 g2 c1 c2 d1 d2
   ∧ f1 = ep (eH a1 a2 b1 b2) (en a1 a2 b1 b2) (eH c1 c2 d1 d2) (en c1 c2 d1 d2) ∧ f2 = ea (eH a1 a2 b1 b2) (en a1 a2 b1 b2) (eH c1 c2 d1 d2) (en c1 c2 d1 d2)
   ∧ g1 = eH (ep a1 a2 b1 b2) (ea a1 a2 b1 b2) (ep c1 c2 d1 d2) (ea c1 c2 d1 d2) ∧ g2 = en (ep a1 a2 b1 b2) (ea a1 a2 b1 b2) (ep c1 c2 d1 d2) (ea c1 c2 d1 d2)
   ∧ ∀ p1 p2, df p1 p2 a1 a2 b1 b2 → df p1 p2 c1 c2 d1 d2 → dv f1 f2 p1 p2 ∧ dv p1 p2 g1 g2 := by
 have hs := w7 a1 a2 b1 b2;have aB := w7 c1 c2 d1 d2
 have hw : oY (eH a1 a2 b1 b2) (en a1 a2 b1 b2) (ep a1 a2 b1 b2) (ea a1 a2 b1 b2) (eH c1 c2 d1 d2) (en c1 c2 d1 d2) (ep c1 c2 d1 d2) (ea c1 c2 d1 d2) = 0 := by
  have h1 := Eu a1 a2 b1 b2 c1 c2 d1 d2;have h2 := Ax a1 a2 b1 b2 c1 c2 d1 d2;have ao := Ax b1 b2 a1 a2 c1 c2 d1 d2;rw [← Sw];rcases np a1 a2 b1 b2 with ⟨h1, h2, ao, aD, _⟩ | ⟨h1, h2, ao, aD, _⟩ <;> rcases np c1 c2 d1 d2 with ⟨bn, bY, fW, iX, _⟩ | ⟨bn, bY, fW, iX, _⟩ <;> rw [h1, h2, ao, aD, bn, bY, fW, iX] <;> omega
 have xB : ∀ p1 p2, df p1 p2 (eH a1 a2 b1 b2) (en a1 a2 b1 b2) (ep a1 a2 b1 b2) (ea a1 a2 b1 b2) ↔ df p1 p2 a1 a2 b1 b2 := fun _ _ => zN;have tO9 : ∀ p1 p2, df p1 p2 (eH c1 c2 d1 d2) (en c1 c2 d1 d2) (ep c1 c2 d1 d2) (ea c1 c2 d1 d2) ↔ df p1 p2 c1 c2 d1 d2 := fun _ _ => zN;unfold ih;rw [if_pos h];unfold vf inl;generalize eH a1 a2 b1 b2 = s1 at *;generalize en a1 a2 b1 b2 = s2 at *;generalize ep a1 a2 b1 b2 = bN at *;generalize ea a1 a2 b1 b2 = bO at *;generalize eH c1 c2 d1 d2 = t1 at *;generalize en c1 c2 d1 d2 = t2 at *;generalize ep c1 c2 d1 d2 = t3 at *;generalize ea c1 c2 d1 d2 = t4 at *;have key := fun p1 p2 => @OS s1 s2 bN bO t1 t2 t3 t4 p1 p2 hs aB hw
 by_cases q : df (ep s1 s2 t1 t2) (ea s1 s2 t1 t2) s1 s2 bN bO ∧ df (ep s1 s2 t1 t2) (ea s1 s2 t1 t2) t1 t2 t3 t4
 ·right;rw [if_pos q];obtain ⟨cy, cz, jf, kJ, ajE, ag2⟩ := key _ _ q.1 q.2;exact ⟨_, _, _, _, rfl, ag2, (xB _ _).1 cy, (tO9 _ _).1 cz, (xB _ _).1 jf, (tO9 _ _).1 kJ, rfl, rfl, rfl, rfl, fun p1 p2 hp an => ⟨(key p1 p2 ((xB _ _).2 hp) ((tO9 _ _).2 an)).2.2.2.2.1, (key p1 p2 ((xB _ _).2 hp) ((tO9 _ _).2 an)).2.2.2.2.2⟩⟩
 ·left;rw [if_neg q];exact ⟨rfl, fun p1 p2 hp an => q ⟨(key p1 p2 ((xB _ _).2 hp) ((tO9 _ _).2 an)).1, (key p1 p2 ((xB _ _).2 hp) ((tO9 _ _).2 an)).2.1⟩⟩
theorem acB {a1 a2 b1 b2 f1 f2 g1 g2 p1 p2 : Int} (au : df f1 f2 a1 a2 b1 b2) (aq : df g1 g2 a1 a2 b1 b2) (hp : df p1 p2 a1 a2 b1 b2) (az : dv f1 f2 p1 p2) (h1 : dv p1 p2 g1 g2) : df p1 p2 f1 f2 g1 g2 := by
 refine (vp (az.trans h1)).2 ⟨?_, az, h1⟩
 by_cases e : a1 = b1 ∧ a2 = b2
 ·obtain ⟨rfl, rfl⟩ := e;obtain ⟨rfl, rfl⟩ := zM au;obtain ⟨rfl, rfl⟩ := zM aq;obtain ⟨rfl, rfl⟩ := zM hp;exact Fw ..
 ·have a := au.1;have b := aq.1;have c := hp.1;unfold b0 at *;have d1 : (b1 - a1) * ((g1 - f1) * (p2 - f2) - (g2 - f2) * (p1 - f1)) = 0 := by grind
  have d2 : (b2 - a2) * ((g1 - f1) * (p2 - f2) - (g2 - f2) * (p1 - f1)) = 0 := by grind
  rcases sq.1 d1 with bo | bo
  ·rcases sq.1 d2 with f | f
   ·omega
   ·exact f
  ·exact bo
theorem abU (a1 a2 b1 b2 c1 c2 d1 d2 : Int) :
  (ih a1 a2 b1 b2 c1 c2 d1 d2 = hU ∧ ∀ p1 p2, df p1 p2 a1 a2 b1 b2 → ¬ df p1 p2 c1 c2 d1 d2) ∨
  (∃ x y d, ih a1 a2 b1 b2 c1 c2 d1 d2 = jc x d y d ∧ 0 < d ∧ (d = 1 ∨ d = iA (c3 a1 a2 b1 b2 c1 c2 d1 d2)) ∧ four a1 a2 b1 b2 c1 c2 d1 d2 x y d ∧ ∀ p1 p2, df p1 p2 a1 a2 b1 b2 → df p1 p2 c1 c2 d1 d2 → x = p1 * d ∧ y = p2 * d) ∨
  (∃ f1 f2 g1 g2, ih a1 a2 b1 b2 c1 c2 d1 d2 = sR f1 f2 g1 g2 ∧ ¬ (f1 = g1 ∧ f2 = g2) ∧ dv f1 f2 g1 g2 ∧ df f1 f2 a1 a2 b1 b2 ∧ df f1 f2 c1 c2 d1 d2 ∧ df g1 g2 a1 a2 b1 b2 ∧ df g1 g2 c1 c2 d1 d2
   ∧ f1 = ep (eH a1 a2 b1 b2) (en a1 a2 b1 b2) (eH c1 c2 d1 d2) (en c1 c2 d1 d2) ∧ f2 = ea (eH a1 a2 b1 b2) (en a1 a2 b1 b2) (eH c1 c2 d1 d2) (en c1 c2 d1 d2)
   ∧ g1 = eH (ep a1 a2 b1 b2) (ea a1 a2 b1 b2) (ep c1 c2 d1 d2) (ea c1 c2 d1 d2) ∧ g2 = en (ep a1 a2 b1 b2) (ea a1 a2 b1 b2) (ep c1 c2 d1 d2) (ea c1 c2 d1 d2)
   ∧ ∀ p1 p2, df p1 p2 a1 a2 b1 b2 → df p1 p2 c1 c2 d1 d2 → df p1 p2 f1 f2 g1 g2) := by
 by_cases h : c3 a1 a2 b1 b2 c1 c2 d1 d2 = 0
 ·rcases abV h with ⟨e, ax⟩ | ⟨f1, f2, g1, g2, e, ak, cy, cz, jf, kJ, v1, v2, v3, v4, hp⟩
  ·exact .inl ⟨e, ax⟩
  ·right;rw [e];unfold ve
   by_cases q : f1 = g1 ∧ f2 = g2
   ·left;rw [if_pos q];refine ⟨f1, f2, 1, rfl, by omega, .inl rfl, ?_, fun p1 p2 aJ ab => ?_⟩
    ·have := MF cy cz (d := 1) (by omega);rwa [Int.mul_one, Int.mul_one] at this
    ·obtain ⟨bn, bY⟩ := hp p1 p2 aJ ab;obtain ⟨rfl, rfl⟩ := q;have := dv.Be bn bY;omega
   ·right;rw [if_neg q];exact ⟨f1, f2, g1, g2, rfl, q, ak, cy, cz, jf, kJ, v1, v2, v3, v4, fun p1 p2 aJ ab => acB cy jf aJ (hp p1 p2 aJ ab).1 (hp p1 p2 aJ ab).2⟩
 ·have hd := PK h;unfold ih;rw [if_neg h];unfold mB tC
  by_cases q : four a1 a2 b1 b2 c1 c2 d1 d2 (jt (jM a1 a2 b1 b2 c1 c2 d1 d2) (c3 a1 a2 b1 b2 c1 c2 d1 d2)) (jt (jN a1 a2 b1 b2 c1 c2 d1 d2) (c3 a1 a2 b1 b2 c1 c2 d1 d2)) (iA (c3 a1 a2 b1 b2 c1 c2 d1 d2))
  ·right; left;rw [if_pos q];refine ⟨_, _, _, rfl, hd, .inr rfl, q, fun p1 p2 aJ ab => ?_⟩;obtain ⟨aF, aP⟩ := P9 aJ.1 ab.1;rw [aF, aP, Dp, Dp];exact ⟨rfl, rfl⟩
  ·left;rw [if_neg q];refine ⟨rfl, fun p1 p2 aJ ab => q ?_⟩;obtain ⟨aF, aP⟩ := P9 aJ.1 ab.1;rw [aF, aP, Dp, Dp];exact MF aJ ab hd
end Go.Proofs.YtbcecodakfejaaaGreat
namespace Go.Proofs.YtbcecodakfejaaaGreat
open Go.RowKit
theorem ahg {a1 a2 b1 b2 c1 c2 d1 d2 : Int} (aJ : b7 a1 a2 = true) (ab : b7 b1 b2 = true) (al : b7 c1 c2 = true) (hd : b7 d1 d2 = true) : -144115188075855872 ≤ c3 a1 a2 b1 b2 c1 c2 d1 d2 ∧ c3 a1 a2 b1 b2 c1 c2 d1 d2 ≤ 144115188075855872 := by
 rw [oh] at aJ ab al hd;have m1 := De (x := b2 - a2) (y := c1 - d1) (by omega) (by omega) (by omega) (by omega);have m2 := De (x := a1 - b1) (y := d2 - c2) (by omega) (by omega) (by omega) (by omega);unfold c3;omega
theorem Lc {n d a b : Int} (h : kR n d a b) (a0 : -134217728 ≤ a) (a1 : a ≤ 134217728) (fA : -134217728 ≤ b) (b1 : b ≤ 134217728) (d0 : 0 ≤ d) (d1 : d ≤ 144115188075855872) : -19342813113834066795298816 ≤ n ∧ n ≤ 19342813113834066795298816 := by
 obtain ⟨az, h1⟩ := h;have i0 : -134217728 ≤ gX a b ∧ gX a b ≤ 134217728 := by unfold gX; split <;> omega
 have i1 : -134217728 ≤ gW a b ∧ gW a b ≤ 134217728 := by unfold gW; split <;> omega
 have m0 := Bj i0.1 i0.2 (show -144115188075855872 ≤ d by omega) d1;have m1 := Bj i1.1 i1.2 (show -144115188075855872 ≤ d by omega) d1;omega
def AQ (M : fz) : Prop := (M = hU) ∨ (∃ x y d, M = jc x d y d ∧ 0 < d ∧ d ≤ 144115188075855872 ∧ (-19342813113834066795298816 ≤ x ∧ x ≤ 19342813113834066795298816) ∧ (-19342813113834066795298816 ≤ y ∧ y ≤ 19342813113834066795298816)) ∨ (∃ f1 f2 g1 g2, M = sR f1 f2 g1 g2)
theorem Xu {a1 a2 b1 b2 c1 c2 d1 d2 x y d : Int} (aJ : b7 a1 a2 = true) (ab : b7 b1 b2 = true) (al : b7 c1 c2 = true) (hd : b7 d1 d2 = true) (az : 0 < d) (h1 : d = 1 ∨ d = iA (c3 a1 a2 b1 b2 c1 c2 d1 d2)) (au : four a1 a2 b1 b2 c1 c2 d1 d2 x y d) :
  d ≤ 144115188075855872 ∧ (-19342813113834066795298816 ≤ x ∧ x ≤ 19342813113834066795298816) ∧ (-19342813113834066795298816 ≤ y ∧ y ≤ 19342813113834066795298816) := by
 have dc := ahg aJ ab al hd;rw [oh] at aJ ab
 have pK : d ≤ 144115188075855872 := by
  rcases h1 with rfl | rfl
  ·omega
  ·unfold iA; split <;> omega
 exact ⟨pK, Lc au.1 aJ.1.1 aJ.1.2 ab.1.1 ab.1.2 (by omega) pK, Lc au.2.1 aJ.2.1 aJ.2.2 ab.2.1 ab.2.2 (by omega) pK⟩
theorem abg (a1 a2 b1 b2 c1 c2 d1 d2 : Int) : AQ (qW a1 a2 b1 b2 c1 c2 d1 d2) := by
 unfold qW
 by_cases h : (b7 a1 a2 && b7 b1 b2 && b7 c1 c2 && b7 d1 d2) = true
 ·rw [if_pos h];simp only [c5] at h;rcases abU a1 a2 b1 b2 c1 c2 d1 d2 with ⟨e, _⟩ | ⟨x, y, d, e, az, h1, au, _⟩ | ⟨f1, f2, g1, g2, e, _⟩
  ·exact .inl e
  ·exact .inr (.inl ⟨x, y, d, e, az, Xu h.1.1.1 h.1.1.2 h.1.2 h.2 az h1 au⟩)
  ·exact .inr (.inr ⟨f1, f2, g1, g2, e⟩)
 ·rw [if_neg h]; exact .inl rfl
section
variable {P : Program} {R : aI} {s : aC} {ops : Array Oper} {dr : Option (List Nat)} {ty : Nat} {pos : String} {after : Array Edge} {guard : Option (Nat × Bool)} {K : aI → aC → Prop} {rest : List Oper} {c : Code} {Q : Exit → aI → aC → Prop}
theorem D5 (ay : aI) (aaO : bz ay R) (h : fl P c Q ay s) : fl P c Q R s := fun ok bw bK a w ⟨A, ad, aw⟩ => h ok bw bK a w ⟨A, ad, aw.le aaO⟩
theorem Su {f : FuncId} {r : bE} {i j : Nat} {post : ah → bE → Prop} (hp : pf P f [cM r.sz r.n r.aT] post) (bF : 0 < r.sz) (cC : ∀ y ∈ r.aT, y.aY = true) (hF : ∀ v q, post v q → v = aQ q.v ∧ ul q.aT) :
  da P f [aQ r.v] b3 (bt i r) fun v aG ay => ∃ q, aG = b3 ∧ ay = bP (bt j q) (bt i r) ∧ 0 < q.sz ∧ post v q := by
 have h := Ye (R0 := bt i r) (args := [aQ r.v]) (hp j) rfl (fun U ad W vs cI cK => ⟨cK.1, fun n x v aa hv => ?_⟩) (fun v aG bh an => ?_)
 ·refine ⟨fun U ad W vs cI cD cK => (h.call U ad W vs cI cD cK).mono ?_⟩;rintro e bf ⟨v, cx, aG, ay, a7, cw, c0, ⟨bh, ⟨q, _, rfl, aN, an⟩, rfl, rfl⟩, l5⟩;exact ⟨v, cx, b3, _, a7, cw, c0, ⟨q, rfl, rfl, aN, an⟩, l5⟩
 ·match n with
  | 0 =>
   cases aa;have oJ := (cK.2 0 _ v rfl hv).1;subst oJ;exact (cI.rows i r (by unfold bt; exact cl _ _ _)).1.Sk bF r.aT (fun xs ak => ak.map (fun b ab _ => ⟨.inl ab, rfl⟩) fun _ _ _ _ => rfl) cC fun b ab => .inr (.inr ⟨i, r, by unfold bt; exact cl _ _ _, ab⟩)
  | n + 1 => simp at aa
 ·obtain ⟨q, rfl, rfl, aN, an⟩ := an;obtain ⟨rfl, au⟩ := hF v q an;refine ⟨rfl, AP.one, rfl, fun k cd af => ?_⟩;obtain ⟨rfl, rfl⟩ := fI af;exact ⟨aN, au⟩
theorem NS (i j : Nat) (gH : i ≠ j) {d : Nat} {f : FuncId} {g : Operand} {aM : Array TypeId} {x : Operand} {r : bE} {post : ah → bE → Prop} [E : Enters P f] (hw : want ops ⟨some d, .call ⟨.value g, #[x], aM⟩, ty, pos, after, guard⟩ s = some true) (hm : dY dr ⟨some d, .call ⟨.value g, #[x], aM⟩, ty, pos, after, guard⟩ = true)
  (aq : s.look g = some (aQ (.func (.func f) #[] #[]))) (aJ : s.look x = some (aQ r.v)) (hp : pf P f [cM r.sz r.n r.aT] post) (hi : R i = some r) (bF : 0 < r.sz) (cC : ∀ y ∈ r.aT, y.aY = true) (ae : R j = none) (hd : Nat.blt d s.n = true) (hF : ∀ v q, post v q → v = aQ q.v ∧ ul q.aT)
  (h : ∀ q, post (aQ q.v) q → cJ P ops dr K rest R (s.put (some d) (cM q.sz q.n q.aT))) : cJ P ops dr K (⟨some d, .call ⟨.value g, #[x], aM⟩, ty, pos, after, guard⟩ :: rest) R s := by
 refine ⟨true, hw, kU hd, .inr (.inr (.inr (.inr (.inr ⟨rfl, hm, f, [aQ r.v], b3, bt i r, _, ⟨⟨_, g, rfl, rfl, .inl ⟨[], aq, by simp [aJ], rfl⟩⟩, E.h⟩, Su (j := j) hp bF cC hF, fun x aa j ae => ?_, fun k' ar aK => (by cases aK), fun fs aV aK => ?_, fun k' ar x j aK => (by cases aK), ?_⟩))))⟩
 ·simp at aa; subst aa; exact absurd ae (ja _ j)
 ·obtain ⟨rfl, rfl⟩ := fI aK; exact hi
 rintro v aG ay ⟨q, rfl, rfl, y7, an⟩ _ _ _;refine ⟨fun k' c aK => (by cases aK), ?_⟩;obtain ⟨rfl, _⟩ := hF v q an;have lh : bP (bP (bt j q) (bt i r)) R j = some q := hH (hH (by unfold bt; exact cl _ _ _));refine ⟨j, d, q, rfl, lh, y7, cl _ _ _, (show d < s.n by simpa [Nat.blt_eq] using hd), ?_⟩
 have aF : (fun x => if x = j then none else bP (bP (bt j q) (bt i r)) R x) = R := by
  funext x
  by_cases e : x = j
  ·rw [if_pos e, e, ae]
  ·rw [if_neg e]
   by_cases bo : x = i
   ·subst bo;rw [hi];exact hH (by rw [hI (by unfold bt; rw [b9 _ _ e]; rfl)]; unfold bt; exact cl _ _ _)
   ·exact hI (by rw [hI (by unfold bt; rw [b9 _ _ e]; rfl)]; unfold bt; rw [b9 _ _ bo]; rfl)
 rw [aF, tN, zV];exact h q an
end
section
variable {P : Program} {R : aI} {s : aC} {ops : Array Oper} {dr : Option (List Nat)} {ty : Nat} {pos : String} {after : Array Edge} {guard : Option (Nat × Bool)} {K : aI → aC → Prop} {rest : List Oper} {c : Code} {Q : Exit → aI → aC → Prop}
theorem gE.one {U : Nat → Prop} {ad : Nat → Nat} {W : World} {y : AC} {v : Value} (h : gE U ad W y v) (al : y.aY = true) : v.oneCell' = true := by
 cases y with
 | c u => rw [h.1]; exact h.2
 | own k o => cases al
 | p S => exact S.cell _ _ h.1
theorem bL.exact {U cw : Nat → Prop} {ad a7 : Nat → Nat} {W bf : World} {aT : List AC} {xs : List Value} (h : bL U ad W aT xs) (al : ∀ y ∈ aT, y.aY = true) : bL cw a7 bf (xs.map AC.c) xs := by
 refine ⟨by rw [lA], fun i x v aa hv => ?_⟩;rw [eh, hv] at aa;cases aa;have hi : i < aT.length := by rw [h.1]; exact (bA.1 hv).1
 have ai := bJ hi;exact ⟨rfl, (h.2 i _ v ai hv).one (al _ (cV ai))⟩
theorem bL.W6 {U : Nat → Prop} {ad : Nat → Nat} {W : World} {xs xK : List Value} (h : bL U ad W (xs.map AC.c) xK) : xK = xs := by
 refine List.ext_getElem? fun i => ?_;cases aa : xK[i]? with
 | none =>
  have : xs.length ≤ i := by have := h.1; rw [lA] at this; rw [this]; exact List.getElem?_eq_none_iff.1 aa
  exact (List.getElem?_eq_none_iff.2 this).symm
 | some v =>
  have hi : i < (xs.map AC.c).length := by rw [h.1]; exact (bA.1 aa).1
  have ai := bJ hi;have := (h.2 i _ v ai aa);rw [List.getElem_map] at this;rw [this.1, bJ (by rwa [lA] at hi)]
theorem Dz {e sz n : Nat} {v : Value} {aT zs : List AC} {g : Nat} (hs : 0 < sz) (h : (⟨e, sz, v, n, aT⟩ : bE).own g) : (⟨e, sz, v, n, zs⟩ : bE).own g := by
 have := bE.oV h hs;exact .inl this
theorem ahd {f : FuncId} {r : bE} {i j : Nat} (gH : i ≠ j) (hp : ∀ aT : List AC, aT.length = r.aT.length → aT.all AC.aY = true → pf P f [cM r.sz r.n aT] fun v q => ∃ v', v = aQ v' ∧ q = ⟨r.e, r.sz, v', r.n, aT⟩) (bF : 0 < r.sz) (cC : ∀ y ∈ r.aT, y.aY = true) :
  da P f [aQ r.v] b3 (bt i r) fun v aG ay => ∃ v', v = aQ v' ∧ aG = b3 ∧ ay = bP (bt j ⟨r.e, r.sz, v', r.n, r.aT⟩) (bt i r) := by
 refine ⟨fun U ad W vs cI cD cK => ?_⟩;have rY : ∀ q, bt i q i = some q := fun q => by unfold bt; exact cl _ _ _
 obtain ⟨iV, n1, wX⟩ := cI.rows i r (rY r);obtain ⟨xs, aA, ak⟩ := iV.row bF;have hex : ∀ (U : Nat → Prop) (ad : Nat → Nat) (W : World), bL U ad W (xs.map AC.c) xs := fun U ad W => ak.exact cC;have zk : ∀ y ∈ xs.map AC.c, AC.aY y = true := fun y ai => by obtain ⟨v, _, rfl⟩ := gm.1 ai; rfl
 have Ny : ∀ g, (⟨r.e, r.sz, r.v, r.n, xs.map AC.c⟩ : bE).own g → r.own g := fun g h => by
  have := bE.oV h bF;exact .inl this
 have wV : ∀ g, r.own g → (⟨r.e, r.sz, r.v, r.n, xs.map AC.c⟩ : bE).own g := fun g h => by
  have := bE.oV h bF;exact .inl this
 have mq : e2 U ad W b3 (bt i ⟨r.e, r.sz, r.v, r.n, xs.map AC.c⟩) := by
  refine ⟨fun k cs af => (by cases af), fun k cs x j af => (by cases af), fun k k' cs ar af => (by cases af), fun k q af => ?_, fun a b q cd aJ ab gb => ?_⟩
  ·obtain ⟨rfl, rfl⟩ := fI af;exact ⟨.inl ⟨bF, xs, aA, hex _ _ _⟩, zk, fun g aq => ⟨(wX g (Ny g aq)).1, fun k cs af => (by cases af)⟩⟩
  ·obtain ⟨rfl, rfl⟩ := fI aJ;obtain ⟨rfl, rfl⟩ := fI ab;exact absurd rfl gb
 have hF := Su (i := i) (j := j) (r := ⟨r.e, r.sz, r.v, r.n, xs.map AC.c⟩) (hp (xs.map AC.c) (by rw [lA]; exact ak.1.symm) (b6.2 zk)) bF zk (fun v q ⟨v', hv, an⟩ => by
  subst an; exact ⟨hv, ul.of fun y ai => by obtain ⟨v, _, rfl⟩ := gm.1 ai; exact ⟨v, rfl⟩⟩)
 refine (hF.call U ad W vs mq cD cK).mono ?_;rintro e bf ⟨v, cx, aG, ay, a7, cw, c0, ⟨q, rfl, rfl, aN, v', rfl, rfl⟩, h2, ao, aD, cm, eQ, jE, pD, iP⟩
 have y5 : ∀ b, ej ad b3 (bt i ⟨r.e, r.sz, r.v, r.n, xs.map AC.c⟩) b → r.own b := fun b ab => by
  rcases ab with ⟨k, cs, af, _⟩ | ⟨k, q, af, aq⟩
  ·cases af
  ·obtain ⟨rfl, rfl⟩ := fI af; exact Ny b aq
 have zg : ∀ b, U b → b < W.heap.size → bf.heap[b]? = W.heap[b]? := fun b ab bb => iP.block b ⟨bb, fun aR => (wX b (y5 b aR)).1 ab⟩
 have ni : ∀ k q, bP (bt j ⟨r.e, r.sz, v', r.n, r.aT⟩) (bt i r) k = some q → ∃ u, q = ⟨r.e, r.sz, u, r.n, r.aT⟩ ∧ bP (bt j ⟨r.e, r.sz, v', r.n, xs.map AC.c⟩) (bt i ⟨r.e, r.sz, r.v, r.n, xs.map AC.c⟩) k = some ⟨r.e, r.sz, u, r.n, xs.map AC.c⟩ := fun k q af => by
  rcases jP af with af | ⟨ax, af⟩
  ·obtain ⟨rfl, rfl⟩ := fI af;exact ⟨v', rfl, hH (by unfold bt; exact cl _ _ _)⟩
  ·obtain ⟨rfl, rfl⟩ := fI af;refine ⟨q.v, rfl, ?_⟩;rw [hI (by unfold bt; rw [b9 _ _ gH]; rfl)];exact rY _
 refine ⟨v, aQ v', b3, bP (bt j ⟨r.e, r.sz, v', r.n, r.aT⟩) (bt i r), a7, fun b => cw b ∨ (U b ∧ b < W.heap.size), c0, ⟨v', rfl, rfl, rfl⟩, ⟨fun k cs af => (by cases af), fun k cs x j af => (by cases af), fun k k' cs ar af => (by cases af), fun k q af => ?_, fun a b q cd aJ ab gb g aq dW => ?_⟩, ao, fun j ae => absurd ae (ja _ j), fun k cs af => (by cases af), fun k q af => ?_, fun b ab => ?_, fun b ab => ?_, ⟨iP.os, iP.tape, iP.output, iP.size, fun b ab => iP.block b ⟨ab.1, fun aR => ab.2 (.inr ⟨i, r, rY r, y5 b aR⟩)⟩⟩⟩
 ·obtain ⟨u, rfl, eI⟩ := ni k q af;obtain ⟨h3, z2, z3⟩ := h2.rows k _ eI;obtain ⟨xK, hj, fb⟩ := h3.row bF;have := bL.W6 fb;subst this;refine ⟨.inl ⟨bF, xK, hj, ak.map (fun b ab bb => ⟨.inr ⟨ab, bb⟩, zg b ab bb⟩) fun k x aa ae => absurd ae (AC.dq (cC x aa) k)⟩, cC, fun g aq => ⟨?_, fun k cs af => (by cases af)⟩⟩;have dW := Dz (zs := xK.map AC.c) bF aq;rintro (di | ⟨di, bb⟩)
  ·exact (z3 g dW).1 di
  ·rcases pD g (.inr ⟨k, _, eI, dW⟩) with aR | aR
   ·exact (wX g (y5 g aR)).1 di
   ·omega
 ·obtain ⟨u, rfl, pH⟩ := ni a q aJ;obtain ⟨oj, rfl, dc⟩ := ni b cd ab;exact h2.apart a b _ _ pH dc gb g (Dz bF aq) (Dz bF dW)
 ·obtain ⟨rfl, rfl⟩ := fI af;exact ⟨q, by rw [hI (by unfold bt; rw [b9 _ _ gH]; rfl)]; exact rY q⟩
 ·rcases ab with ab | ab
  ·rcases jE b ab with h | h | h
   ·exact .inl h
   ·exact .inr (.inl h)
   ·exact .inr (.inr (.inr ⟨i, r, rY r, y5 b h⟩))
  ·exact .inl ab.1
 ·rcases ab with ⟨k, cs, af, _⟩ | ⟨k, q, af, aq⟩
  ·cases af
  ·obtain ⟨u, rfl, eI⟩ := ni k q af;rcases pD b (.inr ⟨k, _, eI, Dz bF aq⟩) with h | h
   ·exact .inl (.inr ⟨i, r, rY r, y5 b h⟩)
   ·exact .inr h
theorem Hd (i j : Nat) (gH : i ≠ j) {dst : Option Nat} {f : FuncId} {g : Operand} {aM : Array TypeId} {x : Operand} {r : bE} [E : Enters P f] (hw : want ops ⟨dst, .call ⟨.value g, #[x], aM⟩, ty, pos, after, guard⟩ s = some true) (hm : dY dr ⟨dst, .call ⟨.value g, #[x], aM⟩, ty, pos, after, guard⟩ = true)
  (aq : s.look g = some (aQ (.func (.func f) #[] #[]))) (aJ : s.look x = some (aQ r.v)) (hp : ∀ aT : List AC, aT.length = r.aT.length → aT.all AC.aY = true → pf P f [cM r.sz r.n aT] fun v q => ∃ v', v = aQ v' ∧ q = ⟨r.e, r.sz, v', r.n, aT⟩) (hi : R i = some r) (bF : 0 < r.sz) (cC : ∀ y ∈ r.aT, y.aY = true) (hd : kT dst s.n = true)
  (h : ∀ v', cJ P ops dr K rest (bG R j ⟨r.e, r.sz, v', r.n, r.aT⟩) (s.put dst (aQ v'))) : cJ P ops dr K (⟨dst, .call ⟨.value g, #[x], aM⟩, ty, pos, after, guard⟩ :: rest) R s := by
 refine NM (l := [x]) (args := [aQ r.v]) hw hm aq (by simp [aJ]) (ahd (j := j) gH hp bF cC) (fun k q af => ?_) rfl hd ?_
 ·obtain ⟨rfl, rfl⟩ := fI af; exact hi
 rintro v aG ay ⟨v', rfl, rfl, rfl⟩;refine ⟨rfl, ?_⟩
 have aF : bP (bP (bt j ⟨r.e, r.sz, v', r.n, r.aT⟩) (bt i r)) R = bG R j ⟨r.e, r.sz, v', r.n, r.aT⟩ := by
  funext k
  by_cases hT : k = j
  ·subst hT;rw [cl];exact hH (hH (by unfold bt; exact cl _ _ _))
  ·rw [b9 _ _ hT]
   by_cases qA : k = i
   ·subst qA;rw [hi];exact hH (by rw [hI (by unfold bt; rw [b9 _ _ hT]; rfl)]; unfold bt; exact cl _ _ _)
   ·exact hI (by rw [hI (by unfold bt; rw [b9 _ _ hT]; rfl)]; unfold bt; rw [b9 _ _ qA]; rfl)
 rw [aF];exact h v'
end
section
variable {P : Program} {s : aC} {ops : Array Oper} {K : aC → Prop} {rest : List Oper} {ty : Nat} {pos : String} {after : Array Edge} {guard : Option (Nat × Bool)} {d : Nat}
theorem UD {t dK k off : Nat} {x : Operand} (hw : want ops ⟨some d, .binOp .eql t x (.const (.pointer none)) dK, ty, pos, after, guard⟩ s = some true) (aa : s.look x = some (.w (.one (.own k off)))) (hu : Og P t = true) (hd : Nat.blt d s.n = true) (h : bc P ops K rest (s.put (some d) (bk false))) : bc P ops K (⟨some d, .binOp .eql t x (.const (.pointer none)) dK, ty, pos, after, guard⟩ :: rest) s := by
 obtain ⟨e, he⟩ : ∃ e, P.underlying t = some (.pointer e) := by
  unfold Og at hu
  split at hu
  ·rename_i e he; exact ⟨e, he⟩
  ·cases hu
 refine fS (av := bk false) hw ⟨fun _ _ h => (by cases h), fun z aN => ?_, fun U ad W env Nf => ?_, fun j ae => absurd ae (ja _ j)⟩ hd h
 ·simp [Op.operands] at aN;rcases aN with rfl | rfl
  ·exact ⟨_, aa⟩
  ·exact ⟨_, rfl⟩
 ·have aF := Nf x (by simp [Op.operands]) _ aa;have aF : env x = .pointer (some ⟨ad k, off, none⟩) := aF;have aP : env (.const (.pointer none)) = .pointer none := (Nf (.const (.pointer none)) (by simp [Op.operands]) _ rfl).1;refine ⟨.bool false, ?_, rfl, rfl⟩;simp only [execOp, aF, aP, Xz, Sem.run_bind, Sem.run_pure, Result.andThen_ok, afE he]
end
section
variable {P : Program} {f : FuncId} {args : List ah} {m0 : Mem} {R0 : aI} {Post Post2 : ah → Mem → aI → Prop}
def oB (i : Nat) (R : aI) : aI := fun j => if j = i then none else R j
theorem da.uI (i : Nat) (h : da P f args m0 R0 Post) (az : R0 i = none)
  (hp : ∀ bW aG ay, Post bW aG ay → ∃ q Ad, ay i = some q ∧ 0 < q.sz ∧ (∀ U ad W v, cX U ad W bW v → gE U ad W (.p (bX q.sz q.n q.aT)) q.v → cX U ad W Ad v) ∧ (∀ j, Ad.owns j → bW.owns j) ∧ Post2 Ad aG (oB i ay)) : da P f args m0 R0 Post2 := by
 refine ⟨fun U ad W vs cI cD cK => (h.call U ad W vs cI cD cK).mono ?_⟩;rintro e bf ⟨v, r, aG, ay, a7, cw, c0, h1, h2, ao, aD, cm, eQ, jE, pD, iP⟩;obtain ⟨q, Ad, hi, aN, hv, hw, XF⟩ := hp r aG ay h1;obtain ⟨h3, z2, z3⟩ := h2.rows i q hi;have Cs : ∀ b, cw b → b < bf.heap.size → (fun b => cw b ∨ q.own b) b ∧ bf.heap[b]? = bf.heap[b]? := fun b ab _ => ⟨.inl ab, rfl⟩;have Zx : gE (fun b => cw b ∨ q.own b) a7 bf (.p (bX q.sz q.n q.aT)) q.v := h3.Sk aN q.aT (fun xs ak => ak.map Cs fun _ _ _ _ => rfl) z2 fun b ab => .inr ab;have ap : cX (fun b => cw b ∨ q.own b) a7 bf r v := ao.map Cs fun _ _ => rfl
 have Cb : ∀ k x, oB i ay k = some x → k ≠ i ∧ ay k = some x := fun k x af => by
  unfold oB at af
  split at af
  ·cases af
  ·rename_i bU; exact ⟨bU, af⟩
 refine ⟨v, Ad, aG, oB i ay, a7, fun b => cw b ∨ q.own b, c0, XF, ⟨fun k cs af => ?_, h2.fF, h2.inj, fun k x af => ?_, fun a b x y aJ ab gb g aq dW => ?_⟩, hv _ _ _ _ ap Zx, fun j ae => aD j (hw j ae), cm, fun k x af => ?_, fun b ab => ?_, fun b ab => ?_, iP⟩
 ·obtain ⟨xs, ty, a1, a2, a3⟩ := h2.dC k cs af;exact ⟨xs, ty, a1, a2.map Cs fun _ _ _ _ => rfl, fun aR => aR.elim a3 fun aq => (z3 _ aq).2 k cs af rfl⟩
 ·obtain ⟨bU, eI⟩ := Cb k x af;obtain ⟨a1, a2, a3⟩ := h2.rows k x eI;exact ⟨a1.kept a2 (fun _ _ => rfl) (dE _) Cs, a2, fun g aq => ⟨fun aR => aR.elim (a3 g aq).1 fun dW => h2.apart k i x q eI hi bU g aq dW, (a3 g aq).2⟩⟩
 ·obtain ⟨_, pH⟩ := Cb a x aJ;obtain ⟨_, dc⟩ := Cb b y ab;exact h2.apart a b x y pH dc gb g aq dW
 ·obtain ⟨x', kA⟩ := eQ k x af;refine ⟨x', ?_⟩;unfold oB;rw [if_neg (fun e => by subst e; rw [az] at af; cases af)];exact kA
 ·rcases ab with ab | ab
  ·exact jE b ab
  ·rcases pD b (.inr ⟨i, q, hi, ab⟩) with aR | aR
   ·exact .inr (.inr aR)
   ·exact .inr (.inl aR)
 ·refine pD b ?_;rcases ab with ⟨k, cs, af, e⟩ | ⟨k, x, af, aq⟩
  ·exact .inl ⟨k, cs, af, e⟩
  ·exact .inr ⟨k, x, (Cb k x af).2, aq⟩
theorem AC.p8 (x : AC) : x.aX (fun j => j) = x := by cases x <;> rfl
theorem AC.Rt (xs : List AC) : xs.map (AC.aX fun j => j) = xs := by
 conv => rhs; rw [← List.map_id xs]
 exact o5 fun x _ => AC.p8 x
theorem bx.p8 (x : bx) : x.aX (fun j => j) = x := by
 cases x with
 | one x => show bx.one (x.aX _) = _; rw [AC.p8]
 | agg xs => show bx.agg (xs.map _) = _; rw [AC.Rt]
theorem ah.p8 (x : ah) : x.aX (fun j => j) = x := by
 cases x with
 | w x => show ah.w (x.aX _) = _; rw [bx.p8]
 | cn xs =>
  show ah.cn (xs.map _) = _;congr 1
  conv => rhs; rw [← List.map_id xs]
  exact o5 fun x _ => bx.p8 x
theorem Mem.p8 (m : Mem) : Mem.aX (fun j => j) m = m := by
 funext k;show (m k).map _ = m k;cases m k with
 | none => rfl
 | some cs => show some (cs.map _) = _; rw [AC.Rt]
theorem da.rn {bV : Nat → Nat} (fE : ∀ j, bV (bV j) = j) (h : da P f args m0 R0 Post) : da P f args m0 (R0.aX bV) fun bW aG ay => ∃ bh, Post bW aG bh ∧ ay = bh.aX bV := by
 have h1 := h.aX (bC := fun j => j) (fun _ => rfl) (bV := bV) (iu := bV) fE fE
 rw [show args.map (ah.aX fun j => j) = args from by
  conv => rhs; rw [← List.map_id args]
  exact o5 fun x _ => ah.p8 x, Mem.p8] at h1
 refine ⟨fun U ad W vs cI cD cK => (h1.call U ad W vs cI cD cK).mono ?_⟩;rintro cq bf ⟨v, r, aG, ay, a7, cw, c0, ⟨cx, m1, bh, an, rfl, rfl, rfl⟩, l5⟩;rw [ah.p8, Mem.p8] at l5;exact ⟨v, cx, m1, bh.aX bV, a7, cw, c0, ⟨bh, an, rfl⟩, l5⟩
theorem da.imp (h : da P f args m0 R0 Post) (hp : ∀ bW aG ay, Post bW aG ay → Post2 bW aG ay) : da P f args m0 R0 Post2 :=
 ⟨fun U ad W vs cI cD cK => (h.call U ad W vs cI cD cK).mono (by
  rintro cq bf ⟨v, r, aG, ay, a7, cw, c0, h1, l5⟩;exact ⟨v, r, aG, ay, a7, cw, c0, hp _ _ _ h1, l5⟩)⟩
end
def fe (c : aj → aj → Bool) : List aj → Bool
 | [] => false
 | [_] => false
 | p :: q :: V => c p q || fe c (q :: V)
theorem vZ {c : aj → aj → Bool} {R : aj → aj → Prop} (h : ∀ p q, c p q = false ↔ R p q) : ∀ V, fM R V ↔ fe c V = false
 | [] => by simp [fM, fe]
 | [_] => by simp [fM, fe]
 | p :: q :: V => by
  have bI := vZ h (q :: V);simp only [fM, fe, Bool.or_eq_false_iff, h p q, bI]
theorem KJ {c : aj → aj → Bool} : ∀ (V : List aj) (p q : aj), fe c (V ++ [p, q]) = (fe c (V ++ [p]) || c p q)
 | [], p, q => by simp [fe]
 | [a], p, q => by simp [fe]
 | a :: b :: V, p, q => by
  have bI := KJ (c := c) (b :: V) p q;simp only [List.cons_append, fe] at bI ⊢;rw [bI, Bool.or_assoc]
theorem yl {c : aj → aj → Bool} {V : List aj} {k : Nat} {p q : aj} (h1 : V[k]? = some p) (h2 : V[k + 1]? = some q) : fe c (V.take (k + 2)) = (fe c (V.take (k + 1)) || c p q) := by
 have aF : V.take (k + 1) = V.take k ++ [p] := by
  rw [jT (bA.1 h1).1, (bA.1 h1).2]
 have aP : V.take (k + 2) = V.take k ++ [p, q] := by
  rw [jT (bA.1 h2).1, (bA.1 h2).2, aF]; simp
 rw [aF, aP, KJ]
theorem yk {c : aj → aj → Bool} (V : List aj) : fe c (V.take 1) = false := by
 cases V <;> rfl
theorem RQ {r : Nat} {V : List aj} {D : List Int} : vz r V D ↔ V ≠ [] ∧ V.length = D.length + 1 ∧ (∀ v ∈ V, dd r v.1 v.2 = true) ∧ fe (fun p q => c7 p.1 p.2 q.1 q.2) V = false ∧ (∀ d ∈ D, 1 ≤ d ∧ d ≤ 1048576) ∧
  (fe (fun p q => decide (q.1 < p.1)) V = false ∨ fe (fun p q => decide (q.1 > p.1)) V = false) ∧ (fe (fun p q => decide (q.2 < p.2)) V = false ∨ fe (fun p q => decide (q.2 > p.2)) V = false) := by
 unfold vz;rw [vZ (c := fun p q => c7 p.1 p.2 q.1 q.2) (R := (· ≠ ·)) (fun p q => ?_), vZ (c := fun p q => decide (q.1 < p.1)) (R := fun p q => p.1 ≤ q.1) (fun p q => ?_), vZ (c := fun p q => decide (q.1 > p.1)) (R := fun p q => q.1 ≤ p.1) (fun p q => ?_), vZ (c := fun p q => decide (q.2 < p.2)) (R := fun p q => p.2 ≤ q.2) (fun p q => ?_), vZ (c := fun p q => decide (q.2 > p.2)) (R := fun p q => q.2 ≤ p.2) (fun p q => ?_)]
 ·rw [iE]; omega
 ·rw [iE]; omega
 ·rw [iE]; omega
 ·rw [iE]; omega
 ·obtain ⟨x, y⟩ := p;obtain ⟨z, w⟩ := q
  constructor
  ·intro h e;have := mX.2 (⟨congrArg Prod.fst e, congrArg Prod.snd e⟩ : x = z ∧ y = w);rw [h] at this; cases this
  ·intro h;cases he : c7 x y z w with
   | false => rfl
   | true => obtain ⟨rfl, rfl⟩ := mX.1 he; exact absurd rfl h
theorem KI {c : aj → aj → Bool} : ∀ (V W : List aj), fe c V = true → fe c (V ++ W) = true
 | [], W, h => by simp [fe] at h
 | [a], W, h => by simp [fe] at h
 | a :: b :: V, W, h => by
  have bI := KI (c := c) (b :: V) W;simp only [List.cons_append, fe, so] at bI h ⊢;rcases h with h | h
  ·exact .inl h
  ·exact .inr (bI h)
theorem Vj {c : aj → aj → Bool} {V : List aj} {k : Nat} (h : fe c (V.take k) = true) : fe c V = true := by
 have := KI (V.take k) (V.drop k) h;rwa [ju] at this
def xe (p q : aj) : Bool := c7 p.1 p.2 q.1 q.2
def DU (p q : aj) : Bool := decide (q.1 > p.1)
def C1 (p q : aj) : Bool := decide (q.1 < p.1)
def Em (p q : aj) : Bool := decide (q.2 > p.2)
def Bz (p q : aj) : Bool := decide (q.2 < p.2)
def yF (V : List aj) : Bool := !fe xe V && (!(fe DU V && fe C1 V) && !(fe Em V && fe Bz V))
theorem afy {r : Nat} {V : List aj} {D : List Int} : sy r V D = (decide (0 < V.length) && ((V.all fun v => dd r v.1 v.2) && (yF V && (decide ((D.length : Int) = (V.length : Int) - 1) && D.all fun d => decide (1 ≤ d ∧ d ≤ 1048576))))) := by
 have key : vz r V D ↔ (decide (0 < V.length) && ((V.all fun v => dd r v.1 v.2) && (yF V && (decide ((D.length : Int) = (V.length : Int) - 1) && D.all fun d => decide (1 ≤ d ∧ d ≤ 1048576))))) = true := by
  rw [RQ];unfold yF;simp only [c5, b4, b6, oc, Bool.and_eq_false_iff]
  constructor
  ·rintro ⟨g1, g2, g3, g4, g5, g6, g7⟩;exact ⟨by cases V <;> simp_all, g3, ⟨g4, g6.symm, g7.symm⟩, by omega, g5⟩
  ·rintro ⟨g1, g3, ⟨g4, g6, g7⟩, g2, g5⟩;exact ⟨fun h => by simp [h] at g1, by omega, g3, g4, g5, g6.symm, g7.symm⟩
 by_cases h : vz r V D
 ·rw [RP h]; exact (key.1 h).symm
 ·rw [vy h];cases ab : (decide (0 < V.length) && ((V.all fun v => dd r v.1 v.2) && (yF V && (decide ((D.length : Int) = (V.length : Int) - 1) && D.all fun d => decide (1 ≤ d ∧ d ≤ 1048576))))) with
  | false => rfl
  | true => exact absurd (key.2 ab) h
end Go.Proofs.YtbcecodakfejaaaGreat
namespace Go.Proofs.YtbcecodakfejaaaGreat
open Go.ChangeShapes Go.WideShapes Go.ChangeAt Go.RowKit Go.Joins
def rM (L : List (List Int)) : List AC := L.flatten.map fun x => .c (.int .i64 x)
theorem VP {W : World} {b : Addr} {v : Value} (h : W.cell? b = some v) : b.block < W.heap.size := by
 unfold World.cell? at h
 split at h
 ·rename_i aR; exact (jU.1 aR).1
 ·cases h
theorem MC {W : World} {a : Addr} {z : Nat} : ∀ (L : List (List Int)) (k : Nat), (∀ (i : Nat) (x : List Int), L[i]? = some x → x.length = z ∧ ∀ (o : Nat) (y : Int), x[o]? = some y → W.cell? (a.add ((k + i) * z + o)) = some (.int .i64 y)) →
  ∀ (j : Nat) (u : Int), L.flatten[j]? = some u → W.cell? (a.add (k * z + j)) = some (.int .i64 u)
 | [], k, h, j, u, hu => by simp at hu
 | x :: L, k, h, j, u, hu => by
  obtain ⟨ak, aa⟩ := h 0 x rfl;rw [List.flatten_cons] at hu;rcases hZ j x.length with ae | ae
  ·rw [gl ae] at hu;have := aa j u hu;rwa [Nat.add_zero] at this
  ·rw [gL ae] at hu
   have := MC L (k + 1) (fun i y ai => by
    have := h (i + 1) y (by simpa using ai);rw [show k + (i + 1) = k + 1 + i by omega] at this;exact this) (j - x.length) u hu
   rw [show (k + 1) * z + (j - x.length) = k * z + j by rw [kf, Nat.one_mul]; omega] at this;exact this
theorem acD {H : Type} {enc : TypeId × Value → H} {P : Program} {W : World} {t e : TypeId} (z : Nat) (aB : P.underlying t = some (.slice e)) (ce : P.cellsOf e = z)
  (yR : ∀ (n : Nat) (cs : List Value) d, DataW.trod enc P W 0 (fun _ => true) true n e cs = some d → ∃ xs : List Int, cs = xs.map (Value.int .i64))
  {v : Value} {d : DataW H} {p : List MemPlace} (hv : ∃ a len cap, v = .slice a len cap) (az : DataW.Trod enc P W 0 (fun _ => true) true t v d p) (aN : 0 < z) :
  ∃ L : List (List Int), (L.length : Int) ≤ 9223372036854775807 ∧ (∀ x ∈ L, x.length = z) ∧ cX (fun _ => True) id W (cM z L.length (rM L)) v := by
 obtain ⟨a0, r8, ah0, rfl⟩ := hv;obtain ⟨fa, au⟩ := az;rcases Go.Deep.open_slice aB au with ⟨eu, aa⟩ | ⟨a, len, cap, m, n, D, ahC, eu, ab, ak, hm, qN, aa, hi⟩
 ·simp [Value.cells] at eu;obtain ⟨rfl, rfl, rfl⟩ := eu;exact ⟨[], by decide, fun x aa => (by cases aa), ⟨none, 0, rfl, dE _, by simp [rM], fun h => absurd h (Nat.lt_irrefl _)⟩, fun _ _ => trivial⟩
 ·simp [Value.cells] at eu;obtain ⟨rfl, rfl, rfl⟩ := eu;simp only [if_true] at qN;subst qN;rw [ce] at hi
  have each : ∀ i, i < m → ∃ q : List Int, q.length = z ∧ ∀ (o : Nat) (y : Int), q[o]? = some y → W.cell? (a.add (i * z + o)) = some (.int .i64 y) := fun i h => by
   obtain ⟨ar, h1, h2⟩ := hi i h;obtain ⟨_, hlen, jq⟩ := World.cells?_some h1;obtain ⟨xs, rfl⟩ := yR _ _ _ h2;refine ⟨xs, by simpa using hlen, fun o y ai => ?_⟩
   have aA : o < z := by
    have := (bA.1 ai).1;simp at hlen; omega
   have := jq o aA;rw [Go.Deep.add_add, eh, ai] at this;exact this
  obtain ⟨q, an⟩ := Go.Deep.choose_lt each
  have dz : ∀ (i : Nat) (x : List Int), ((List.range r8).map q)[i]? = some x → x.length = z ∧ ∀ (o : Nat) (y : Int), x[o]? = some y → W.cell? (a.add ((0 + i) * z + o)) = some (.int .i64 y) := by
   intro i x aa;rw [eh] at aa;cases ap : (List.range r8)[i]? with
   | none => rw [ap] at aa; cases aa
   | some j =>
    rw [ap] at aa;cases aa;obtain ⟨ao, aD⟩ := bA.1 ap;simp at ao aD;subst aD;rw [je];exact an i (by omega)
  have gF := MC ((List.range r8).map q) 0 dz
  have yY : ∀ x ∈ (List.range r8).map q, x.length = z := fun x aa => by
   obtain ⟨i, c4⟩ := jR aa;exact (dz i x c4).1
  have wO : ∀ L : List (List Int), (∀ x ∈ L, x.length = z) → L.flatten.length = L.length * z := by
   intro L
   induction L with
   | nil => intro _; simp
   | cons x L bI =>
    intro h;rw [List.flatten_cons, cF, bI (fun y ai => h y (by simp [ai])), h x (by simp), jQ, kf];omega
  refine ⟨(List.range r8).map q, by simp; unfold maxLen at hm; omega, yY, ?_⟩;refine ⟨⟨some a, m, by simp, by simpa using ak, by rw [rM, lA, wO _ yY], fun ax => ⟨a, ((List.range r8).map q).flatten.map fun x => Value.int .i64 x, rfl, ?_, ⟨by rw [rM, lA, lA], fun i x u aa hu => ?_⟩, fun j u hu => ?_, fun y ai => ?_⟩⟩, fun _ _ => trivial⟩
  ·have G0 : 0 < r8 := by simpa using ax
   obtain ⟨h1, h2⟩ := an 0 (by omega);have := VP (h2 0 _ (bJ (by omega)));rwa [block_add] at this
  ·unfold rM at aa;rw [eh] at aa hu;cases ap : ((List.range r8).map q).flatten[i]? with
   | none => rw [ap] at aa; cases aa
   | some y =>
    rw [ap] at aa hu;cases aa; cases hu;exact ⟨rfl, rfl⟩
  ·rw [eh] at hu;cases ap : ((List.range r8).map q).flatten[j]? with
   | none => rw [ap] at hu; cases hu
   | some y =>
    rw [ap] at hu;cases hu;have := gF j y ap;rwa [Nat.zero_mul, je] at this
  ·unfold rM at ai;obtain ⟨x, _, rfl⟩ := gm.1 ai;rfl
theorem FM {H : Type} {enc : TypeId × Value → H} {P : Program} {W : World} {e : TypeId} (gJ : P.underlying e = some (.int .i64)) {n : Nat} {cs : List Value} {d : DataW H × List MemPlace} (h : DataW.trod enc P W 0 (fun _ => true) true n e cs = some d) (ak : cs.length = 1) : ∃ x : Int, cs = [.int .i64 x] := by
 match cs, ak with
 | [v], _ =>
  obtain ⟨x, aa, _⟩ := DataW.trod_int gJ h;simp at aa;exact ⟨x, by rw [aa]⟩
theorem L7 {H : Type} {enc : TypeId × Value → H} {P : Program} {W : World} {e : TypeId} {f0 f1 : Field} (he : P.underlying e = some (.struct #[f0, f1])) (ce : P.cellsOf e = 2) (Dt : f0.offset = 0) (o1 : f1.offset = 1) (gQ : P.cellsOf f0.type = 1) (c1 : P.cellsOf f1.type = 1) (gJ : P.underlying f0.type = some (.int .i64)) (bn : P.underlying f1.type = some (.int .i64))
  {n : Nat} {cs : List Value} {d : DataW H × List MemPlace} (h : DataW.trod enc P W 0 (fun _ => true) true n e cs = some d) : ∃ x y : Int, cs = [.int .i64 x, .int .i64 y] := by
 obtain ⟨xs, k, _, _, cC, oK, au⟩ := DataW.trod_struct he h;rw [ce] at cC
 match cs, cC, xs, oK with
 | [u, v], _, [d0, d1], _ =>
  have g0 := au 0 f0 rfl;have g1 := au 1 f1 rfl;simp [Dt, o1, gQ, c1] at g0 g1;obtain ⟨x, aa⟩ := FM gJ g0 rfl;obtain ⟨y, ai⟩ := FM bn g1 rfl;cases aa; cases ai;exact ⟨x, y, rfl⟩
end Go.Proofs.YtbcecodakfejaaaGreat
