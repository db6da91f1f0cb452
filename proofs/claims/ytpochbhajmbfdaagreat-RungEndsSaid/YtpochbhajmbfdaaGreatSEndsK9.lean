/-
  My own texts, without what this claim does not need. My own text.
-/
import Derived.Lib.SliceRun
import Derived.Laws.BytesArg
import Derived.Test.YtpochbhajmbfdaaGreatSEndsK8
set_option maxRecDepth 100000
set_option maxHeartbeats 64000000
set_option linter.unusedVariables false
set_option linter.unusedSimpArgs false
set_option linter.unusedSectionVars false
open Go.Proofs.Tryz renaming prog → ai
namespace Go.Proofs.YtpochbhajmbfdaaGreat.bA
abbrev b9 := an × an
def lm (r : Nat) (p : an) : an := (cz p.1 r, cz p.2 r)
abbrev l8 : b9 := ((0, 0), (0, 0))
def gW (a b : b9) : fA := hX a.1.1 a.1.2 a.2.1 a.2.2 b.1.1 b.1.2 b.2.1 b.2.2
def s7 (a b : b9) : Bool := FV (gW a b) a.1.1 a.1.2 a.2.1 a.2.2 b.1.1 b.1.2 b.2.1 b.2.2
def il (r : Nat) (M : fA) : an := (fX (2 ^ r) M.n M.d, fX (2 ^ r) M.m M.e)
def yj (r : Nat) (p : an) : an := (2 ^ r * p.1, 2 ^ r * p.2)
def gg (r : Nat) (l : an × an) : b9 := (yj r l.1, yj r l.2)
def Mx (r : Nat) (p q x : an) : Bool := qD (2 ^ r * p.1) (2 ^ r * p.2) (2 ^ r * q.1) (2 ^ r * q.2) r x
def fJ (p q : an) (l : List an) : List an := qV (decide (q.1 < p.1)) (decide (q.2 < p.2)) (fun _ => true) l
def rD (r : Nat) (l m : an × an) : Option an := if (gW (gg r l) (gg r m)).k = 1 ∧ s7 (gg r l) (gg r m) = false then some (il r (gW (gg r l) (gg r m))) else none
def zV (r : Nat) (a b : b9) : Option an := if (gW a b).k = 1 then some (il r (gW a b)) else none
def qI (E : List b9) (r R : Nat) : cP an where
 CD := Mx r
 gz := fJ
 cut := rD r
 n := E.length
 P i := lm r (E.getD i l8).1
 Q i := lm r (E.getD i l8).2
 tU i j := zV r (E.getD i l8) (E.getD j l8)
 R := R
 gR x := eS r x.1 x.2 = true
def gx (p : an) : Bool := decide (-134217728 ≤ p.1) && decide (p.1 < 134217728) && decide (-134217728 ≤ p.2) && decide (p.2 < 134217728)
def gw (E : List b9) : Bool := E.all fun e => gx e.1 && gx e.2
theorem sb {p : an} : gx p = true ↔ ((-134217728 ≤ p.1 ∧ p.1 < 134217728) ∧ -134217728 ≤ p.2 ∧ p.2 < 134217728) := by
 unfold gx; simp only [dS, cE]; omega
theorem qE {E : List b9} (h : gw E = true) (i : Nat) : gx (E.getD i l8).1 = true ∧ gx (E.getD i l8).2 = true := by
 rw [xq];cases he : E[i]? with
 | none => exact ⟨by decide, by decide⟩
 | some e =>
  have := ct.1 h e (dG he);exact Bool.and_eq_true_iff.1 this
theorem Cl (v : Int) (r : Nat) : cz v r = fX (2 ^ r) v 1 := by
 unfold cz fX; rw [Int.mul_one]
theorem PU {S X W uA bo : Int} (hS : 0 < S) (eY : 0 < W) (yO : 0 < bo) (h : X * bo ≤ uA * W) : fX S X W ≤ fX S uA bo := by
 obtain ⟨a1, a2⟩ := DU hS eY X;obtain ⟨b1, b2⟩ := DU hS yO uA;generalize fX S X W = g at *;generalize fX S uA bo = iW at *;refine Int.not_lt.1 fun bj => ?_;have h1 : S * (iW + 1) ≤ S * g := pK bj (by omega);rw [Int.mul_add, Int.mul_one] at h1;generalize S * g = G at *;generalize S * iW = vP at *;have c1 : (2 * vP + S) * W ≤ (2 * G - S) * W := pL (by omega) (by omega);have c2 : (2 * vP + S) * W ≤ 2 * X := by omega
 have kD : (2 * vP + S) * W * bo ≤ 2 * X * bo := pL c2 (by omega);have Fy : 2 * uA * W < (2 * vP + S) * bo * W := Int.mul_lt_mul_of_pos_right b2 eY;have aI : (2 * vP + S) * W * bo = (2 * vP + S) * bo * W := by rw [kV, jG W, ← kV]
 have aO : 2 * X * bo = 2 * (X * bo) := kV ..;have cD : 2 * uA * W = 2 * (uA * W) := kV ..;omega
theorem AA {m lo hi x : Int} (h1 : wi m lo = true) (h2 : wi m hi = true) (ap : lo ≤ x) (aL : x ≤ hi) : wi m x = true := by
 unfold wi at *; simp only [dS, cE] at *; omega
theorem V1 {r : Nat} (aq : r ≤ 28) : wi (134217728 / 2 ^ r) (cz (-134217728) r) = true ∧ wi (134217728 / 2 ^ r) (cz 134217727 r) = true := by
 have : r = 0 ∨ r = 1 ∨ r = 2 ∨ r = 3 ∨ r = 4 ∨ r = 5 ∨ r = 6 ∨ r = 7 ∨ r = 8 ∨ r = 9 ∨ r = 10 ∨ r = 11 ∨ r = 12 ∨ r = 13 ∨ r = 14 ∨ r = 15 ∨ r = 16 ∨ r = 17 ∨ r = 18 ∨ r = 19 ∨ r = 20 ∨ r = 21 ∨ r = 22 ∨ r = 23 ∨ r = 24 ∨ r = 25 ∨ r = 26 ∨ r = 27 ∨ r = 28 := by omega
 rcases this with rfl | rfl | rfl | rfl | rfl | rfl | rfl | rfl | rfl | rfl | rfl | rfl | rfl | rfl | rfl | rfl | rfl | rfl | rfl | rfl | rfl | rfl | rfl | rfl | rfl | rfl | rfl | rfl | rfl <;> exact ⟨by decide, by decide⟩
theorem DV {r : Nat} (aq : r ≤ 28) {X W : Int} (eY : 0 < W) (h1 : -134217728 * W ≤ X) (h2 : X ≤ 134217727 * W) : wi (134217728 / 2 ^ r) (fX (2 ^ r) X W) = true := by
 have hS : (0 : Int) < 2 ^ r := jI (by decide);have g := V1 aq;rw [Cl, Cl] at g;exact AA g.1 g.2 (PU hS (by decide) eY (by omega)) (PU hS eY (by decide) (by omega))
theorem Dz {r : Nat} (aq : r ≤ 28) {p : an} (h : gx p = true) : eS r (lm r p).1 (lm r p).2 = true := by
 have h := sb.1 h;unfold eS lm;rw [Cl, Cl, DV aq (by decide) (by omega) (by omega), DV aq (by decide) (by omega) (by omega)]; rfl
theorem HF {a b : b9} (h : (gW a b).k = 1) : ∃ X Y W bo, gW a b = iP X W Y bo := by
 unfold gW hX at h ⊢
 split at h
 ·rename_i hw;rw [if_pos hw];unfold vd inl at h ⊢
  split at h
  ·rename_i me;rw [if_pos me];unfold vc at h ⊢
   split at h
   ·rename_i he;rw [if_pos he]; exact ⟨_, _, _, _, rfl⟩
   ·simp [sN] at h
  ·simp [hG] at h
 ·rename_i hw;rw [if_neg hw];unfold ml tH at h ⊢
  split at h
  ·rename_i ar;rw [if_pos ar]; exact ⟨_, _, _, _, rfl⟩
  ·simp [hG] at h
theorem Vr {a b : b9} (h : (gW a b).k = 1) : s7 a b = true ↔ (a.1 = b.1 ∨ a.1 = b.2 ∨ a.2 = b.1 ∨ a.2 = b.2) := by
 have e : ∀ p q : an, dP p.1 p.2 q.1 q.2 = true ↔ p = q := fun p q => by rw [rG, Prod.ext_iff]
 unfold s7 FV;rw [if_pos h];simp only [qN, e, or_assoc]
theorem Uk {r : Nat} {p q : an} : yj r p = yj r q ↔ p = q := by
 have hS : (2 : Int) ^ r ≠ 0 := by have : (0 : Int) < 2 ^ r := jI (by decide); omega
 unfold yj;rw [Prod.ext_iff, Prod.ext_iff];exact ⟨fun ⟨h1, h2⟩ => ⟨Int.eq_of_mul_eq_mul_left hS h1, Int.eq_of_mul_eq_mul_left hS h2⟩, fun ⟨h1, h2⟩ => ⟨by rw [h1], by rw [h2]⟩⟩
theorem Lr {r : Nat} {l m : an × an} (h : (gW (gg r l) (gg r m)).k = 1) : s7 (gg r l) (gg r m) = true ↔ xZ l m := by
 rw [Vr h]; unfold gg xZ; simp only [Uk]
theorem Ir {r : Nat} {a b : b9} {X Y W bo : Int} (e : gW a b = iP X W Y bo) : bo = W ∧ 0 < W ∧ il r (gW a b) = (fX (2 ^ r) X W, fX (2 ^ r) Y W) ∧ A6 (2 ^ r) X Y W (il r (gW a b)) := by
 obtain ⟨h1, h2, _⟩ := Dm e;have hS : (0 : Int) < 2 ^ r := jI (by decide);have aO : il r (gW a b) = (fX (2 ^ r) X W, fX (2 ^ r) Y W) := by rw [e]; unfold il iP; rw [h1]
 exact ⟨h1, h2, aO, by rw [aO]; exact YZ hS h2⟩
theorem qm {r : Nat} {p : an} (h : eS r p.1 p.2 = true) : cy (2 ^ r * p.1) (2 ^ r * p.2) = true := by
 have h := (CY r _ _).1 h;unfold cy; simp only [dS, cE]; omega
theorem ad5 (E : List b9) {r : Nat} (aq : r ≤ 28) (R : Nat) : xX (2 ^ r) (qI E r R) where
 pos := jI (by decide)
 XT p q x h := by
  have h : qD _ _ _ _ _ _ = true := h;unfold qD at h;rw [GK aq, HR] at h;exact h.2.2
 Mw p q x hp al aa h := by
  show qD _ _ _ _ _ _ = true;unfold qD;have aa : eS r x.1 x.2 = true := aa;have ko := (CY r _ _).1 aa;have aiz := Is aq;rw [GK aq, HR, aaz];refine ⟨aa, ⟨qm hp, qm al, ?_, ?_, rfl⟩, h⟩
  ·rw [BP]; omega
  ·rw [BP]; omega
 KZ l m x h := by
  have h : rD r l m = some x := h;unfold rD at h
  split at h
  ·rename_i af;cases h;obtain ⟨X, Y, W, bo, e⟩ := HF af.1;refine ⟨fun hs => ?_, X, Y, W, bo, e, (Ir e).2.2.2⟩;have := (Lr af.1).2 hs;rw [af.2] at this; cases this
  ·cases h
 Uz l m _ _ _ _ h af := by
  have h : rD r l m = none := h;unfold rD at h
  split at h
  ·cases h
  ·rename_i aE;refine (Lr af).1 ?_;cases he : s7 (gg r l) (gg r m) with
   | true => rfl
   | false => exact absurd ⟨af, he⟩ aE
def vz (r : Nat) (V : List an) (D : List Int) : Prop :=
 V ≠ [] ∧ V.length = D.length + 1 ∧ (∀ v ∈ V, eS r v.1 v.2 = true) ∧ hQ (· ≠ ·) V ∧ (hQ (fun p q => p.1 ≤ q.1) V ∨ hQ (fun p q => q.1 ≤ p.1) V) ∧ (hQ (fun p q => p.2 ≤ q.2) V ∨ hQ (fun p q => q.2 ≤ p.2) V)
theorem FC {R T : an → an → Prop} : ∀ {l : List an}, hQ R l → hQ T l → hQ (fun p q => R p q ∧ T p q) l
 | [], _, _ => trivial
 | [_], _, _ => trivial
 | p :: q :: W, h, aF => ⟨⟨h.1, aF.1⟩, FC (l := q :: W) h.2 aF.2⟩
theorem KQ {R : an → an → Prop} (aD : ∀ a b c, R a b → R b c → R a c) : ∀ {l : List an}, hQ R l → l.Pairwise R
 | [], _ => .nil
 | [_], _ => by simp
 | p :: q :: W, h => by
  have cw := KQ aD (l := q :: W) h.2;refine iR.2 ⟨fun x aa => ?_, cw⟩;rcases gM.1 aa with rfl | aa
  ·exact h.1
  ·exact aD _ _ _ h.1 ((iR.1 cw).1 x aa)
theorem BL {R T : an → an → Prop} (h1 : ∀ a b c, R a b → R b c → R a c) (h2 : ∀ a b c, T a b → T b c → T a c) (aK : ∀ a b, R a b → R b a → T a b → T b a → a = b) {l : List an} (aq : hQ R l) (aD : hQ T l) (aE : hQ (· ≠ ·) l) : l.Nodup := by
 have := KQ (R := fun p q => (R p q ∧ T p q) ∧ p ≠ q) (fun a b c x y => ⟨⟨h1 _ _ _ x.1.1 y.1.1, h2 _ _ _ x.1.2 y.1.2⟩, fun e => by subst e; exact x.2 (aK _ _ x.1.1 y.1.1 x.1.2 y.1.2)⟩) (FC (FC aq aD) aE);exact this.imp fun h => h.2
theorem vz.nodup {r : Nat} {V : List an} {D : List Int} (h : vz r V D) : V.Nodup := by
 obtain ⟨_, _, _, aE, aa, ah⟩ := h;rcases aa with aa | aa <;> rcases ah with ah | ah
 ·exact BL (R := fun p q : an => p.1 ≤ q.1) (T := fun p q : an => p.2 ≤ q.2) (fun a b c => Int.le_trans) (fun a b c => Int.le_trans) (fun a b h1 h2 ap aL => Prod.ext (Int.le_antisymm h1 h2) (Int.le_antisymm ap aL)) aa ah aE
 ·exact BL (R := fun p q : an => p.1 ≤ q.1) (T := fun p q : an => q.2 ≤ p.2) (fun a b c => Int.le_trans) (fun a b c h aF => Int.le_trans aF h) (fun a b h1 h2 ap aL => Prod.ext (Int.le_antisymm h1 h2) (Int.le_antisymm aL ap)) aa ah aE
 ·exact BL (R := fun p q : an => q.1 ≤ p.1) (T := fun p q : an => p.2 ≤ q.2) (fun a b c h aF => Int.le_trans aF h) (fun a b c => Int.le_trans) (fun a b h1 h2 ap aL => Prod.ext (Int.le_antisymm h2 h1) (Int.le_antisymm ap aL)) aa ah aE
 ·exact BL (R := fun p q : an => q.1 ≤ p.1) (T := fun p q : an => q.2 ≤ p.2) (fun a b c h aF => Int.le_trans aF h) (fun a b c h aF => Int.le_trans aF h) (fun a b h1 h2 ap aL => Prod.ext (Int.le_antisymm h2 h1) (Int.le_antisymm aL ap)) aa ah aE
theorem Cd (r : Nat) (a b : Int) : decide ((2 : Int) ^ r * a < 2 ^ r * b) = decide (a < b) := by
 have hS : (0 : Int) < 2 ^ r := jI (by decide);rw [decide_eq_decide];exact ⟨fun h => Int.lt_of_mul_lt_mul_left h (by omega), fun h => Int.mul_lt_mul_of_pos_left h hS⟩
theorem Lb {fx fy : Bool} {p q : an} : ∀ (l out : List an), (∀ x ∈ l, x ≠ p ∧ x ≠ q) → (out ++ l).Nodup → l.foldl (pg p q) out = out ++ l
 | [], out, _, _ => by simp
 | x :: l, out, h, hd => by
  have aa := h x (lq ..);have e : pg p q out x = out ++ [x] := if_pos ⟨aa.1, aa.2, fun he => (List.nodup_append.1 hd).2.2 x (List.mem_of_getLast? he) x (lq ..) rfl⟩;rw [List.foldl_cons, e, Lb (fx := fx) (fy := fy) l (out ++ [x]) (fun y ah => h y (pI _ ah)) (by simpa using hd), iq]; rfl
theorem aeS {fx fy : Bool} {f g : an → Bool} {l : List an} (h : ∀ x ∈ l, f x = g x) : qV fx fy f l = qV fx fy g l := by
 unfold qV
 have key : ∀ (l out : List an), (∀ x ∈ l, f x = g x) → l.foldl (fun out q => if f q then lQ fx fy q out else out) out = l.foldl (fun out q => if g q then lQ fx fy q out else out) out := by
  intro l
  induction l with
  | nil => intro out _; rfl
  | cons x l cw =>
   intro out h;rw [List.foldl_cons, List.foldl_cons, h x (lq ..)];exact cw _ fun y ah => h y (pI _ ah)
 exact key l [] h
theorem Gd {E : List b9} {r R : Nat} {p q x : an} : iX (qI E r R) p q x = true ↔ x ≠ p ∧ x ≠ q ∧ Mx r p q x = true := by
 unfold iX; simp only [dS, cE, and_assoc]; exact Iff.rfl
theorem Aq (p q : an) (bm : List an) : (fJ p q bm).Perm bm := by
 have := En (decide (q.1 < p.1)) (decide (q.2 < p.2)) (fun _ => true) bm;rwa [List.filter_eq_self.2 (fun _ _ => rfl)] at this
theorem I3 {E : List b9} {r R : Nat} {p q : an} {bm : List an} (aE : bm.Nodup) (h : ∀ x ∈ bm, iX (qI E r R) p q x = true) : fJ p q bm = rs r bm p q := by
 unfold rs La;rw [Cd, Cd, ← aeS (f := fun _ => true) (g := qD (2 ^ r * p.1) (2 ^ r * p.2) (2 ^ r * q.1) (2 ^ r * q.2) r) (fun x aa => ((Gd.1 (h x aa)).2.2).symm)];have hp := Aq p q bm;show fJ p q bm = (fJ p q bm).foldl (pg p q) [];rw [Lb (fx := false) (fy := false) (fJ p q bm) [] (fun x aa => ⟨(Gd.1 (h x (hp.mem_iff.1 aa))).1, (Gd.1 (h x (hp.mem_iff.1 aa))).2.1⟩) (by simpa using hp.nodup_iff.2 aE)];rfl
theorem KP {R : an → an → Prop} : ∀ {A B : List an} {q : an}, hQ R (A ++ q :: B) → hQ R (A ++ [q]) ∧ hQ R (q :: B)
 | [], _, _, h => ⟨trivial, h⟩
 | [a], _, _, h => ⟨⟨h.1, trivial⟩, h.2⟩
 | a :: b :: A, B, q, h => by
  have cw := KP (A := b :: A) h.2;exact ⟨⟨h.1, cw.1⟩, cw.2⟩
theorem afk {V : List an} {j : Nat} {p q : an} (hp : V[j]? = some p) (al : V[j + 1]? = some q) : ∃ A B, V = A ++ p :: q :: B ∧ A.length = j ∧ ∀ l, c7 V j l = A ++ p :: (l ++ q :: B) := by
 obtain ⟨h1, aI⟩ := bX.1 hp;obtain ⟨h2, aO⟩ := bX.1 al;have hd := Vd hp al;refine ⟨V.take j, V.drop (j + 2), by rw [← hd, kq], by rw [eh]; omega, fun l => ?_⟩;unfold c7;rw [oO h1, aI, mV h2, aO];simp
theorem yk {R : an → an → Prop} {V l : List an} {j : Nat} {p q : an} (hp : V[j]? = some p) (al : V[j + 1]? = some q) (h : hQ R V) (ao : R p q → hQ R (p :: (l ++ [q]))) : hQ R (c7 V j l) := by
 obtain ⟨A, B, e, _, FO⟩ := afk hp al;rw [FO];rw [e] at h;obtain ⟨h1, h2⟩ := KP h;refine FD h1 ?_;have ap := ao h2.1;have := FD (A := p :: l) (q := q) (W := B) ap h2.2;exact this
theorem vz.cut {E : List b9} {r R : Nat} (aq : r ≤ 28) {V : List an} {D : List Int} (h : vz r V D) {j : Nat} {p q : an} {bm : List an} (hp : V[j]? = some p) (al : V[j + 1]? = some q) (aE : bm.Nodup) (aw : ∀ x ∈ bm, iX (qI E r R) p q x = true) : vz r (c7 V j (fJ p q bm)) (eo D j bm.length) := by
 obtain ⟨h1, h2, ap, aL, fV, jo⟩ := h;have hS : (0 : Int) < 2 ^ r := jI (by decide);have ae := (bX.1 al).1;rw [I3 aE aw];have lO := Bx aq bm p q;have hlen : (rs r bm p q).length = bm.length := by rw [← I3 aE aw]; exact (Aq p q bm).length_eq
 refine ⟨fun aH => ?_, ?_, fun v hv => ?_, ?_, ?_, ?_⟩
 ·have := congrArg List.length aH;rw [ym, List.length_nil] at this; omega
 ·rw [ym, FI (by omega), hlen]; omega
 ·rcases K2 hv with hv | hv
  ·exact ap v hv
  ·exact (lO.2.1 v hv).2.1
 ·exact yk hp al aL fun hU => TH aq bm p q hU
 ·refine fV.imp (fun h => yk hp al h fun hU => Bz aq bm p q hU (fun x aa => ?_) (fun x y u w hu hw rV => ?_)) (fun h => yk hp al h fun hU => Bz aq bm p q hU (fun x aa => ?_) (fun x y u w hu hw rV => ?_))
  ·obtain ⟨u, hu⟩ := aa; exact (Dq hS hu.1.1 hu.1.2 hu.2.1).1 hU
  ·exact Ds hS hu.2.1 hw.2.1 rV hU
  ·obtain ⟨u, hu⟩ := aa; exact ((Dq hS hu.1.1 hu.1.2 hu.2.1).2 hU).symm
  ·exact Dr hS hu.2.1 hw.2.1 rV hU
 ·refine jo.imp (fun h => yk hp al h fun hU => Bz aq bm p q hU (fun x aa => ?_) (fun x y u w hu hw rV => ?_)) (fun h => yk hp al h fun hU => Bz aq bm p q hU (fun x aa => ?_) (fun x y u w hu hw rV => ?_))
  ·obtain ⟨u, hu⟩ := aa; exact (Dq hS hu.1.1 hu.1.2 hu.2.2).1 hU
  ·exact Ds hS hu.2.2 hw.2.2 rV hU
  ·obtain ⟨u, hu⟩ := aa; exact ((Dq hS hu.1.1 hu.1.2 hu.2.2).2 hU).symm
  ·exact Dr hS hu.2.2 hw.2.2 rV hU
def sd (r : Nat) (e : b9) (d : Int) (t : Rat) (x : an) : Prop := xi e.1.1 e.1.2 e.2.1 e.2.2 (2 ^ r) (bq d * bq (2 ^ r)) t x
theorem abm {r : Nat} {e : b9} {d d' : Int} (h : d ≤ d') {t : Rat} {x : an} (aa : sd r e d t x) : sd r e d' t x := by
 refine abo ?_ aa;have hS : (0 : Rat) < bq (2 ^ r) := pS (jI (by decide));exact Rat.mul_le_mul_of_nonneg_right (qP.2 h) (Rat.le_of_lt hS)
theorem KS {r : Nat} {e : b9} {p q : an} {d : Int} {t1 t2 : Rat} (Gf : t1 ≤ t2) (Gh : t2 ≤ 1) (hp : sd r e d t1 p) (al : sd r e d t2 q) : ∀ (l : List an) (j6 : Rat), 0 ≤ j6 → j6 ≤ 1 → (∀ x ∈ l, ∀ u, p9 (2 ^ r) p q u x → j6 ≤ u) → (∀ x ∈ l, ∃ u, p9 (2 ^ r) p q u x) → jM (decide ((2 : Int) ^ r * q.1 < 2 ^ r * p.1)) (decide ((2 : Int) ^ r * q.2 < 2 ^ r * p.2)) l → BN (sd r e) (d + 1) t2 (t1 + j6 * (t2 - t1)) l
 | [], j6, aH, h1, _, _, _ => by
  show t1 + j6 * (t2 - t1) ≤ t2;have := j4 (show 0 ≤ 1 - j6 by grind) (show 0 ≤ t2 - t1 by grind);grind
 | x :: l, j6, aH, h1, hu, hm, aK => by
  have hS : (0 : Int) < 2 ^ r := jI (by decide);obtain ⟨u, w5⟩ := hm x (lq ..);have ak := iR.1 aK;have h2 := hu x (lq ..) u w5;have bB := j4 (show 0 ≤ u - j6 by grind) (show 0 ≤ t2 - t1 by grind);have cf := j4 (show 0 ≤ 1 - u by have := w5.1.2; grind) (show 0 ≤ t2 - t1 by grind)
  have aa : sd r e (d + 1) (t1 + u * (t2 - t1)) x := by
   have := abn hp al w5;unfold sd;rw [show bq (d + 1) = bq d + 1 by simp [bq, sr]];exact this
  exact ⟨t1 + u * (t2 - t1), by grind, by grind, aa, KS Gf Gh hp al l u w5.1.1 w5.1.2 (fun y ah w hw => Oa hS w5 hw (ak.1 y ah)) (fun y ah => hm y (pI _ ah)) ak.2⟩
def xk (E : List b9) (r : Nat) (i : Nat) (c : List an × List Int) : Prop := vz r c.1 c.2 ∧ rA (sd r (E.getD i l8)) 0 c.1 c.2
theorem DE {r : Nat} (a b : Int) : sc (bq a) (bq b) (2 * (bq (2 ^ r) * bq (cz a r))) (bq 1 * bq (2 ^ r)) 0 ∧ sc (bq b) (bq a) (2 * (bq (2 ^ r) * bq (cz a r))) (bq 1 * bq (2 ^ r)) 1 := by
 have fa : (0 : Int) < 2 ^ r := jI (by decide);obtain ⟨g0, g1⟩ : 2 * (cz a r * 2 ^ r) ≤ 2 * a + 2 ^ r ∧ 2 * a + 2 ^ r < 2 * (cz a r * 2 ^ r) + 2 * 2 ^ r := Wy fa;have cY := qP.2 g0;have q1 := IB.2 g1;have z : bq 1 = 1 := by simp [bq]
 rw [z];simp only [bq, sr, Rat.intCast_mul] at cY q1 ⊢;generalize ((2 ^ r : Int) : Rat) = S at *;generalize ((cz a r : Int) : Rat) = g at *;generalize ((a : Int) : Rat) = a' at *;generalize ((b : Int) : Rat) = bO at *;have aO : ((2 : Int) : Rat) = 2 := by simp
 rw [aO] at cY q1;refine ⟨⟨?_, ?_⟩, ?_, ?_⟩ <;> grind
theorem Ur {r : Nat} (e : b9) : rA (sd r e) 0 (gX (lm r e.1) (lm r e.2)).1 (gX (lm r e.1) (lm r e.2)).2 :=
 Uq ⟨(DE e.1.1 e.2.1).1, (DE e.1.2 e.2.2).1⟩ ⟨(DE e.2.1 e.1.1).2, (DE e.2.2 e.1.2).2⟩
theorem abb {r : Nat} {p q : an} (hp : eS r p.1 p.2 = true) (al : eS r q.1 q.2 = true) : vz r (gX p q).1 (gX p q).2 := by
 unfold gX
 split
 ·exact ⟨by simp, rfl, fun v hv => by rw [lW.1 hv]; exact hp, trivial, .inl trivial, .inl trivial⟩
 ·rename_i cq;refine ⟨by simp, rfl, fun v hv => ?_, ⟨cq, trivial⟩, ?_, ?_⟩
  ·simp only [gM, qL, or_false] at hv;rcases hv with rfl | rfl
   ·exact hp
   ·exact al
  ·rcases Int.le_total p.1 q.1 with h | h
   ·exact .inl ⟨h, trivial⟩
   ·exact .inr ⟨h, trivial⟩
  ·rcases Int.le_total p.2 q.2 with h | h
   ·exact .inl ⟨h, trivial⟩
   ·exact .inr ⟨h, trivial⟩
theorem KD {X W a b n d : Int} (eY : 0 < W) (hd : 0 < d) (aE : 0 ≤ n ∧ n ≤ d) (e : X * d = W * (a * (d - n) + b * n)) {lo hi : Int} (aK : lo ≤ a ∧ a ≤ hi) (ab : lo ≤ b ∧ b ≤ hi) : lo * W ≤ X ∧ X ≤ hi * W := by
 have a1 := hL (show 0 ≤ a - lo by omega) (show 0 ≤ d - n by omega);have a2 := hL (show 0 ≤ hi - a by omega) (show 0 ≤ d - n by omega);have b1 := hL (show 0 ≤ b - lo by omega) aE.1;have b2 := hL (show 0 ≤ hi - b by omega) aE.1;have s1 : lo * d ≤ a * (d - n) + b * n := by grind
 have s2 : a * (d - n) + b * n ≤ hi * d := by grind
 have t1 := pK s1 (pP eY);have t2 := pK s2 (pP eY);rw [← e] at t1 t2;refine ⟨Int.le_of_mul_le_mul_right ?_ hd, Int.le_of_mul_le_mul_right ?_ hd⟩
 ·rw [show lo * W * d = W * (lo * d) by grind]; exact t1
 ·rw [show hi * W * d = W * (hi * d) by grind]; exact t2
theorem PH {r : Nat} (aq : r ≤ 28) {a b : b9} (h1 : gx a.1 = true) (h2 : gx a.2 = true) {x : an} (h : zV r a b = some x) : eS r x.1 x.2 = true := by
 unfold zV at h
 split at h
 ·rename_i af;cases h;obtain ⟨X, Y, W, bo, e⟩ := HF af;obtain ⟨q1, q2, cg, _⟩ := Ir (r := r) e;obtain ⟨_, _, ⟨n, d, g1, g2, g3, g4⟩, _⟩ := Dm e;have cG := sb.1 h1;have cH := sb.1 h2;obtain ⟨c1, c2⟩ := KD q2 g1 g2 g3 (lo := -134217728) (hi := 134217727) (by omega) (by omega);obtain ⟨kD, Fy⟩ := KD q2 g1 g2 g4 (lo := -134217728) (hi := 134217727) (by omega) (by omega);rw [cg];unfold eS;rw [DV aq q2 c1 c2, DV aq q2 kD Fy]; rfl
 ·cases h
theorem K4 {r : Nat} {l m : an × an} (h1 : eS r l.1.1 l.1.2 = true) (h2 : eS r l.2.1 l.2.2 = true) {x : an} (h : rD r l m = some x) : eS r x.1 x.2 = true := by
 have hS : (0 : Int) < 2 ^ r := jI (by decide);unfold rD at h
 split at h
 ·rename_i af;cases h;obtain ⟨X, Y, W, bo, e⟩ := HF af.1;obtain ⟨q1, q2, cg, ep⟩ := Ir (r := r) e;obtain ⟨_, _, ⟨n, d, g1, g2, g3, g4⟩, _⟩ := Dm e;generalize il r (gW (gg r l) (gg r m)) = x at *;obtain ⟨⟨i1, i2⟩, i3, i4⟩ := ep;have v1 := PW hS q2 g1 g2 g3 i1 i2;have v2 := PW hS q2 g1 g2 g4 i3 i4;unfold eS at h1 h2 ⊢;rw [dS] at h1 h2 ⊢;refine ⟨?_, ?_⟩
  ·rcases Int.le_total l.1.1 l.2.1 with h | h
   ·exact AA h1.1 h2.1 (v1.1 h).1 (v1.1 h).2
   ·exact AA h2.1 h1.1 (v1.2 h).1 (v1.2 h).2
  ·rcases Int.le_total l.1.2 l.2.2 with h | h
   ·exact AA h1.2 h2.2 (v2.1 h).1 (v2.1 h).2
   ·exact AA h2.2 h1.2 (v2.2 h).1 (v2.2 h).2
 ·cases h
theorem adW {E : List b9} {r R : Nat} (aq : r ≤ 28) (jq : gw E = true) : kb (qI E r R) (xk E r) where
 nodup i c h := h.1.nodup
 new i hi := ⟨abb (Dz aq (qE jq i).1) (Dz aq (qE jq i).2), Ur _⟩
 split i c j p q bm h hlen hp al aE _ aw := by
  refine ⟨h.1.cut aq hp al aE aw, ?_⟩;have Yg := Aq p q bm;have e : bm.length = (fJ p q bm).length := Yg.length_eq.symm;show rA _ _ (c7 c.1 j (fJ p q bm)) (eo c.2 j bm.length);rw [e];refine KT (fun d t x aa => abm (by omega) aa) (fun d t1 t2 Gf Gh h1 h2 => ?_) c.1 c.2 j 0 hlen hp al h.2;have lO := Bx aq bm p q;rw [I3 aE aw];have := KS Gf Gh h1 h2 (rs r bm p q) 0 Rat.le_refl (by decide) (fun x aa u hu => hu.1.1) (fun x aa => (lO.2.1 x aa).2.2) lO.1;rwa [show t1 + 0 * (t2 - t1) = t1 by grind] at this
 gz := Aq
 F9 i _ := ⟨Dz aq (qE jq i).1, Dz aq (qE jq i).2⟩
 L0 i j x _ _ h := PH aq (qE jq i).1 (qE jq i).2 h
 LY p q fH cA x h1 h2 _ _ h := K4 (l := (p, q)) (m := (fH, cA)) h1 h2 h
 cut hot p q fH cA x aw _ _ h1 h2 ap aL dk fV h := (ad5 E aq R).UD hot p q fH cA x aw h1 h2 ap aL dk fV h
variable {α : Type} [DecidableEq α]
theorem Ns (o : cP α) : ∀ (m n : Nat) (s : aW α), li o (m + n) s = li o n (li o m s)
 | 0, n, s => by rw [jH]; rfl
 | m + 1, n, s => by
  rw [show m + 1 + n = (m + n) + 1 by omega];exact Ns o m n (eN o s)
def eH (o : cP α) : Nat → aW α → Nat × aW α
 | 0, s => (0, s)
 | n + 1, s => if 4 ≤ s.ph then (0, s) else ((eH o n (eN o s)).1 + 1, (eH o n (eN o s)).2)
theorem aeb {o : cP α} {s : aW α} (h : 4 ≤ s.ph) : ∀ n, eH o n s = (0, s)
 | 0 => rfl
 | n + 1 => if_pos h
theorem Ed {o : cP α} : ∀ (n : Nat) (s : aW α), (eH o n s).2 = li o (eH o n s).1 s ∧ (eH o n s).1 ≤ n ∧ ((eH o n s).1 < n → 4 ≤ (eH o n s).2.ph)
 | 0, s => ⟨rfl, dW _, fun h => absurd h (by show ¬ 0 < 0; omega)⟩
 | n + 1, s => by
  obtain ⟨h1, h2, ap⟩ := Ed n (eN o s);unfold eH
  by_cases h : 4 ≤ s.ph
  ·rw [if_pos h]; exact ⟨rfl, eF _, fun _ => h⟩
  ·rw [if_neg h]; exact ⟨h1, by show _ + 1 ≤ n + 1; omega, fun a6 => ap (by have : (eH o n (eN o s)).1 + 1 < n + 1 := a6; omega)⟩
end Go.Proofs.YtpochbhajmbfdaaGreat.bA
namespace Go.Proofs.YtpochbhajmbfdaaGreat
open Go.RowKit
section
variable {P : Program} {bt : eX} {bS A : Nat → Prop} {R : aJ} {s s' : aC} {a a' : Act} {w w' : World} {ad bg : Nat → Nat}
theorem er.Uv (ax : er bt bS R s a w A ad) (i : Nat) (r : bP) (hi : R i = some r) (bW : 0 < r.sz) : ∃ ei, er bt bS (fun j => if j = i then none else R j) s a w ei ad ∧ gn (s.free ei ad) ad w (.p (cB r.sz r.n r.aU)) r.v := by
 obtain ⟨oh, cO, aw⟩ := ax.rows i r hi;obtain ⟨xs, ay, ao⟩ := oh.row bW;have yH : ∀ b, s.free A ad b → b < w.heap.size → s.free (fun b => A b ∨ r.v.ownBlock = some b) ad b ∧ w.heap[b]? = w.heap[b]? := fun b ab _ => ⟨⟨.inl ab.1, ab.2⟩, rfl⟩;have Gs : Rel (nt bt s ad w) (fun b => A b ∨ r.v.ownBlock = some b) s ad a w := ax.rel.yb (fun b ab _ => ⟨.inl ab, rfl⟩) (fun k cs af => ⟨rfl, fun ar => ar.2 k cs af rfl⟩) (jN.refl _) (fun b ab => .inl (ax.rel.up b ab)) (wL _ _ _)
 have wK : er bt bS (fun j => if j = i then none else R j) s a w (fun b => A b ∨ r.v.ownBlock = some b) ad := by
  refine ⟨ax.up, ?_, Gs, ax.oy, ax.below, fun j q ae => ?_, fun j k q cA ae af kK => ?_, fun j q g ae => ?_, ax.jT⟩
  ·rintro b (ab | ab)
   ·exact ax.sub b ab
   ·exact (ax.hot i r b hi (.inl ab)).2
  ·have gi : j ≠ i := fun e => by rw [if_pos e] at ae; cases ae
   rw [if_neg gi] at ae;obtain ⟨lh, Au, Av⟩ := ax.rows j q ae;refine ⟨lh.kept Au (fun _ _ => rfl) (dW _) yH, Au, fun g ew => ⟨?_, (Av g ew).2⟩⟩;rintro (ab | ab)
   ·exact (Av g ew).1 ab
   ·exact ax.apart i j r q hi ae (Ne.symm gi) g (.inl ab) ew
  ·have gi : j ≠ i := fun e => by rw [if_pos e] at ae; cases ae
   have km : k ≠ i := fun e => by rw [if_pos e] at af; cases af
   rw [if_neg gi] at ae;rw [if_neg km] at af;exact ax.apart j k q cA ae af kK
  ·have gi : j ≠ i := fun e => by rw [if_pos e] at ae; cases ae
   rw [if_neg gi] at ae;exact ax.hot j q g ae
 refine ⟨fun b => A b ∨ r.v.ownBlock = some b, wK, ?_⟩
 ·have nw := ao.1;obtain ⟨kL, aE | ⟨g, cap, cur, kk, qp, uW, eM, js, ev, nC⟩⟩ := id ay
  ·obtain ⟨aI, aO⟩ := aE;have : r.aU = [] := mv (by rw [nw, kL, aO]; simp);rw [aI];exact ⟨⟨none, 0, by rw [aO], by omega, by rw [this, aO]; simp, fun h => absurd h (by omega)⟩, fun b ⟨c', a', q, aE, ab⟩ => by cases q⟩
  ·have tp := ay.cells (g := g) (by rw [kk]; rfl);rw [kk];have qn : ky w ⟨g, 0, none⟩ r.aU xs := ⟨(kr.1 uW).1, ao.wu cO fun b _ _ => ⟨trivial, rfl⟩, tp, cO⟩;refine ⟨⟨some ⟨g, 0, none⟩, cap, rfl, eM, by rw [nw]; exact kL, fun aE => ⟨⟨g, 0, none⟩, xs, rfl, qn⟩⟩, ?_⟩;rintro b ⟨c', a', q, aE, ar⟩;cases q;rcases ar with rfl | ⟨j, y, v, ah, hv, gh⟩
   ·exact ⟨.inr rfl, (aw g (.inl (by rw [kk]; rfl))).2⟩
   ·have bj : j < xs.length := by rw [← nw]; exact (bX.1 ah).1
    have h2 := tp j _ (cp bj);rw [hv] at h2;cases h2;have ap := ao.2 j y _ ah (cp bj);cases y with
    | c u => cases gh
    | own k o => cases gh
    | p S => have := ap.2 b gh; exact ⟨.inl this.1, this.2⟩
theorem Qs (i k off : Nat) {c : Code} {Q : Exit → aJ → aC → Prop} {cs : List AC} (r : bP) (hi : R i = some r) (af : s.mem k = some cs) (ak : cs[off]? = some (.c r.v)) (h : fq P c Q (fun j => if j = i then none else R j) (s.dX k (cs.set off (.p (cB r.sz r.n r.aU))))) (bW : 0 < r.sz := by first | decide | exact jd _) : fq P c Q R s := by
 rintro ok bt bS a w ⟨A, ad, ax⟩;obtain ⟨ei, Co, w2⟩ := ax.Uv i r hi bW
 have WZ := Co.next (Co.rel.adH (ds := cs.set off (.p (cB r.sz r.n r.aU))) af fun vs hv => ⟨by rw [List.length_set]; exact hv.1, fun j x u aa hu => by
  rw [List.getElem?_set] at aa
  by_cases e : off = j
  ·subst e;rw [if_pos rfl] at aa
   split at aa
   ·cases aa;obtain ⟨rfl, _⟩ := hv.2 off _ u ak hu;exact w2
   ·cases aa
  ·rw [if_neg e] at aa;exact hv.2 j x u aa hu⟩)
 refine h (ok.dX fun x aa j ae => ?_) bt bS a w ⟨ei, ad, WZ⟩;rcases List.mem_or_eq_of_mem_set aa with aa | rfl
 ·exact ok.dx k cs x j af aa ae
 ·cases ae
end
section
variable {P : Program} {s : aC} {ops : Array Oper} {K : aC → Prop} {rest : List Oper} {ty : Nat} {pos : String} {after : Array Edge} {guard : Option (Nat × Bool)} {d : Nat}
end
theorem ad4 {xs aU : List AC} (ao : xs.length = aU.length) (h : ∀ (i : Nat) x y, xs[i]? = some x → aU[i]? = some y → x = y ∨ (x = .c (.slice none 0 0) ∧ ∃ z, y = .p (cB z 0 []))) (U : Nat → Prop) (ad : Nat → Nat) (W : World) (vs : List Value) (hv : bV U ad W xs vs) : bV U ad W aU vs := by
 refine ⟨by rw [← ao]; exact hv.1, fun i y v ah hu => ?_⟩;have hi : i < xs.length := by rw [ao]; exact (bX.1 ah).1
 have aa := cp hi;have h1 := hv.2 i _ v aa hu;rcases h i _ y aa ah with e | ⟨e, z, rfl⟩
 ·rw [← e]; exact h1
 ·rw [e] at h1;exact OE z U ad W v h1
theorem Ka {xs aU : List AC} (ao : xs.length = aU.length) (h : ∀ (i : Nat) x y, xs[i]? = some x → aU[i]? = some y → x = y ∨ (x = .c (.slice none 0 0) ∧ ∃ z, y = .p (cB z 0 []))) : aj.bp (.w (.agg xs)) (.w (.agg aU)) := fun U ad W v hv => by
 obtain ⟨vs, rfl, hD⟩ := hv;exact ⟨vs, rfl, ad4 ao h U ad W vs hD⟩
section
variable {U : Nat → Prop} {W : World} {x y : AC} {xs aU : List AC}
end
structure SD where
 l : Nat
 U : Nat → Prop
 gD : World
 hx : Nat → Prop
 J : Nat → (Nat → Prop) → World → Prop
 afO : (Nat → Prop) → World → Prop
 xs : List (List aj)
section
variable {P : Program} {X : SD} {x y c : Code} {Q : Exit → Option Nat → aC → Prop} {g iW : Option Nat} {s s' : aC} {a a' : Act} {w w' w2 : World} {A : Nat → Prop} {ad bg : Nat → Nat} {C : Nat → Prop}
end
def Rs (oU : Bool → Prop) : e2 where
 holds w v := ∃ b, v = .bool b ∧ oU b
 lc w v b := False
 frame w w' v := fun h ar => ⟨h, fun b ab => ab⟩
 ik w v b := fun h ar => ar.elim
 cell w v := by rintro ⟨b, rfl, _⟩; rfl
abbrev Aw (oU : Bool → Prop) : aj := .w (.one (.p (Rs oU)))
section
variable {P : Program} {ops : Array Oper} {K : aC → Prop} {rest : List Oper} {s : aC} {d ty : Nat} {pos : String} {after : Array Edge} {guard : Option (Nat × Bool)}
theorem WC {op : BinOp} {t : TypeId} {x y : Operand} {a : Option Addr} {n c : Nat} {v : Value} : eqGuard op t x y (.slice a n c) v = pure () := by cases op <;> rfl
theorem Fg {t dK sz n e bytes : Nat} {x : Operand} {xs : List AC} [T : n0 P t e sz bytes] (hw : want ops ⟨some d, .binOp .eql t x (.const (.slice none 0 0)) dK, ty, pos, after, guard⟩ s = some true) (aa : s.look x = some (cM sz n xs)) (hd : Nat.blt d s.n = true) (h : bi P ops K rest (s.put (some d) (Aw fun b => b = true → n = 0))) : bi P ops K (⟨some d, .binOp .eql t x (.const (.slice none 0 0)) dK, ty, pos, after, guard⟩ :: rest) s := by
 obtain ⟨_, _, hu, _⟩ := qS T.h;refine fP (av := Aw fun b => b = true → n = 0) hw ⟨fun _ _ h => (by cases h), fun z aZ => ?_, fun U ad W env he => ?_, fun j ae => absurd ae (ll _ j)⟩ hd h
 ·simp [Op.operands] at aZ;rcases aZ with rfl | rfl
  ·exact ⟨_, aa⟩
  ·exact ⟨_, rfl⟩
 ·obtain ⟨⟨A, c, hv, _, _, dU⟩, _⟩ := he x (by simp [Op.operands]) _ aa;have aO : env (.const (.slice none 0 0)) = .slice none 0 0 := (he (.const (.slice none 0 0)) (by simp [Op.operands]) _ rfl).1;refine ⟨.bool A.isNone, ?_, ⟨_, rfl, fun ab => ?_⟩, fun b ab => ab.elim⟩
  ·simp only [execOp, hv, aO, WC, Sem.run_bind, Sem.run_pure, Result.andThen_ok, Lib.run_eql_slice_nil W t e A n c 0 0 hu]
  ·refine Classical.byContradiction fun aE => ?_;obtain ⟨a, _, e, _⟩ := dU (by omega);rw [e] at ab; cases ab
end
section
variable {P : Program} {c : Code} {s : aC}
theorem Rel.QO {B : eX} {A : Nat → Prop} {ad : Nat → Nat} {a : Act} {w : World} {d : Nat} {oU : Bool → Prop} (h : Rel B A s ad a w) (hd : s.tmps d = some (Aw oU)) : ∃ b, oU b ∧ Rel B A (s.put (some d) (bE b)) ad a w := by
 obtain ⟨v, h1, ⟨b, rfl, ab⟩, _⟩ := h.gO d _ hd;refine ⟨b, ab, h.P9 hd fun u hu _ => ?_⟩;rw [h1] at hu;cases hu;exact ⟨rfl, rfl⟩
theorem TK (d : Nat) {Q : Exit → aC → Prop} {oU : Bool → Prop} (hd : s.tmps d = some (Aw oU)) (h : ∀ b, oU b → fp P c Q (s.put (some d) (bE b))) : fp P c Q s := by
 intro ok B A ad a w ax;obtain ⟨b, ab, cu⟩ := ax.QO hd;exact h b ab (ok.put fun j ae => absurd ae (iO _ j)) B A ad a w cu
theorem Qt (d : Nat) {Q : Exit → aJ → aC → Prop} {R : aJ} {oU : Bool → Prop} (hd : s.tmps d = some (Aw oU)) (h : ∀ b, oU b → fq P c Q R (s.put (some d) (bE b))) : fq P c Q R s := by
 intro ok bt bS a w ⟨A, ad, ax⟩;obtain ⟨b, ab, cu⟩ := ax.rel.QO hd;exact h b ab (ok.put fun j ae => absurd ae (iO _ j)) bt bS a w ⟨A, ad, ax.next cu⟩
end
def AC.vv : AC → Bool
 | .p _ => false
 | _ => true
def mT (m : Mem) (R : aJ) : Prop := (∀ k cs, m k = some cs → cs.all AC.vv = true) ∧ ∀ i r, R i = some r → 0 < r.sz ∧ r.aU.all AC.vv = true
theorem bV.plain {U cC : Nat → Prop} {ad : Nat → Nat} {W bo : World} {xs : List AC} {vs : List Value} (h : bV U ad W xs vs) (hp : xs.all AC.vv = true) : bV cC ad bo xs vs := by
 refine ⟨h.1, fun i x v aa hv => ?_⟩;have h1 := h.2 i x v aa hv;have h2 := ct.1 hp x (dG aa);cases x with
 | c u => exact h1
 | own k o => exact h1
 | p S => cases h2
theorem bP.ok.plain {U cC : Nat → Prop} {ad : Nat → Nat} {W : World} {r : bP} (h : r.ok U ad W) (hs : 0 < r.sz) (hp : r.aU.all AC.vv = true) : r.ok cC ad W := by
 obtain ⟨xs, h1, h2⟩ := h.row hs;exact .inl ⟨hs, xs, h1, h2.plain hp⟩
abbrev mU (b off : Nat) : Value := .pointer (some ⟨b, off, none⟩)
abbrev dR (b : Nat) : Value := mU b 0
abbrev tL : Nat → Prop := fun _ => False
theorem e1.lt {U : Nat → Prop} {ad : Nat → Nat} {W : World} {m : Mem} {R : aJ} (h : e1 U ad W m R) {b : Nat} (ab : ec ad m R b) : b < W.heap.size := by
 rcases ab with ⟨k, cs, af, rfl⟩ | ⟨i, r, hi, aw⟩
 ·obtain ⟨vs, ty, h1, _⟩ := h.dx k cs af;exact (kr.1 h1).1
 ·exact (h.rows i r hi).1.lt aw
def k1 (ad : Nat → Nat) (m : Mem) (R : aJ) (k : Nat) : e2 where
 holds w v := v = dR (ad k) ∧ e1 tL ad w m R ∧ mT m R
 lc w v b := ec ad m R b
 frame := by
  rintro w w' v ⟨rfl, h, hp⟩ ar;refine ⟨⟨rfl, ⟨fun j cs ae => ?_, h.fG, h.inj, fun i r hi => ?_, h.apart⟩, hp⟩, fun b ab => ab⟩
  ·obtain ⟨vs, ty, h1, h2, ap⟩ := h.dx j cs ae;exact ⟨vs, ty, by rw [ar _ (.inl ⟨j, cs, ae, rfl⟩)]; exact h1, h2.plain (hp.1 j cs ae), ap⟩
  ·obtain ⟨h1, h2, ap⟩ := h.rows i r hi;obtain ⟨xs, g1, g2⟩ := h1.row (hp.2 i r hi).1;exact ⟨.inl ⟨(hp.2 i r hi).1, xs, Pd g1 fun g q => ar g (.inr ⟨i, r, hi, .inl q⟩), g2.plain (hp.2 i r hi).2⟩, h2, ap⟩
 ik := fun w v b ⟨_, h, _⟩ ab => h.lt ab
 cell := fun w v ⟨e, _⟩ => by rw [e]; rfl
def DG (ad : Nat → Nat) (m : Mem) (R : aJ) (k : Nat) : bP := ⟨0, 0, dR (ad k), 0, [.p (k1 ad m R k)]⟩
theorem OU {ad : Nat → Nat} {m : Mem} {R : aJ} {k : Nat} {W : World} (h : e1 tL ad W m R) (hp : mT m R) {b : Nat} : (DG ad m R k).own b ↔ ec ad m R b := by
 constructor
 ·rintro (h1 | ⟨_, S, w, h1, h2, ap⟩)
  ·cases h1
  ·cases h1; exact ap
 ·exact fun h1 => .inr ⟨rfl, k1 ad m R k, W, rfl, ⟨rfl, h, hp⟩, h1⟩
theorem OV {ad : Nat → Nat} {m : Mem} {R : aJ} {k : Nat} {b : Nat} (h : (DG ad m R k).own b) : ec ad m R b := by
 rcases h with h1 | ⟨_, S, w, h1, h2, ap⟩
 ·cases h1
 ·cases h1; exact ap
theorem abC {U : Nat → Prop} {ad bg : Nat → Nat} {m : Mem} {R : aJ} {k : Nat} {W : World} (h : e1 tL ad W m R) (hp : mT m R) : (DG ad m R k).ok U bg W :=
 .inr ⟨rfl, rfl, rfl, ⟨_, rfl, rfl, h, hp⟩, fun b ab => h.lt (OV ab)⟩
theorem abB {U : Nat → Prop} {ad bg : Nat → Nat} {m : Mem} {R : aJ} {k : Nat} {W : World} (h : (DG ad m R k).ok U bg W) : e1 tL ad W m R ∧ mT m R := by
 rcases h with ⟨h1, _⟩ | ⟨_, _, _, ⟨S, hS, a6⟩, _⟩
 ·cases h1
 ·cases hS; exact a6.2
theorem e1.sub {U : Nat → Prop} {ad : Nat → Nat} {W : World} {m m1 : Mem} {R bl : aJ} (h : e1 U ad W m R) (hm : ∀ k cs, m1 k = some cs → m k = some cs) (aq : bM bl R) (fG : ∀ k cs x j, m1 k = some cs → x ∈ cs → x.owns j → ∃ au, m1 j = some au) : e1 U ad W m1 bl := by
 refine ⟨fun k cs af => h.dx k cs (hm k cs af), fG, fun k k' cs au af eL => h.inj k k' cs au (hm k cs af) (hm k' au eL), fun i r hi => ?_, fun i j r q hi ae => h.apart i j r q (aq i r hi) (aq j q ae)⟩;obtain ⟨h1, h2, ap⟩ := h.rows i r (aq i r hi);exact ⟨h1, h2, fun g aw => ⟨(ap g aw).1, fun k cs af => (ap g aw).2 k cs (hm k cs af)⟩⟩
theorem e1.none {U : Nat → Prop} {ad : Nat → Nat} {W : World} {m : Mem} {R : aJ} (h : e1 U ad W m R) (hp : mT m R) : e1 tL ad W m R := by
 refine ⟨fun k cs af => ?_, h.fG, h.inj, fun i r hi => ?_, h.apart⟩
 ·obtain ⟨vs, ty, h1, h2, _⟩ := h.dx k cs af;exact ⟨vs, ty, h1, h2.plain (hp.1 k cs af), id⟩
 ·obtain ⟨h1, h2, ap⟩ := h.rows i r hi;exact ⟨h1.plain (hp.2 i r hi).1 (hp.2 i r hi).2, h2, fun g aw => ⟨id, (ap g aw).2⟩⟩
theorem e1.more {U : Nat → Prop} {ad : Nat → Nat} {W : World} {m : Mem} {R : aJ} (h : e1 tL ad W m R) (hp : mT m R) (dz : ∀ b, ec ad m R b → ¬ U b) : e1 U ad W m R := by
 refine ⟨fun k cs af => ?_, h.fG, h.inj, fun i r hi => ?_, h.apart⟩
 ·obtain ⟨vs, ty, h1, h2, _⟩ := h.dx k cs af;exact ⟨vs, ty, h1, h2.plain (hp.1 k cs af), dz _ (.inl ⟨k, cs, af, rfl⟩)⟩
 ·obtain ⟨h1, h2, ap⟩ := h.rows i r hi;exact ⟨h1.plain (hp.2 i r hi).1 (hp.2 i r hi).2, h2, fun g aw => ⟨dz g (.inr ⟨i, r, hi, aw⟩), (ap g aw).2⟩⟩
theorem e1.abl {U : Nat → Prop} {ad : Nat → Nat} {W : World} {m : Mem} {R : aJ} (h : e1 U ad W m R) {b : Nat} (ab : ec ad m R b) : ¬ U b := by
 rcases ab with ⟨k, cs, af, rfl⟩ | ⟨i, r, hi, aw⟩
 ·exact (h.dx k cs af).choose_spec.choose_spec.2.2
 ·exact ((h.rows i r hi).2.2 b aw).1
abbrev hY (p : Value) (S : e2) : bP := ⟨0, 0, p, 0, [.p S]⟩
def x1 (P : Program) (f : FuncId) (args : List aj) (p : Value) (S : e2) (post : aj → e2 → Prop) : Prop := ∀ i, c6 P f args cb (bJ i (hY p S)) fun v aG az => ∃ da, aG = cb ∧ az = bJ i (hY p da) ∧ post v da
def E8 (P : Program) (f : FuncId) (args : List aj) (post : Value → e2 → Prop) : Prop := ∀ i, c6 P f args cb fW fun v aG az => ∃ p S, aG = cb ∧ az = bJ i (hY p S) ∧ v = aQ p ∧ post p S
theorem PR {U : Nat → Prop} {ad : Nat → Nat} {W : World} {k off : Nat} {v : Value} (h : v = mU (ad k) off) : c9 U ad W (.w (.one (.own k off))) v := by subst h; rfl
theorem jR.closed {U : Nat → Prop} {ad bg : Nat → Nat} {W : World} {args : List aj} {vs : List Value} (ak : args.all aj.bb = true) (h : jR U ad W args vs) : jR U bg W args vs :=
 ⟨h.1, fun i x v aa hv => (h.2 i x v aa hv).map (fun b ab _ => ⟨ab, rfl⟩) fun j ae => absurd ae (aj.dy (ct.1 ak x (dG aa)) j)⟩
theorem DH {ad : Nat → Nat} {m : Mem} {R : aJ} {k : Nat} {b : Nat} (h : (hY (dR (ad k)) (k1 ad m R k)).own b) : ec ad m R b := OV h
theorem afb {P : Program} {f : FuncId} {args : List aj} {ad : Nat → Nat} {m : Mem} {R : aJ} {k off : Nat} {Post : aj → Mem → aJ → Prop} {Post2 : aj → Mem → aJ → Prop} (af : ∃ cs, m k = some cs) (ea : args.all aj.bb = true) (ak : c6 P f (.w (.one (.own k off)) :: args) m R Post) (i : Nat)
  (hp : ∀ r m1 bl eQ n1 gD v, Post r m1 bl → eQ k = ad k → e1 n1 eQ gD m1 bl → c9 n1 eQ gD r v → ∃ dN eV, Post2 dN cb eV ∧ dN.bb = true ∧ c9 n1 eQ gD dN v ∧ e1 n1 eQ gD cb eV ∧ (∃ q, eV i = some q) ∧ ∀ b, ec eQ cb eV b → ec eQ m1 bl b) : c6 P f (aQ (mU (ad k) off) :: args) cb (bJ i (hY (dR (ad k)) (k1 ad m R k))) Post2 := by
 refine ⟨fun U afN W vs cK ef dJ => ?_⟩;have hi : bJ i (hY (dR (ad k)) (k1 ad m R k)) i = some (hY (dR (ad k)) (k1 ad m R k)) := by unfold bJ; exact cr _ _ _
 obtain ⟨ee, _, u2⟩ := cK.rows i _ hi;obtain ⟨a6, oj⟩ := abB ee
 have gq : ∀ b, ec afN cb (bJ i (hY (dR (ad k)) (k1 ad m R k))) b ↔ ec ad m R b := fun b => by
  constructor
  ·rintro (⟨j, cs, ae, _⟩ | ⟨j, q, ae, aw⟩)
   ·cases ae
   ·obtain ⟨rfl, rfl⟩ := fI ae; exact DH aw
  ·exact fun h => .inr ⟨i, _, hi, (OU a6 oj).2 h⟩
 have dz : ∀ b, ec ad m R b → ¬ U b := fun b ab => (u2 b ((OU a6 oj).2 ab)).1;obtain ⟨hlen, hv⟩ := dJ
 match vs, hlen with
 | v0 :: vs, hlen =>
  have rW : v0 = mU (ad k) off := (hv 0 _ v0 rfl rfl).1;have y8 : jR U ad W args vs := jR.closed ea ⟨by simpa using hlen, fun j x v aa b8 => hv (j + 1) x v aa b8⟩;refine (ak.call U ad W (v0 :: vs) (a6.more oj dz) (fun x aa j ae => ?_) ⟨hlen, fun j x v aa b8 => ?_⟩).mono ?_
  ·rcases gM.1 aa with rfl | aa
   ·obtain ⟨y, ah, ae⟩ := ae;simp [bI.cells] at ah;subst ah;cases ae;exact af
   ·exact absurd ae (aj.dy (ct.1 ea x aa) j)
  ·match j with
   | 0 => cases aa; cases b8; exact PR rW
   | j + 1 => exact y8.2 j x v aa b8
  ·rintro e bo ⟨v, r, m1, bl, eQ, n1, rfl, jw, Cn, pD, iK, bB, cf, cG, cH, ab⟩;have ja : eQ k = ad k := by obtain ⟨cs, h⟩ := af; exact (bB k cs h).1
   obtain ⟨dN, eV, q1, q2, cg, ep, ln, zY⟩ := hp r m1 bl eQ n1 bo v jw ja Cn pD;refine ⟨v, dN, cb, eV, eQ, n1, rfl, q1, ep, cg, fun j ae => absurd ae (aj.dy q2 j), fun k cs af => (by cases af), fun j q ae => ?_, fun b ab => ?_, fun b ab => ?_, ⟨ab.os, ab.tape, ab.output, ab.size, fun b ar => ab.block b ⟨ar.1, fun GJ => ar.2 ((gq b).2 GJ)⟩⟩⟩
   ·obtain ⟨rfl, rfl⟩ := fI ae;exact ln
   ·rcases cG b ab with q | q | q
    ·exact .inl q
    ·exact .inr (.inl q)
    ·exact .inr (.inr ((gq b).2 q))
   ·rcases cH b (zY b ab) with q | q
    ·exact .inl ((gq b).2 q)
    ·exact .inr q
theorem OW {U : Nat → Prop} {ad bg : Nat → Nat} {W : World} {m m1 : Mem} {R bl : aJ} {k : Nat} (h : e1 U ad W m R) (hm : ∀ k cs, m1 k = some cs → m k = some cs) (aq : bM bl R) (fG : ∀ k cs x j, m1 k = some cs → x ∈ cs → x.owns j → ∃ au, m1 j = some au) (hp : mT m1 bl) :
  (hY (dR (ad k)) (k1 ad m1 bl k)).ok U bg W ∧ (∀ y ∈ (hY (dR (ad k)) (k1 ad m1 bl k)).aU, y.bb = true) ∧ ∀ g, (hY (dR (ad k)) (k1 ad m1 bl k)).own g → ¬ U g ∧ ∀ j cs, cb j = some cs → bg j ≠ g :=
 ⟨abC ((h.sub hm aq fG).none hp) hp, fun y ah => by simp at ah; subst ah; rfl, fun g aw => ⟨(h.sub hm aq fG).abl (DH aw), fun j cs ae => (by cases ae)⟩⟩
theorem QQ {P : Program} {f : FuncId} {args : List aj} {ad : Nat → Nat} {m : Mem} {R : aJ} {k off : Nat} {Post : aj → Mem → aJ → Prop} {post : aj → e2 → Prop} (af : ∃ cs, m k = some cs) (ea : args.all aj.bb = true) (ak : c6 P f (.w (.one (.own k off)) :: args) m R Post)
  (hp : ∀ v m1 bl, Post v m1 bl → v.bb = true ∧ mT m1 bl ∧ ∀ eQ, eQ k = ad k → post v (k1 eQ m1 bl k)) : x1 P f (aQ (mU (ad k) off) :: args) (dR (ad k)) (k1 ad m R k) post := by
 intro i;refine afb af ea ak i fun r m1 bl eQ n1 gD v jw ja cK pD => ?_;obtain ⟨c1, c2, kD⟩ := hp _ _ _ jw;have ab := OW (bg := eQ) (k := k) cK (fun _ _ h => h) (bM.refl _) cK.fG c2;refine ⟨r, bJ i (hY (dR (ad k)) (k1 eQ m1 bl k)), ⟨_, rfl, rfl, kD eQ ja⟩, c1, pD, ⟨fun k cs af => (by cases af), fun k cs x j af => (by cases af), fun k k' cs au af => (by cases af), fun j q ae => ?_, fun j eP q cA ae jV cq => ?_⟩, ⟨_, by unfold bJ; exact cr _ _ _⟩, ?_⟩
 ·obtain ⟨rfl, rfl⟩ := fI ae;rw [← ja]; exact ab
 ·obtain ⟨rfl, _⟩ := fI ae;obtain ⟨rfl, _⟩ := fI jV;exact absurd rfl cq
 ·rintro b (⟨j, cs, ae, _⟩ | ⟨j, q, ae, aw⟩)
  ·cases ae
  ·obtain ⟨rfl, rfl⟩ := fI ae;rw [← ja] at aw;exact DH aw
theorem afa {P : Program} {f : FuncId} {args : List aj} {Post : aj → Mem → aJ → Prop} {post : Value → e2 → Prop} (ak : c6 P f args cb fW Post)
  (hp : ∀ v m1 bl, Post v m1 bl → ∃ k, v = .w (.one (.own k 0)) ∧ mT m1 bl ∧ ∀ eQ, post (dR (eQ k)) (k1 eQ m1 bl k)) : E8 P f args post := by
 intro i;refine ⟨fun U ad W vs cK ef dJ => (ak.call U ad W vs cK ef dJ).mono ?_⟩;rintro e bo ⟨v, r, m1, bl, eQ, n1, rfl, jw, Cn, pD, iK, bB, cf, cG, cH, ab⟩;obtain ⟨k, rfl, c2, kD⟩ := hp _ _ _ jw;have Xg := OW (bg := eQ) (k := k) Cn (fun _ _ h => h) (bM.refl _) Cn.fG c2;have hv : v = dR (eQ k) := pD;refine ⟨v, aQ (dR (eQ k)), cb, bJ i (hY (dR (eQ k)) (k1 eQ m1 bl k)), eQ, n1, rfl, ⟨_, _, rfl, rfl, rfl, kD eQ⟩, ⟨fun k cs af => (by cases af), fun k cs x j af => (by cases af), fun k k' cs au af => (by cases af), fun j q ae => ?_, fun j eP q cA ae jV cq => ?_⟩, ⟨hv, rfl⟩, fun j ae => absurd ae (iO _ j), fun k cs af => (by cases af), fun j q ae => (by cases ae), cG, fun b ab => ?_, ab⟩
 ·obtain ⟨rfl, rfl⟩ := fI ae;exact Xg
 ·obtain ⟨rfl, _⟩ := fI ae;obtain ⟨rfl, _⟩ := fI jV;exact absurd rfl cq
 ·rcases ab with ⟨j, cs, ae, _⟩ | ⟨j, q, ae, aw⟩
  ·cases ae
  ·obtain ⟨rfl, rfl⟩ := fI ae;exact cH b (DH aw)
section
variable {P : Program} {R : aJ} {s : aC} {ops : Array Oper} {dr : Option (List Nat)} {ty : Nat} {pos : String} {after : Array Edge} {guard : Option (Nat × Bool)} {K : aJ → aC → Prop} {rest : List Oper}
theorem zh (i : Nat) {dst : Option Nat} {f : FuncId} {g : Operand} {aS : Array TypeId} {l : List Operand} {args : List aj} {p : Value} {S : e2} {post : aj → e2 → Prop} [E : Enters P f] (hw : want ops ⟨dst, .call ⟨.value g, l.toArray, aS⟩, ty, pos, after, guard⟩ s = some true) (hm : dL dr ⟨dst, .call ⟨.value g, l.toArray, aS⟩, ty, pos, after, guard⟩ = true)
  (aw : s.look g = some (aQ (.func (.func f) #[] #[]))) (aK : l.map s.look = args.map some) (hp : x1 P f args p S post) (hi : R i = some (hY p S)) (ea : args.all aj.bb = true) (hd : kF dst s.n = true)
  (h : ∀ v da, post v da → cL P ops dr K rest (bQ R i (hY p da)) (s.put dst v)) : cL P ops dr K (⟨dst, .call ⟨.value g, l.toArray, aS⟩, ty, pos, after, guard⟩ :: rest) R s := by
 refine u6 hw hm aw aK (hp i) (fun x aa j ae => absurd ae (aj.dy (ct.1 ea x aa) j)) (fun k' au aF => by cases aF) (fun ft a7 aF => ?_) (fun k' au x j aF aa ae => by cases aF) hd ?_
 ·obtain ⟨rfl, rfl⟩ := fI aF; exact hi
 ·rintro v aG az ⟨da, rfl, rfl, al⟩;refine ⟨fun k' c aF => (by cases aF), ?_⟩;rw [show b0 (bJ i (hY p da)) R = bQ R i (hY p da) from vu R i _, tS];exact h v da al
theorem MV (i : Nat) {dst : Option Nat} {f : FuncId} {g : Operand} {aS : Array TypeId} {l : List Operand} {args : List aj} {post : Value → e2 → Prop} [E : Enters P f] (hw : want ops ⟨dst, .call ⟨.value g, l.toArray, aS⟩, ty, pos, after, guard⟩ s = some true) (hm : dL dr ⟨dst, .call ⟨.value g, l.toArray, aS⟩, ty, pos, after, guard⟩ = true)
  (aw : s.look g = some (aQ (.func (.func f) #[] #[]))) (aK : l.map s.look = args.map some) (hp : E8 P f args post) (ea : args.all aj.bb = true) (hd : kF dst s.n = true)
  (h : ∀ p S, post p S → cL P ops dr K rest (bQ R i (hY p S)) (s.put dst (aQ p))) : cL P ops dr K (⟨dst, .call ⟨.value g, l.toArray, aS⟩, ty, pos, after, guard⟩ :: rest) R s := by
 refine u6 hw hm aw aK (hp i) (fun x aa j ae => absurd ae (aj.dy (ct.1 ea x aa) j)) (fun k' au aF => by cases aF) (fun ft a7 aF => by cases aF) (fun k' au x j aF aa ae => by cases aF) hd ?_;rintro v aG az ⟨p, S, rfl, rfl, rfl, al⟩;refine ⟨fun k' c aF => (by cases aF), ?_⟩;rw [show b0 (bJ i (hY p S)) R = bQ R i (hY p S) from vu R i _, tS];exact h p S al
end
section
variable {P : Program} {s : aC} {ops : Array Oper} {K : aC → Prop} {rest : List Oper} {ty : Nat} {pos : String} {after : Array Edge} {guard : Option (Nat × Bool)} {d : Nat}
theorem sS {x : Operand} {b off : Nat} (hw : want ops ⟨some d, .nilCheck x, ty, pos, after, guard⟩ s = some true) (aa : s.look x = some (aQ (mU b off))) (hd : Nat.blt d s.n = true) (h : bi P ops K rest (s.put (some d) (aQ (mU b off)))) : bi P ops K (⟨some d, .nilCheck x, ty, pos, after, guard⟩ :: rest) s := by
 refine fP hw ⟨fun _ _ h => (by cases h), fun y ah => ?_, fun U ad W env he => ?_, fun j ae => absurd ae (iO _ j)⟩ hd h
 ·simp [Op.operands] at ah;subst ah;exact ⟨_, aa⟩
 ·have hv : env x = mU b off := (he x (by simp [Op.operands]) _ aa).1;exact ⟨_, by simp only [execOp, hv]; rfl, rfl, rfl⟩
theorem sQ {x : Operand} {pW i b off hR : Nat} [F : mC P pW i hR] (hw : want ops ⟨some d, .fieldAddr pW x i, ty, pos, after, guard⟩ s = some true) (aa : s.look x = some (aQ (mU b off))) (hd : Nat.blt d s.n = true) (h : bi P ops K rest (s.put (some d) (aQ (mU b (off + hR))))) : bi P ops K (⟨some d, .fieldAddr pW x i, ty, pos, after, guard⟩ :: rest) s := by
 refine fP (av := aQ (mU b (off + hR))) hw ⟨fun _ _ h => (by cases h), fun y ah => ?_, fun U ad W env he => ?_, fun j ae => absurd ae (iO _ j)⟩ hd h
 ·simp [Op.operands] at ah;subst ah;exact ⟨_, aa⟩
 ·have hp : env x = .pointer (some ⟨b, off, none⟩) := (he x (by simp [Op.operands]) _ aa).1;have hF := F.h;unfold te at hF
  split at hF
  ·rename_i bm hu;cases ar : bm[i]? with
   | none => rw [ar] at hF; cases hF
   | some f =>
    rw [ar] at hF;simp only [j2] at hF;cases hi : P.info? f.type with
    | none => rw [hi] at hF; cases hF
    | some t =>
     rw [hi] at hF;simp only [j2] at hF
     split at hF
     ·cases hF
     ·rename_i cq;cases hF;refine ⟨.pointer (some ⟨b, off + f.offset, none⟩), ?_, rfl, rfl⟩;have ki : (⟨b, off, none⟩ : Addr).add f.offset = ⟨b, off + f.offset, none⟩ := by unfold Addr.add; split <;> simp_all
      simp only [execOp, Instr.fieldAt, hp, Instr.sureAddr, Sem.run_bind, Sem.run_pure, Result.andThen_ok, run_underlying hu, ar, fieldPlace, hq hi, if_neg cq, ki]
  ·cases hF
theorem aed (n : Nat) {t e : TypeId} (hu : P.underlying t = some (.pointer e)) (a : Addr) (W : World) : (Op.equalIn (n + 1) t (.pointer (some a)) (.pointer none)).run P W = .ok false W := by
 simp [Op.equalIn, run_underlying hu]
theorem aee {t e : TypeId} (hu : P.underlying t = some (.pointer e)) (a : Addr) (W : World) : (Op.equal t (.pointer (some a)) (.pointer none)).run P W = .ok false W := aed 9999 hu a W
theorem aec {t e : TypeId} (hu : P.underlying t = some (.pointer e)) (a : Addr) (W : World) : (binOp .eql t (.pointer (some a)) (.pointer none)).run P W = .ok (.bool false) W := by
 simp only [binOp];simp [aee hu]
theorem WB {op : BinOp} {t : TypeId} {x y : Operand} {a : Option Addr} {v : Value} : eqGuard op t x y (.pointer a) v = pure () := by cases op <;> rfl
def Ni (P : Program) (t : TypeId) : Bool := match P.underlying t with
 | some (.pointer _) => true
 | _ => false
end
section
variable {P : Program} {s : aC} {ops : Array Oper} {K : aC → Prop} {rest : List Oper} {ty : Nat} {pos : String} {after : Array Edge} {guard : Option (Nat × Bool)} {d : Nat}
end
theorem e2.same {A B : e2} (h1 : A.holds = B.holds) (h2 : A.lc = B.lc) : A = B := by
 cases A; cases B; cases h1; cases h2; rfl
theorem AC.P6 {bK : Nat → Nat} (x : AC) : (x.ba bK).vv = x.vv := by cases x <;> rfl
theorem adb {bK b7 h4 : Nat → Nat} (fs : ∀ j, bK (bK j) = j) (fF : ∀ j, b7 (h4 j) = j) {m : Mem} {R : aJ} : mT (m.ba bK) (R.ba b7) ↔ mT m R := by
 constructor
 ·rintro ⟨h1, h2⟩;refine ⟨fun k cs af => ?_, fun i r hi => h2 (h4 i) r (by unfold aJ.ba; rw [fF]; exact hi)⟩;have := h1 _ _ (Mem.qQ fs af);rw [List.all_map] at this;rw [ct] at this ⊢;exact fun x aa => (AC.P6 x).symm.trans (this x aa)
 ·rintro ⟨h1, h2⟩;refine ⟨fun k cs af => ?_, fun i r hi => h2 (b7 i) r hi⟩;obtain ⟨ds, hd, rfl⟩ := Mem.qR af;have := h1 _ _ hd;rw [List.all_map];rw [ct] at this ⊢;exact fun x aa => (AC.P6 x).trans (this x aa)
theorem afc {bK b7 h4 : Nat → Nat} (fs : ∀ j, bK (bK j) = j) (fF : ∀ j, b7 (h4 j) = j) (vb : ∀ j, h4 (b7 j) = j) {ad : Nat → Nat} {m : Mem} {R : aJ} {k : Nat} : k1 ad (m.ba bK) (R.ba b7) (bK k) = k1 (fun j => ad (bK j)) m R k := by
 refine e2.same ?_ ?_
 ·funext w v;show (v = dR (ad (bK k)) ∧ e1 tL ad w (m.ba bK) (R.ba b7) ∧ mT (m.ba bK) (R.ba b7)) = (v = dR (ad (bK k)) ∧ e1 tL (fun j => ad (bK j)) w m R ∧ mT m R);rw [propext (adb fs fF), propext (e1.ba fs fF vb)]
 ·funext w v b;exact propext (ec.ba fs fF)
theorem eK {P : Program} {fn : Func} {l : List ResultVar} {xs : List bI} {R R0 bl : aJ} {s : aC} {cs au : List AC} {Post : aj → Mem → aJ → Prop} (aq : fn.results = l.toArray) (h : l.map (iw P s) = xs.map some) (af : s.mem 1000 = some au) (ax : bM bl R) (ak : au.all AC.bb = true) (aa : (packed xs).bb = true) (aH : ∀ i r, R0 i = some r → ∃ a7, bl i = some a7)
  (hp : Post (packed xs) (cI 1000 au) bl) : tr P fn (cI 1000 cs) R0 Post R s := by
 refine ⟨xs, packed xs, cI 1000 au, bl, by rw [aq]; exact h, .refl _, hp, fun k c h => ?_, ax, fun j ae => absurd ae (aj.dy aa j), fun k c x j h aa ae => ?_, fun k c h => ?_, aH⟩
 ·obtain ⟨rfl, rfl⟩ := hl h; exact af
 ·obtain ⟨rfl, rfl⟩ := hl h; exact absurd ae (AC.dy (ct.1 ak x aa) j)
 ·obtain ⟨rfl, rfl⟩ := hl h; exact ⟨au, by unfold cI; exact cr _ _ _⟩
theorem CC (k : Nat) {P : Program} {fn : Func} {l : List ResultVar} {xs : List bI} {R bl : aJ} {s : aC} {au : List AC} {Post : aj → Mem → aJ → Prop} (aq : fn.results = l.toArray) (h : l.map (iw P s) = xs.map some) (af : s.mem k = some au) (ax : bM bl R) (ak : au.all AC.bb = true) (aa : (packed xs).xm k = true)
  (hp : Post (packed xs) (cI k au) bl) : tr P fn cb fW Post R s := by
 refine ⟨xs, packed xs, cI k au, bl, by rw [aq]; exact h, .refl _, hp, fun k c h => ?_, ax, fun j ae => ?_, fun k c x j h zk ae => ?_, fun k c h => (by cases h), fun i r h => (by cases h)⟩
 ·obtain ⟨rfl, rfl⟩ := hl h; exact af
 ·rw [aj.abP aa ae]; exact ⟨au, by unfold cI; exact cr _ _ _⟩
 ·obtain ⟨rfl, rfl⟩ := hl h; exact absurd ae (AC.dy (ct.1 ak x zk) j)
section
variable {P : Program} {R : aJ} {s : aC} {ops : Array Oper} {dr : Option (List Nat)} {ty : Nat} {pos : String} {after : Array Edge} {guard : Option (Nat × Bool)} {K : aJ → aC → Prop} {rest : List Oper}
end
def oV (P : Program) (f : FuncId) (args : List aj) (post : aj → bP → Prop) : Prop :=
 ∀ i, c6 P f args cb fW fun v aG az => ∃ q, aG = cb ∧ az = bJ i q ∧ 0 < q.sz ∧ post v q
theorem Fc {P : Program} {f : FuncId} {args : List aj} {post : aj → bP → Prop} (aK : args.all aj.bb = true) (hp : ∀ v q, post v q → v.bb = true)
  (h : c6 P f args cb fW fun v aG az => ∃ q, aG = cb ∧ az = bJ 0 q ∧ 0 < q.sz ∧ post v q) : oV P f args post := by
 intro i;have h1 := h.ba (bK := fun j => j) (b7 := swp 0 i) (h4 := swp 0 i) (fun _ => rfl) (mz _ _) (mz _ _);rw [P2 aK, show Mem.ba (fun j => j) cb = cb from rfl, show aJ.ba (swp 0 i) fW = fW from rfl] at h1;refine ⟨fun U ad W vs cK ef dJ => (h1.call U ad W vs cK ef dJ).mono ?_⟩;rintro e bo ⟨v1, cQ, aG, az, bg, cC, cY, ⟨dN, m2, eV, ⟨q, rfl, rfl, aZ, al⟩, rfl, rfl, rfl⟩, lV⟩;rw [show Mem.ba (fun j => j) cb = cb from rfl, Ac, ua (hp _ _ al)] at lV;exact ⟨v1, dN, cb, bJ i q, bg, cC, cY, ⟨q, rfl, rfl, aZ, al⟩, lV⟩
theorem yU {P : Program} {fn : Func} {l : List ResultVar} {xs : List bI} {R : aJ} {s : aC} {q : bP} {post : aj → bP → Prop} (aq : fn.results = l.toArray) (h : l.map (iw P s) = xs.map some) (hi : R 0 = some q) (aa : (packed xs).bb = true) (y7 : 0 < q.sz)
  (hp : post (packed xs) q) : tr P fn cb fW (fun v aG az => ∃ q, aG = cb ∧ az = bJ 0 q ∧ 0 < q.sz ∧ post v q) R s := by
 refine ⟨xs, packed xs, cb, bJ 0 q, by rw [aq]; exact h, .refl _, ⟨q, rfl, rfl, y7, hp⟩, fun k c h => (by cases h), fun i r h => ?_, fun j ae => absurd ae (aj.dy aa j), fun k c x j h => (by cases h), fun k c h => (by cases h), fun i r h => (by cases h)⟩;obtain ⟨rfl, rfl⟩ := fI h; exact hi
section
variable {P : Program} {R : aJ} {s : aC} {ops : Array Oper} {dr : Option (List Nat)} {ty : Nat} {pos : String} {after : Array Edge} {guard : Option (Nat × Bool)} {K : aJ → aC → Prop} {rest : List Oper}
end
section
variable {P : Program} {U k5 : Nat → Prop} {ad : Nat → Nat} {w : World}
theorem bP.ok.QP {r : bP} (h : r.ok U ad w) (hs : 0 < r.sz) (AD : List AC) (ah : ∀ xs, bV U ad w r.aU xs → bV k5 ad w AD xs) (ak : ∀ y ∈ AD, y.bb = true) (dz : ∀ b, r.own b → k5 b) : gn k5 ad w (.p (cB r.sz r.n AD)) r.v := by
 obtain ⟨xs, ay, GR⟩ := h.row hs;have ao := ah xs GR;have nw := ao.1;obtain ⟨kL, aE | ⟨g, cap, cur, kk, qp, uW, eM, js, ev, nC⟩⟩ := id ay
 ·obtain ⟨aI, aO⟩ := aE;have : AD = [] := mv (by rw [nw, kL, aO]; simp);rw [aI];exact ⟨⟨none, 0, by rw [aO], by omega, by rw [this, aO]; simp, fun h => absurd h (by omega)⟩, fun b ⟨c', a', q, aE, ab⟩ => by cases q⟩
 ·have tp := ay.cells (g := g) (by rw [kk]; rfl);have X7 : r.own g := .inl (by rw [kk]; rfl);rw [kk];have qn : ky w ⟨g, 0, none⟩ AD xs := ⟨(kr.1 uW).1, ao.wu ak fun b _ _ => ⟨trivial, rfl⟩, tp, ak⟩;refine ⟨⟨some ⟨g, 0, none⟩, cap, rfl, eM, by rw [nw]; exact kL, fun aE => ⟨⟨g, 0, none⟩, xs, rfl, qn⟩⟩, ?_⟩;rintro b ⟨c', a', q, aE, ar⟩;cases q;rcases ar with rfl | ⟨j, y, v, ah, hv, gh⟩
  ·exact dz g X7
  ·have bj : j < xs.length := by rw [← nw]; exact (bX.1 ah).1
   have h2 := tp j _ (cp bj);rw [hv] at h2;cases h2;have ap := ao.2 j y _ ah (cp bj);cases y with
   | c u => cases gh
   | own k o => cases gh
   | p S => exact ap.2 b gh
def AZ (r : aj) : Prop := ∀ (U cC : Nat → Prop) (ad bg : Nat → Nat) (W bo : World) v, c9 U ad W r v → c9 cC bg bo r v
def ui (aU : List AC) : Prop := ∀ (U cC : Nat → Prop) (ad bg : Nat → Nat) (W bo : World) xs, bV U ad W aU xs → bV cC bg bo aU xs
theorem ui.of {aU : List AC} (h : ∀ y ∈ aU, ∃ v, y = .c v) : ui aU := fun U cC ad bg W bo xs aa => ⟨aa.1, fun i y v ah hv => by
 have h1 := aa.2 i y v ah hv;obtain ⟨u, rfl⟩ := h y (dG ah);exact h1⟩
theorem AZ.one {v : Value} : AZ (aQ v) := fun U cC ad bg W bo u h => h
theorem Xl {f : FuncId} {args rr : List aj} {R0 : aJ} {Post : aj → Mem → aJ → Prop} (hp : c6 P f rr cb fW Post) (ak : rr.all aj.bb = true)
  (hv : ∀ U ad W vs, e1 U ad W cb R0 → jR U ad W args vs → jR (fun b => U b ∨ ec ad cb R0 b) ad W rr vs)
  (jw : ∀ r aG bl, Post r aG bl → aG = cb ∧ AZ r ∧ r.bb = true ∧ ∀ i q, bl i = some q → 0 < q.sz ∧ ui q.aU) :
  c6 P f args cb R0 fun r aG az => ∃ bl, Post r cb bl ∧ aG = cb ∧ az = b0 bl R0 := by
 refine ⟨fun U ad W vs cK ef dJ => ?_⟩;have WS : e1 (fun b => U b ∨ ec ad cb R0 b) ad W cb fW := ⟨fun k cs af => (by cases af), fun k cs x j af => (by cases af), fun k k' cs au af => (by cases af), fun i q hi => (by cases hi), fun i j q cA hi => (by cases hi)⟩;have bj : ∀ i q g, R0 i = some q → q.own g → g < W.heap.size := fun i q g hi aw => (cK.rows i q hi).1.lt aw;refine (hp.call _ ad W vs WS (fun x aa j ae => absurd ae (aj.dy (ct.1 ak x aa) j)) (hv U ad W vs cK dJ)).mono ?_;rintro e bo ⟨v, r, aG, bl, bg, cC, rfl, h1, h2, ap, aL, dk, fV, jo, pq, iG⟩;obtain ⟨rfl, ar, nz, Yo⟩ := jw r aG bl h1
 have zi : ∀ b, b < W.heap.size → bo.heap[b]? = W.heap[b]? := fun b ab => iG.block b ⟨ab, by
  rintro (⟨k, cs, af, _⟩ | ⟨i, q, hi, _⟩)
  ·cases af
  ·cases hi⟩
 have pA : ∀ i q g, bl i = some q → q.own g → W.heap.size ≤ g := fun i q g hi aw => (pq g (.inr ⟨i, q, hi, aw⟩)).elim (fun h => by
  rcases h with ⟨k, cs, af, _⟩ | ⟨i, q, hi, _⟩
  ·cases af
  ·cases hi) id
 refine ⟨v, r, cb, b0 bl R0, bg, fun b => U b ∧ b < W.heap.size, rfl, ⟨bl, h1, rfl, rfl⟩, ⟨fun k cs af => (by cases af), fun k cs x j af => (by cases af), fun k k' cs au af => (by cases af), fun i q hi => ?_, fun i j q cA hi ae gu g aw ew => ?_⟩, ar _ _ _ _ _ _ v ap, fun j ae => absurd ae (aj.dy nz j), fun k cs af => (by cases af), fun i q hi => ?_, fun b ab => .inl ab.1, fun b ab => ?_, ⟨iG.os, iG.tape, iG.output, iG.size, fun b ab => zi b ab.1⟩⟩
 ·rcases jE hi with hi | ⟨_, hi⟩
  ·obtain ⟨q1, q2, cg⟩ := h2.rows i q hi;obtain ⟨jk, z2⟩ := Yo i q hi;obtain ⟨xs, ay, ao⟩ := q1.row jk;exact ⟨.inl ⟨jk, xs, ay, z2 _ _ _ _ _ _ xs ao⟩, q2, fun g aw => ⟨fun hu => by have := pA i q g hi aw; have := hu.2; omega, fun k cs af => by cases af⟩⟩
  ·obtain ⟨q1, q2, cg⟩ := cK.rows i q hi;exact ⟨q1.kept q2 (fun g aw => zi g (bj i q g hi aw)) iG.size fun b ab ao => ⟨⟨ab, ao⟩, zi b ao⟩, q2, fun g aw => ⟨fun hu => (cg g aw).1 hu.1, fun k cs af => by cases af⟩⟩
 ·rcases jE hi with hi | ⟨_, hi⟩ <;> rcases jE ae with ae | ⟨_, ae⟩
  ·exact h2.apart i j q cA hi ae gu g aw ew
  ·have := pA i q g hi aw; have := bj j cA g ae ew; omega
  ·have := pA j cA g ae ew; have := bj i q g hi aw; omega
  ·exact cK.apart i j q cA hi ae gu g aw ew
 ·cases al : bl i with
  | some x => exact ⟨x, hn al⟩
  | none => exact ⟨q, by rw [ho al]; exact hi⟩
 ·rcases ab with ⟨k, cs, af, _⟩ | ⟨i, q, hi, aw⟩
  ·cases af
  ·rcases jE hi with hi | ⟨_, hi⟩
   ·exact .inr (pA i q b hi aw)
   ·exact .inl (.inr ⟨i, q, hi, aw⟩)
end
section
variable {P : Program} {R : aJ} {s : aC} {ops : Array Oper} {dr : Option (List Nat)} {ty : Nat} {pos : String} {after : Array Edge} {guard : Option (Nat × Bool)} {K : aJ → aC → Prop} {rest : List Oper}
theorem MQ {dst : Option Nat} {f : FuncId} {g : Operand} {aS : Array TypeId} {l : List Operand} {args : List aj} {R0 : aJ} {Post : aj → Mem → aJ → Prop} [E : Enters P f] (hw : want ops ⟨dst, .call ⟨.value g, l.toArray, aS⟩, ty, pos, after, guard⟩ s = some true) (hm : dL dr ⟨dst, .call ⟨.value g, l.toArray, aS⟩, ty, pos, after, guard⟩ = true)
  (aw : s.look g = some (aQ (.func (.func f) #[] #[]))) (aK : l.map s.look = args.map some) (hp : c6 P f args cb R0 Post) (aq : bM R0 R) (ea : args.all aj.bb = true) (hd : kF dst s.n = true)
  (h : ∀ r aG az, Post r aG az → aG = cb ∧ cL P ops dr K rest (b0 az R) (s.put dst r)) : cL P ops dr K (⟨dst, .call ⟨.value g, l.toArray, aS⟩, ty, pos, after, guard⟩ :: rest) R s := by
 refine u6 hw hm aw aK hp (fun x aa j ae => absurd ae (aj.dy (ct.1 ea x aa) j)) (fun k' au aF => by cases aF) aq (fun k' au x j aF aa ae => by cases aF) hd ?_;rintro r aG az al;obtain ⟨rfl, aF⟩ := h r aG az al;refine ⟨fun k' au aF => (by cases aF), ?_⟩;have dp : s.over cb = s := rfl;rw [dp]; exact aF
end
def iE (g e : Nat) (cs : List AC) : bP := ⟨e, cs.length, .slice (some ⟨g, 0, none⟩) 1 1, 1, cs⟩
theorem uI {g e : Nat} {cs : List AC} (aZ : 0 < cs.length) {b : Nat} : (iE g e cs).own b ↔ b = g := by
 constructor
 ·intro h;have h := bP.oE h (by exact aZ);have : (some g : Option Nat) = some b := h;exact (ms this).symm
 ·rintro rfl; exact .inl rfl
theorem KA {U : Nat → Prop} {ad : Nat → Nat} {W : World} {g e : Nat} {cs : List AC} (aZ : 0 < cs.length) : (iE g e cs).ok U ad W ↔ ∃ vs : List Value, W.heap[g]? = some (.cells vs.toArray e (0, 0)) ∧ bV U ad W cs vs := by
 constructor
 ·intro h;obtain ⟨xs, ⟨ao, a6⟩, aq⟩ := h.row aZ;rcases a6 with ⟨aH, _⟩ | ⟨iW, cap, cur, hv, _, uW, _, _, ak, hj⟩
  ·cases aH
  ·cases hv;have ak : cur.size = 1 * cs.length := ak;have hj : cur.toList.take (1 * cs.length) = xs := hj;have aI : cur.toList = xs := by rw [← hj]; exact (h0 (by rw [Array.length_toList]; omega)).symm
   refine ⟨xs, ?_, aq⟩;rw [← aI, Array.toArray_toList];exact uW
 ·rintro ⟨vs, h1, h2⟩;have ao := h2.1;refine .inl ⟨aZ, vs, ⟨by show vs.length = 1 * cs.length; omega, .inr ⟨g, 1, vs.toArray, rfl, eF _, h1, dW _, by unfold maxLen; decide, by show vs.length = 1 * cs.length; omega, ?_⟩⟩, h2⟩;show vs.take (1 * cs.length) = vs;exact h0 (by omega)
theorem tm {ad : Nat → Nat} {k g e i : Nat} {cs : List AC} {R : aJ} (aZ : 0 < cs.length) (hi : R i = none) (af : ad k = g) {b : Nat} {bg : Nat → Nat} : ec ad (cI k cs) R b ↔ ec bg cb (bQ R i (iE g e cs)) b := by
 constructor
 ·rintro (⟨k', au, h1, h2⟩ | ⟨j, r, h1, h2⟩)
  ·obtain ⟨rfl, rfl⟩ := hl h1;exact .inr ⟨i, _, cr _ _ _, (uI aZ).2 (h2.symm.trans af)⟩
  ·have : j ≠ i := fun e => by subst e; rw [hi] at h1; cases h1
   exact .inr ⟨j, r, by rw [cl _ _ this]; exact h1, h2⟩
 ·rintro (⟨k', au, h1, h2⟩ | ⟨j, r, h1, h2⟩)
  ·cases h1
  ·by_cases la : j = i
   ·subst la;rw [cr] at h1;cases h1;exact .inl ⟨k, cs, by unfold cI; exact cr _ _ _, af.trans ((uI aZ).1 h2).symm⟩
   ·rw [cl _ _ la] at h1;exact .inr ⟨j, r, h1, h2⟩
theorem Mo {U : Nat → Prop} {ad bg : Nat → Nat} {W : World} {k g e i : Nat} {cs : List AC} {R : aJ} (aZ : 0 < cs.length) (ak : cs.all AC.bb = true) (hi : R i = none) (af : ad k = g) (h : e1 U bg W cb (bQ R i (iE g e cs))) : e1 U ad W (cI k cs) R := by
 have cq : ∀ {j r}, R j = some r → j ≠ i := fun {j r} h1 e => by subst e; rw [hi] at h1; cases h1
 obtain ⟨h1, h2, ap⟩ := h.rows i _ (cr _ _ _);obtain ⟨vs, aP, w2⟩ := (KA aZ).1 h1;have cO := ct.1 ak;refine ⟨fun k' au eL => ?_, fun k' au x j eL aa ae => ?_, fun bB cf c1 c2 h1 h2 _ => ?_, fun j r ae => ?_, fun j eP r q ae jV CM => ?_⟩
 ·obtain ⟨rfl, rfl⟩ := hl eL;exact ⟨vs, e, by rw [af]; exact aP, w2.map (fun b ab _ => ⟨ab, rfl⟩) fun j x aa ae => absurd ae (AC.dy (cO x aa) j), by rw [af]; exact (ap g ((uI aZ).2 rfl)).1⟩
 ·obtain ⟨rfl, rfl⟩ := hl eL;exact absurd ae (AC.dy (cO x aa) j)
 ·exact (hl h1).1.trans (hl h2).1.symm
 ·obtain ⟨q1, q2, cg⟩ := h.rows j r (by rw [cl _ _ (cq ae)]; exact ae);refine ⟨q1.kept q2 (fun _ _ => rfl) (dW _) (fun b ab _ => ⟨ab, rfl⟩), q2, fun b ab => ⟨(cg b ab).1, fun k' au eL e => ?_⟩⟩;obtain ⟨rfl, rfl⟩ := hl eL;exact h.apart i j _ r (cr _ _ _) (by rw [cl _ _ (cq ae)]; exact ae) (Ne.symm (cq ae)) b ((uI aZ).2 (e.symm.trans af)) ab
 ·exact h.apart j eP r q (by rw [cl _ _ (cq ae)]; exact ae) (by rw [cl _ _ (cq jV)]; exact jV) CM
theorem Kz {U : Nat → Prop} {ad bg : Nat → Nat} {W : World} {k i : Nat} {cs : List AC} {R : aJ} (aZ : 0 < cs.length) (ak : cs.all AC.bb = true) (hi : R i = none) (h : e1 U ad W (cI k cs) R) : ∃ e, e1 U bg W cb (bQ R i (iE (ad k) e cs)) := by
 have cq : ∀ {j r}, R j = some r → j ≠ i := fun {j r} h1 e => by subst e; rw [hi] at h1; cases h1
 have og : cI k cs k = some cs := by unfold cI; exact cr _ _ _
 obtain ⟨vs, e, aP, w2, w3⟩ := h.dx k cs og;have cO := ct.1 ak
 have Ee : ∀ {j q}, bQ R i (iE (ad k) e cs) j = some q → (j = i ∧ q = iE (ad k) e cs) ∨ (j ≠ i ∧ R j = some q) := fun {j q} ae => by
  by_cases la : j = i
  ·subst la; rw [cr] at ae; cases ae; exact .inl ⟨rfl, rfl⟩
  ·rw [cl _ _ la] at ae; exact .inr ⟨la, ae⟩
 refine ⟨e, fun k' au eL => (by cases eL), fun k' au x j eL => (by cases eL), fun bB cf c1 c2 h1 => (by cases h1), fun j q ae => ?_, fun j eP q cA ae jV CM b ab df => ?_⟩
 ·rcases Ee ae with ⟨rfl, rfl⟩ | ⟨_, wV⟩
  ·refine ⟨(KA aZ).2 ⟨vs, aP, w2.map (fun b ab _ => ⟨ab, rfl⟩) fun j x aa ae => absurd ae (AC.dy (cO x aa) j)⟩, cO, fun b ab => ⟨?_, fun k' au eL => (by cases eL)⟩⟩;rw [(uI aZ).1 ab]; exact w3
  ·obtain ⟨q1, q2, cg⟩ := h.rows j q wV;exact ⟨q1.kept q2 (fun _ _ => rfl) (dW _) (fun b ab _ => ⟨ab, rfl⟩), q2, fun b ab => ⟨(cg b ab).1, fun k' au eL => (by cases eL)⟩⟩
 ·rcases Ee ae with ⟨rfl, rfl⟩ | ⟨_, wV⟩
  ·rcases Ee jV with ⟨rfl, rfl⟩ | ⟨_, GO⟩
   ·exact CM rfl
   ·rw [(uI aZ).1 ab] at df;exact ((h.rows eP cA GO).2.2 _ df).2 k cs og rfl
  ·rcases Ee jV with ⟨rfl, rfl⟩ | ⟨_, GO⟩
   ·rw [(uI aZ).1 df] at ab;exact ((h.rows j q wV).2.2 _ ab).2 k cs og rfl
   ·exact h.apart j eP q cA wV GO CM b ab df
theorem c6.afg {P : Program} {f : FuncId} {args : List aj} {k : Nat} {cs : List AC} {R0 : aJ} {Post : aj → Mem → aJ → Prop} (i : Nat) (g e : Nat) (h : c6 P f (.w (.one (.own k 0)) :: args) (cI k cs) R0 Post) (ea : args.all aj.bb = true) (ev : cs.all AC.bb = true) (aZ : 0 < cs.length) (hi : R0 i = none)
  (hp : ∀ v aG az, Post v aG az → v.bb = true ∧ az i = none ∧ ∃ au, aG = cI k au ∧ au.all AC.bb = true ∧ 0 < au.length) :
  c6 P f (aQ (dR g) :: args) cb (bQ R0 i (iE g e cs)) fun v aG az => ∃ au bl bw, Post v (cI k au) bl ∧ aG = cb ∧ az = bQ bl i (iE g bw au) := by
 refine ⟨fun U ad W vs cK ef dJ => ?_⟩
 let eQ : Nat → Nat := fun j => if j = k then g else ad j
 have qu : eQ k = g := if_pos rfl;have ER := Mo (ad := eQ) aZ ev hi qu cK;obtain ⟨hlen, hv⟩ := dJ
 match vs, hlen with
 | v0 :: vs, hlen =>
  have rW : v0 = dR g := (hv 0 _ v0 rfl rfl).1;have y8 : jR U eQ W args vs := jR.closed ea ⟨by simpa using hlen, fun j x v aa b8 => hv (j + 1) x v aa b8⟩;refine (h.call U eQ W (v0 :: vs) ER (fun x aa j ae => ?_) ⟨by simpa using hlen, fun j x v aa b8 => ?_⟩).mono ?_
  ·rcases gM.1 aa with rfl | aa
   ·obtain ⟨y, ah, ae⟩ := ae;simp [bI.cells] at ah;subst ah;cases ae;exact ⟨cs, by unfold cI; exact cr _ _ _⟩
   ·exact absurd ae (aj.dy (ct.1 ea x aa) j)
  ·match j with
   | 0 => cases aa; cases b8; exact PR (off := 0) (rW.trans (by rw [qu]))
   | j + 1 => exact y8.2 j x v aa b8
  ·rintro dp bo ⟨v, r, aG, az, bg, cC, rfl, jw, l9, pD, iK, bB, cf, cG, cH, ab⟩;obtain ⟨c1, aE, au, rfl, c2, kD⟩ := hp _ _ _ jw;have eL : bg k = g := (bB k cs (by unfold cI; exact cr _ _ _)).1.trans qu;obtain ⟨bw, A1⟩ := Kz (bg := bg) kD c2 aE l9;rw [eL] at A1;refine ⟨v, r, cb, bQ az i (iE g bw au), bg, cC, rfl, ⟨au, az, bw, jw, rfl, rfl⟩, A1, pD, fun j ae => absurd ae (aj.dy c1 j), fun gV k7 aH => (by cases aH), fun j h3 ae => ?_, fun b df => ?_, fun b df => ?_, ⟨ab.os, ab.tape, ab.output, ab.size, fun b ar => ab.block b ⟨ar.1, fun a6 => ar.2 ((tm aZ hi qu).1 a6)⟩⟩⟩
   ·by_cases la : j = i
    ·subst la; exact ⟨_, cr _ _ _⟩
    ·rw [cl _ _ la] at ae;obtain ⟨q, al⟩ := cf j h3 ae;exact ⟨q, by rw [cl _ _ la]; exact al⟩
   ·rcases cG b df with q | q | q
    ·exact .inl q
    ·exact .inr (.inl q)
    ·exact .inr (.inr ((tm aZ hi qu).1 q))
   ·rcases cH b ((tm kD aE eL).2 df) with q | q
    ·exact .inl ((tm aZ hi qu).1 q)
    ·exact .inr q
theorem c6.aff {P : Program} {f : FuncId} {args : List aj} {k : Nat} {cs : List AC} {R0 : aJ} {Post : aj → Mem → aJ → Prop} (i : Nat) (h : ∀ g e, c6 P f (aQ (dR g) :: args) cb (bQ R0 i (iE g e cs)) fun v aG az => ∃ au bl bw, Post v (cI k au) bl ∧ aG = cb ∧ az = bQ bl i (iE g bw au))
  (ea : args.all aj.bb = true) (ev : cs.all AC.bb = true) (aZ : 0 < cs.length) (hi : R0 i = none) (hp : ∀ v au az, Post v (cI k au) az → v.bb = true ∧ az i = none ∧ au.all AC.bb = true ∧ 0 < au.length) :
  c6 P f (.w (.one (.own k 0)) :: args) (cI k cs) R0 Post := by
 refine ⟨fun U ad W vs cK ef dJ => ?_⟩;obtain ⟨e, ER⟩ := Kz (bg := ad) aZ ev hi cK;obtain ⟨hlen, hv⟩ := dJ
 match vs, hlen with
 | v0 :: vs, hlen =>
  have rW : v0 = dR (ad k) := hv 0 _ v0 rfl rfl;have y8 : jR U ad W args vs := jR.closed ea ⟨by simpa using hlen, fun j x v aa b8 => hv (j + 1) x v aa b8⟩;refine ((h (ad k) e).call U ad W (v0 :: vs) ER (fun x aa j ae => ?_) ⟨by simpa using hlen, fun j x v aa b8 => ?_⟩).mono ?_
  ·rcases gM.1 aa with rfl | aa
   ·exact absurd ae (iO _ j)
   ·exact absurd ae (aj.dy (ct.1 ea x aa) j)
  ·match j with
   | 0 => cases aa; cases b8; exact ⟨rW, by rfl⟩
   | j + 1 => exact y8.2 j x v aa b8
  ·rintro dp bo ⟨v, r, aG, az, bg, cC, rfl, ⟨au, bl, bw, jw, rfl, rfl⟩, l9, pD, iK, bB, cf, cG, cH, ab⟩;obtain ⟨c1, aE, c2, kD⟩ := hp _ _ _ jw
   let AF : Nat → Nat := fun j => if j = k then ad k else bg j
   have wW : AF k = ad k := if_pos rfl;have A1 := Mo (ad := AF) kD c2 aE wW l9;refine ⟨v, r, cI k au, bl, AF, cC, rfl, jw, A1, ?_, fun j ae => absurd ae (aj.dy c1 j), fun gV k7 aH => ?_, fun j h3 ae => ?_, fun b df => ?_, fun b df => ?_, ⟨ab.os, ab.tape, ab.output, ab.size, fun b ar => ab.block b ⟨ar.1, fun a6 => ar.2 ((tm aZ hi rfl).2 a6)⟩⟩⟩
   ·exact pD.map (fun b ab _ => ⟨ab, rfl⟩) fun j ae => absurd ae (aj.dy c1 j)
   ·obtain ⟨rfl, rfl⟩ := hl aH;exact ⟨wW, au, by unfold cI; exact cr _ _ _⟩
   ·have jV : j ≠ i := fun e => by subst e; rw [hi] at ae; cases ae
    obtain ⟨q, al⟩ := cf j h3 (by rw [cl _ _ jV]; exact ae);rw [cl _ _ jV] at al;exact ⟨q, al⟩
   ·rcases cG b df with q | q | q
    ·exact .inl q
    ·exact .inr (.inl q)
    ·exact .inr (.inr ((tm aZ hi rfl).2 q))
   ·rcases cH b ((tm kD aE wW).1 df) with q | q
    ·exact .inl ((tm aZ hi rfl).2 q)
    ·exact .inr q
abbrev nS (V : List an) (D : List Int) : aj := .w (.agg [.p (cB 2 V.length (b5 V)), .p (cB 1 D.length (cF D))])
abbrev vj (V : List an) (D : List Int) : List AC := [.p (cB 2 V.length (b5 V)), .p (cB 1 D.length (cF D))]
abbrev BF (b : Bool) : AC := .p (EX [.c (.bool (!b))])
abbrev vI (l d : Bool) : aj := .w (.one (.p (oX (.func 184) [BF l, BF d])))
theorem abS {a1 a2 b1 b2 : Int} : aR ai 127 [bh a1 a2, bh b1 b2] (vI (decide (b1 < a1)) (decide (b2 < a2))) := by
 have aI : decide (b1 ≥ a1) = !decide (b1 < a1) := by by_cases h : b1 < a1 <;> simp [h] <;> omega
 have aO : decide (b2 ≥ a2) = !decide (b2 < a2) := by by_cases h : b2 < a2 <;> simp [h] <;> omega
 refine ac1 (f := 127) Tryz.func127 rfl rfl rfl rfl ?_;refine Kv (Fp ?_);(repeat first | (with_reducible apply aA); exact rfl | (with_reducible first | apply bH | apply bL | apply aB));refine Kv (Fp ?_);(repeat first | (with_reducible apply aA); exact rfl | (with_reducible apply h6); kernel_rfl | (with_reducible apply h9); kernel_rfl; kernel_rfl; exact rfl | with_reducible apply bH);refine Ku 5 _ rfl rfl ?_;refine Ku 6 _ rfl rfl ?_;refine Fp ?_;(repeat first | (with_reducible apply aA); exact rfl | refine Tp (xs := [_, _]) (cs := [_, _]) rfl rfl rfl rfl ?_ | (with_reducible first | apply bN | apply bH | apply bL | apply aB | apply b6))
 ((refine bR rfl (bC rfl bf) ?_))
 exact aj.bp.of_eq (by rw [aI, aO]; rfl)
theorem aco {x y z w : Int} {l d r : Bool} (aq : x6 x y z w l d = r) : aR ai 184 [bh x y, bh z w, .w (.one (BF l)), .w (.one (BF d))] (bE r) := by
 have cs : (¬ x = z ∧ z < x ∧ r = l) ∨ (¬ x = z ∧ ¬ z < x ∧ r = !l) ∨ (x = z ∧ ¬ y = w ∧ w < y ∧ r = d) ∨ (x = z ∧ ¬ y = w ∧ ¬ w < y ∧ r = !d) ∨ (x = z ∧ y = w ∧ r = false) := by
  rw [← aq]; unfold x6
  by_cases h1 : x < z <;> by_cases h2 : z < x <;> by_cases ap : y < w <;> by_cases aL : w < y <;> simp [h1, h2, ap, aL] <;> omega
 clear aq;rcases cs with ⟨h1, h2, rfl⟩ | ⟨h1, h2, rfl⟩ | ⟨h1, ap, h2, rfl⟩ | ⟨h1, ap, h2, rfl⟩ | ⟨h1, ap, rfl⟩
 all_goals
  refine cc (f := 184) Tryz.func184 rfl rfl rfl rfl ?_;(repeat first | (with_reducible apply aA); exact rfl | (with_reducible apply l7); (iterate 5 exact rfl) | (with_reducible apply Ta); (iterate 4 exact rfl); kernel_rfl | (with_reducible apply dv (c := true)); exact rfl; exact rfl; ((simp only [iF]; (omega))) | (with_reducible apply dv (c := false)); exact rfl; exact rfl; ((simp only [iF]; (omega))) | (with_reducible first | apply bN | apply bH | apply bL | apply aB | apply b6 | apply eR | apply fC) | (with_reducible apply gf); exact rfl; ((simp only [iF]; (omega))) | (with_reducible apply hz); exact rfl; ((simp only [iF]; (omega))))
  ((refine bR rfl (bC rfl bf) ?_))
  first
  | exact aj.bp.refl _
  | exact aj.bp.of_eq (by rw [b3 (show ¬ x < z by omega), Bool.false_beq, Bool.not_not]; rfl)
  | exact aj.bp.of_eq (by rw [bG (show x < z by omega), Bool.true_beq]; rfl)
  | exact aj.bp.of_eq (by rw [b3 (show ¬ y < w by omega), Bool.false_beq, Bool.not_not]; rfl)
  | exact aj.bp.of_eq (by rw [bG (show y < w by omega), Bool.true_beq]; rfl)
section
variable {P : Program} {s : aC} {ops : Array Oper} {K : aC → Prop} {rest : List Oper} {ty : Nat} {pos : String} {after : Array Edge} {guard : Option (Nat × Bool)} {d : Nat}
theorem Tx {c0 dK : Nat} {x y : Operand} {a b : Int} (hw : want ops ⟨some d, .binOp .quo c0 x y dK, ty, pos, after, guard⟩ s = some true) (aa : s.look x = some (aQ (.int .i64 a))) (ah : s.look y = some (aQ (.int .i64 b))) (aH : 0 ≤ a) (h1 : 0 < b) (h2 : a ≤ 9223372036854775807) (hd : Nat.blt d s.n = true) (h : bi P ops K rest (s.put (some d) (aQ (.int .i64 (a / b))))) : bi P ops K (⟨some d, .binOp .quo c0 x y dK, ty, pos, after, guard⟩ :: rest) s := by
 refine qe hw aa ah (fun W => ?_) rfl hd h;have ab : b ≠ 0 := by omega
 have e : a.tdiv b = a / b := Int.tdiv_eq_ediv_of_nonneg aH
 have aO : IntKind.i64.wrap (a / b) = a / b := cX (by
  have := pO aH (show 0 ≤ b by omega);have := Int.ediv_le_self b aH;omega)
 simp [binOp, Op.intDiv, ab, e, aO]
end
theorem Np : b5 [] = [] := rfl
theorem Nq (p : Int × Int) (l : List (Int × Int)) : ((b5 (p :: l)).drop ((1 : Int).toNat * 2)).take (l.length * 2) = b5 l := by
 show ((b5 (p :: l)).drop 2).take (l.length * 2) = b5 l;rw [← nG];simp [b5]
theorem Hu (p : Int × Int) (l : List (Int × Int)) : b5 l ++ [.c (.int .i64 p.1), .c (.int .i64 p.2)] = b5 (l ++ [p]) := by rw [r3]; rfl
theorem Ze (l : List (Int × Int)) (k : Nat) : ((b5 l).drop (0 * 2)).take ((l.take k).length * 2) = b5 (l.take k) := by
 have e : b5 l = b5 (l.take k) ++ b5 (l.drop k) := by rw [← r3, kq]
 rw [e, Nat.zero_mul, List.drop_zero, ← nG];simp
theorem Zd (l : List (Int × Int)) (k : Nat) (af : k ≤ l.length) : ((b5 l).drop (k * 2)).take ((l.drop k).length * 2) = b5 (l.drop k) := by
 have e : b5 l = b5 (l.take k) ++ b5 (l.drop k) := by rw [← r3, kq]
 have aO : k * 2 = (b5 (l.take k)).length := by rw [nG, eh, pM af]
 rw [e, aO, List.drop_left, ← nG, List.take_length]
abbrev im (v : Value) (l : List (Int × Int)) : bP := ⟨59, 2, v, l.length, b5 l⟩
instance ahE : n0 ai 42 59 2 16 := ⟨by kernel_rfl⟩
def Sb (M : List (Int × Int)) (lt : Int × Int → Int × Int → Bool) (Dk : aj) (K : Nat) (m : Nat) (R : aJ) (aS : List (Nat × aj)) (bF : List (Nat × List AC)) : Prop :=
 ∃ (a b out : List (Int × Int)) (v : Value), m = a.length + b.length ∧ out ++ eT lt a b = M ∧ out.length + m = K ∧ R = bJ 0 (im v out) ∧ aS = [(0, hr a), (1, hr b), (2, Dk), (7, aQ v)] ∧ bF = []
theorem Il {fx fy : Bool} {a b : List (Int × Int)} (aK : a.length ≤ 100000) (ab : b.length ≤ 100000) :
  aR ai 183 [hr a, hr b, vI fx fy] (hr (eT (dB fx fy) a b)) := by
 refine cc (f := 183) Tryz.func183 rfl rfl rfl rfl ?_;refine sT ?_;(repeat first | (with_reducible first | apply bd | apply aX | apply a8 | apply aY) | (with_reducible apply aN); exact rfl; (repeat first | (with_reducible apply aA); exact rfl | (with_reducible apply fe); (iterate 3 exact rfl); (exact cX (by omega)); exact rfl | (with_reducible apply db); (iterate 3 exact rfl)); (with_reducible apply aB));refine zd (l := 0) (c' := a.length + b.length) 0 rfl rfl rfl rfl (eF _) rfl rfl ?h2 (kO (by omega)) rfl (fun v hv => ?_)
 case h2 => omega
 (repeat first | (with_reducible first | apply bd | apply aX | apply aY | apply fZ) | (with_reducible apply aN); exact rfl; (repeat first | (with_reducible apply aA); exact rfl); (with_reducible apply aB));refine mx 52 (Sb (eT (dB fx fy) a b) (dB fx fy) (vI fx fy) (a.length + b.length)) (a.length + b.length) (bJ 0 (im v [])) _ _ ⟨a, b, [], v, rfl, rfl, jH _, rfl, rfl, rfl⟩ (nO _ _ _) rfl ⟨rfl, rfl, rfl, rfl, trivial⟩ trivial rfl ?_;rintro m R aS bF ⟨a', bO, out, v, rfl, iY, dV, rfl, rfl, rfl⟩ ee;clear ee hv
 by_cases nK : 0 < a'.length
 ·by_cases nL : 0 < bO.length
  ·have DZ : (a'.length : Int) > 0 := by omega
   have Ix : (bO.length : Int) > 0 := by omega
   obtain ⟨⟨x, n⟩, a2, rfl⟩ := List.exists_cons_of_length_pos nK;obtain ⟨⟨y, m⟩, b2, rfl⟩ := List.exists_cons_of_length_pos nL;have iU : ((b5 ((x, n) :: a2)).drop ((0 : Int).toNat * 2)).take 2 = [.c (.int .i64 x), .c (.int .i64 n)] := vg (j := 0) (i := 0) rfl rfl;have p7 : ((b5 ((y, m) :: b2)).drop ((0 : Int).toNat * 2)).take 2 = [.c (.int .i64 y), .c (.int .i64 m)] := vg (j := 0) (i := 0) rfl rfl;have aM := aco (x := y) (y := m) (z := x) (w := n) (l := fx) (d := fy) rfl;rw [show x6 y m x n fx fy = dB fx fy (y, m) (x, n) from rfl] at aM;cases bj : dB fx fy (y, m) (x, n) with
   | true =>
    rw [bj] at aM;have aI : ((y, m) :: b2).length - (1 : Int).toNat = b2.length := rfl;have aO := Nq (y, m) b2
    have Gn : (out ++ [(y, m)]) ++ eT (dB fx fy) ((x, n) :: a2) b2 = eT (dB fx fy) a b := by
     rw [← iY, eT, if_pos bj, iq]; rfl
    have XW : (out ++ [(y, m)]).length = out.length + 1 := cS;have mL : ((y, m) :: b2).length = b2.length + 1 := rfl;have XX : ((x, n) :: a2).length = a2.length + 1 := rfl;(repeat first | (with_reducible apply ey); kernel_rfl | (with_reducible apply dT (id := 3) [0,1,2,3,4,5,6,7]); kernel_rfl; kernel_rfl; exact rfl | (with_reducible apply dT (id := 4) [0,1,2,3,6,7,4,5,8,9]); kernel_rfl; kernel_rfl; exact rfl | (with_reducible first | apply bd | apply aX | apply a8 | apply aY | apply dm | apply fZ) | (with_reducible apply eu); exact rfl; (first | exact bG (by omega) | exact rfl) | (with_reducible apply aN); exact rfl; (repeat first | (with_reducible apply aA); exact rfl | (with_reducible apply ha); (iterate 5 exact rfl) | (with_reducible apply fB); (iterate 3 exact rfl); (decide); (omega); (assumption); exact rfl | (with_reducible apply db); (iterate 3 exact rfl) | (with_reducible apply Km); (iterate 3 exact rfl); (omega); (assumption); (assumption); (assumption); exact rfl | (with_reducible apply mH); (iterate 10 exact rfl) | refine Ki (args := [_, _]) rfl rfl rfl (by (exact aM)) rfl ?_ | (with_reducible apply dv (c := true)); exact rfl; exact rfl; (exact bG (by omega))); (with_reducible apply aB));refine qx 0 rfl rfl rfl rfl ?q1 ?q2 rfl rfl (fun aV b8 => ?_)
    case q1 => exact kO (by show out.length + 1 ≤ 1000000; omega)
    case q2 => show (out.length + 1) * 16 ≤ 140737488355328; omega
    (repeat first | (with_reducible apply ey); kernel_rfl | (with_reducible first | apply aX | apply ls) | (with_reducible apply aN); exact rfl; (repeat first | (with_reducible apply aA); exact rfl); (with_reducible apply aB))
    have cD : im aV (out ++ [(y, m)]) = ⟨59, 2, aV, out.length + 1, b5 out ++ [.c (.int .i64 y), .c (.int .i64 m)]⟩ := by
     unfold im; rw [← Hu, cS]; rfl
    refine ⟨_, bJ 0 (im aV (out ++ [(y, m)])), _, _, ?_, ⟨(x, n) :: a2, b2, out ++ [(y, m)], aV, rfl, Gn, ?_, rfl, rfl, rfl⟩, by rw [cD]; exact nO _ _ _, rfl, ⟨rfl, rfl, rfl, rfl, trivial⟩, trivial, rfl⟩
    ·omega
    ·omega
   | false =>
    rw [bj] at aM;have aI : ((x, n) :: a2).length - (1 : Int).toNat = a2.length := rfl;have aO := Nq (x, n) a2
    have Gn : (out ++ [(x, n)]) ++ eT (dB fx fy) a2 ((y, m) :: b2) = eT (dB fx fy) a b := by
     rw [← iY, eT, if_neg (by rw [bj]; decide), iq]; rfl
    have XW : (out ++ [(x, n)]).length = out.length + 1 := cS;have mL : ((y, m) :: b2).length = b2.length + 1 := rfl;have XX : ((x, n) :: a2).length = a2.length + 1 := rfl;(repeat first | (with_reducible apply ey); kernel_rfl | (with_reducible apply dT (id := 3) [0,1,2,3,4,5,6,7]); kernel_rfl; kernel_rfl; exact rfl | (with_reducible apply dT (id := 5) [0,1,2,3,6,7,4,5,8,9]); kernel_rfl; kernel_rfl; exact rfl | (with_reducible first | apply bd | apply aX | apply a8 | apply aY | apply dm | apply fZ) | (with_reducible apply eu); exact rfl; (exact bG (by omega)) | (with_reducible apply c8); exact rfl; (exact rfl) | (with_reducible apply aN); exact rfl; (repeat first | (with_reducible apply aA); exact rfl | (with_reducible apply ha); (iterate 5 exact rfl) | (with_reducible apply fB); (iterate 3 exact rfl); (decide); (omega); (assumption); exact rfl | (with_reducible apply db); (iterate 3 exact rfl) | (with_reducible apply Km); (iterate 3 exact rfl); (omega); (assumption); (assumption); (assumption); exact rfl | (with_reducible apply mH); (iterate 10 exact rfl) | refine Ki (args := [_, _]) rfl rfl rfl (by (exact aM)) rfl ?_ | (with_reducible apply dv (c := true)); exact rfl; exact rfl; (exact bG (by omega))); (with_reducible apply aB));refine qx 0 rfl rfl rfl rfl ?q1 ?q2 rfl rfl (fun aV b8 => ?_)
    case q1 => exact kO (by show out.length + 1 ≤ 1000000; omega)
    case q2 => show (out.length + 1) * 16 ≤ 140737488355328; omega
    (repeat first | (with_reducible apply ey); kernel_rfl | (with_reducible first | apply aX | apply ls) | (with_reducible apply aN); exact rfl; (repeat first | (with_reducible apply aA); exact rfl); (with_reducible apply aB))
    have cD : im aV (out ++ [(x, n)]) = ⟨59, 2, aV, out.length + 1, b5 out ++ [.c (.int .i64 x), .c (.int .i64 n)]⟩ := by
     unfold im; rw [← Hu, cS]; rfl
    refine ⟨_, bJ 0 (im aV (out ++ [(x, n)])), _, _, ?_, ⟨a2, (y, m) :: b2, out ++ [(x, n)], aV, rfl, Gn, ?_, rfl, rfl, rfl⟩, by rw [cD]; exact nO _ _ _, rfl, ⟨rfl, rfl, rfl, rfl, trivial⟩, trivial, rfl⟩
    ·omega
    ·omega
  ·have DZ : (a'.length : Int) > 0 := by omega
   have Ix : ¬ (bO.length : Int) > 0 := by omega
   have ma : bO = [] := List.length_eq_zero_iff.1 (by omega);have aZ : (a'.length : Int) = a'.length := rfl;(repeat first | (with_reducible first | apply bd | apply aX | apply a8 | apply aY | apply kX | apply kZ | apply kY) | (with_reducible apply c8); exact rfl; (exact b3 (by omega)) | (with_reducible apply aN); exact rfl; (repeat first | (with_reducible apply aA); exact rfl | (with_reducible apply db); (iterate 3 exact rfl) | (with_reducible apply dv (c := true)); exact rfl; exact rfl; (exact bG (by omega))); (with_reducible apply aB));refine qx 0 rfl rfl rfl rfl ?q1 ?q2 (vf _) rfl (fun aV b8 => ?_)
   case q1 => exact kO (by show out.length + a'.length ≤ 1000000; omega)
   case q2 => show (out.length + a'.length) * 16 ≤ 140737488355328; omega
   (repeat first | (with_reducible first | apply bd | apply aX | apply a8 | apply aY) | (with_reducible apply aN); exact rfl; (repeat first | (with_reducible apply aA); exact rfl); (with_reducible apply aB));refine MO (k := (eT (dB fx fy) a b).length) (zs := b5 (eT (dB fx fy) a b)) 0 rfl rfl rfl rfl ?p1 ?p2 ?p3 ?p4 (vf _) rfl ?_
   case p1 => exact kO (by show (out.length + a'.length) + bO.length ≤ 1000000; omega)
   case p2 => show ((out.length + a'.length) + bO.length) * 16 ≤ 140737488355328; omega
   case p3 => show (out.length + a'.length) + bO.length = (eT (dB fx fy) a b).length; rw [H0]; omega
   case p4 => show (b5 out ++ b5 a') ++ b5 bO = b5 (eT (dB fx fy) a b); rw [← iY, ma, H2, ← r3, Np, pJ]
   (repeat first | (with_reducible first | apply aX | apply aY | apply dA) | (with_reducible apply aN); exact rfl; (repeat first | (with_reducible apply aA); exact rfl); (with_reducible apply aB))
   ((refine bR rfl (bC rfl bf) ?_))
   exact aj.bp.refl _
 ·have DZ : ¬ (a'.length : Int) > 0 := by omega
  have W7 : a' = [] := List.length_eq_zero_iff.1 (by omega);(repeat first | (with_reducible first | apply bd | apply aX | apply a8 | apply aY | apply kX | apply kZ | apply kY) | (with_reducible apply c8); exact rfl; (exact rfl) | (with_reducible apply aN); exact rfl; (repeat first | (with_reducible apply aA); exact rfl | (with_reducible apply db); (iterate 3 exact rfl) | (with_reducible apply dv (c := false)); exact rfl; exact rfl; (exact b3 (by omega))); (with_reducible apply aB));refine qx 0 rfl rfl rfl rfl ?q1 ?q2 (vf _) rfl (fun aV b8 => ?_)
  case q1 => exact kO (by show out.length + a'.length ≤ 1000000; omega)
  case q2 => show (out.length + a'.length) * 16 ≤ 140737488355328; omega
  (repeat first | (with_reducible first | apply bd | apply aX | apply a8 | apply aY) | (with_reducible apply aN); exact rfl; (repeat first | (with_reducible apply aA); exact rfl); (with_reducible apply aB));refine MO (k := (eT (dB fx fy) a b).length) (zs := b5 (eT (dB fx fy) a b)) 0 rfl rfl rfl rfl ?p1 ?p2 ?p3 ?p4 (vf _) rfl ?_
  case p1 => exact kO (by show (out.length + a'.length) + bO.length ≤ 1000000; omega)
  case p2 => show ((out.length + a'.length) + bO.length) * 16 ≤ 140737488355328; omega
  case p3 => show (out.length + a'.length) + bO.length = (eT (dB fx fy) a b).length; rw [H0]; omega
  case p4 => show (b5 out ++ b5 a') ++ b5 bO = b5 (eT (dB fx fy) a b); rw [← iY, W7, aaM, Np, pJ, ← r3]
  (repeat first | (with_reducible first | apply aX | apply aY | apply dA) | (with_reducible apply aN); exact rfl; (repeat first | (with_reducible apply aA); exact rfl); (with_reducible apply aB))
  ((refine bR rfl (bC rfl bf) ?_))
  exact aj.bp.refl _
theorem acj {fx fy : Bool} :
  ∀ (N : Nat) (l : List (Int × Int)), l.length ≤ N → N ≤ 100000 → aR ai 126 [hr l, vI fx fy] (hr (ix (dB fx fy) l)) := by
 intro N
 induction N with
 | zero =>
  intro l h1 h2;have hx := Il (fx := fx) (fy := fy) (a := l) (b := []) (by omega) (by simp);rw [H2] at hx
  have aM : aR ai 183 [hr l, Jb, vI fx fy] (hr l) := PA hx rfl rfl (by
   intro i x y aa ah
   match i with
   | 0 => cases aa; cases ah; exact .refl _
   | 1 => cases aa; cases ah; exact nil_le 2
   | 2 => cases aa; cases ah; exact .refl _
   | i + 3 => simp at aa)
  have q1 : (l.length : Int) < 2 := by omega
  have e : ix (dB fx fy) l = l := by rw [ix, dif_pos (by omega)]
  rw [e];clear hx;refine cc (f := 126) Tryz.func126 rfl rfl rfl rfl ?_;(repeat first | (with_reducible apply aA); exact rfl | (with_reducible apply db); (iterate 3 exact rfl) | refine jS rfl rfl rfl rfl rfl (by (exact aM)) rfl ?_ | (with_reducible first | apply bN | apply bH | apply bL | apply aB | apply b6 | apply fC) | (with_reducible apply gf); exact rfl; (exact bG (by omega)))
  ((refine bR rfl (bC rfl bf) ?_))
  exact aj.bp.refl _
 | succ N cw =>
  intro l h1 h2
  by_cases q : l.length < 2
  ·have hx := Il (fx := fx) (fy := fy) (a := l) (b := []) (by omega) (by simp);rw [H2] at hx
   have aM : aR ai 183 [hr l, Jb, vI fx fy] (hr l) := PA hx rfl rfl (by
    intro i x y aa ah
    match i with
    | 0 => cases aa; cases ah; exact .refl _
    | 1 => cases aa; cases ah; exact nil_le 2
    | 2 => cases aa; cases ah; exact .refl _
    | i + 3 => simp at aa)
   have q1 : (l.length : Int) < 2 := by omega
   have e : ix (dB fx fy) l = l := by rw [ix, dif_pos (by omega)]
   rw [e];clear hx cw;refine cc (f := 126) Tryz.func126 rfl rfl rfl rfl ?_;(repeat first | (with_reducible apply aA); exact rfl | (with_reducible apply db); (iterate 3 exact rfl) | refine jS rfl rfl rfl rfl rfl (by (exact aM)) rfl ?_ | (with_reducible first | apply bN | apply bH | apply bL | apply aB | apply b6 | apply fC) | (with_reducible apply gf); exact rfl; (exact bG (by omega)))
   ((refine bR rfl (bC rfl bf) ?_))
   exact aj.bp.refl _
  ·have q1 : ¬ (l.length : Int) < 2 := by omega
   have e : ix (dB fx fy) l = eT (dB fx fy) (ix (dB fx fy) (l.take (l.length / 2))) (ix (dB fx fy) (l.drop (l.length / 2))) := by rw [ix, dif_neg q]
   have aM := cw (l.take (l.length / 2)) (by simp; omega) (by omega);have bU := cw (l.drop (l.length / 2)) (by simp; omega) (by omega);have l1 := Ep (dB fx fy) _ (l.take (l.length / 2)) (dW _);have l2 := Ep (dB fx fy) _ (l.drop (l.length / 2)) (dW _);have e8 := Il (fx := fx) (fy := fy) (a := ix (dB fx fy) (l.take (l.length / 2))) (b := ix (dB fx fy) (l.drop (l.length / 2))) (by rw [l1]; simp; omega) (by rw [l2]; simp; omega);have a6 : ((l.length : Int) / 2).toNat = l.length / 2 := by omega
   have aI : ((l.length : Int) / 2).toNat - 0 = (l.take (l.length / 2)).length := by rw [a6]; simp; omega
   have aO := Ze l (l.length / 2);have cD : ((l.length : Int)).toNat - ((l.length : Int) / 2).toNat = (l.drop (l.length / 2)).length := by rw [a6]; simp
   have eD := Zd l (l.length / 2) (by omega);have k9 : ((b5 l).drop (((l.length : Int) / 2).toNat * 2)).take ((l.drop (l.length / 2)).length * 2) = b5 (l.drop (l.length / 2)) := by rw [a6]; exact eD
   rw [e];clear cw l1 l2 e eD a6;refine cc (f := 126) Tryz.func126 rfl rfl rfl rfl ?_;(repeat first | (with_reducible apply aA); exact rfl | (with_reducible apply db); (iterate 3 exact rfl) | (with_reducible apply Fj); (iterate 4 exact rfl); (omega); (omega); (omega); (assumption); (assumption); exact rfl | (with_reducible apply Fk); (iterate 5 exact rfl); (omega); (omega); (omega); (omega); (assumption); (assumption); exact rfl | (with_reducible apply Tx); (iterate 3 exact rfl); omega; omega; omega; exact rfl | refine dI rfl rfl rfl rfl (by (first | exact aM | exact bU)) rfl ?_ | refine jS rfl rfl rfl rfl rfl (by (exact e8)) rfl ?_ | (with_reducible apply h6); kernel_rfl | (with_reducible apply h9); kernel_rfl; kernel_rfl; exact rfl | (with_reducible first | apply bN | apply bH | apply bL | apply aB | apply b6 | apply eR) | (with_reducible apply hz); exact rfl; (exact b3 (by omega)))
   ((refine bR rfl (bC rfl bf) ?_))
   exact aj.bp.refl _
section
variable {P : Program} {bt : eX} {s : aC} {ops : Array Oper} {dr : Option (List Nat)} {ty d : Nat} {pos : String} {after : Array Edge} {guard : Option (Nat × Bool)} {K : aC → Prop} {rest : List Oper}
theorem Fi {tt z n l lo hi : Nat} {v u : Value} {x y : Operand} [S : h5 P tt z] (hw : want ops ⟨some d, .slice tt x (some y) none none, ty, pos, after, guard⟩ s = some true) (aa : s.look x = some (aQ u)) (ah : s.look y = some (aT (l : Int))) (hu : iD v z lo hi u) (hm : hi - lo = n) (h1 : l ≤ n) (hd : Nat.blt d s.n = true) (h : bi P ops K rest (s.put (some d) (aQ (gN u z l n)))) : bi P ops K (⟨some d, .slice tt x (some y) none none, ty, pos, after, guard⟩ :: rest) s := by
 subst hm;obtain ⟨⟨A, c, rfl⟩, _⟩ := hu;refine fP (av := aQ (gN (.slice A (hi - lo) c) z l (hi - lo))) hw ⟨fun _ _ h => (by cases h), fun q al => ?_, fun U ad W env he => ?_, fun j ae => absurd ae (iO _ j)⟩ hd h
 ·simp [Op.operands] at al;rcases al with rfl | rfl
  ·exact ⟨_, aa⟩
  ·exact ⟨_, ah⟩
 ·have ex : env x = .slice A (hi - lo) c := (he x (by simp [Op.operands]) _ aa).1;have ke : env y = .int .i64 (l : Int) := (he y (by simp [Op.operands]) _ ah).1;obtain ⟨bw, ft, hu, dd, hs⟩ := my S.h;have e5 : P.underlying tt = some (.slice (P.elem tt)) := by rw [kd hu]; exact hu
  refine ⟨gN (.slice A (hi - lo) c) z l (hi - lo), ?_, rfl, rfl⟩;simp only [execOp, ex, gL, so, ke, Sem.run_bind, run_sliceAt_slice W tt _ _ _ _ e5, run_slice_l W tt A (hi - lo) c e5 .i64 l (by omega) (by omega), kd hu, hq dd, Result.andThen_ok, hs, Sem.run_pure, ks, gN]
theorem Ty {tt z n l lo hi : Nat} {v u : Value} {x y : Operand} [S : h5 P tt z] (hw : want ops ⟨some d, .slice tt x none (some y) none, ty, pos, after, guard⟩ s = some true) (aa : s.look x = some (aQ u)) (ah : s.look y = some (aT (l : Int))) (hu : iD v z lo hi u) (hm : hi - lo = n) (h1 : l ≤ n) (hd : Nat.blt d s.n = true) (h : bi P ops K rest (s.put (some d) (aQ (gN u z 0 l)))) : bi P ops K (⟨some d, .slice tt x none (some y) none, ty, pos, after, guard⟩ :: rest) s := by
 subst hm;obtain ⟨⟨A, c, rfl⟩, ak⟩ := hu
 have GS : l ≤ c := by
  rcases vx l with e | e
  ·omega
  ·have a6 := ak (show lo < hi by omega);obtain ⟨g, n', c', g1, g2, g3⟩ := a6;have eD : c = c' - lo := by injection g3
   clear g1 g3 ak;omega
 refine fP (av := aQ (gN (.slice A (hi - lo) c) z 0 l)) hw ⟨fun _ _ h => (by cases h), fun q al => ?_, fun U ad W env he => ?_, fun j ae => absurd ae (iO _ j)⟩ hd h
 ·simp [Op.operands] at al;rcases al with rfl | rfl
  ·exact ⟨_, aa⟩
  ·exact ⟨_, ah⟩
 ·have ex : env x = .slice A (hi - lo) c := (he x (by simp [Op.operands]) _ aa).1;have ke : env y = .int .i64 (l : Int) := (he y (by simp [Op.operands]) _ ah).1;obtain ⟨bw, ft, hu, dd, hs⟩ := my S.h;have e5 : P.underlying tt = some (.slice (P.elem tt)) := by rw [kd hu]; exact hu
  refine ⟨gN (.slice A (hi - lo) c) z 0 l, ?_, rfl, rfl⟩;simp only [execOp, ex, gL, so, ke, Sem.run_bind, run_sliceAt_slice W tt _ _ _ _ e5, run_slice_h W tt A (hi - lo) c e5 .i64 l (by omega) (by omega), kd hu, hq dd, Result.andThen_ok, hs, Sem.run_pure, ks, gN]
end
theorem I1 {A C J3 : List AC} {n : Nat} (h : A.length = n) : eA (A ++ J3) n C = (A ++ C) ++ J3.drop C.length := by
 subst h;unfold eA;rw [List.take_left, List.drop_append, tY (by omega), List.nil_append, Nat.add_sub_cancel_left]
theorem Nr {l : List an} {n : Nat} (h : l.length = n) : (b5 l).take (n * 2) = b5 l := h0 (by rw [nG]; omega)
theorem Nb {l : List Int} {n : Nat} (h : l.length = n) : (cF l).take (n * 1) = cF l := h0 (by simp [cF]; omega)
theorem Na (l : List Int) : (cF l).all AC.bb = true := ct.2 fun y ah => by
 obtain ⟨x, _, rfl⟩ := ir.1 ah;rfl
theorem C1 (l : List Int) : (cF l).length = l.length * 1 := by simp [cF]
abbrev Ea (LL : List (List an)) : List AC := LL.map fun l => AC.p (cB 2 l.length (b5 l))
abbrev EB (LL : List (List an)) : aj := cM 1 LL.length (Ea LL)
theorem Qk {LL : List (List an)} {j : Int} {i : Nat} {l : List an} (ae : j = i) (h : LL[i]? = some l) : ((Ea LL).drop (j.toNat * 1)).take 1 = [.p (cB 2 l.length (b5 l))] := by
 subst ae;have hi := (bX.1 h).1;rw [ks, Nat.mul_one, mV (by simpa [Ea] using hi)];have : LL[i] = l := (bX.1 h).2;simp [Ea, this]
def hI (LL : List (List an)) (i : Nat) : List an := (LL.take i).flatten
theorem PN {LL : List (List an)} {i : Nat} {l : List an} (h : LL[i]? = some l) : hI LL (i + 1) = hI LL i ++ l := by
 unfold hI;rw [oO (bX.1 h).1, (bX.1 h).2]; simp
theorem PL {LL : List (List an)} {i : Nat} (h : LL.length ≤ i) : hI LL i = LL.flatten := by unfold hI; rw [h0 h]
theorem PM (LL : List (List an)) (i : Nat) : (hI LL i).length ≤ LL.flatten.length := by
 have : LL.flatten = hI LL i ++ (LL.drop i).flatten := by unfold hI; rw [← List.flatten_append, kq]
 rw [this, cS]; omega
def R3 (LL : List (List an)) (n : Nat) (R : aJ) (aS : List (Nat × aj)) (bF : List (Nat × List AC)) : Prop :=
 ∃ (i : Nat) (ii oB : Int), i ≤ LL.length ∧ n = LL.length - i ∧ ii = i ∧ oB = ((hI LL i).length : Nat) ∧ R = fW ∧ bF = [] ∧ aS = [(0, EB LL), (3, aT oB), (10, EB LL), (11, aT LL.length), (12, aT ii)]
def R4 (LL : List (List an)) (N : Nat) (v : Value) (e3 : List AC) (n : Nat) (R : aJ) (aS : List (Nat × aj)) (bF : List (Nat × List AC)) : Prop :=
 ∃ (i : Nat) (ii : Int) (u : Value), i ≤ LL.length ∧ n = LL.length - i ∧ ii = i ∧ iD v 2 (hI LL i).length N u ∧ R = bJ 0 ⟨59, 2, v, N, b5 (hI LL i) ++ e3.drop ((hI LL i).length * 2)⟩ ∧ bF = [] ∧ aS = [(6, aQ v), (7, aQ u), (24, EB LL), (25, aT LL.length), (26, aT ii)]
theorem Ps {LL : List (List an)} (iH : LL.length ≤ 1100) (kh : LL.flatten.length ≤ 100000) : aR ai 186 [EB LL] (hr LL.flatten) := by
 refine cc (f := 186) Tryz.func186 rfl rfl rfl rfl ?_;refine sT ?_;(repeat first | (with_reducible first | apply bd | apply aX | apply a8 | apply aY | apply fZ) | (with_reducible apply aN); exact rfl; (repeat first | (with_reducible apply aA); exact rfl | (with_reducible apply db); (iterate 3 exact rfl)); (with_reducible apply aB));refine mx 37 (R3 LL) LL.length fW _ [] ⟨0, 0, 0, eF _, rfl, rfl, rfl, rfl, rfl, rfl⟩ (bM.refl _) rfl ⟨rfl, rfl, rfl, rfl, rfl, trivial⟩ trivial rfl ?_;rintro n R aS bF ⟨i, ii, oB, hi, rfl, hT, y3, rfl, rfl, rfl⟩ ee;clear ee
 by_cases al : i < LL.length
 ·have q2 : ii < (LL.length : Int) := by omega
  have cg : 0 ≤ ii := by omega
  obtain ⟨l, g1⟩ : ∃ l, LL[i]? = some l := ⟨_, cp al⟩;have iU := Qk hT g1;have h1 := PN g1;have h2 := PM LL (i + 1);have ap : (hI LL (i + 1)).length = (hI LL i).length + l.length := by rw [h1, cS]
  (repeat first | (with_reducible first | apply bd | apply aX | apply a8 | apply aY | apply dm | apply fZ | apply ls) | (with_reducible apply eu); exact rfl; (exact bG (by omega)) | (with_reducible apply aN); exact rfl; (repeat first | (with_reducible apply aA); exact rfl | (with_reducible apply l7); (iterate 5 exact rfl) | (with_reducible apply fB); (iterate 3 exact rfl); (omega); (omega); (assumption); exact rfl | (with_reducible apply fe); (iterate 3 exact rfl); (exact cX (by omega)); exact rfl | (with_reducible apply db); (iterate 3 exact rfl)); (with_reducible apply aB));exact ⟨LL.length - (i + 1), fW, _, [], by omega, ⟨i + 1, ii + 1, _, by omega, rfl, by omega, by omega, rfl, rfl, rfl⟩, bM.refl _, rfl, ⟨rfl, rfl, rfl, rfl, rfl, trivial⟩, trivial, rfl⟩
 ·have q2 : ¬ ii < (LL.length : Int) := by omega
  rw [PL (by omega)] at y3;subst y3;generalize yJ : LL.flatten.length = N at *;(repeat first | (with_reducible first | apply bd | apply aX | apply a8 | apply aY | apply kX | apply kZ | apply kY) | (with_reducible apply c8); exact rfl; (exact b3 (by omega)) | (with_reducible apply aN); exact rfl; (repeat first | (with_reducible apply aA); exact rfl); (with_reducible apply aB));refine zd (l := N) (c' := N) 0 rfl rfl rfl rfl (dW _) rfl rfl ?h2 (kO (by omega)) rfl (fun v hv => ?_)
  case h2 => show 16 * N ≤ 281474976710656; omega
  generalize dE : hN N 2 _ = e3;have Cr : e3.length = N * 2 := by rw [← dE]; simp [hN]
  clear dE;(repeat first | (with_reducible first | apply bd | apply aX | apply a8 | apply aY | apply fZ) | (with_reducible apply aN); exact rfl; (repeat first | (with_reducible apply aA); exact rfl | (with_reducible apply db); (iterate 3 exact rfl)); (with_reducible apply aB));refine IM 0 (r := ⟨59, 2, v, N, e3⟩) rfl (fun eW c iL eM js dU hlen => ?_);have mO : v = .slice eW N c := iL;have rU : iD v 2 0 N v := by rw [mO]; exact iD.all 2 eM dU
  clear iL eM js dU hlen;refine mx 37 (R4 LL N v e3) LL.length (bJ 0 ⟨59, 2, v, N, e3⟩) _ [] ⟨0, 0, v, eF _, rfl, rfl, rU, rfl, rfl, rfl⟩ (nO _ _ _) rfl ⟨rfl, rfl, rfl, rfl, rfl, trivial⟩ trivial rfl ?_;clear al q2 rU hT mO;rintro n R aS bF ⟨i, ii, u, hi, rfl, hT, hu, rfl, rfl, rfl⟩ ee;clear ee
  by_cases al : i < LL.length
  ·have q2 : ii < (LL.length : Int) := by omega
   have cg : 0 ≤ ii := by omega
   obtain ⟨l, g1⟩ : ∃ l, LL[i]? = some l := ⟨_, cp al⟩;have iU := Qk hT g1;have h1 := PN g1;have h2 := PM LL (i + 1);have ap : (hI LL (i + 1)).length = (hI LL i).length + l.length := by rw [h1, cS]
   rw [yJ] at h2;have c1 := vf l;have bB : Nat.min l.length (N - (hI LL i).length) = l.length := pM (by omega);obtain ⟨m, hm⟩ : ∃ m, N - (hI LL i).length = m := ⟨_, rfl⟩;have b1 : (hI LL i).length ≤ N := by omega
   have b2 : l.length ≤ m := by omega
   have s1 : eA (b5 (hI LL i) ++ e3.drop ((hI LL i).length * 2)) ((hI LL i).length * 2) ((b5 l).take (l.length * 2)) = b5 (hI LL (i + 1)) ++ e3.drop ((hI LL (i + 1)).length * 2) := by
    rw [Nr rfl, I1 (nG _), ← r3, ← h1, List.drop_drop, nG];congr 2;omega
   have e5 := hu.sl hm b2 b1;rw [← ap] at e5;(repeat first | (with_reducible first | apply bd | apply aX | apply a8 | apply aY | apply dm | apply fZ | apply ls) | (with_reducible apply eu); exact rfl; (exact bG (by omega)) | (with_reducible apply aN); exact rfl; (repeat first | (with_reducible apply aA); exact rfl | (with_reducible apply l7); (iterate 5 exact rfl) | (with_reducible apply fB); (iterate 3 exact rfl); (omega); (omega); (assumption); exact rfl | (with_reducible apply fe); (iterate 3 exact rfl); (exact cX (by omega)); exact rfl | (with_reducible apply Fi); (iterate 3 exact rfl); assumption; (assumption); (assumption); exact rfl); (with_reducible apply aB) | (with_reducible apply MP 0); (iterate 3 exact rfl); assumption; exact rfl; exact rfl; exact rfl; (assumption); (exact dW _); (assumption); exact rfl; assumption; assumption; exact rfl);exact ⟨LL.length - (i + 1), _, _, [], by omega, ⟨i + 1, ii + 1, _, by omega, rfl, by omega, e5, rfl, rfl, rfl⟩, nO _ _ _, rfl, ⟨rfl, rfl, rfl, rfl, rfl, trivial⟩, trivial, rfl⟩
  ·have q2 : ¬ ii < (LL.length : Int) := by omega
   have dp : b5 (hI LL i) ++ e3.drop ((hI LL i).length * 2) = b5 LL.flatten := by
    rw [PL (by omega), tY (by omega), pJ]
   rw [dp];refine Ef 0 6 ⟨59, 2, v, N, b5 LL.flatten⟩ rfl rfl ?_;rw [← yJ];(repeat first | (with_reducible first | apply bd | apply aX | apply a8 | apply aY | apply dA | apply kX | apply kZ | apply kY) | (with_reducible apply c8); exact rfl; (exact b3 (by omega)) | (with_reducible apply aN); exact rfl; (repeat first | (with_reducible apply aA); exact rfl); (with_reducible apply aB))
   ((refine bR rfl (bC rfl bf) ?_))
   exact aj.bp.refl _
abbrev Eb (LL : List (List Int)) : List AC := LL.map fun l => AC.p (cB 1 l.length (cF l))
abbrev Ez (LL : List (List Int)) : aj := cM 1 LL.length (Eb LL)
theorem Ql {LL : List (List Int)} {j : Int} {i : Nat} {l : List Int} (ae : j = i) (h : LL[i]? = some l) : ((Eb LL).drop (j.toNat * 1)).take 1 = [.p (cB 1 l.length (cF l))] := by
 subst ae;have hi := (bX.1 h).1;rw [ks, Nat.mul_one, mV (by simpa [Eb] using hi)];have : LL[i] = l := (bX.1 h).2;simp [Eb, this]
def hH (LL : List (List Int)) (i : Nat) : List Int := (LL.take i).flatten
theorem PK {LL : List (List Int)} {i : Nat} {l : List Int} (h : LL[i]? = some l) : hH LL (i + 1) = hH LL i ++ l := by
 unfold hH;rw [oO (bX.1 h).1, (bX.1 h).2]; simp
theorem PI {LL : List (List Int)} {i : Nat} (h : LL.length ≤ i) : hH LL i = LL.flatten := by unfold hH; rw [h0 h]
theorem PJ (LL : List (List Int)) (i : Nat) : (hH LL i).length ≤ LL.flatten.length := by
 have : LL.flatten = hH LL i ++ (LL.drop i).flatten := by unfold hH; rw [← List.flatten_append, kq]
 rw [this, cS]; omega
def R1 (LL : List (List Int)) (n : Nat) (R : aJ) (aS : List (Nat × aj)) (bF : List (Nat × List AC)) : Prop :=
 ∃ (i : Nat) (ii oB : Int), i ≤ LL.length ∧ n = LL.length - i ∧ ii = i ∧ oB = ((hH LL i).length : Nat) ∧ R = fW ∧ bF = [] ∧ aS = [(0, Ez LL), (3, aT oB), (10, Ez LL), (11, aT LL.length), (12, aT ii)]
def R2 (LL : List (List Int)) (N : Nat) (v : Value) (e3 : List AC) (n : Nat) (R : aJ) (aS : List (Nat × aj)) (bF : List (Nat × List AC)) : Prop :=
 ∃ (i : Nat) (ii : Int) (u : Value), i ≤ LL.length ∧ n = LL.length - i ∧ ii = i ∧ iD v 1 (hH LL i).length N u ∧ R = bJ 0 ⟨3, 1, v, N, cF (hH LL i) ++ e3.drop ((hH LL i).length * 1)⟩ ∧ bF = [] ∧ aS = [(6, aQ v), (7, aQ u), (24, Ez LL), (25, aT LL.length), (26, aT ii)]
theorem Pr {LL : List (List Int)} (iH : LL.length ≤ 1100) (kh : LL.flatten.length ≤ 100000) : aR ai 187 [Ez LL] (nT LL.flatten) := by
 refine cc (f := 187) Tryz.func187 rfl rfl rfl rfl ?_;refine sT ?_;(repeat first | (with_reducible first | apply bd | apply aX | apply a8 | apply aY | apply fZ) | (with_reducible apply aN); exact rfl; (repeat first | (with_reducible apply aA); exact rfl | (with_reducible apply db); (iterate 3 exact rfl)); (with_reducible apply aB));refine mx 37 (R1 LL) LL.length fW _ [] ⟨0, 0, 0, eF _, rfl, rfl, rfl, rfl, rfl, rfl⟩ (bM.refl _) rfl ⟨rfl, rfl, rfl, rfl, rfl, trivial⟩ trivial rfl ?_;rintro n R aS bF ⟨i, ii, oB, hi, rfl, hT, y3, rfl, rfl, rfl⟩ ee;clear ee
 by_cases al : i < LL.length
 ·have q2 : ii < (LL.length : Int) := by omega
  have cg : 0 ≤ ii := by omega
  obtain ⟨l, g1⟩ : ∃ l, LL[i]? = some l := ⟨_, cp al⟩;have iU := Ql hT g1;have h1 := PK g1;have h2 := PJ LL (i + 1);have ap : (hH LL (i + 1)).length = (hH LL i).length + l.length := by rw [h1, cS]
  (repeat first | (with_reducible first | apply bd | apply aX | apply a8 | apply aY | apply dm | apply fZ | apply ls) | (with_reducible apply eu); exact rfl; (exact bG (by omega)) | (with_reducible apply aN); exact rfl; (repeat first | (with_reducible apply aA); exact rfl | (with_reducible apply l7); (iterate 5 exact rfl) | (with_reducible apply fB); (iterate 3 exact rfl); (omega); (omega); (assumption); exact rfl | (with_reducible apply fe); (iterate 3 exact rfl); (exact cX (by omega)); exact rfl | (with_reducible apply db); (iterate 3 exact rfl)); (with_reducible apply aB));exact ⟨LL.length - (i + 1), fW, _, [], by omega, ⟨i + 1, ii + 1, _, by omega, rfl, by omega, by omega, rfl, rfl, rfl⟩, bM.refl _, rfl, ⟨rfl, rfl, rfl, rfl, rfl, trivial⟩, trivial, rfl⟩
 ·have q2 : ¬ ii < (LL.length : Int) := by omega
  rw [PI (by omega)] at y3;subst y3;generalize yJ : LL.flatten.length = N at *;(repeat first | (with_reducible first | apply bd | apply aX | apply a8 | apply aY | apply kX | apply kZ | apply kY) | (with_reducible apply c8); exact rfl; (exact b3 (by omega)) | (with_reducible apply aN); exact rfl; (repeat first | (with_reducible apply aA); exact rfl); (with_reducible apply aB));refine zd (l := N) (c' := N) 0 rfl rfl rfl rfl (dW _) rfl rfl ?h2 (kO (by omega)) rfl (fun v hv => ?_)
  case h2 => show 8 * N ≤ 281474976710656; omega
  generalize dE : hN N 1 _ = e3;have Cr : e3.length = N * 1 := by rw [← dE]; simp [hN]
  clear dE;(repeat first | (with_reducible first | apply bd | apply aX | apply a8 | apply aY | apply fZ) | (with_reducible apply aN); exact rfl; (repeat first | (with_reducible apply aA); exact rfl | (with_reducible apply db); (iterate 3 exact rfl)); (with_reducible apply aB));refine IM 0 (r := ⟨3, 1, v, N, e3⟩) rfl (fun eW c iL eM js dU hlen => ?_);have mO : v = .slice eW N c := iL;have rU : iD v 1 0 N v := by rw [mO]; exact iD.all 1 eM dU
  clear iL eM js dU hlen;refine mx 37 (R2 LL N v e3) LL.length (bJ 0 ⟨3, 1, v, N, e3⟩) _ [] ⟨0, 0, v, eF _, rfl, rfl, rU, rfl, rfl, rfl⟩ (nO _ _ _) rfl ⟨rfl, rfl, rfl, rfl, rfl, trivial⟩ trivial rfl ?_;clear al q2 rU hT mO;rintro n R aS bF ⟨i, ii, u, hi, rfl, hT, hu, rfl, rfl, rfl⟩ ee;clear ee
  by_cases al : i < LL.length
  ·have q2 : ii < (LL.length : Int) := by omega
   have cg : 0 ≤ ii := by omega
   obtain ⟨l, g1⟩ : ∃ l, LL[i]? = some l := ⟨_, cp al⟩;have iU := Ql hT g1;have h1 := PK g1;have h2 := PJ LL (i + 1);have ap : (hH LL (i + 1)).length = (hH LL i).length + l.length := by rw [h1, cS]
   rw [yJ] at h2;have c1 := Na l;have bB : Nat.min l.length (N - (hH LL i).length) = l.length := pM (by omega);obtain ⟨m, hm⟩ : ∃ m, N - (hH LL i).length = m := ⟨_, rfl⟩;have b1 : (hH LL i).length ≤ N := by omega
   have b2 : l.length ≤ m := by omega
   have s1 : eA (cF (hH LL i) ++ e3.drop ((hH LL i).length * 1)) ((hH LL i).length * 1) ((cF l).take (l.length * 1)) = cF (hH LL (i + 1)) ++ e3.drop ((hH LL (i + 1)).length * 1) := by
    rw [Nb rfl, I1 (C1 _), ← CZ, ← h1, List.drop_drop, C1];congr 2;omega
   have e5 := hu.sl hm b2 b1;rw [← ap] at e5;(repeat first | (with_reducible first | apply bd | apply aX | apply a8 | apply aY | apply dm | apply fZ | apply ls) | (with_reducible apply eu); exact rfl; (exact bG (by omega)) | (with_reducible apply aN); exact rfl; (repeat first | (with_reducible apply aA); exact rfl | (with_reducible apply l7); (iterate 5 exact rfl) | (with_reducible apply fB); (iterate 3 exact rfl); (omega); (omega); (assumption); exact rfl | (with_reducible apply fe); (iterate 3 exact rfl); (exact cX (by omega)); exact rfl | (with_reducible apply Fi); (iterate 3 exact rfl); assumption; (assumption); (assumption); exact rfl); (with_reducible apply aB) | (with_reducible apply MP 0); (iterate 3 exact rfl); assumption; exact rfl; exact rfl; exact rfl; (assumption); (exact dW _); (assumption); exact rfl; assumption; assumption; exact rfl);exact ⟨LL.length - (i + 1), _, _, [], by omega, ⟨i + 1, ii + 1, _, by omega, rfl, by omega, e5, rfl, rfl, rfl⟩, nO _ _ _, rfl, ⟨rfl, rfl, rfl, rfl, rfl, trivial⟩, trivial, rfl⟩
  ·have q2 : ¬ ii < (LL.length : Int) := by omega
   have dp : cF (hH LL i) ++ e3.drop ((hH LL i).length * 1) = cF LL.flatten := by
    rw [PI (by omega), tY (by omega), pJ]
   rw [dp];refine Ef 0 6 ⟨3, 1, v, N, cF LL.flatten⟩ rfl rfl ?_;rw [← yJ];(repeat first | (with_reducible first | apply bd | apply aX | apply a8 | apply aY | apply dA | apply kX | apply kZ | apply kY) | (with_reducible apply c8); exact rfl; (exact b3 (by omega)) | (with_reducible apply aN); exact rfl; (repeat first | (with_reducible apply aA); exact rfl); (with_reducible apply aB))
   ((refine bR rfl (bC rfl bf) ?_))
   exact aj.bp.refl _
theorem aca {x y : Nat} (aa : x < 9223372036854775808) (ah : y < 9223372036854775808) (h : x * y < 9223372036854775808) : aR ai 258 [aQ (.int .u64 (x : Nat)), aQ (.int .u64 (y : Nat))] (.cZ [.one (.c (.int .u64 0)), .one (.c (.int .u64 ((x * y : Nat) : Int)))]) := by
 refine mS [.int .u64 (x : Nat), .int .u64 (y : Nat)] (.tuple #[.int .u64 0, .int .u64 ((x * y : Nat) : Int)]) rfl rfl rfl rfl rfl fun W => ?_;refine (Tryz.bits_Mul64 x y (by omega) (by omega) W).mono ?_;rintro e w' ⟨rfl, rfl⟩;have aI : x * y / 18446744073709551616 = 0 := Nat.div_eq_of_lt (by omega);have aO : x * y % 18446744073709551616 = x * y := Nat.mod_eq_of_lt (by omega);rw [aI, aO];exact ⟨rfl, Below.refl _ _⟩
theorem ab9 {y : Nat} (ah : y < 9223372036854775808) : aR ai 227 [aQ (.int .u64 1), aQ (.int .u64 (y : Nat))] (.cZ [.one (.c (.int .u64 0)), .one (.c (.int .u64 (y : Nat)))]) := by
 have aM := aca (x := 1) (y := y) (by decide) ah (by omega);rw [Nat.one_mul] at aM
 replace aM : aR ai 258 [aQ (.int .u64 1), aQ (.int .u64 (y : Nat))] (.cZ [.one (.c (.int .u64 0)), .one (.c (.int .u64 (y : Nat)))]) := aM
 refine cc (f := 227) Tryz.func227 rfl rfl rfl rfl ?_;(repeat first | (with_reducible apply aA); exact rfl | refine dI rfl rfl rfl rfl (by (exact aM)) rfl ?_ | (with_reducible first | apply bN | apply bH | apply bL | apply aB | apply b6 | apply eR) | (with_reducible apply hA); exact rfl)
 ((refine bR rfl (bC rfl (bC rfl bf)) ?_))
 exact aj.bp.refl _
def Sq (d : Int) (m : Nat) (v : Value) (e3 : List AC) (n : Nat) (R : aJ) (aS : List (Nat × aj)) (bF : List (Nat × List AC)) : Prop :=
 ∃ (k : Nat) (fg : Int), 1 ≤ k ∧ k ≤ m ∧ n = m - k ∧ fg = k ∧ R = bJ 0 ⟨3, 1, v, m, cF (List.replicate k d) ++ e3.drop k⟩ ∧ bF = [] ∧ aS = [(7, aQ v), (8, aT fg)]
theorem ace {d : Int} {m : Nat} (wX : 1 ≤ m) (hm : m ≤ 100000) : aR ai 180 [nT [d], aT m] (nT (List.replicate m d)) := by
 have Bb := ab9 (y := m) (by omega);have aP : IntKind.u64.wrap (m : Int) = m := by rw [IntKind.wrap_u64]; omega
 have w2 : IntKind.i64.wrap (m : Int) = m := cX (by omega);have cY : ¬ (m : Int) < 0 := by omega
 have q1 : ¬ (m : Int) > 9223372036854775807 := by omega
 have bB : Nat.min 1 m = 1 := pM wX;refine cc (f := 180) Tryz.func180 rfl rfl rfl rfl ?_;refine sT ?_;(repeat first | (with_reducible first | apply bd | apply aX | apply a8 | apply aY | apply dm) | (with_reducible apply c8); exact rfl; (exact b3 (by omega)) | (with_reducible apply aN); exact rfl; (repeat first | (with_reducible apply aA); exact rfl | (with_reducible apply Ff); exact rfl; exact rfl; (first | exact cX (by omega) | assumption | rfl); exact rfl | (with_reducible apply db); (iterate 3 exact rfl) | refine dI rfl rfl rfl rfl (by (exact Bb)) rfl ?_); (with_reducible apply aB));refine zd (l := m) (c' := m) 0 rfl rfl rfl rfl (dW _) rfl rfl ?h2 (kO (by omega)) rfl (fun v hv => ?_)
 case h2 => show 8 * m ≤ 281474976710656; omega
 generalize dE : hN m 1 _ = e3;have Cr : e3.length = m := by rw [← dE]; simp [hN]
 have W6 : e3.all AC.bb = true := by
  rw [← dE];refine ct.2 fun y ah => ?_;simp only [hN, ir] at ah;obtain ⟨j, _, rfl⟩ := ah;rfl
 clear dE
 have s1 : eA e3 (0 * 1) ((cF [d]).take (1 * 1)) = cF (List.replicate 1 d) ++ e3.drop 1 := by
  unfold eA; simp [cF]
 (repeat first | (with_reducible first | apply bd | apply aX | apply a8 | apply aY | apply fZ) | (with_reducible apply aN); exact rfl; (repeat first | (with_reducible apply aA); exact rfl); (with_reducible apply aB) | (with_reducible apply Yq 0); (iterate 6 exact rfl); (exact rfl); exact rfl; (assumption); (assumption); exact rfl);refine IM 0 (r := ⟨3, 1, v, m, cF (List.replicate 1 d) ++ e3.drop 1⟩) rfl (fun eW c iL eM js dU hlen => ?_);have mO : v = .slice eW m c := iL;have hu : iD v 1 0 m v := by rw [mO]; exact iD.all 1 eM dU
 clear iL eM js dU hlen mO;refine mx 48 (Sq d m v e3) (m - 1) (bJ 0 ⟨3, 1, v, m, cF (List.replicate 1 d) ++ e3.drop 1⟩) _ [] ⟨1, 1, dW _, wX, rfl, rfl, rfl, rfl, rfl⟩ (nO _ _ _) rfl ⟨rfl, rfl, trivial⟩ trivial rfl ?_;clear Bb aP w2 cY q1 bB s1;rintro n R aS bF ⟨k, fg, qu, af, rfl, rfl, rfl, rfl, rfl⟩ ee;clear ee
 by_cases al : k < m
 ·have q2 : (k : Int) < (m : Int) := by omega
  obtain ⟨x, aa⟩ : ∃ x, Nat.min k (m - k) = x := ⟨_, rfl⟩;have ahw : 1 ≤ x := by rw [← aa]; exact Nat.le_min.2 ⟨qu, by omega⟩
  have YJ : x ≤ k := by rw [← aa]; exact Nat.min_le_left _ _
  have ahx : x ≤ m - k := by rw [← aa]; exact Nat.min_le_right _ _
  have m0 : m - 0 = m := Nat.sub_zero m;have cG := hu.sl m0 af (eF _);have cH := hu.aeJ (k := k) (by omega);rw [jH] at cG cH;have dp : 0 + k = k := jH k
  have pd : (cF (List.replicate k d) ++ e3.drop k).all AC.bb = true := by
   rw [List.all_append, Na, pR];exact ct.2 fun y ah => ct.1 W6 y (mW ah)
  have s1 : eA (cF (List.replicate k d) ++ e3.drop k) (k * 1) ((((cF (List.replicate k d) ++ e3.drop k).drop (0 * 1)).take (k * 1)).take (x * 1)) = cF (List.replicate (k + x) d) ++ e3.drop (k + x) := by
   have lk : (cF (List.replicate k d)).length = k * 1 := by simp [cF]
   rw [Nat.zero_mul, List.drop_zero, ← lk, List.take_left, I1 rfl]
   have cD : (cF (List.replicate k d)).take (x * 1) = cF (List.replicate x d) := by
    simp only [cF, List.map_replicate, Nat.mul_one, List.take_replicate];rw [pM YJ]
   rw [cD, List.drop_drop, ← CZ, List.replicate_append_replicate, show (cF (List.replicate x d)).length = x by simp [cF]]
  have aP : IntKind.i64.wrap ((k : Int) + (x : Int)) = (k : Int) + (x : Int) := cX (by omega);(repeat first | (with_reducible apply ey); kernel_rfl | (with_reducible apply dT (id := 9) [0,1,2,3,4,5,6,7,8,9]); kernel_rfl; kernel_rfl; exact rfl | (with_reducible first | apply bd | apply aX | apply a8 | apply aY | apply dm | apply fZ | apply ls) | (with_reducible apply eu); exact rfl; (exact bG (by omega)) | (with_reducible apply aN); exact rfl; (repeat first | (with_reducible apply aA); exact rfl | (with_reducible apply fe); (iterate 3 exact rfl); (exact cX (by omega)); exact rfl | (with_reducible apply Fi); (iterate 3 exact rfl); assumption; (assumption); (assumption); exact rfl | (with_reducible apply Ty); (iterate 3 exact rfl); assumption; (assumption); (assumption); exact rfl); (with_reducible apply aB) | (with_reducible apply nA 0); (iterate 4 exact rfl); kernel_rfl; exact rfl | (with_reducible apply Yr 0); (iterate 3 exact rfl); assumption; exact rfl; assumption; assumption; assumption; exact rfl; exact rfl; (assumption); (exact dW _); (assumption); exact rfl; assumption; assumption; exact rfl);exact ⟨m - (k + x), _, _, [], by omega, ⟨k + x, (k : Int) + (x : Int), by omega, by omega, rfl, by omega, rfl, rfl, rfl⟩, nO _ _ _, rfl, ⟨rfl, rfl, trivial⟩, trivial, rfl⟩
 ·have q2 : ¬ (k : Int) < (m : Int) := by omega
  have dp : cF (List.replicate k d) ++ e3.drop k = cF (List.replicate m d) := by
   rw [show k = m by omega, tY (by omega), pJ]
  rw [dp];refine Ef 0 7 ⟨3, 1, v, m, cF (List.replicate m d)⟩ rfl rfl ?_
  have el : cM 1 m (cF (List.replicate m d)) = nT (List.replicate m d) := by
   show cM 1 m _ = cM 1 (List.replicate m d).length _;rw [List.length_replicate]
  rw [← el];(repeat first | (with_reducible first | apply bd | apply aX | apply a8 | apply aY | apply dA | apply kX | apply kZ | apply kY) | (with_reducible apply c8); exact rfl; (exact b3 (by omega)) | (with_reducible apply aN); exact rfl; (repeat first | (with_reducible apply aA); exact rfl | (with_reducible apply db); (iterate 3 exact rfl)); (with_reducible apply aB))
  ((refine bR rfl (bC rfl bf) ?_))
  exact aj.bp.refl _
end Go.Proofs.YtpochbhajmbfdaaGreat
namespace Go.Proofs.YtpochbhajmbfdaaGreat
def vp (p q : an) : List an := if p = q then [p] else [p, q]
def vo (p q : an) : List Int := if p = q then [] else [1]
end Go.Proofs.YtpochbhajmbfdaaGreat
namespace Go.Proofs.YtpochbhajmbfdaaGreat
open Go.RowKit
def pi (D : List Int) : Int := D.foldl max 0
def Ry : Prop := ∀ x y z w : Int, aR ai 42 [bh x y, bh z w] (nS (vp (x, y) (z, w)) (vo (x, y) (z, w)))
def RD : Prop := ∀ (V : List an) (D : List Int) (j : Nat) (l : List an), V.length = D.length + 1 → V.length ≤ 1100 → l.length ≤ 1100 → j < D.length → (∀ d ∈ D, 1 ≤ d ∧ d ≤ 1048576) →
 aR ai 125 [nS V D, aT j, hr l] (.cZ [.agg (vj (if l.isEmpty then [] else Eo V j l) (if l.isEmpty then [] else Ao D j l.length)), .one (.c (.bool (!l.isEmpty)))])
def Rv : Prop := ∀ (V : List an) (D : List Int), V.length ≤ 1100 → D.length ≤ 1100 → aR ai 69 [nS V D] (aT (pi D))
def RC : Prop := ∀ (V W : List an) (D E : List Int), V.length ≤ 1100 → D.length ≤ 1100 → W.length ≤ 1100 → E.length ≤ 1100 → aR ai 50 [nS V D, nS W E] (bE (decide (V = W) && decide (D = E)))
def Ru : Prop := ∀ (V : List an) (D : List Int), V.length ≤ 1100 → D.length ≤ 1100 → aR ai 133 [nS V D] (nS V D)
theorem Ul : aj.bp (.w (.agg [.c (.slice none 0 0), .c (.slice none 0 0)])) (nS [] []) := Ka rfl fun j x y aa ah => by
 match j with
 | 0 => cases aa; cases ah; exact .inr ⟨rfl, 2, rfl⟩
 | 1 => cases aa; cases ah; exact .inr ⟨rfl, 1, rfl⟩
 | j + 2 => simp at aa
end Go.Proofs.YtpochbhajmbfdaaGreat
