/-
  My own texts, without what this claim does not need. My own text.
-/
import Derived.Lib.SliceRun
import Derived.Laws.BytesArg
import Derived.Test.YtpochbhajmbfdaaGreatSLastK8
set_option maxRecDepth 100000
set_option maxHeartbeats 64000000
set_option linter.unusedVariables false
set_option linter.unusedSimpArgs false
set_option linter.unusedSectionVars false
open Go.Proofs.Tryz renaming prog → aj
namespace Go.Proofs.YtpochbhajmbfdaaGreat.bx
abbrev b6 := ao × ao
def li (r : Nat) (p : ao) : ao := (ct p.1 r, ct p.2 r)
abbrev k7 : b6 := ((0, 0), (0, 0))
def gP (a b : b6) : fz := hO a.1.1 a.1.2 a.2.1 a.2.2 b.1.1 b.1.2 b.2.1 b.2.2
def tb (a b : b6) : Bool := FU (gP a b) a.1.1 a.1.2 a.2.1 a.2.2 b.1.1 b.1.2 b.2.1 b.2.2
def ic (r : Nat) (M : fz) : ao := (fw (2 ^ r) M.n M.d, fw (2 ^ r) M.m M.e)
def yi (r : Nat) (p : ao) : ao := (2 ^ r * p.1, 2 ^ r * p.2)
def ga (r : Nat) (l : ao × ao) : b6 := (yi r l.1, yi r l.2)
def Mq (r : Nat) (p q x : ao) : Bool := qD (2 ^ r * p.1) (2 ^ r * p.2) (2 ^ r * q.1) (2 ^ r * q.2) r x
def fH (p q : ao) (l : List ao) : List ao := qX (decide (q.1 < p.1)) (decide (q.2 < p.2)) (fun _ => true) l
def rG (r : Nat) (l m : ao × ao) : Option ao := if (gP (ga r l) (ga r m)).k = 1 ∧ tb (ga r l) (ga r m) = false then some (ic r (gP (ga r l) (ga r m))) else none
def vn (r : Nat) (a b : b6) : Option ao := if (gP a b).k = 1 then some (ic r (gP a b)) else none
def pE (E : List b6) (r R : Nat) : cG ao where
 CD := Mq r
 gu := fH
 cut := rG r
 n := E.length
 P i := li r (E.getD i k7).1
 Q i := li r (E.getD i k7).2
 mM i j := vn r (E.getD i k7) (E.getD j k7)
 R := R
 gb x := eO r x.1 x.2 = true
def gQ (p : ao) : Bool := decide (-134217728 ≤ p.1) && decide (p.1 < 134217728) && decide (-134217728 ≤ p.2) && decide (p.2 < 134217728)
def ja (E : List b6) : Bool := E.all fun e => gQ e.1 && gQ e.2
theorem nz {p : ao} : gQ p = true ↔ ((-134217728 ≤ p.1 ∧ p.1 < 134217728) ∧ -134217728 ≤ p.2 ∧ p.2 < 134217728) := by
 unfold gQ; simp only [dQ, cB]; omega
theorem oz {E : List b6} (h : ja E = true) (i : Nat) : gQ (E.getD i k7).1 = true ∧ gQ (E.getD i k7).2 = true := by
 rw [xp];cases he : E[i]? with
 | none => exact ⟨by decide, by decide⟩
 | some e =>
  have := cu.1 h e (dF he);exact Bool.and_eq_true_iff.1 this
theorem Cl (v : Int) (r : Nat) : ct v r = fw (2 ^ r) v 1 := by
 unfold ct fw; rw [Int.mul_one]
theorem xo {S X W X' W' : Int} (hS : 0 < S) (eT : 0 < W) (yN : 0 < W') (h : X * W' ≤ X' * W) : fw S X W ≤ fw S X' W' := by
 obtain ⟨a1, a2⟩ := DR hS eT X;obtain ⟨b1, b2⟩ := DR hS yN X';generalize fw S X W = g at *;generalize fw S X' W' = iU at *;refine Int.not_lt.1 fun bi => ?_;have h1 : S * (iU + 1) ≤ S * g := pH bi (by omega);rw [Int.mul_add, Int.mul_one] at h1;generalize S * g = G at *;generalize S * iU = vK at *;have c1 : (2 * vK + S) * W ≤ (2 * G - S) * W := pI (by omega) (by omega);have c2 : (2 * vK + S) * W ≤ 2 * X := by omega
 have ke : (2 * vK + S) * W * W' ≤ 2 * X * W' := pI c2 (by omega);have BC : 2 * X' * W < (2 * vK + S) * W' * W := Int.mul_lt_mul_of_pos_right b2 eT;have aI : (2 * vK + S) * W * W' = (2 * vK + S) * W' * W := by rw [lp, jE W, ← lp]
 have aN : 2 * X * W' = 2 * (X * W') := lp ..;have cC : 2 * X' * W = 2 * (X' * W) := lp ..;omega
theorem Az {m lo hi x : Int} (h1 : wi m lo = true) (h2 : wi m hi = true) (ap : lo ≤ x) (aL : x ≤ hi) : wi m x = true := by
 unfold wi at *; simp only [dQ, cB] at *; omega
theorem VV {r : Nat} (aq : r ≤ 28) : wi (134217728 / 2 ^ r) (ct (-134217728) r) = true ∧ wi (134217728 / 2 ^ r) (ct 134217727 r) = true := by
 have : r = 0 ∨ r = 1 ∨ r = 2 ∨ r = 3 ∨ r = 4 ∨ r = 5 ∨ r = 6 ∨ r = 7 ∨ r = 8 ∨ r = 9 ∨ r = 10 ∨ r = 11 ∨ r = 12 ∨ r = 13 ∨ r = 14 ∨ r = 15 ∨ r = 16 ∨ r = 17 ∨ r = 18 ∨ r = 19 ∨ r = 20 ∨ r = 21 ∨ r = 22 ∨ r = 23 ∨ r = 24 ∨ r = 25 ∨ r = 26 ∨ r = 27 ∨ r = 28 := by omega
 rcases this with rfl | rfl | rfl | rfl | rfl | rfl | rfl | rfl | rfl | rfl | rfl | rfl | rfl | rfl | rfl | rfl | rfl | rfl | rfl | rfl | rfl | rfl | rfl | rfl | rfl | rfl | rfl | rfl | rfl <;> exact ⟨by decide, by decide⟩
theorem DS {r : Nat} (aq : r ≤ 28) {X W : Int} (eT : 0 < W) (h1 : -134217728 * W ≤ X) (h2 : X ≤ 134217727 * W) : wi (134217728 / 2 ^ r) (fw (2 ^ r) X W) = true := by
 have hS : (0 : Int) < 2 ^ r := jG (by decide);have g := VV aq;rw [Cl, Cl] at g;exact Az g.1 g.2 (xo hS (by decide) eT (by omega)) (xo hS eT (by decide) (by omega))
theorem Dw {r : Nat} (aq : r ≤ 28) {p : ao} (h : gQ p = true) : eO r (li r p).1 (li r p).2 = true := by
 have h := nz.1 h;unfold eO li;rw [Cl, Cl, DS aq (by decide) (by omega) (by omega), DS aq (by decide) (by omega) (by omega)]; rfl
theorem C6 {a b : b6} (h : (gP a b).k = 1) : ∃ X Y W W', gP a b = iK X W Y W' := by
 unfold gP hO at h ⊢
 split at h
 ·rename_i hw;rw [if_pos hw];unfold u5 inl at h ⊢
  split at h
  ·rename_i ma;rw [if_pos ma];unfold u4 at h ⊢
   split at h
   ·rename_i he;rw [if_pos he]; exact ⟨_, _, _, _, rfl⟩
   ·simp [sT] at h
  ·simp [ht] at h
 ·rename_i hw;rw [if_neg hw];unfold mi tJ at h ⊢
  split at h
  ·rename_i au;rw [if_pos au]; exact ⟨_, _, _, _, rfl⟩
  ·simp [ht] at h
theorem Vo {a b : b6} (h : (gP a b).k = 1) : tb a b = true ↔ (a.1 = b.1 ∨ a.1 = b.2 ∨ a.2 = b.1 ∨ a.2 = b.2) := by
 have e : ∀ p q : ao, dN p.1 p.2 q.1 q.2 = true ↔ p = q := fun p q => by rw [rK, Prod.ext_iff]
 unfold tb FU;rw [if_pos h];simp only [qM, e, or_assoc]
theorem Uf {r : Nat} {p q : ao} : yi r p = yi r q ↔ p = q := by
 have hS : (2 : Int) ^ r ≠ 0 := by have : (0 : Int) < 2 ^ r := jG (by decide); omega
 unfold yi;rw [Prod.ext_iff, Prod.ext_iff];exact ⟨fun ⟨h1, h2⟩ => ⟨Int.eq_of_mul_eq_mul_left hS h1, Int.eq_of_mul_eq_mul_left hS h2⟩, fun ⟨h1, h2⟩ => ⟨by rw [h1], by rw [h2]⟩⟩
theorem Lh {r : Nat} {l m : ao × ao} (h : (gP (ga r l) (ga r m)).k = 1) : tb (ga r l) (ga r m) = true ↔ xX l m := by
 rw [Vo h]; unfold ga xX; simp only [Uf]
theorem DP {r : Nat} {a b : b6} {X Y W W' : Int} (e : gP a b = iK X W Y W') : W' = W ∧ 0 < W ∧ ic r (gP a b) = (fw (2 ^ r) X W, fw (2 ^ r) Y W) ∧ A6 (2 ^ r) X Y W (ic r (gP a b)) := by
 obtain ⟨h1, h2, _⟩ := zH e;have hS : (0 : Int) < 2 ^ r := jG (by decide);have aN : ic r (gP a b) = (fw (2 ^ r) X W, fw (2 ^ r) Y W) := by rw [e]; unfold ic iK; rw [h1]
 exact ⟨h1, h2, aN, by rw [aN]; exact YX hS h2⟩
theorem qm {r : Nat} {p : ao} (h : eO r p.1 p.2 = true) : cH (2 ^ r * p.1) (2 ^ r * p.2) = true := by
 have h := (CX r _ _).1 h;unfold cH; simp only [dQ, cB]; omega
theorem adX (E : List b6) {r : Nat} (aq : r ≤ 28) (R : Nat) : xW (2 ^ r) (pE E r R) where
 pos := jG (by decide)
 XQ p q x h := by
  have h : qD _ _ _ _ _ _ = true := h;unfold qD at h;rw [GK aq, HP] at h;exact h.2.2
 Mp p q x hp al aa h := by
  show qD _ _ _ _ _ _ = true;unfold qD;have aa : eO r x.1 x.2 = true := aa;have kp := (CX r _ _).1 aa;have air := Im aq;rw [GK aq, HP, aau];refine ⟨aa, ⟨qm hp, qm al, ?_, ?_, rfl⟩, h⟩
  ·rw [BN]; omega
  ·rw [BN]; omega
 KP l m x h := by
  have h : rG r l m = some x := h;unfold rG at h
  split at h
  ·rename_i af;cases h;obtain ⟨X, Y, W, W', e⟩ := C6 af.1;refine ⟨fun hs => ?_, X, Y, W, W', e, (DP e).2.2.2⟩;have := (Lh af.1).2 hs;rw [af.2] at this; cases this
  ·cases h
 Ux l m _ _ _ _ h af := by
  have h : rG r l m = none := h;unfold rG at h
  split at h
  ·cases h
  ·rename_i aF;refine (Lh af).1 ?_;cases he : tb (ga r l) (ga r m) with
   | true => rfl
   | false => exact absurd ⟨af, he⟩ aF
def vu (r : Nat) (V : List ao) (D : List Int) : Prop :=
 V ≠ [] ∧ V.length = D.length + 1 ∧ (∀ v ∈ V, eO r v.1 v.2 = true) ∧ hJ (· ≠ ·) V ∧ (hJ (fun p q => p.1 ≤ q.1) V ∨ hJ (fun p q => q.1 ≤ p.1) V) ∧ (hJ (fun p q => p.2 ≤ q.2) V ∨ hJ (fun p q => q.2 ≤ p.2) V)
theorem FC {R T : ao → ao → Prop} : ∀ {l : List ao}, hJ R l → hJ T l → hJ (fun p q => R p q ∧ T p q) l
 | [], _, _ => trivial
 | [_], _, _ => trivial
 | p :: q :: W, h, aC => ⟨⟨h.1, aC.1⟩, FC (l := q :: W) h.2 aC.2⟩
theorem KH {R : ao → ao → Prop} (aE : ∀ a b c, R a b → R b c → R a c) : ∀ {l : List ao}, hJ R l → l.Pairwise R
 | [], _ => .nil
 | [_], _ => by simp
 | p :: q :: W, h => by
  have cp := KH aE (l := q :: W) h.2;refine iN.2 ⟨fun x aa => ?_, cp⟩;rcases gI.1 aa with rfl | aa
  ·exact h.1
  ·exact aE _ _ _ h.1 ((iN.1 cp).1 x aa)
theorem BJ {R T : ao → ao → Prop} (h1 : ∀ a b c, R a b → R b c → R a c) (h2 : ∀ a b c, T a b → T b c → T a c) (aK : ∀ a b, R a b → R b a → T a b → T b a → a = b) {l : List ao} (aq : hJ R l) (aE : hJ T l) (aF : hJ (· ≠ ·) l) : l.Nodup := by
 have := KH (R := fun p q => (R p q ∧ T p q) ∧ p ≠ q) (fun a b c x y => ⟨⟨h1 _ _ _ x.1.1 y.1.1, h2 _ _ _ x.1.2 y.1.2⟩, fun e => by subst e; exact x.2 (aK _ _ x.1.1 y.1.1 x.1.2 y.1.2)⟩) (FC (FC aq aE) aF);exact this.imp fun h => h.2
theorem vu.nodup {r : Nat} {V : List ao} {D : List Int} (h : vu r V D) : V.Nodup := by
 obtain ⟨_, _, _, aF, aa, ag⟩ := h;rcases aa with aa | aa <;> rcases ag with ag | ag
 ·exact BJ (R := fun p q : ao => p.1 ≤ q.1) (T := fun p q : ao => p.2 ≤ q.2) (fun a b c => Int.le_trans) (fun a b c => Int.le_trans) (fun a b h1 h2 ap aL => Prod.ext (Int.le_antisymm h1 h2) (Int.le_antisymm ap aL)) aa ag aF
 ·exact BJ (R := fun p q : ao => p.1 ≤ q.1) (T := fun p q : ao => q.2 ≤ p.2) (fun a b c => Int.le_trans) (fun a b c h aC => Int.le_trans aC h) (fun a b h1 h2 ap aL => Prod.ext (Int.le_antisymm h1 h2) (Int.le_antisymm aL ap)) aa ag aF
 ·exact BJ (R := fun p q : ao => q.1 ≤ p.1) (T := fun p q : ao => p.2 ≤ q.2) (fun a b c h aC => Int.le_trans aC h) (fun a b c => Int.le_trans) (fun a b h1 h2 ap aL => Prod.ext (Int.le_antisymm h2 h1) (Int.le_antisymm ap aL)) aa ag aF
 ·exact BJ (R := fun p q : ao => q.1 ≤ p.1) (T := fun p q : ao => q.2 ≤ p.2) (fun a b c h aC => Int.le_trans aC h) (fun a b c h aC => Int.le_trans aC h) (fun a b h1 h2 ap aL => Prod.ext (Int.le_antisymm h2 h1) (Int.le_antisymm aL ap)) aa ag aF
theorem Cb (r : Nat) (a b : Int) : decide ((2 : Int) ^ r * a < 2 ^ r * b) = decide (a < b) := by
 have hS : (0 : Int) < 2 ^ r := jG (by decide);rw [decide_eq_decide];exact ⟨fun h => Int.lt_of_mul_lt_mul_left h (by omega), fun h => Int.mul_lt_mul_of_pos_left h hS⟩
theorem K1 {fx fy : Bool} {p q : ao} : ∀ (l out : List ao), (∀ x ∈ l, x ≠ p ∧ x ≠ q) → (out ++ l).Nodup → l.foldl (pd p q) out = out ++ l
 | [], out, _, _ => by simp
 | x :: l, out, h, hd => by
  have aa := h x (kr ..);have e : pd p q out x = out ++ [x] := if_pos ⟨aa.1, aa.2, fun he => (List.nodup_append.1 hd).2.2 x (List.mem_of_getLast? he) x (kr ..) rfl⟩;rw [sq, e, K1 (fx := fx) (fy := fy) l (out ++ [x]) (fun y ag => h y (nD _ ag)) (by simpa using hd), ig]; rfl
theorem aeK {fx fy : Bool} {f g : ao → Bool} {l : List ao} (h : ∀ x ∈ l, f x = g x) : qX fx fy f l = qX fx fy g l := by
 unfold qX
 have key : ∀ (l out : List ao), (∀ x ∈ l, f x = g x) → l.foldl (fun out q => if f q then lN fx fy q out else out) out = l.foldl (fun out q => if g q then lN fx fy q out else out) out := by
  intro l
  induction l with
  | nil => intro out _; rfl
  | cons x l cp =>
   intro out h;rw [sq, sq, h x (kr ..)];exact cp _ fun y ag => h y (nD _ ag)
 exact key l [] h
theorem Gc {E : List b6} {r R : Nat} {p q x : ao} : iV (pE E r R) p q x = true ↔ x ≠ p ∧ x ≠ q ∧ Mq r p q x = true := by
 unfold iV; simp only [dQ, cB, and_assoc]; exact Iff.rfl
theorem Ar (p q : ao) (bl : List ao) : (fH p q bl).Perm bl := by
 have := El (decide (q.1 < p.1)) (decide (q.2 < p.2)) (fun _ => true) bl;rwa [List.filter_eq_self.2 (fun _ _ => rfl)] at this
theorem IW {E : List b6} {r R : Nat} {p q : ao} {bl : List ao} (aF : bl.Nodup) (h : ∀ x ∈ bl, iV (pE E r R) p q x = true) : fH p q bl = rz r bl p q := by
 unfold rz K0;rw [Cb, Cb, ← aeK (f := fun _ => true) (g := qD (2 ^ r * p.1) (2 ^ r * p.2) (2 ^ r * q.1) (2 ^ r * q.2) r) (fun x aa => ((Gc.1 (h x aa)).2.2).symm)];have hp := Ar p q bl;show fH p q bl = (fH p q bl).foldl (pd p q) [];rw [K1 (fx := false) (fy := false) (fH p q bl) [] (fun x aa => ⟨(Gc.1 (h x (hp.mem_iff.1 aa))).1, (Gc.1 (h x (hp.mem_iff.1 aa))).2.1⟩) (by simpa using hp.nodup_iff.2 aF)];rfl
theorem KG {R : ao → ao → Prop} : ∀ {A B : List ao} {q : ao}, hJ R (A ++ q :: B) → hJ R (A ++ [q]) ∧ hJ R (q :: B)
 | [], _, _, h => ⟨trivial, h⟩
 | [a], _, _, h => ⟨⟨h.1, trivial⟩, h.2⟩
 | a :: b :: A, B, q, h => by
  have cp := KG (A := b :: A) h.2;exact ⟨⟨h.1, cp.1⟩, cp.2⟩
theorem afd {V : List ao} {j : Nat} {p q : ao} (hp : V[j]? = some p) (al : V[j + 1]? = some q) : ∃ A B, V = A ++ p :: q :: B ∧ A.length = j ∧ ∀ l, c9 V j l = A ++ p :: (l ++ q :: B) := by
 obtain ⟨h1, aI⟩ := bS.1 hp;obtain ⟨h2, aN⟩ := bS.1 al;have hd := Vb hp al;refine ⟨V.take j, V.drop (j + 2), by rw [← hd, ks], by rw [eg]; omega, fun l => ?_⟩;unfold c9;rw [nF h1, aI, nE h2, aN];simp
theorem yj {R : ao → ao → Prop} {V l : List ao} {j : Nat} {p q : ao} (hp : V[j]? = some p) (al : V[j + 1]? = some q) (h : hJ R V) (an : R p q → hJ R (p :: (l ++ [q]))) : hJ R (c9 V j l) := by
 obtain ⟨A, B, e, _, FN⟩ := afd hp al;rw [FN];rw [e] at h;obtain ⟨h1, h2⟩ := KG h;refine FD h1 ?_;have ap := an h2.1;have := FD (A := p :: l) (q := q) (W := B) ap h2.2;exact this
theorem vu.cut {E : List b6} {r R : Nat} (aq : r ≤ 28) {V : List ao} {D : List Int} (h : vu r V D) {j : Nat} {p q : ao} {bl : List ao} (hp : V[j]? = some p) (al : V[j + 1]? = some q) (aF : bl.Nodup) (aw : ∀ x ∈ bl, iV (pE E r R) p q x = true) : vu r (c9 V j (fH p q bl)) (eo D j bl.length) := by
 obtain ⟨h1, h2, ap, aL, gd, mC⟩ := h;have hS : (0 : Int) < 2 ^ r := jG (by decide);have ae := (bS.1 al).1;rw [IW aF aw];have lL := Bt aq bl p q;have hlen : (rz r bl p q).length = bl.length := by rw [← IW aF aw]; exact (Ar p q bl).length_eq
 refine ⟨fun aG => ?_, ?_, fun v hv => ?_, ?_, ?_, ?_⟩
 ·have := congrArg List.length aG;rw [yl, List.length_nil] at this; omega
 ·rw [yl, FH (by omega), hlen]; omega
 ·rcases KS hv with hv | hv
  ·exact ap v hv
  ·exact (lL.2.1 v hv).2.1
 ·exact yj hp al aL fun hL => TD aq bl p q hL
 ·refine gd.imp (fun h => yj hp al h fun hL => Bu aq bl p q hL (fun x aa => ?_) (fun x y u w hu hw rZ => ?_)) (fun h => yj hp al h fun hL => Bu aq bl p q hL (fun x aa => ?_) (fun x y u w hu hw rZ => ?_))
  ·obtain ⟨u, hu⟩ := aa; exact (Dn hS hu.1.1 hu.1.2 hu.2.1).1 hL
  ·exact Dq hS hu.2.1 hw.2.1 rZ hL
  ·obtain ⟨u, hu⟩ := aa; exact ((Dn hS hu.1.1 hu.1.2 hu.2.1).2 hL).symm
  ·exact Dp hS hu.2.1 hw.2.1 rZ hL
 ·refine mC.imp (fun h => yj hp al h fun hL => Bu aq bl p q hL (fun x aa => ?_) (fun x y u w hu hw rZ => ?_)) (fun h => yj hp al h fun hL => Bu aq bl p q hL (fun x aa => ?_) (fun x y u w hu hw rZ => ?_))
  ·obtain ⟨u, hu⟩ := aa; exact (Dn hS hu.1.1 hu.1.2 hu.2.2).1 hL
  ·exact Dq hS hu.2.2 hw.2.2 rZ hL
  ·obtain ⟨u, hu⟩ := aa; exact ((Dn hS hu.1.1 hu.1.2 hu.2.2).2 hL).symm
  ·exact Dp hS hu.2.2 hw.2.2 rZ hL
def si (r : Nat) (e : b6) (d : Int) (t : Rat) (x : ao) : Prop := xh e.1.1 e.1.2 e.2.1 e.2.2 (2 ^ r) (bp d * bp (2 ^ r)) t x
theorem abh {r : Nat} {e : b6} {d d' : Int} (h : d ≤ d') {t : Rat} {x : ao} (aa : si r e d t x) : si r e d' t x := by
 refine abj ?_ aa;have hS : (0 : Rat) < bp (2 ^ r) := pO (jG (by decide));exact Rat.mul_le_mul_of_nonneg_right (qQ.2 h) (Rat.le_of_lt hS)
theorem KJ {r : Nat} {e : b6} {p q : ao} {d : Int} {t1 t2 : Rat} (Ge : t1 ≤ t2) (Gg : t2 ≤ 1) (hp : si r e d t1 p) (al : si r e d t2 q) : ∀ (l : List ao) (j8 : Rat), 0 ≤ j8 → j8 ≤ 1 → (∀ x ∈ l, ∀ u, p7 (2 ^ r) p q u x → j8 ≤ u) → (∀ x ∈ l, ∃ u, p7 (2 ^ r) p q u x) → jJ (decide ((2 : Int) ^ r * q.1 < 2 ^ r * p.1)) (decide ((2 : Int) ^ r * q.2 < 2 ^ r * p.2)) l → BL (si r e) (d + 1) t2 (t1 + j8 * (t2 - t1)) l
 | [], j8, aG, h1, _, _, _ => by
  show t1 + j8 * (t2 - t1) ≤ t2;have := j2 (show 0 ≤ 1 - j8 by grind) (show 0 ≤ t2 - t1 by grind);grind
 | x :: l, j8, aG, h1, hu, hm, aK => by
  have hS : (0 : Int) < 2 ^ r := jG (by decide);obtain ⟨u, w1⟩ := hm x (kr ..);have ak := iN.1 aK;have h2 := hu x (kr ..) u w1;have bA := j2 (show 0 ≤ u - j8 by grind) (show 0 ≤ t2 - t1 by grind);have b9 := j2 (show 0 ≤ 1 - u by have := w1.1.2; grind) (show 0 ≤ t2 - t1 by grind)
  have aa : si r e (d + 1) (t1 + u * (t2 - t1)) x := by
   have := abi hp al w1;unfold si;rw [show bp (d + 1) = bp d + 1 by simp [bp, sv]];exact this
  exact ⟨t1 + u * (t2 - t1), by grind, by grind, aa, KJ Ge Gg hp al l u w1.1.1 w1.1.2 (fun y ag w hw => N8 hS w1 hw (ak.1 y ag)) (fun y ag => hm y (nD _ ag)) ak.2⟩
def DE (E : List b6) (r : Nat) (i : Nat) (c : List ao × List Int) : Prop := vu r c.1 c.2 ∧ rD (si r (E.getD i k7)) 0 c.1 c.2
theorem Dz {r : Nat} (a b : Int) : sg (bp a) (bp b) (2 * (bp (2 ^ r) * bp (ct a r))) (bp 1 * bp (2 ^ r)) 0 ∧ sg (bp b) (bp a) (2 * (bp (2 ^ r) * bp (ct a r))) (bp 1 * bp (2 ^ r)) 1 := by
 have fC : (0 : Int) < 2 ^ r := jG (by decide);obtain ⟨g0, g1⟩ : 2 * (ct a r * 2 ^ r) ≤ 2 * a + 2 ^ r ∧ 2 * a + 2 ^ r < 2 * (ct a r * 2 ^ r) + 2 * 2 ^ r := Wt fC;have cY := qQ.2 g0;have q1 := Ix.2 g1;have z : bp 1 = 1 := by simp [bp]
 rw [z];simp only [bp, sv, Rat.intCast_mul] at cY q1 ⊢;generalize ((2 ^ r : Int) : Rat) = S at *;generalize ((ct a r : Int) : Rat) = g at *;generalize ((a : Int) : Rat) = a' at *;generalize ((b : Int) : Rat) = bK at *;have aN : ((2 : Int) : Rat) = 2 := by simp
 rw [aN] at cY q1;refine ⟨⟨?_, ?_⟩, ?_, ?_⟩ <;> grind
theorem Um {r : Nat} (e : b6) : rD (si r e) 0 (fS (li r e.1) (li r e.2)).1 (fS (li r e.1) (li r e.2)).2 :=
 Ul ⟨(Dz e.1.1 e.2.1).1, (Dz e.1.2 e.2.2).1⟩ ⟨(Dz e.2.1 e.1.1).2, (Dz e.2.2 e.1.2).2⟩
theorem aa5 {r : Nat} {p q : ao} (hp : eO r p.1 p.2 = true) (al : eO r q.1 q.2 = true) : vu r (fS p q).1 (fS p q).2 := by
 unfold fS
 split
 ·exact ⟨by simp, rfl, fun v hv => by rw [jc.1 hv]; exact hp, trivial, .inl trivial, .inl trivial⟩
 ·rename_i cn;refine ⟨by simp, rfl, fun v hv => ?_, ⟨cn, trivial⟩, ?_, ?_⟩
  ·simp only [gI, qK, or_false] at hv;rcases hv with rfl | rfl
   ·exact hp
   ·exact al
  ·rcases Int.le_total p.1 q.1 with h | h
   ·exact .inl ⟨h, trivial⟩
   ·exact .inr ⟨h, trivial⟩
  ·rcases Int.le_total p.2 q.2 with h | h
   ·exact .inl ⟨h, trivial⟩
   ·exact .inr ⟨h, trivial⟩
theorem Bz {X W a b n d : Int} (eT : 0 < W) (hd : 0 < d) (aF : 0 ≤ n ∧ n ≤ d) (e : X * d = W * (a * (d - n) + b * n)) {lo hi : Int} (aK : lo ≤ a ∧ a ≤ hi) (ab : lo ≤ b ∧ b ≤ hi) : lo * W ≤ X ∧ X ≤ hi * W := by
 have a1 := iM (show 0 ≤ a - lo by omega) (show 0 ≤ d - n by omega);have a2 := iM (show 0 ≤ hi - a by omega) (show 0 ≤ d - n by omega);have b1 := iM (show 0 ≤ b - lo by omega) aF.1;have b2 := iM (show 0 ≤ hi - b by omega) aF.1;have s1 : lo * d ≤ a * (d - n) + b * n := by grind
 have s2 : a * (d - n) + b * n ≤ hi * d := by grind
 have t1 := pH s1 (pM eT);have t2 := pH s2 (pM eT);rw [← e] at t1 t2;refine ⟨Int.le_of_mul_le_mul_right ?_ hd, Int.le_of_mul_le_mul_right ?_ hd⟩
 ·rw [show lo * W * d = W * (lo * d) by grind]; exact t1
 ·rw [show hi * W * d = W * (hi * d) by grind]; exact t2
theorem Ip {r : Nat} (aq : r ≤ 28) {a b : b6} (h1 : gQ a.1 = true) (h2 : gQ a.2 = true) {x : ao} (h : vn r a b = some x) : eO r x.1 x.2 = true := by
 unfold vn at h
 split at h
 ·rename_i af;cases h;obtain ⟨X, Y, W, W', e⟩ := C6 af;obtain ⟨q1, q2, b5, _⟩ := DP (r := r) e;obtain ⟨_, _, ⟨n, d, g1, g2, g3, g4⟩, _⟩ := zH e;have cE := nz.1 h1;have cF := nz.1 h2;obtain ⟨c1, c2⟩ := Bz q2 g1 g2 g3 (lo := -134217728) (hi := 134217727) (by omega) (by omega);obtain ⟨ke, BC⟩ := Bz q2 g1 g2 g4 (lo := -134217728) (hi := 134217727) (by omega) (by omega);rw [b5];unfold eO;rw [DS aq q2 c1 c2, DS aq q2 ke BC]; rfl
 ·cases h
theorem KU {r : Nat} {l m : ao × ao} (h1 : eO r l.1.1 l.1.2 = true) (h2 : eO r l.2.1 l.2.2 = true) {x : ao} (h : rG r l m = some x) : eO r x.1 x.2 = true := by
 have hS : (0 : Int) < 2 ^ r := jG (by decide);unfold rG at h
 split at h
 ·rename_i af;cases h;obtain ⟨X, Y, W, W', e⟩ := C6 af.1;obtain ⟨q1, q2, b5, ew⟩ := DP (r := r) e;obtain ⟨_, _, ⟨n, d, g1, g2, g3, g4⟩, _⟩ := zH e;generalize ic r (gP (ga r l) (ga r m)) = x at *;obtain ⟨⟨i1, i2⟩, i3, i4⟩ := ew;have v1 := PN hS q2 g1 g2 g3 i1 i2;have v2 := PN hS q2 g1 g2 g4 i3 i4;unfold eO at h1 h2 ⊢;rw [dQ] at h1 h2 ⊢;refine ⟨?_, ?_⟩
  ·rcases Int.le_total l.1.1 l.2.1 with h | h
   ·exact Az h1.1 h2.1 (v1.1 h).1 (v1.1 h).2
   ·exact Az h2.1 h1.1 (v1.2 h).1 (v1.2 h).2
  ·rcases Int.le_total l.1.2 l.2.2 with h | h
   ·exact Az h1.2 h2.2 (v2.1 h).1 (v2.1 h).2
   ·exact Az h2.2 h1.2 (v2.2 h).1 (v2.2 h).2
 ·cases h
theorem adO {E : List b6} {r R : Nat} (aq : r ≤ 28) (h4 : ja E = true) : jM (pE E r R) (DE E r) where
 nodup i c h := h.1.nodup
 new i hi := ⟨aa5 (Dw aq (oz h4 i).1) (Dw aq (oz h4 i).2), Um _⟩
 split i c j p q bl h hlen hp al aF _ aw := by
  refine ⟨h.1.cut aq hp al aF aw, ?_⟩;have Yd := Ar p q bl;have e : bl.length = (fH p q bl).length := Yd.length_eq.symm;show rD _ _ (c9 c.1 j (fH p q bl)) (eo c.2 j bl.length);rw [e];refine KK (fun d t x aa => abh (by omega) aa) (fun d t1 t2 Ge Gg h1 h2 => ?_) c.1 c.2 j 0 hlen hp al h.2;have lL := Bt aq bl p q;rw [IW aF aw];have := KJ Ge Gg h1 h2 (rz r bl p q) 0 Rat.le_refl (by decide) (fun x aa u hu => hu.1.1) (fun x aa => (lL.2.1 x aa).2.2) lL.1;rwa [show t1 + 0 * (t2 - t1) = t1 by grind] at this
 gu := Ar
 Cg i _ := ⟨Dw aq (oz h4 i).1, Dw aq (oz h4 i).2⟩
 LQ i j x _ _ h := Ip aq (oz h4 i).1 (oz h4 i).2 h
 LK p q fF cy x h1 h2 _ _ h := KU (l := (p, q)) (m := (fF, cy)) h1 h2 h
 cut hot p q fF cy x aw _ _ h1 h2 ap aL dx gd h := (adX E aq R).UB hot p q fF cy x aw h1 h2 ap aL dx gd h
variable {α : Type} [DecidableEq α]
abbrev Jh (α : Type) := List (List α × List Int)
end Go.Proofs.YtpochbhajmbfdaaGreat.bx
namespace Go.Proofs.YtpochbhajmbfdaaGreat.bx
variable {α : Type} [DecidableEq α]
def news (o : cG α) : Jh α := (List.range o.n).map fun k => fS (o.P k) (o.Q k)
theorem Xy (o : cG α) {s : aT α} (ab : hW o s) (q : α) (al : o.gb q) : (df o s q = e3 s 5 0 0 ∧ s.hot.length = o.R ∧ q ∉ s.hot) ∨
  ∃ hot', df o s q = { s with hot := hot' } ∧ hW o ({ s with hot := hot' } : aT α) ∧ (∀ x, x ∈ hot' ↔ (x ∈ s.hot ∨ x = q)) := by
 have := ab.room;unfold df
 by_cases h : q ∈ s.hot
 ·rw [if_pos h];exact .inr ⟨s.hot, rfl, ab, fun x => ⟨.inl, fun aY => aY.elim id fun e => by rw [e]; exact h⟩⟩
 ·rw [if_neg h]
  by_cases h2 : s.hot.length < o.R
  ·rw [if_pos h2];refine .inr ⟨s.hot ++ [q], rfl, ⟨?_, ?_, fun x aa => (kt.1 aa).elim (ab.gz x) fun h => by rw [jc.1 h]; exact al⟩, fun x => by simp⟩
   ·show (s.hot ++ [q]).Nodup;refine List.nodup_append.2 ⟨ab.nd, by simp, fun a aK b c5 => ?_⟩;rw [jc] at c5;subst c5;exact fun e => h (by rw [← e]; exact aK)
   ·show (s.hot ++ [q]).length ≤ o.R;rw [cR, List.length_singleton]; omega
  ·rw [if_neg h2];exact .inl ⟨rfl, by omega, h⟩
end Go.Proofs.YtpochbhajmbfdaaGreat.bx
namespace Go.Proofs.YtpochbhajmbfdaaGreat.bx
variable {α : Type} [DecidableEq α]
theorem Nk (o : cG α) : ∀ (m n : Nat) (s : aT α), lO o (m + n) s = lO o n (lO o m s)
 | 0, n, s => by rw [jF]; rfl
 | m + 1, n, s => by
  rw [show m + 1 + n = (m + n) + 1 by omega];exact Nk o m n (eh o s)
def eE (o : cG α) : Nat → aT α → Nat × aT α
 | 0, s => (0, s)
 | n + 1, s => if 4 ≤ s.ph then (0, s) else ((eE o n (eh o s)).1 + 1, (eE o n (eh o s)).2)
theorem ad3 {o : cG α} {s : aT α} (h : 4 ≤ s.ph) : ∀ n, eE o n s = (0, s)
 | 0 => rfl
 | n + 1 => if_pos h
theorem IC {o : cG α} : ∀ (n : Nat) (s : aT α), (eE o n s).2 = lO o (eE o n s).1 s ∧ (eE o n s).1 ≤ n ∧ ((eE o n s).1 < n → 4 ≤ (eE o n s).2.ph)
 | 0, s => ⟨rfl, dL _, fun h => absurd h (by show ¬ 0 < 0; omega)⟩
 | n + 1, s => by
  obtain ⟨h1, h2, ap⟩ := IC n (eh o s);unfold eE
  by_cases h : 4 ≤ s.ph
  ·rw [if_pos h]; exact ⟨rfl, eC _, fun _ => h⟩
  ·rw [if_neg h]; exact ⟨h1, by show _ + 1 ≤ n + 1; omega, fun aY => ap (by have : (eE o n (eh o s)).1 + 1 < n + 1 := aY; omega)⟩
structure vR (o : cG α) (z : α) : Prop where
 P : ∀ i, i < o.n → o.P i = z ∧ o.Q i = z
 mM : ∀ i j x, i < j → j < o.n → o.mM i j = some x → x = z
 room : 0 < o.R
structure One (o : cG α) (z : α) (m : Nat) (s : aT α) : Prop where
 hot : ∀ x ∈ s.hot, x = z
 left : (s.ph = 0 ∧ (o.n - s.I) + o.n * o.n ≤ m) ∨ (s.ph = 1 ∧ (o.n - s.I) * o.n - s.J ≤ m) ∨ (s.ph = 4 ∧ s.hot = [z] ∧ s.ch = news o)
theorem Mg {o : cG α} {z : α} {s : aT α} (h1 : vR o z) (tF : o.gb z) (ab : hW o s) (h : ∀ x ∈ s.hot, x = z) : ∃ hot', df o s z = { s with hot := hot' } ∧ hW o ({ s with hot := hot' } : aT α) ∧ hot' = [z] := by
 have mb : ∀ l : List α, l.Nodup → (∀ x ∈ l, x = z) → z ∈ l → l = [z] := fun l aF an a6 => by
  have := zQ aF (m := [z]) fun x aa => by rw [an x aa]; simp
  match l, a6, this with
  | [a], _, _ => rw [an a (by simp)]
  | a :: b :: l, _, aY => simp at aY
 rcases Xy o ab z tF with ⟨_, f, g⟩ | ⟨h2, e, b2, m2⟩
 ·exfalso;have := h1.room;have hlen : 0 < s.hot.length := by omega
  obtain ⟨y, ag⟩ := List.exists_mem_of_length_pos hlen;exact g (by rw [← h y ag]; exact ag)
 ·exact ⟨h2, e, b2, mb h2 b2.nd (fun x aa => ((m2 x).1 aa).elim (h x) id) ((m2 z).2 (.inr rfl))⟩
theorem NH {o : cG α} {z : α} (h1 : vR o z) (s : aT α) : kQ o s = e3 { s with ch := news o } 4 0 0 := by
 have hlen : ∀ c ∈ news o, c.1.length = 1 := fun c ak => by
  obtain ⟨k, af, rfl⟩ := hU.1 ak;obtain ⟨aI, aN⟩ := h1.P k (qN.1 af);rw [aI, aN]; unfold fS; rw [if_pos rfl]; rfl
 have zg : ∀ (cs : Jh α) i, (∀ c ∈ cs, c.1.length = 1) → pR cs i 0 = none := by
  intro cs
  induction cs with
  | nil => intro i _; rfl
  | cons c cs cp =>
   intro i h;unfold pR;rw [if_neg (by rw [h c (kr ..)]; decide)];exact cp _ fun c ak => h c (nD _ ak)
 have an : bb (news o) = [] := List.flatMap_eq_nil_iff.2 fun c ak => List.length_eq_zero_iff.1 (by rw [sb, hlen c ak]);show kW (e3 { s with ch := news o } 2 0 0) = _;unfold kW;show (match pR ((news o).drop 0) 0 0 with | some zp => _ | none => if (bb (news o)).length < 2 then _ else _) = _;rw [List.drop_zero, zg _ 0 hlen, an];rfl
theorem aeS {o : cG α} {ok : Nat → List α × List Int → Prop} {z : α} {m : Nat} (af : jM o ok) (h1 : vR o z) {s : aT α} (hi : hG o ok s) (h : One o z (m + 1) s) : One o z m (eh o s) := by
 rcases h.left with ⟨hp, an⟩ | ⟨hp, an⟩ | ⟨hp, an, ak⟩
 ·have aG : EU o s := by
   obtain ⟨_, aC | aC | aC | aC | aC | aC⟩ := hi
   ·exact aC
   all_goals · have := aC.ph; omega
  have bq := aG.I;have e : eh o s = qj o s := by simp only [eh, hp]
  rw [e];obtain ⟨aI, aN⟩ := h1.P s.I bq;have tF : o.gb z := by rw [← aI]; exact (af.Cg _ bq).1
  obtain ⟨a1, f1, b1, g1⟩ := Mg h1 tF hi.1 h.hot;subst g1;obtain ⟨a2, f2, b2, g2⟩ := Mg h1 tF b1 (fun x aa => jc.1 aa);subst g2;unfold qj;rw [aI, aN, f1, f2, if_neg (show ¬ s.ph = 5 by omega), if_neg (show ¬ s.ph = 5 by omega), NH h1]
  split
  ·exact ⟨fun x aa => jc.1 aa, .inl ⟨hp, show (o.n - (s.I + 1)) + o.n * o.n ≤ m by omega⟩⟩
  ·split
   ·exact ⟨fun x aa => jc.1 aa, .inr (.inr ⟨rfl, rfl, rfl⟩)⟩
   ·exact ⟨fun x aa => jc.1 aa, .inr (.inl ⟨rfl, show (o.n - 0) * o.n - 1 ≤ m by rw [Nat.sub_zero]; omega⟩)⟩
 ·have aG : Inv1 o s := by
   obtain ⟨_, aC | aC | aC | aC | aC | aC⟩ := hi
   ·have := aC.ph; omega
   ·exact aC
   all_goals · have := aC.ph; omega
  have Mo : s.hot = [z] := by
   have aF : 0 < o.n := by have := aG.J; omega
   have a6 : z ∈ s.hot := by rw [← (h1.P 0 aF).1]; exact (aG.xG 0 aF).1
   have := zQ hi.1.nd (m := [z]) fun x aa => by rw [h.hot x aa]; simp
   have cX := h.hot;generalize s.hot = l at a6 this cX
   match l, a6, this with
   | [a], _, _ => rw [cX a (by simp)]
   | a :: b :: l, _, aY => simp at aY
  have e : eh o s = qJ o s := by simp only [eh, hp]
  have key : jS o s (o.mM s.I s.J) = s := by
   cases Yg : o.mM s.I s.J with
   | none => rfl
   | some x =>
    have := h1.mM _ _ x aG.sR aG.J Yg;subst this;show df o s x = s;unfold df;rw [if_pos (by rw [Mo]; simp)]
  obtain ⟨hP, iI⟩ := DA aG.sR aG.J;rw [e];unfold qJ;rw [key, if_neg (show ¬ s.ph = 5 by omega), NH h1]
  split
  ·rename_i bi;have := (iI bi).2;exact ⟨h.hot, .inr (.inl ⟨hp, show (o.n - (cb o.n s.I s.J).1) * o.n - (cb o.n s.I s.J).2 ≤ m by omega⟩)⟩
  ·exact ⟨h.hot, .inr (.inr ⟨rfl, Mo, rfl⟩)⟩
 ·have e : eh o s = s := by simp only [eh, hp]
  rw [e];exact ⟨h.hot, .inr (.inr ⟨hp, an, ak⟩)⟩
theorem Nn {o : cG α} {ok : Nat → List α × List Int → Prop} {z : α} (af : jM o ok) (h1 : vR o z) : ∀ (m : Nat) {s : aT α}, hG o ok s → One o z m s → (lO o m s).ph = 4 ∧ (lO o m s).hot = [z] ∧ (lO o m s).ch = news o
 | 0, s, hi, h => by
  rcases h.left with ⟨hp, an⟩ | ⟨hp, an⟩ | aC
  ·obtain ⟨_, aC | aC | aC | aC | aC | aC⟩ := hi
   ·have := aC.I; omega
   all_goals · have := aC.ph; omega
  ·obtain ⟨_, aC | aC | aC | aC | aC | aC⟩ := hi
   ·have := aC.ph; omega
   ·have := (DA aC.sR aC.J).1; omega
   all_goals · have := aC.ph; omega
  ·exact aC
 | m + 1, s, hi, h => Nn af h1 m (xC af hi).1 (aeS af h1 hi h)
end Go.Proofs.YtpochbhajmbfdaaGreat.bx
namespace Go.Proofs.YtpochbhajmbfdaaGreat.bx
theorem Ck {v : Int} (h : -134217728 ≤ v ∧ v < 134217728) : ct v 28 = 0 := by
 unfold ct;have e : (2 : Int) ^ 28 = 268435456 := by decide
 rw [e]; omega
theorem adQ {E : List b6} {R : Nat} (h4 : ja E = true) (ay : 0 < R) : vR (pE E 28 R) (0, 0) where
 P i hi := by
  have h := oz h4 i;have h1 := nz.1 h.1;have h2 := nz.1 h.2;exact ⟨Prod.ext (Ck h1.1) (Ck h1.2), Prod.ext (Ck h2.1) (Ck h2.2)⟩
 mM i j x gg ae hp := by
  have hp : vn 28 (E.getD i k7) (E.getD j k7) = some x := hp;have h := oz h4 i;have g := Ip (by decide) h.1 h.2 hp;have h1 := nz.1 h.1;have h2 := nz.1 h.2;unfold vn at hp
  split at hp
  ·rename_i af;cases hp;obtain ⟨X, Y, W, W', e⟩ := C6 af;obtain ⟨q1, q2, b5, _⟩ := DP (r := 28) e;obtain ⟨_, _, ⟨n, d, g1, g2, g3, g4⟩, _⟩ := zH e;obtain ⟨c1, c2⟩ := Bz q2 g1 g2 g3 (lo := -134217728) (hi := 134217727) (by omega) (by omega);obtain ⟨ke, BC⟩ := Bz q2 g1 g2 g4 (lo := -134217728) (hi := 134217727) (by omega) (by omega);have hS : (0 : Int) < 2 ^ 28 := by decide
   have iP : fw (2 ^ 28) (-134217728) 1 = 0 := by decide
   have z2 : fw (2 ^ 28) 134217727 1 = 0 := by decide
   have m1 := xo hS (by decide) q2 (X := -134217728) (W := 1) (X' := X) (by omega);have m2 := xo hS q2 (by decide) (X := X) (X' := 134217727) (W' := 1) (by omega);have m3 := xo hS (by decide) q2 (X := -134217728) (W := 1) (X' := Y) (by omega);have m4 := xo hS q2 (by decide) (X := Y) (X' := 134217727) (W' := 1) (by omega);rw [iP] at m1 m3;rw [z2] at m2 m4;rw [b5];exact Prod.ext (by show fw _ _ _ = 0; omega) (by show fw _ _ _ = 0; omega)
  ·cases hp
 room := ay
end Go.Proofs.YtpochbhajmbfdaaGreat.bx
namespace Go.Proofs.YtpochbhajmbfdaaGreat
open Go.RowKit
section
variable {P : Program} {br : eS} {bY A : Nat → Prop} {R : aJ} {s s' : aD} {a a' : Act} {w w' : World} {ad bg : Nat → Nat}
theorem ep.Uq (ay : ep br bY R s a w A ad) (i : Nat) (r : bL) (hi : R i = some r) (bQ : 0 < r.sz) : ∃ ei, ep br bY (fun j => if j = i then none else R j) s a w ei ad ∧ gm (s.free ei ad) ad w (.p (cz r.sz r.n r.aV)) r.v := by
 obtain ⟨od, cO, aw⟩ := ay.rows i r hi;obtain ⟨xs, ax, an⟩ := od.row bQ;have yG : ∀ b, s.free A ad b → b < w.heap.size → s.free (fun b => A b ∨ r.v.ownBlock = some b) ad b ∧ w.heap[b]? = w.heap[b]? := fun b ab _ => ⟨⟨.inl ab.1, ab.2⟩, rfl⟩;have Gr : Rel (nh br s ad w) (fun b => A b ∨ r.v.ownBlock = some b) s ad a w := ay.rel.x9 (fun b ab _ => ⟨.inl ab, rfl⟩) (fun k cs af => ⟨rfl, fun au => au.2 k cs af rfl⟩) (jK.refl _) (fun b ab => .inl (ay.rel.up b ab)) (wJ _ _ _)
 have wI : ep br bY (fun j => if j = i then none else R j) s a w (fun b => A b ∨ r.v.ownBlock = some b) ad := by
  refine ⟨ay.up, ?_, Gr, ay.ov, ay.below, fun j q ae => ?_, fun j k q cy ae af kM => ?_, fun j q g ae => ?_, ay.jQ⟩
  ·rintro b (ab | ab)
   ·exact ay.sub b ab
   ·exact (ay.hot i r b hi (.inl ab)).2
  ·have gh : j ≠ i := fun e => by rw [if_pos e] at ae; cases ae
   rw [if_neg gh] at ae;obtain ⟨lg, Au, Av⟩ := ay.rows j q ae;refine ⟨lg.kept Au (fun _ _ => rfl) (dL _) yG, Au, fun g eu => ⟨?_, (Av g eu).2⟩⟩;rintro (ab | ab)
   ·exact (Av g eu).1 ab
   ·exact ay.apart i j r q hi ae (Ne.symm gh) g (.inl ab) eu
  ·have gh : j ≠ i := fun e => by rw [if_pos e] at ae; cases ae
   have kn : k ≠ i := fun e => by rw [if_pos e] at af; cases af
   rw [if_neg gh] at ae;rw [if_neg kn] at af;exact ay.apart j k q cy ae af kM
  ·have gh : j ≠ i := fun e => by rw [if_pos e] at ae; cases ae
   rw [if_neg gh] at ae;exact ay.hot j q g ae
 refine ⟨fun b => A b ∨ r.v.ownBlock = some b, wI, ?_⟩
 ·have nk := an.1;obtain ⟨kN, aF | ⟨g, cap, cur, kl, qp, uQ, eK, jq, et, nt⟩⟩ := id ax
  ·obtain ⟨aI, aN⟩ := aF;have : r.aV = [] := mq (by rw [nk, kN, aN]; simp);rw [aI];exact ⟨⟨none, 0, by rw [aN], by omega, by rw [this, aN]; simp, fun h => absurd h (by omega)⟩, fun b ⟨c', a', q, aF, ab⟩ => by cases q⟩
  ·have ts := ax.cells (g := g) (by rw [kl]; rfl);rw [kl];have qn : kA w ⟨g, 0, none⟩ r.aV xs := ⟨(ku.1 uQ).1, an.wo cO fun b _ _ => ⟨trivial, rfl⟩, ts, cO⟩;refine ⟨⟨some ⟨g, 0, none⟩, cap, rfl, eK, by rw [nk]; exact kN, fun aF => ⟨⟨g, 0, none⟩, xs, rfl, qn⟩⟩, ?_⟩;rintro b ⟨c', a', q, aF, au⟩;cases q;rcases au with rfl | ⟨j, y, v, ag, hv, gf⟩
   ·exact ⟨.inr rfl, (aw g (.inl (by rw [kl]; rfl))).2⟩
   ·have bi : j < xs.length := by rw [← nk]; exact (bS.1 ag).1
    have h2 := ts j _ (cm bi);rw [hv] at h2;cases h2;have ap := an.2 j y _ ag (cm bi);cases y with
    | c u => cases gf
    | own k o => cases gf
    | p S => have := ap.2 b gf; exact ⟨.inl this.1, this.2⟩
theorem Qk (i k off : Nat) {c : Code} {Q : Exit → aJ → aD → Prop} {cs : List AC} (r : bL) (hi : R i = some r) (af : s.mem k = some cs) (ak : cs[off]? = some (.c r.v)) (h : fp P c Q (fun j => if j = i then none else R j) (s.dV k (cs.set off (.p (cz r.sz r.n r.aV))))) (bQ : 0 < r.sz := by first | decide | exact jd _) : fp P c Q R s := by
 rintro ok br bY a w ⟨A, ad, ay⟩;obtain ⟨ei, Co, w2⟩ := ay.Uq i r hi bQ
 have WV := Co.next (Co.rel.adA (ds := cs.set off (.p (cz r.sz r.n r.aV))) af fun vs hv => ⟨by rw [List.length_set]; exact hv.1, fun j x u aa hu => by
  rw [List.getElem?_set] at aa
  by_cases e : off = j
  ·subst e;rw [if_pos rfl] at aa
   split at aa
   ·cases aa;obtain ⟨rfl, _⟩ := hv.2 off _ u ak hu;exact w2
   ·cases aa
  ·rw [if_neg e] at aa;exact hv.2 j x u aa hu⟩)
 refine h (ok.dV fun x aa j ae => ?_) br bY a w ⟨ei, ad, WV⟩;rcases List.mem_or_eq_of_mem_set aa with aa | rfl
 ·exact ok.du k cs x j af aa ae
 ·cases ae
end
section
variable {P : Program} {s : aD} {ops : Array Oper} {K : aD → Prop} {rest : List Oper} {ty : Nat} {pos : String} {after : Array Edge} {guard : Option (Nat × Bool)} {d : Nat}
end
theorem adW {xs aV : List AC} (an : xs.length = aV.length) (h : ∀ (i : Nat) x y, xs[i]? = some x → aV[i]? = some y → x = y ∨ (x = .c (.slice none 0 0) ∧ ∃ z, y = .p (cz z 0 []))) (U : Nat → Prop) (ad : Nat → Nat) (W : World) (vs : List Value) (hv : bP U ad W xs vs) : bP U ad W aV vs := by
 refine ⟨by rw [← an]; exact hv.1, fun i y v ag hu => ?_⟩;have hi : i < xs.length := by rw [an]; exact (bS.1 ag).1
 have aa := cm hi;have h1 := hv.2 i _ v aa hu;rcases h i _ y aa ag with e | ⟨e, z, rfl⟩
 ·rw [← e]; exact h1
 ·rw [e] at h1;exact Oz z U ad W v h1
theorem J2 {xs aV : List AC} (an : xs.length = aV.length) (h : ∀ (i : Nat) x y, xs[i]? = some x → aV[i]? = some y → x = y ∨ (x = .c (.slice none 0 0) ∧ ∃ z, y = .p (cz z 0 []))) : ai.bo (.w (.agg xs)) (.w (.agg aV)) := fun U ad W v hv => by
 obtain ⟨vs, rfl, hq⟩ := hv;exact ⟨vs, rfl, adW an h U ad W vs hq⟩
section
variable {U : Nat → Prop} {W : World} {x y : AC} {xs aV : List AC}
end
structure Sy where
 l : Nat
 U : Nat → Prop
 ho : World
 fL : Nat → Prop
 J : Nat → (Nat → Prop) → World → Prop
 afH : (Nat → Prop) → World → Prop
 xs : List (List ai)
section
variable {P : Program} {X : Sy} {x y c : Code} {Q : Exit → Option Nat → aD → Prop} {g iU : Option Nat} {s s' : aD} {a a' : Act} {w w' w2 : World} {A : Nat → Prop} {ad bg : Nat → Nat} {C : Nat → Prop}
end
def Rk (oR : Bool → Prop) : eZ where
 holds w v := ∃ b, v = .bool b ∧ oR b
 la w v b := False
 frame w w' v := fun h au => ⟨h, fun b ab => ab⟩
 ib w v b := fun h au => au.elim
 cell w v := by rintro ⟨b, rfl, _⟩; rfl
abbrev Aw (oR : Bool → Prop) : ai := .w (.one (.p (Rk oR)))
section
variable {P : Program} {ops : Array Oper} {K : aD → Prop} {rest : List Oper} {s : aD} {d ty : Nat} {pos : String} {after : Array Edge} {guard : Option (Nat × Bool)}
theorem Wx {op : BinOp} {t : TypeId} {x y : Operand} {a : Option Addr} {n c : Nat} {v : Value} : eqGuard op t x y (.slice a n c) v = pure () := by cases op <;> rfl
theorem Fg {t dI sz n e bytes : Nat} {x : Operand} {xs : List AC} [T : nU P t e sz bytes] (hw : want ops ⟨some d, .binOp .eql t x (.const (.slice none 0 0)) dI, ty, pos, after, guard⟩ s = some true) (aa : s.look x = some (cI sz n xs)) (hd : Nat.blt d s.n = true) (h : bj P ops K rest (s.put (some d) (Aw fun b => b = true → n = 0))) : bj P ops K (⟨some d, .binOp .eql t x (.const (.slice none 0 0)) dI, ty, pos, after, guard⟩ :: rest) s := by
 obtain ⟨_, _, hu, _⟩ := qU T.h;refine fO (av := Aw fun b => b = true → n = 0) hw ⟨fun _ _ h => (by cases h), fun z a6 => ?_, fun U ad W env he => ?_, fun j ae => absurd ae (lh _ j)⟩ hd h
 ·simp [Op.operands] at a6;rcases a6 with rfl | rfl
  ·exact ⟨_, aa⟩
  ·exact ⟨_, rfl⟩
 ·obtain ⟨⟨A, c, hv, _, _, dS⟩, _⟩ := he x (by simp [Op.operands]) _ aa;have aN : env (.const (.slice none 0 0)) = .slice none 0 0 := (he (.const (.slice none 0 0)) (by simp [Op.operands]) _ rfl).1;refine ⟨.bool A.isNone, ?_, ⟨_, rfl, fun ab => ?_⟩, fun b ab => ab.elim⟩
  ·simp only [execOp, hv, aN, Wx, Sem.run_bind, Sem.run_pure, Result.andThen_ok, Lib.run_eql_slice_nil W t e A n c 0 0 hu]
  ·refine Classical.byContradiction fun aF => ?_;obtain ⟨a, _, e, _⟩ := dS (by omega);rw [e] at ab; cases ab
end
section
variable {P : Program} {c : Code} {s : aD}
theorem Rel.QG {B : eS} {A : Nat → Prop} {ad : Nat → Nat} {a : Act} {w : World} {d : Nat} {oR : Bool → Prop} (h : Rel B A s ad a w) (hd : s.tmps d = some (Aw oR)) : ∃ b, oR b ∧ Rel B A (s.put (some d) (bF b)) ad a w := by
 obtain ⟨v, h1, ⟨b, rfl, ab⟩, _⟩ := h.gK d _ hd;refine ⟨b, ab, h.P0 hd fun u hu _ => ?_⟩;rw [h1] at hu;cases hu;exact ⟨rfl, rfl⟩
theorem TG (d : Nat) {Q : Exit → aD → Prop} {oR : Bool → Prop} (hd : s.tmps d = some (Aw oR)) (h : ∀ b, oR b → fo P c Q (s.put (some d) (bF b))) : fo P c Q s := by
 intro ok B A ad a w ay;obtain ⟨b, ab, cw⟩ := ay.QG hd;exact h b ab (ok.put fun j ae => absurd ae (iJ _ j)) B A ad a w cw
theorem Ql (d : Nat) {Q : Exit → aJ → aD → Prop} {R : aJ} {oR : Bool → Prop} (hd : s.tmps d = some (Aw oR)) (h : ∀ b, oR b → fp P c Q R (s.put (some d) (bF b))) : fp P c Q R s := by
 intro ok br bY a w ⟨A, ad, ay⟩;obtain ⟨b, ab, cw⟩ := ay.rel.QG hd;exact h b ab (ok.put fun j ae => absurd ae (iJ _ j)) br bY a w ⟨A, ad, ay.next cw⟩
end
def AC.vm : AC → Bool
 | .p _ => false
 | _ => true
def mL (m : Mem) (R : aJ) : Prop := (∀ k cs, m k = some cs → cs.all AC.vm = true) ∧ ∀ i r, R i = some r → 0 < r.sz ∧ r.aV.all AC.vm = true
theorem bP.plain {U cA : Nat → Prop} {ad : Nat → Nat} {W W' : World} {xs : List AC} {vs : List Value} (h : bP U ad W xs vs) (hp : xs.all AC.vm = true) : bP cA ad W' xs vs := by
 refine ⟨h.1, fun i x v aa hv => ?_⟩;have h1 := h.2 i x v aa hv;have h2 := cu.1 hp x (dF aa);cases x with
 | c u => exact h1
 | own k o => exact h1
 | p S => cases h2
theorem bL.ok.plain {U cA : Nat → Prop} {ad : Nat → Nat} {W : World} {r : bL} (h : r.ok U ad W) (hs : 0 < r.sz) (hp : r.aV.all AC.vm = true) : r.ok cA ad W := by
 obtain ⟨xs, h1, h2⟩ := h.row hs;exact .inl ⟨hs, xs, h1, h2.plain hp⟩
abbrev mN (b off : Nat) : Value := .pointer (some ⟨b, off, none⟩)
abbrev dP (b : Nat) : Value := mN b 0
abbrev tN : Nat → Prop := fun _ => False
theorem eW.lt {U : Nat → Prop} {ad : Nat → Nat} {W : World} {m : Mem} {R : aJ} (h : eW U ad W m R) {b : Nat} (ab : ec ad m R b) : b < W.heap.size := by
 rcases ab with ⟨k, cs, af, rfl⟩ | ⟨i, r, hi, aw⟩
 ·obtain ⟨vs, ty, h1, _⟩ := h.du k cs af;exact (ku.1 h1).1
 ·exact (h.rows i r hi).1.lt aw
def kY (ad : Nat → Nat) (m : Mem) (R : aJ) (k : Nat) : eZ where
 holds w v := v = dP (ad k) ∧ eW tN ad w m R ∧ mL m R
 la w v b := ec ad m R b
 frame := by
  rintro w w' v ⟨rfl, h, hp⟩ au;refine ⟨⟨rfl, ⟨fun j cs ae => ?_, h.fE, h.inj, fun i r hi => ?_, h.apart⟩, hp⟩, fun b ab => ab⟩
  ·obtain ⟨vs, ty, h1, h2, ap⟩ := h.du j cs ae;exact ⟨vs, ty, by rw [au _ (.inl ⟨j, cs, ae, rfl⟩)]; exact h1, h2.plain (hp.1 j cs ae), ap⟩
  ·obtain ⟨h1, h2, ap⟩ := h.rows i r hi;obtain ⟨xs, g1, g2⟩ := h1.row (hp.2 i r hi).1;exact ⟨.inl ⟨(hp.2 i r hi).1, xs, O5 g1 fun g q => au g (.inr ⟨i, r, hi, .inl q⟩), g2.plain (hp.2 i r hi).2⟩, h2, ap⟩
 ib := fun w v b ⟨_, h, _⟩ ab => h.lt ab
 cell := fun w v ⟨e, _⟩ => by rw [e]; rfl
def DC (ad : Nat → Nat) (m : Mem) (R : aJ) (k : Nat) : bL := ⟨0, 0, dP (ad k), 0, [.p (kY ad m R k)]⟩
theorem OO {ad : Nat → Nat} {m : Mem} {R : aJ} {k : Nat} {W : World} (h : eW tN ad W m R) (hp : mL m R) {b : Nat} : (DC ad m R k).own b ↔ ec ad m R b := by
 constructor
 ·rintro (h1 | ⟨_, S, w, h1, h2, ap⟩)
  ·cases h1
  ·cases h1; exact ap
 ·exact fun h1 => .inr ⟨rfl, kY ad m R k, W, rfl, ⟨rfl, h, hp⟩, h1⟩
theorem OP {ad : Nat → Nat} {m : Mem} {R : aJ} {k : Nat} {b : Nat} (h : (DC ad m R k).own b) : ec ad m R b := by
 rcases h with h1 | ⟨_, S, w, h1, h2, ap⟩
 ·cases h1
 ·cases h1; exact ap
theorem abx {U : Nat → Prop} {ad bg : Nat → Nat} {m : Mem} {R : aJ} {k : Nat} {W : World} (h : eW tN ad W m R) (hp : mL m R) : (DC ad m R k).ok U bg W :=
 .inr ⟨rfl, rfl, rfl, ⟨_, rfl, rfl, h, hp⟩, fun b ab => h.lt (OP ab)⟩
theorem abw {U : Nat → Prop} {ad bg : Nat → Nat} {m : Mem} {R : aJ} {k : Nat} {W : World} (h : (DC ad m R k).ok U bg W) : eW tN ad W m R ∧ mL m R := by
 rcases h with ⟨h1, _⟩ | ⟨_, _, _, ⟨S, hS, aY⟩, _⟩
 ·cases h1
 ·cases hS; exact aY.2
theorem eW.sub {U : Nat → Prop} {ad : Nat → Nat} {W : World} {m m1 : Mem} {R bn : aJ} (h : eW U ad W m R) (hm : ∀ k cs, m1 k = some cs → m k = some cs) (aq : bH bn R) (fE : ∀ k cs x j, m1 k = some cs → x ∈ cs → x.owns j → ∃ ar, m1 j = some ar) : eW U ad W m1 bn := by
 refine ⟨fun k cs af => h.du k cs (hm k cs af), fE, fun k k' cs ar af eJ => h.inj k k' cs ar (hm k cs af) (hm k' ar eJ), fun i r hi => ?_, fun i j r q hi ae => h.apart i j r q (aq i r hi) (aq j q ae)⟩;obtain ⟨h1, h2, ap⟩ := h.rows i r (aq i r hi);exact ⟨h1, h2, fun g aw => ⟨(ap g aw).1, fun k cs af => (ap g aw).2 k cs (hm k cs af)⟩⟩
theorem eW.none {U : Nat → Prop} {ad : Nat → Nat} {W : World} {m : Mem} {R : aJ} (h : eW U ad W m R) (hp : mL m R) : eW tN ad W m R := by
 refine ⟨fun k cs af => ?_, h.fE, h.inj, fun i r hi => ?_, h.apart⟩
 ·obtain ⟨vs, ty, h1, h2, _⟩ := h.du k cs af;exact ⟨vs, ty, h1, h2.plain (hp.1 k cs af), id⟩
 ·obtain ⟨h1, h2, ap⟩ := h.rows i r hi;exact ⟨h1.plain (hp.2 i r hi).1 (hp.2 i r hi).2, h2, fun g aw => ⟨id, (ap g aw).2⟩⟩
theorem eW.more {U : Nat → Prop} {ad : Nat → Nat} {W : World} {m : Mem} {R : aJ} (h : eW tN ad W m R) (hp : mL m R) (dy : ∀ b, ec ad m R b → ¬ U b) : eW U ad W m R := by
 refine ⟨fun k cs af => ?_, h.fE, h.inj, fun i r hi => ?_, h.apart⟩
 ·obtain ⟨vs, ty, h1, h2, _⟩ := h.du k cs af;exact ⟨vs, ty, h1, h2.plain (hp.1 k cs af), dy _ (.inl ⟨k, cs, af, rfl⟩)⟩
 ·obtain ⟨h1, h2, ap⟩ := h.rows i r hi;exact ⟨h1.plain (hp.2 i r hi).1 (hp.2 i r hi).2, h2, fun g aw => ⟨dy g (.inr ⟨i, r, hi, aw⟩), (ap g aw).2⟩⟩
theorem eW.abg {U : Nat → Prop} {ad : Nat → Nat} {W : World} {m : Mem} {R : aJ} (h : eW U ad W m R) {b : Nat} (ab : ec ad m R b) : ¬ U b := by
 rcases ab with ⟨k, cs, af, rfl⟩ | ⟨i, r, hi, aw⟩
 ·exact (h.du k cs af).choose_spec.choose_spec.2.2
 ·exact ((h.rows i r hi).2.2 b aw).1
abbrev hQ (p : Value) (S : eZ) : bL := ⟨0, 0, p, 0, [.p S]⟩
def xZ (P : Program) (f : FuncId) (args : List ai) (p : Value) (S : eZ) (post : ai → eZ → Prop) : Prop := ∀ i, dn P f args ca (bI i (hQ p S)) fun v aH az => ∃ dd, aH = ca ∧ az = bI i (hQ p dd) ∧ post v dd
def E8 (P : Program) (f : FuncId) (args : List ai) (post : Value → eZ → Prop) : Prop := ∀ i, dn P f args ca fk fun v aH az => ∃ p S, aH = ca ∧ az = bI i (hQ p S) ∧ v = aQ p ∧ post p S
theorem PJ {U : Nat → Prop} {ad : Nat → Nat} {W : World} {k off : Nat} {v : Value} (h : v = mN (ad k) off) : dc U ad W (.w (.one (.own k off))) v := by subst h; rfl
theorem jO.closed {U : Nat → Prop} {ad bg : Nat → Nat} {W : World} {args : List ai} {vs : List Value} (ak : args.all ai.bc = true) (h : jO U ad W args vs) : jO U bg W args vs :=
 ⟨h.1, fun i x v aa hv => (h.2 i x v aa hv).map (fun b ab _ => ⟨ab, rfl⟩) fun j ae => absurd ae (ai.dw (cu.1 ak x (dF aa)) j)⟩
theorem DD {ad : Nat → Nat} {m : Mem} {R : aJ} {k : Nat} {b : Nat} (h : (hQ (dP (ad k)) (kY ad m R k)).own b) : ec ad m R b := OP h
theorem ae4 {P : Program} {f : FuncId} {args : List ai} {ad : Nat → Nat} {m : Mem} {R : aJ} {k off : Nat} {Post : ai → Mem → aJ → Prop} {Post2 : ai → Mem → aJ → Prop} (af : ∃ cs, m k = some cs) (ek : args.all ai.bc = true) (ak : dn P f (.w (.one (.own k off)) :: args) m R Post) (i : Nat)
  (hp : ∀ r m1 bn eN nW ho v, Post r m1 bn → eN k = ad k → eW nW eN ho m1 bn → dc nW eN ho r v → ∃ ea eY, Post2 ea ca eY ∧ ea.bc = true ∧ dc nW eN ho ea v ∧ eW nW eN ho ca eY ∧ (∃ q, eY i = some q) ∧ ∀ b, ec eN ca eY b → ec eN m1 bn b) : dn P f (aQ (mN (ad k) off) :: args) ca (bI i (hQ (dP (ad k)) (kY ad m R k))) Post2 := by
 refine ⟨fun U afG W vs cK ee dH => ?_⟩;have hi : bI i (hQ (dP (ad k)) (kY ad m R k)) i = some (hQ (dP (ad k)) (kY ad m R k)) := by unfold bI; exact cr _ _ _
 obtain ⟨dU, _, uW⟩ := cK.rows i _ hi;obtain ⟨aY, og⟩ := abw dU
 have gn : ∀ b, ec afG ca (bI i (hQ (dP (ad k)) (kY ad m R k))) b ↔ ec ad m R b := fun b => by
  constructor
  ·rintro (⟨j, cs, ae, _⟩ | ⟨j, q, ae, aw⟩)
   ·cases ae
   ·obtain ⟨rfl, rfl⟩ := fG ae; exact DD aw
  ·exact fun h => .inr ⟨i, _, hi, (OO aY og).2 h⟩
 have dy : ∀ b, ec ad m R b → ¬ U b := fun b ab => (uW b ((OO aY og).2 ab)).1;obtain ⟨hlen, hv⟩ := dH
 match vs, hlen with
 | v0 :: vs, hlen =>
  have r0 : v0 = mN (ad k) off := (hv 0 _ v0 rfl rfl).1;have y6 : jO U ad W args vs := jO.closed ek ⟨by simpa using hlen, fun j x v aa b4 => hv (j + 1) x v aa b4⟩;refine (ak.call U ad W (v0 :: vs) (aY.more og dy) (fun x aa j ae => ?_) ⟨hlen, fun j x v aa b4 => ?_⟩).mono ?_
  ·rcases gI.1 aa with rfl | aa
   ·obtain ⟨y, ag, ae⟩ := ae;simp [bG.cells] at ag;subst ag;cases ae;exact af
   ·exact absurd ae (ai.dw (cu.1 ek x aa) j)
  ·match j with
   | 0 => cases aa; cases b4; exact PJ r0
   | j + 1 => exact y6.2 j x v aa b4
  ·rintro e W' ⟨v, r, m1, bn, eN, nW, rfl, ju, Cn, pz, iE, bA, b9, cE, cF, ab⟩;have iY : eN k = ad k := by obtain ⟨cs, h⟩ := af; exact (bA k cs h).1
   obtain ⟨ea, eY, q1, q2, b5, ew, lj, zZ⟩ := hp r m1 bn eN nW W' v ju iY Cn pz;refine ⟨v, ea, ca, eY, eN, nW, rfl, q1, ew, b5, fun j ae => absurd ae (ai.dw q2 j), fun k cs af => (by cases af), fun j q ae => ?_, fun b ab => ?_, fun b ab => ?_, ⟨ab.os, ab.tape, ab.output, ab.size, fun b au => ab.block b ⟨au.1, fun GJ => au.2 ((gn b).2 GJ)⟩⟩⟩
   ·obtain ⟨rfl, rfl⟩ := fG ae;exact lj
   ·rcases cE b ab with q | q | q
    ·exact .inl q
    ·exact .inr (.inl q)
    ·exact .inr (.inr ((gn b).2 q))
   ·rcases cF b (zZ b ab) with q | q
    ·exact .inl ((gn b).2 q)
    ·exact .inr q
theorem OQ {U : Nat → Prop} {ad bg : Nat → Nat} {W : World} {m m1 : Mem} {R bn : aJ} {k : Nat} (h : eW U ad W m R) (hm : ∀ k cs, m1 k = some cs → m k = some cs) (aq : bH bn R) (fE : ∀ k cs x j, m1 k = some cs → x ∈ cs → x.owns j → ∃ ar, m1 j = some ar) (hp : mL m1 bn) :
  (hQ (dP (ad k)) (kY ad m1 bn k)).ok U bg W ∧ (∀ y ∈ (hQ (dP (ad k)) (kY ad m1 bn k)).aV, y.bc = true) ∧ ∀ g, (hQ (dP (ad k)) (kY ad m1 bn k)).own g → ¬ U g ∧ ∀ j cs, ca j = some cs → bg j ≠ g :=
 ⟨abx ((h.sub hm aq fE).none hp) hp, fun y ag => by simp at ag; subst ag; rfl, fun g aw => ⟨(h.sub hm aq fE).abg (DD aw), fun j cs ae => (by cases ae)⟩⟩
theorem QI {P : Program} {f : FuncId} {args : List ai} {ad : Nat → Nat} {m : Mem} {R : aJ} {k off : Nat} {Post : ai → Mem → aJ → Prop} {post : ai → eZ → Prop} (af : ∃ cs, m k = some cs) (ek : args.all ai.bc = true) (ak : dn P f (.w (.one (.own k off)) :: args) m R Post)
  (hp : ∀ v m1 bn, Post v m1 bn → v.bc = true ∧ mL m1 bn ∧ ∀ eN, eN k = ad k → post v (kY eN m1 bn k)) : xZ P f (aQ (mN (ad k) off) :: args) (dP (ad k)) (kY ad m R k) post := by
 intro i;refine ae4 af ek ak i fun r m1 bn eN nW ho v ju iY cK pz => ?_;obtain ⟨c1, c2, ke⟩ := hp _ _ _ ju;have ab := OQ (bg := eN) (k := k) cK (fun _ _ h => h) (bH.refl _) cK.fE c2;refine ⟨r, bI i (hQ (dP (ad k)) (kY eN m1 bn k)), ⟨_, rfl, rfl, ke eN iY⟩, c1, pz, ⟨fun k cs af => (by cases af), fun k cs x j af => (by cases af), fun k k' cs ar af => (by cases af), fun j q ae => ?_, fun j eL q cy ae jT cn => ?_⟩, ⟨_, by unfold bI; exact cr _ _ _⟩, ?_⟩
 ·obtain ⟨rfl, rfl⟩ := fG ae;rw [← iY]; exact ab
 ·obtain ⟨rfl, _⟩ := fG ae;obtain ⟨rfl, _⟩ := fG jT;exact absurd rfl cn
 ·rintro b (⟨j, cs, ae, _⟩ | ⟨j, q, ae, aw⟩)
  ·cases ae
  ·obtain ⟨rfl, rfl⟩ := fG ae;rw [← iY] at aw;exact DD aw
theorem ae3 {P : Program} {f : FuncId} {args : List ai} {Post : ai → Mem → aJ → Prop} {post : Value → eZ → Prop} (ak : dn P f args ca fk Post)
  (hp : ∀ v m1 bn, Post v m1 bn → ∃ k, v = .w (.one (.own k 0)) ∧ mL m1 bn ∧ ∀ eN, post (dP (eN k)) (kY eN m1 bn k)) : E8 P f args post := by
 intro i;refine ⟨fun U ad W vs cK ee dH => (ak.call U ad W vs cK ee dH).mono ?_⟩;rintro e W' ⟨v, r, m1, bn, eN, nW, rfl, ju, Cn, pz, iE, bA, b9, cE, cF, ab⟩;obtain ⟨k, rfl, c2, ke⟩ := hp _ _ _ ju;have Xc := OQ (bg := eN) (k := k) Cn (fun _ _ h => h) (bH.refl _) Cn.fE c2;have hv : v = dP (eN k) := pz;refine ⟨v, aQ (dP (eN k)), ca, bI i (hQ (dP (eN k)) (kY eN m1 bn k)), eN, nW, rfl, ⟨_, _, rfl, rfl, rfl, ke eN⟩, ⟨fun k cs af => (by cases af), fun k cs x j af => (by cases af), fun k k' cs ar af => (by cases af), fun j q ae => ?_, fun j eL q cy ae jT cn => ?_⟩, ⟨hv, rfl⟩, fun j ae => absurd ae (iJ _ j), fun k cs af => (by cases af), fun j q ae => (by cases ae), cE, fun b ab => ?_, ab⟩
 ·obtain ⟨rfl, rfl⟩ := fG ae;exact Xc
 ·obtain ⟨rfl, _⟩ := fG ae;obtain ⟨rfl, _⟩ := fG jT;exact absurd rfl cn
 ·rcases ab with ⟨j, cs, ae, _⟩ | ⟨j, q, ae, aw⟩
  ·cases ae
  ·obtain ⟨rfl, rfl⟩ := fG ae;exact cF b (DD aw)
section
variable {P : Program} {R : aJ} {s : aD} {ops : Array Oper} {dr : Option (List Nat)} {ty : Nat} {pos : String} {after : Array Edge} {guard : Option (Nat × Bool)} {K : aJ → aD → Prop} {rest : List Oper}
theorem ze (i : Nat) {dst : Option Nat} {f : FuncId} {g : Operand} {aS : Array TypeId} {l : List Operand} {args : List ai} {p : Value} {S : eZ} {post : ai → eZ → Prop} [E : Enters P f] (hw : want ops ⟨dst, .call ⟨.value g, l.toArray, aS⟩, ty, pos, after, guard⟩ s = some true) (hm : dJ dr ⟨dst, .call ⟨.value g, l.toArray, aS⟩, ty, pos, after, guard⟩ = true)
  (aw : s.look g = some (aQ (.func (.func f) #[] #[]))) (aK : l.map s.look = args.map some) (hp : xZ P f args p S post) (hi : R i = some (hQ p S)) (ek : args.all ai.bc = true) (hd : kH dst s.n = true)
  (h : ∀ v dd, post v dd → cL P ops dr K rest (bM R i (hQ p dd)) (s.put dst v)) : cL P ops dr K (⟨dst, .call ⟨.value g, l.toArray, aS⟩, ty, pos, after, guard⟩ :: rest) R s := by
 refine u0 hw hm aw aK (hp i) (fun x aa j ae => absurd ae (ai.dw (cu.1 ek x aa) j)) (fun k' ar aC => by cases aC) (fun ft a8 aC => ?_) (fun k' ar x j aC aa ae => by cases aC) hd ?_
 ·obtain ⟨rfl, rfl⟩ := fG aC; exact hi
 ·rintro v aH az ⟨dd, rfl, rfl, al⟩;refine ⟨fun k' c aC => (by cases aC), ?_⟩;rw [show bZ (bI i (hQ p dd)) R = bM R i (hQ p dd) from vl R i _, tU];exact h v dd al
theorem MP (i : Nat) {dst : Option Nat} {f : FuncId} {g : Operand} {aS : Array TypeId} {l : List Operand} {args : List ai} {post : Value → eZ → Prop} [E : Enters P f] (hw : want ops ⟨dst, .call ⟨.value g, l.toArray, aS⟩, ty, pos, after, guard⟩ s = some true) (hm : dJ dr ⟨dst, .call ⟨.value g, l.toArray, aS⟩, ty, pos, after, guard⟩ = true)
  (aw : s.look g = some (aQ (.func (.func f) #[] #[]))) (aK : l.map s.look = args.map some) (hp : E8 P f args post) (ek : args.all ai.bc = true) (hd : kH dst s.n = true)
  (h : ∀ p S, post p S → cL P ops dr K rest (bM R i (hQ p S)) (s.put dst (aQ p))) : cL P ops dr K (⟨dst, .call ⟨.value g, l.toArray, aS⟩, ty, pos, after, guard⟩ :: rest) R s := by
 refine u0 hw hm aw aK (hp i) (fun x aa j ae => absurd ae (ai.dw (cu.1 ek x aa) j)) (fun k' ar aC => by cases aC) (fun ft a8 aC => by cases aC) (fun k' ar x j aC aa ae => by cases aC) hd ?_;rintro v aH az ⟨p, S, rfl, rfl, rfl, al⟩;refine ⟨fun k' c aC => (by cases aC), ?_⟩;rw [show bZ (bI i (hQ p S)) R = bM R i (hQ p S) from vl R i _, tU];exact h p S al
end
section
variable {P : Program} {s : aD} {ops : Array Oper} {K : aD → Prop} {rest : List Oper} {ty : Nat} {pos : String} {after : Array Edge} {guard : Option (Nat × Bool)} {d : Nat}
theorem sX {x : Operand} {b off : Nat} (hw : want ops ⟨some d, .nilCheck x, ty, pos, after, guard⟩ s = some true) (aa : s.look x = some (aQ (mN b off))) (hd : Nat.blt d s.n = true) (h : bj P ops K rest (s.put (some d) (aQ (mN b off)))) : bj P ops K (⟨some d, .nilCheck x, ty, pos, after, guard⟩ :: rest) s := by
 refine fO hw ⟨fun _ _ h => (by cases h), fun y ag => ?_, fun U ad W env he => ?_, fun j ae => absurd ae (iJ _ j)⟩ hd h
 ·simp [Op.operands] at ag;subst ag;exact ⟨_, aa⟩
 ·have hv : env x = mN b off := (he x (by simp [Op.operands]) _ aa).1;exact ⟨_, by simp only [execOp, hv]; rfl, rfl, rfl⟩
theorem sV {x : Operand} {pT i b off hK : Nat} [F : p5 P pT i hK] (hw : want ops ⟨some d, .fieldAddr pT x i, ty, pos, after, guard⟩ s = some true) (aa : s.look x = some (aQ (mN b off))) (hd : Nat.blt d s.n = true) (h : bj P ops K rest (s.put (some d) (aQ (mN b (off + hK))))) : bj P ops K (⟨some d, .fieldAddr pT x i, ty, pos, after, guard⟩ :: rest) s := by
 refine fO (av := aQ (mN b (off + hK))) hw ⟨fun _ _ h => (by cases h), fun y ag => ?_, fun U ad W env he => ?_, fun j ae => absurd ae (iJ _ j)⟩ hd h
 ·simp [Op.operands] at ag;subst ag;exact ⟨_, aa⟩
 ·have hp : env x = .pointer (some ⟨b, off, none⟩) := (he x (by simp [Op.operands]) _ aa).1;have hF := F.h;unfold th at hF
  split at hF
  ·rename_i bl hu;cases au : bl[i]? with
   | none => rw [au] at hF; cases hF
   | some f =>
    rw [au] at hF;simp only [j0] at hF;cases hi : P.info? f.type with
    | none => rw [hi] at hF; cases hF
    | some t =>
     rw [hi] at hF;simp only [j0] at hF
     split at hF
     ·cases hF
     ·rename_i cn;cases hF;refine ⟨.pointer (some ⟨b, off + f.offset, none⟩), ?_, rfl, rfl⟩;have kk : (⟨b, off, none⟩ : Addr).add f.offset = ⟨b, off + f.offset, none⟩ := by unfold Addr.add; split <;> simp_all
      simp only [execOp, Instr.fieldAt, hp, Instr.sureAddr, Sem.run_bind, Sem.run_pure, Result.andThen_ok, run_underlying hu, au, fieldPlace, hj hi, if_neg cn, kk]
  ·cases hF
theorem ad5 (n : Nat) {t e : TypeId} (hu : P.underlying t = some (.pointer e)) (a : Addr) (W : World) : (Op.equalIn (n + 1) t (.pointer (some a)) (.pointer none)).run P W = .ok false W := by
 simp [Op.equalIn, run_underlying hu]
theorem ad6 {t e : TypeId} (hu : P.underlying t = some (.pointer e)) (a : Addr) (W : World) : (Op.equal t (.pointer (some a)) (.pointer none)).run P W = .ok false W := ad5 9999 hu a W
theorem ad4 {t e : TypeId} (hu : P.underlying t = some (.pointer e)) (a : Addr) (W : World) : (binOp .eql t (.pointer (some a)) (.pointer none)).run P W = .ok (.bool false) W := by
 simp only [binOp];simp [ad6 hu]
theorem Ww {op : BinOp} {t : TypeId} {x y : Operand} {a : Option Addr} {v : Value} : eqGuard op t x y (.pointer a) v = pure () := by cases op <;> rfl
def Nb (P : Program) (t : TypeId) : Bool := match P.underlying t with
 | some (.pointer _) => true
 | _ => false
end
section
variable {P : Program} {s : aD} {ops : Array Oper} {K : aD → Prop} {rest : List Oper} {ty : Nat} {pos : String} {after : Array Edge} {guard : Option (Nat × Bool)} {d : Nat}
end
theorem eZ.same {A B : eZ} (h1 : A.holds = B.holds) (h2 : A.la = B.la) : A = B := by
 cases A; cases B; cases h1; cases h2; rfl
theorem AC.PX {bJ : Nat → Nat} (x : AC) : (x.bd bJ).vm = x.vm := by cases x <;> rfl
theorem ac5 {bJ cq ir : Nat → Nat} (fs : ∀ j, bJ (bJ j) = j) (gq : ∀ j, cq (ir j) = j) {m : Mem} {R : aJ} : mL (m.bd bJ) (R.bd cq) ↔ mL m R := by
 constructor
 ·rintro ⟨h1, h2⟩;refine ⟨fun k cs af => ?_, fun i r hi => h2 (ir i) r (by unfold aJ.bd; rw [gq]; exact hi)⟩;have := h1 _ _ (Mem.qR fs af);rw [List.all_map] at this;rw [cu] at this ⊢;exact fun x aa => (AC.PX x).symm.trans (this x aa)
 ·rintro ⟨h1, h2⟩;refine ⟨fun k cs af => ?_, fun i r hi => h2 (cq i) r hi⟩;obtain ⟨ds, hd, rfl⟩ := Mem.qS af;have := h1 _ _ hd;rw [List.all_map];rw [cu] at this ⊢;exact fun x aa => (AC.PX x).trans (this x aa)
theorem ae5 {bJ cq ir : Nat → Nat} (fs : ∀ j, bJ (bJ j) = j) (gq : ∀ j, cq (ir j) = j) (u3 : ∀ j, ir (cq j) = j) {ad : Nat → Nat} {m : Mem} {R : aJ} {k : Nat} : kY ad (m.bd bJ) (R.bd cq) (bJ k) = kY (fun j => ad (bJ j)) m R k := by
 refine eZ.same ?_ ?_
 ·funext w v;show (v = dP (ad (bJ k)) ∧ eW tN ad w (m.bd bJ) (R.bd cq) ∧ mL (m.bd bJ) (R.bd cq)) = (v = dP (ad (bJ k)) ∧ eW tN (fun j => ad (bJ j)) w m R ∧ mL m R);rw [propext (ac5 fs gq), propext (eW.bd fs gq u3)]
 ·funext w v b;exact propext (ec.bd fs gq)
theorem eI {P : Program} {fn : Func} {l : List ResultVar} {xs : List bG} {R R0 bn : aJ} {s : aD} {cs ar : List AC} {Post : ai → Mem → aJ → Prop} (aq : fn.results = l.toArray) (h : l.map (ik P s) = xs.map some) (af : s.mem 1000 = some ar) (ay : bH bn R) (ak : ar.all AC.bc = true) (aa : (packed xs).bc = true) (aG : ∀ i r, R0 i = some r → ∃ a8, bn i = some a8)
  (hp : Post (packed xs) (cM 1000 ar) bn) : tv P fn (cM 1000 cs) R0 Post R s := by
 refine ⟨xs, packed xs, cM 1000 ar, bn, by rw [aq]; exact h, .refl _, hp, fun k c h => ?_, ay, fun j ae => absurd ae (ai.dw aa j), fun k c x j h aa ae => ?_, fun k c h => ?_, aG⟩
 ·obtain ⟨rfl, rfl⟩ := hb h; exact af
 ·obtain ⟨rfl, rfl⟩ := hb h; exact absurd ae (AC.dw (cu.1 ak x aa) j)
 ·obtain ⟨rfl, rfl⟩ := hb h; exact ⟨ar, by unfold cM; exact cr _ _ _⟩
theorem GH (k : Nat) {P : Program} {fn : Func} {l : List ResultVar} {xs : List bG} {R bn : aJ} {s : aD} {ar : List AC} {Post : ai → Mem → aJ → Prop} (aq : fn.results = l.toArray) (h : l.map (ik P s) = xs.map some) (af : s.mem k = some ar) (ay : bH bn R) (ak : ar.all AC.bc = true) (aa : (packed xs).xk k = true)
  (hp : Post (packed xs) (cM k ar) bn) : tv P fn ca fk Post R s := by
 refine ⟨xs, packed xs, cM k ar, bn, by rw [aq]; exact h, .refl _, hp, fun k c h => ?_, ay, fun j ae => ?_, fun k c x j h zj ae => ?_, fun k c h => (by cases h), fun i r h => (by cases h)⟩
 ·obtain ⟨rfl, rfl⟩ := hb h; exact af
 ·rw [ai.abM aa ae]; exact ⟨ar, by unfold cM; exact cr _ _ _⟩
 ·obtain ⟨rfl, rfl⟩ := hb h; exact absurd ae (AC.dw (cu.1 ak x zj) j)
section
variable {P : Program} {R : aJ} {s : aD} {ops : Array Oper} {dr : Option (List Nat)} {ty : Nat} {pos : String} {after : Array Edge} {guard : Option (Nat × Bool)} {K : aJ → aD → Prop} {rest : List Oper}
end
def oS (P : Program) (f : FuncId) (args : List ai) (post : ai → bL → Prop) : Prop :=
 ∀ i, dn P f args ca fk fun v aH az => ∃ q, aH = ca ∧ az = bI i q ∧ 0 < q.sz ∧ post v q
theorem Fc {P : Program} {f : FuncId} {args : List ai} {post : ai → bL → Prop} (aK : args.all ai.bc = true) (hp : ∀ v q, post v q → v.bc = true)
  (h : dn P f args ca fk fun v aH az => ∃ q, aH = ca ∧ az = bI 0 q ∧ 0 < q.sz ∧ post v q) : oS P f args post := by
 intro i;have h1 := h.bd (bJ := fun j => j) (cq := swp 0 i) (ir := swp 0 i) (fun _ => rfl) (mQ _ _) (mQ _ _);rw [PT aK, show Mem.bd (fun j => j) ca = ca from rfl, show aJ.bd (swp 0 i) fk = fk from rfl] at h1;refine ⟨fun U ad W vs cK ee dH => (h1.call U ad W vs cK ee dH).mono ?_⟩;rintro e W' ⟨v1, cP, aH, az, bg, cA, cY, ⟨ea, m2, eY, ⟨q, rfl, rfl, a6, al⟩, rfl, rfl, rfl⟩, lT⟩;rw [show Mem.bd (fun j => j) ca = ca from rfl, Ad, vr (hp _ _ al)] at lT;exact ⟨v1, ea, ca, bI i q, bg, cA, cY, ⟨q, rfl, rfl, a6, al⟩, lT⟩
theorem yT {P : Program} {fn : Func} {l : List ResultVar} {xs : List bG} {R : aJ} {s : aD} {q : bL} {post : ai → bL → Prop} (aq : fn.results = l.toArray) (h : l.map (ik P s) = xs.map some) (hi : R 0 = some q) (aa : (packed xs).bc = true) (y5 : 0 < q.sz)
  (hp : post (packed xs) q) : tv P fn ca fk (fun v aH az => ∃ q, aH = ca ∧ az = bI 0 q ∧ 0 < q.sz ∧ post v q) R s := by
 refine ⟨xs, packed xs, ca, bI 0 q, by rw [aq]; exact h, .refl _, ⟨q, rfl, rfl, y5, hp⟩, fun k c h => (by cases h), fun i r h => ?_, fun j ae => absurd ae (ai.dw aa j), fun k c x j h => (by cases h), fun k c h => (by cases h), fun i r h => (by cases h)⟩;obtain ⟨rfl, rfl⟩ := fG h; exact hi
section
variable {P : Program} {R : aJ} {s : aD} {ops : Array Oper} {dr : Option (List Nat)} {ty : Nat} {pos : String} {after : Array Edge} {guard : Option (Nat × Bool)} {K : aJ → aD → Prop} {rest : List Oper}
end
section
variable {P : Program} {U k2 : Nat → Prop} {ad : Nat → Nat} {w : World}
theorem bL.ok.QH {r : bL} (h : r.ok U ad w) (hs : 0 < r.sz) (AB : List AC) (ag : ∀ xs, bP U ad w r.aV xs → bP k2 ad w AB xs) (ak : ∀ y ∈ AB, y.bc = true) (dy : ∀ b, r.own b → k2 b) : gm k2 ad w (.p (cz r.sz r.n AB)) r.v := by
 obtain ⟨xs, ax, GR⟩ := h.row hs;have an := ag xs GR;have nk := an.1;obtain ⟨kN, aF | ⟨g, cap, cur, kl, qp, uQ, eK, jq, et, nt⟩⟩ := id ax
 ·obtain ⟨aI, aN⟩ := aF;have : AB = [] := mq (by rw [nk, kN, aN]; simp);rw [aI];exact ⟨⟨none, 0, by rw [aN], by omega, by rw [this, aN]; simp, fun h => absurd h (by omega)⟩, fun b ⟨c', a', q, aF, ab⟩ => by cases q⟩
 ·have ts := ax.cells (g := g) (by rw [kl]; rfl);have X4 : r.own g := .inl (by rw [kl]; rfl);rw [kl];have qn : kA w ⟨g, 0, none⟩ AB xs := ⟨(ku.1 uQ).1, an.wo ak fun b _ _ => ⟨trivial, rfl⟩, ts, ak⟩;refine ⟨⟨some ⟨g, 0, none⟩, cap, rfl, eK, by rw [nk]; exact kN, fun aF => ⟨⟨g, 0, none⟩, xs, rfl, qn⟩⟩, ?_⟩;rintro b ⟨c', a', q, aF, au⟩;cases q;rcases au with rfl | ⟨j, y, v, ag, hv, gf⟩
  ·exact dy g X4
  ·have bi : j < xs.length := by rw [← nk]; exact (bS.1 ag).1
   have h2 := ts j _ (cm bi);rw [hv] at h2;cases h2;have ap := an.2 j y _ ag (cm bi);cases y with
   | c u => cases gf
   | own k o => cases gf
   | p S => exact ap.2 b gf
def AZ (r : ai) : Prop := ∀ (U cA : Nat → Prop) (ad bg : Nat → Nat) (W W' : World) v, dc U ad W r v → dc cA bg W' r v
def uf (aV : List AC) : Prop := ∀ (U cA : Nat → Prop) (ad bg : Nat → Nat) (W W' : World) xs, bP U ad W aV xs → bP cA bg W' aV xs
theorem uf.of {aV : List AC} (h : ∀ y ∈ aV, ∃ v, y = .c v) : uf aV := fun U cA ad bg W W' xs aa => ⟨aa.1, fun i y v ag hv => by
 have h1 := aa.2 i y v ag hv;obtain ⟨u, rfl⟩ := h y (dF ag);exact h1⟩
theorem AZ.one {v : Value} : AZ (aQ v) := fun U cA ad bg W W' u h => h
theorem Xh {f : FuncId} {args ry : List ai} {R0 : aJ} {Post : ai → Mem → aJ → Prop} (hp : dn P f ry ca fk Post) (ak : ry.all ai.bc = true)
  (hv : ∀ U ad W vs, eW U ad W ca R0 → jO U ad W args vs → jO (fun b => U b ∨ ec ad ca R0 b) ad W ry vs)
  (ju : ∀ r aH bn, Post r aH bn → aH = ca ∧ AZ r ∧ r.bc = true ∧ ∀ i q, bn i = some q → 0 < q.sz ∧ uf q.aV) :
  dn P f args ca R0 fun r aH az => ∃ bn, Post r ca bn ∧ aH = ca ∧ az = bZ bn R0 := by
 refine ⟨fun U ad W vs cK ee dH => ?_⟩;have WM : eW (fun b => U b ∨ ec ad ca R0 b) ad W ca fk := ⟨fun k cs af => (by cases af), fun k cs x j af => (by cases af), fun k k' cs ar af => (by cases af), fun i q hi => (by cases hi), fun i j q cy hi => (by cases hi)⟩;have bi : ∀ i q g, R0 i = some q → q.own g → g < W.heap.size := fun i q g hi aw => (cK.rows i q hi).1.lt aw;refine (hp.call _ ad W vs WM (fun x aa j ae => absurd ae (ai.dw (cu.1 ak x aa) j)) (hv U ad W vs cK dH)).mono ?_;rintro e W' ⟨v, r, aH, bn, bg, cA, rfl, h1, h2, ap, aL, dx, gd, mC, pk, iA⟩;obtain ⟨rfl, au, nm, Ym⟩ := ju r aH bn h1
 have zf : ∀ b, b < W.heap.size → W'.heap[b]? = W.heap[b]? := fun b ab => iA.block b ⟨ab, by
  rintro (⟨k, cs, af, _⟩ | ⟨i, q, hi, _⟩)
  ·cases af
  ·cases hi⟩
 have pw : ∀ i q g, bn i = some q → q.own g → W.heap.size ≤ g := fun i q g hi aw => (pk g (.inr ⟨i, q, hi, aw⟩)).elim (fun h => by
  rcases h with ⟨k, cs, af, _⟩ | ⟨i, q, hi, _⟩
  ·cases af
  ·cases hi) id
 refine ⟨v, r, ca, bZ bn R0, bg, fun b => U b ∧ b < W.heap.size, rfl, ⟨bn, h1, rfl, rfl⟩, ⟨fun k cs af => (by cases af), fun k cs x j af => (by cases af), fun k k' cs ar af => (by cases af), fun i q hi => ?_, fun i j q cy hi ae gg g aw eu => ?_⟩, au _ _ _ _ _ _ v ap, fun j ae => absurd ae (ai.dw nm j), fun k cs af => (by cases af), fun i q hi => ?_, fun b ab => .inl ab.1, fun b ab => ?_, ⟨iA.os, iA.tape, iA.output, iA.size, fun b ab => zf b ab.1⟩⟩
 ·rcases jC hi with hi | ⟨_, hi⟩
  ·obtain ⟨q1, q2, b5⟩ := h2.rows i q hi;obtain ⟨iP, z2⟩ := Ym i q hi;obtain ⟨xs, ax, an⟩ := q1.row iP;exact ⟨.inl ⟨iP, xs, ax, z2 _ _ _ _ _ _ xs an⟩, q2, fun g aw => ⟨fun hu => by have := pw i q g hi aw; have := hu.2; omega, fun k cs af => by cases af⟩⟩
  ·obtain ⟨q1, q2, b5⟩ := cK.rows i q hi;exact ⟨q1.kept q2 (fun g aw => zf g (bi i q g hi aw)) iA.size fun b ab an => ⟨⟨ab, an⟩, zf b an⟩, q2, fun g aw => ⟨fun hu => (b5 g aw).1 hu.1, fun k cs af => by cases af⟩⟩
 ·rcases jC hi with hi | ⟨_, hi⟩ <;> rcases jC ae with ae | ⟨_, ae⟩
  ·exact h2.apart i j q cy hi ae gg g aw eu
  ·have := pw i q g hi aw; have := bi j cy g ae eu; omega
  ·have := pw j cy g ae eu; have := bi i q g hi aw; omega
  ·exact cK.apart i j q cy hi ae gg g aw eu
 ·cases al : bn i with
  | some x => exact ⟨x, hf al⟩
  | none => exact ⟨q, by rw [hg al]; exact hi⟩
 ·rcases ab with ⟨k, cs, af, _⟩ | ⟨i, q, hi, aw⟩
  ·cases af
  ·rcases jC hi with hi | ⟨_, hi⟩
   ·exact .inr (pw i q b hi aw)
   ·exact .inl (.inr ⟨i, q, hi, aw⟩)
end
section
variable {P : Program} {R : aJ} {s : aD} {ops : Array Oper} {dr : Option (List Nat)} {ty : Nat} {pos : String} {after : Array Edge} {guard : Option (Nat × Bool)} {K : aJ → aD → Prop} {rest : List Oper}
theorem MK {dst : Option Nat} {f : FuncId} {g : Operand} {aS : Array TypeId} {l : List Operand} {args : List ai} {R0 : aJ} {Post : ai → Mem → aJ → Prop} [E : Enters P f] (hw : want ops ⟨dst, .call ⟨.value g, l.toArray, aS⟩, ty, pos, after, guard⟩ s = some true) (hm : dJ dr ⟨dst, .call ⟨.value g, l.toArray, aS⟩, ty, pos, after, guard⟩ = true)
  (aw : s.look g = some (aQ (.func (.func f) #[] #[]))) (aK : l.map s.look = args.map some) (hp : dn P f args ca R0 Post) (aq : bH R0 R) (ek : args.all ai.bc = true) (hd : kH dst s.n = true)
  (h : ∀ r aH az, Post r aH az → aH = ca ∧ cL P ops dr K rest (bZ az R) (s.put dst r)) : cL P ops dr K (⟨dst, .call ⟨.value g, l.toArray, aS⟩, ty, pos, after, guard⟩ :: rest) R s := by
 refine u0 hw hm aw aK hp (fun x aa j ae => absurd ae (ai.dw (cu.1 ek x aa) j)) (fun k' ar aC => by cases aC) aq (fun k' ar x j aC aa ae => by cases aC) hd ?_;rintro r aH az al;obtain ⟨rfl, aC⟩ := h r aH az al;refine ⟨fun k' ar aC => (by cases aC), ?_⟩;have dp : s.over ca = s := rfl;rw [dp]; exact aC
end
def iy (g e : Nat) (cs : List AC) : bL := ⟨e, cs.length, .slice (some ⟨g, 0, none⟩) 1 1, 1, cs⟩
theorem uD {g e : Nat} {cs : List AC} (a6 : 0 < cs.length) {b : Nat} : (iy g e cs).own b ↔ b = g := by
 constructor
 ·intro h;have h := bL.oD h (by exact a6);have : (some g : Option Nat) = some b := h;exact (mo this).symm
 ·rintro rfl; exact .inl rfl
theorem Ks {U : Nat → Prop} {ad : Nat → Nat} {W : World} {g e : Nat} {cs : List AC} (a6 : 0 < cs.length) : (iy g e cs).ok U ad W ↔ ∃ vs : List Value, W.heap[g]? = some (.cells vs.toArray e (0, 0)) ∧ bP U ad W cs vs := by
 constructor
 ·intro h;obtain ⟨xs, ⟨an, aY⟩, aq⟩ := h.row a6;rcases aY with ⟨aG, _⟩ | ⟨iU, cap, cur, hv, _, uQ, _, _, ak, gZ⟩
  ·cases aG
  ·cases hv;have ak : cur.size = 1 * cs.length := ak;have gZ : cur.toList.take (1 * cs.length) = xs := gZ;have aI : cur.toList = xs := by rw [← gZ]; exact (hA (by rw [Array.length_toList]; omega)).symm
   refine ⟨xs, ?_, aq⟩;rw [← aI, Array.toArray_toList];exact uQ
 ·rintro ⟨vs, h1, h2⟩;have an := h2.1;refine .inl ⟨a6, vs, ⟨by show vs.length = 1 * cs.length; omega, .inr ⟨g, 1, vs.toArray, rfl, eC _, h1, dL _, by unfold maxLen; decide, by show vs.length = 1 * cs.length; omega, ?_⟩⟩, h2⟩;show vs.take (1 * cs.length) = vs;exact hA (by omega)
theorem tq {ad : Nat → Nat} {k g e i : Nat} {cs : List AC} {R : aJ} (a6 : 0 < cs.length) (hi : R i = none) (af : ad k = g) {b : Nat} {bg : Nat → Nat} : ec ad (cM k cs) R b ↔ ec bg ca (bM R i (iy g e cs)) b := by
 constructor
 ·rintro (⟨k', ar, h1, h2⟩ | ⟨j, r, h1, h2⟩)
  ·obtain ⟨rfl, rfl⟩ := hb h1;exact .inr ⟨i, _, cr _ _ _, (uD a6).2 (h2.symm.trans af)⟩
  ·have : j ≠ i := fun e => by subst e; rw [hi] at h1; cases h1
   exact .inr ⟨j, r, by rw [cj _ _ this]; exact h1, h2⟩
 ·rintro (⟨k', ar, h1, h2⟩ | ⟨j, r, h1, h2⟩)
  ·cases h1
  ·by_cases k8 : j = i
   ·subst k8;rw [cr] at h1;cases h1;exact .inl ⟨k, cs, by unfold cM; exact cr _ _ _, af.trans ((uD a6).1 h2).symm⟩
   ·rw [cj _ _ k8] at h1;exact .inr ⟨j, r, h1, h2⟩
theorem Mf {U : Nat → Prop} {ad bg : Nat → Nat} {W : World} {k g e i : Nat} {cs : List AC} {R : aJ} (a6 : 0 < cs.length) (ak : cs.all AC.bc = true) (hi : R i = none) (af : ad k = g) (h : eW U bg W ca (bM R i (iy g e cs))) : eW U ad W (cM k cs) R := by
 have cn : ∀ {j r}, R j = some r → j ≠ i := fun {j r} h1 e => by subst e; rw [hi] at h1; cases h1
 obtain ⟨h1, h2, ap⟩ := h.rows i _ (cr _ _ _);obtain ⟨vs, aO, w2⟩ := (Ks a6).1 h1;have cO := cu.1 ak;refine ⟨fun k' ar eJ => ?_, fun k' ar x j eJ aa ae => ?_, fun bA b9 c1 c2 h1 h2 _ => ?_, fun j r ae => ?_, fun j eL r q ae jT CM => ?_⟩
 ·obtain ⟨rfl, rfl⟩ := hb eJ;exact ⟨vs, e, by rw [af]; exact aO, w2.map (fun b ab _ => ⟨ab, rfl⟩) fun j x aa ae => absurd ae (AC.dw (cO x aa) j), by rw [af]; exact (ap g ((uD a6).2 rfl)).1⟩
 ·obtain ⟨rfl, rfl⟩ := hb eJ;exact absurd ae (AC.dw (cO x aa) j)
 ·exact (hb h1).1.trans (hb h2).1.symm
 ·obtain ⟨q1, q2, b5⟩ := h.rows j r (by rw [cj _ _ (cn ae)]; exact ae);refine ⟨q1.kept q2 (fun _ _ => rfl) (dL _) (fun b ab _ => ⟨ab, rfl⟩), q2, fun b ab => ⟨(b5 b ab).1, fun k' ar eJ e => ?_⟩⟩;obtain ⟨rfl, rfl⟩ := hb eJ;exact h.apart i j _ r (cr _ _ _) (by rw [cj _ _ (cn ae)]; exact ae) (Ne.symm (cn ae)) b ((uD a6).2 (e.symm.trans af)) ab
 ·exact h.apart j eL r q (by rw [cj _ _ (cn ae)]; exact ae) (by rw [cj _ _ (cn jT)]; exact jT) CM
theorem Kr {U : Nat → Prop} {ad bg : Nat → Nat} {W : World} {k i : Nat} {cs : List AC} {R : aJ} (a6 : 0 < cs.length) (ak : cs.all AC.bc = true) (hi : R i = none) (h : eW U ad W (cM k cs) R) : ∃ e, eW U bg W ca (bM R i (iy (ad k) e cs)) := by
 have cn : ∀ {j r}, R j = some r → j ≠ i := fun {j r} h1 e => by subst e; rw [hi] at h1; cases h1
 have oc : cM k cs k = some cs := by unfold cM; exact cr _ _ _
 obtain ⟨vs, e, aO, w2, w3⟩ := h.du k cs oc;have cO := cu.1 ak
 have Ec : ∀ {j q}, bM R i (iy (ad k) e cs) j = some q → (j = i ∧ q = iy (ad k) e cs) ∨ (j ≠ i ∧ R j = some q) := fun {j q} ae => by
  by_cases k8 : j = i
  ·subst k8; rw [cr] at ae; cases ae; exact .inl ⟨rfl, rfl⟩
  ·rw [cj _ _ k8] at ae; exact .inr ⟨k8, ae⟩
 refine ⟨e, fun k' ar eJ => (by cases eJ), fun k' ar x j eJ => (by cases eJ), fun bA b9 c1 c2 h1 => (by cases h1), fun j q ae => ?_, fun j eL q cy ae jT CM b ab c5 => ?_⟩
 ·rcases Ec ae with ⟨rfl, rfl⟩ | ⟨_, wS⟩
  ·refine ⟨(Ks a6).2 ⟨vs, aO, w2.map (fun b ab _ => ⟨ab, rfl⟩) fun j x aa ae => absurd ae (AC.dw (cO x aa) j)⟩, cO, fun b ab => ⟨?_, fun k' ar eJ => (by cases eJ)⟩⟩;rw [(uD a6).1 ab]; exact w3
  ·obtain ⟨q1, q2, b5⟩ := h.rows j q wS;exact ⟨q1.kept q2 (fun _ _ => rfl) (dL _) (fun b ab _ => ⟨ab, rfl⟩), q2, fun b ab => ⟨(b5 b ab).1, fun k' ar eJ => (by cases eJ)⟩⟩
 ·rcases Ec ae with ⟨rfl, rfl⟩ | ⟨_, wS⟩
  ·rcases Ec jT with ⟨rfl, rfl⟩ | ⟨_, GO⟩
   ·exact CM rfl
   ·rw [(uD a6).1 ab] at c5;exact ((h.rows eL cy GO).2.2 _ c5).2 k cs oc rfl
  ·rcases Ec jT with ⟨rfl, rfl⟩ | ⟨_, GO⟩
   ·rw [(uD a6).1 c5] at ab;exact ((h.rows j q wS).2.2 _ ab).2 k cs oc rfl
   ·exact h.apart j eL q cy wS GO CM b ab c5
theorem dn.ae9 {P : Program} {f : FuncId} {args : List ai} {k : Nat} {cs : List AC} {R0 : aJ} {Post : ai → Mem → aJ → Prop} (i : Nat) (g e : Nat) (h : dn P f (.w (.one (.own k 0)) :: args) (cM k cs) R0 Post) (ek : args.all ai.bc = true) (et : cs.all AC.bc = true) (a6 : 0 < cs.length) (hi : R0 i = none)
  (hp : ∀ v aH az, Post v aH az → v.bc = true ∧ az i = none ∧ ∃ ar, aH = cM k ar ∧ ar.all AC.bc = true ∧ 0 < ar.length) :
  dn P f (aQ (dP g) :: args) ca (bM R0 i (iy g e cs)) fun v aH az => ∃ ar bn bu, Post v (cM k ar) bn ∧ aH = ca ∧ az = bM bn i (iy g bu ar) := by
 refine ⟨fun U ad W vs cK ee dH => ?_⟩
 let eN : Nat → Nat := fun j => if j = k then g else ad j
 have qu : eN k = g := if_pos rfl;have EQ := Mf (ad := eN) a6 et hi qu cK;obtain ⟨hlen, hv⟩ := dH
 match vs, hlen with
 | v0 :: vs, hlen =>
  have r0 : v0 = dP g := (hv 0 _ v0 rfl rfl).1;have y6 : jO U eN W args vs := jO.closed ek ⟨by simpa using hlen, fun j x v aa b4 => hv (j + 1) x v aa b4⟩;refine (h.call U eN W (v0 :: vs) EQ (fun x aa j ae => ?_) ⟨by simpa using hlen, fun j x v aa b4 => ?_⟩).mono ?_
  ·rcases gI.1 aa with rfl | aa
   ·obtain ⟨y, ag, ae⟩ := ae;simp [bG.cells] at ag;subst ag;cases ae;exact ⟨cs, by unfold cM; exact cr _ _ _⟩
   ·exact absurd ae (ai.dw (cu.1 ek x aa) j)
  ·match j with
   | 0 => cases aa; cases b4; exact PJ (off := 0) (r0.trans (by rw [qu]))
   | j + 1 => exact y6.2 j x v aa b4
  ·rintro dp W' ⟨v, r, aH, az, bg, cA, rfl, ju, l6, pz, iE, bA, b9, cE, cF, ab⟩;obtain ⟨c1, aF, ar, rfl, c2, ke⟩ := hp _ _ _ ju;have eJ : bg k = g := (bA k cs (by unfold cM; exact cr _ _ _)).1.trans qu;obtain ⟨bu, A1⟩ := Kr (bg := bg) ke c2 aF l6;rw [eJ] at A1;refine ⟨v, r, ca, bM az i (iy g bu ar), bg, cA, rfl, ⟨ar, az, bu, ju, rfl, rfl⟩, A1, pz, fun j ae => absurd ae (ai.dw c1 j), fun jy k4 aG => (by cases aG), fun j hV ae => ?_, fun b c5 => ?_, fun b c5 => ?_, ⟨ab.os, ab.tape, ab.output, ab.size, fun b au => ab.block b ⟨au.1, fun aY => au.2 ((tq a6 hi qu).1 aY)⟩⟩⟩
   ·by_cases k8 : j = i
    ·subst k8; exact ⟨_, cr _ _ _⟩
    ·rw [cj _ _ k8] at ae;obtain ⟨q, al⟩ := b9 j hV ae;exact ⟨q, by rw [cj _ _ k8]; exact al⟩
   ·rcases cE b c5 with q | q | q
    ·exact .inl q
    ·exact .inr (.inl q)
    ·exact .inr (.inr ((tq a6 hi qu).1 q))
   ·rcases cF b ((tq ke aF eJ).2 c5) with q | q
    ·exact .inl ((tq a6 hi qu).1 q)
    ·exact .inr q
theorem dn.ae8 {P : Program} {f : FuncId} {args : List ai} {k : Nat} {cs : List AC} {R0 : aJ} {Post : ai → Mem → aJ → Prop} (i : Nat) (h : ∀ g e, dn P f (aQ (dP g) :: args) ca (bM R0 i (iy g e cs)) fun v aH az => ∃ ar bn bu, Post v (cM k ar) bn ∧ aH = ca ∧ az = bM bn i (iy g bu ar))
  (ek : args.all ai.bc = true) (et : cs.all AC.bc = true) (a6 : 0 < cs.length) (hi : R0 i = none) (hp : ∀ v ar az, Post v (cM k ar) az → v.bc = true ∧ az i = none ∧ ar.all AC.bc = true ∧ 0 < ar.length) :
  dn P f (.w (.one (.own k 0)) :: args) (cM k cs) R0 Post := by
 refine ⟨fun U ad W vs cK ee dH => ?_⟩;obtain ⟨e, EQ⟩ := Kr (bg := ad) a6 et hi cK;obtain ⟨hlen, hv⟩ := dH
 match vs, hlen with
 | v0 :: vs, hlen =>
  have r0 : v0 = dP (ad k) := hv 0 _ v0 rfl rfl;have y6 : jO U ad W args vs := jO.closed ek ⟨by simpa using hlen, fun j x v aa b4 => hv (j + 1) x v aa b4⟩;refine ((h (ad k) e).call U ad W (v0 :: vs) EQ (fun x aa j ae => ?_) ⟨by simpa using hlen, fun j x v aa b4 => ?_⟩).mono ?_
  ·rcases gI.1 aa with rfl | aa
   ·exact absurd ae (iJ _ j)
   ·exact absurd ae (ai.dw (cu.1 ek x aa) j)
  ·match j with
   | 0 => cases aa; cases b4; exact ⟨r0, by rfl⟩
   | j + 1 => exact y6.2 j x v aa b4
  ·rintro dp W' ⟨v, r, aH, az, bg, cA, rfl, ⟨ar, bn, bu, ju, rfl, rfl⟩, l6, pz, iE, bA, b9, cE, cF, ab⟩;obtain ⟨c1, aF, c2, ke⟩ := hp _ _ _ ju
   let AE : Nat → Nat := fun j => if j = k then ad k else bg j
   have wT : AE k = ad k := if_pos rfl;have A1 := Mf (ad := AE) ke c2 aF wT l6;refine ⟨v, r, cM k ar, bn, AE, cA, rfl, ju, A1, ?_, fun j ae => absurd ae (ai.dw c1 j), fun jy k4 aG => ?_, fun j hV ae => ?_, fun b c5 => ?_, fun b c5 => ?_, ⟨ab.os, ab.tape, ab.output, ab.size, fun b au => ab.block b ⟨au.1, fun aY => au.2 ((tq a6 hi rfl).2 aY)⟩⟩⟩
   ·exact pz.map (fun b ab _ => ⟨ab, rfl⟩) fun j ae => absurd ae (ai.dw c1 j)
   ·obtain ⟨rfl, rfl⟩ := hb aG;exact ⟨wT, ar, by unfold cM; exact cr _ _ _⟩
   ·have jT : j ≠ i := fun e => by subst e; rw [hi] at ae; cases ae
    obtain ⟨q, al⟩ := b9 j hV (by rw [cj _ _ jT]; exact ae);rw [cj _ _ jT] at al;exact ⟨q, al⟩
   ·rcases cE b c5 with q | q | q
    ·exact .inl q
    ·exact .inr (.inl q)
    ·exact .inr (.inr ((tq a6 hi rfl).2 q))
   ·rcases cF b ((tq ke aF wT).1 c5) with q | q
    ·exact .inl ((tq a6 hi rfl).2 q)
    ·exact .inr q
abbrev nM (V : List ao) (D : List Int) : ai := .w (.agg [.p (cz 2 V.length (b3 V)), .p (cz 1 D.length (cD D))])
abbrev vd (V : List ao) (D : List Int) : List AC := [.p (cz 2 V.length (b3 V)), .p (cz 1 D.length (cD D))]
abbrev BD (b : Bool) : AC := .p (EX [.c (.bool (!b))])
abbrev vD (l d : Bool) : ai := .w (.one (.p (oU (.func 184) [BD l, BD d])))
theorem abP {a1 a2 b1 b2 : Int} : aX aj 127 [bh a1 a2, bh b1 b2] (vD (decide (b1 < a1)) (decide (b2 < a2))) := by
 have aI : decide (b1 ≥ a1) = !decide (b1 < a1) := by by_cases h : b1 < a1 <;> simp [h] <;> omega
 have aN : decide (b2 ≥ a2) = !decide (b2 < a2) := by by_cases h : b2 < a2 <;> simp [h] <;> omega
 refine acV (f := 127) Tryz.func127 rfl rfl rfl rfl ?_;refine Kn (Fq ?_);(repeat first | (with_reducible apply aA); exact rfl | (with_reducible first | apply bN | apply bV | apply aB));refine Kn (Fq ?_);(repeat first | (with_reducible apply aA); exact rfl | (with_reducible apply hX); kernel_rfl | (with_reducible apply h0); kernel_rfl; kernel_rfl; exact rfl | with_reducible apply bN);refine Km 5 _ rfl rfl ?_;refine Km 6 _ rfl rfl ?_;refine Fq ?_;(repeat first | (with_reducible apply aA); exact rfl | refine Tl (xs := [_, _]) (cs := [_, _]) rfl rfl rfl rfl ?_ | (with_reducible first | apply bX | apply bN | apply bV | apply aB | apply cd))
 ((refine bU rfl (bE rfl bf) ?_))
 exact ai.bo.of_eq (by rw [aI, aN]; rfl)
theorem acj {x y z w : Int} {l d r : Bool} (aq : x4 x y z w l d = r) : aX aj 184 [bh x y, bh z w, .w (.one (BD l)), .w (.one (BD d))] (bF r) := by
 have cs : (¬ x = z ∧ z < x ∧ r = l) ∨ (¬ x = z ∧ ¬ z < x ∧ r = !l) ∨ (x = z ∧ ¬ y = w ∧ w < y ∧ r = d) ∨ (x = z ∧ ¬ y = w ∧ ¬ w < y ∧ r = !d) ∨ (x = z ∧ y = w ∧ r = false) := by
  rw [← aq]; unfold x4
  by_cases h1 : x < z <;> by_cases h2 : z < x <;> by_cases ap : y < w <;> by_cases aL : w < y <;> simp [h1, h2, ap, aL] <;> omega
 clear aq;rcases cs with ⟨h1, h2, rfl⟩ | ⟨h1, h2, rfl⟩ | ⟨h1, ap, h2, rfl⟩ | ⟨h1, ap, h2, rfl⟩ | ⟨h1, ap, rfl⟩
 all_goals
  refine cl (f := 184) Tryz.func184 rfl rfl rfl rfl ?_;(repeat first | (with_reducible apply aA); exact rfl | (with_reducible apply qc); (iterate 5 exact rfl) | (with_reducible apply S5); (iterate 4 exact rfl); kernel_rfl | (with_reducible apply c8 (c := true)); exact rfl; exact rfl; ((simp only [iz]; (omega))) | (with_reducible apply c8 (c := false)); exact rfl; exact rfl; ((simp only [iz]; (omega))) | (with_reducible first | apply bX | apply bN | apply bV | apply aB | apply cd | apply fr | apply gy) | (with_reducible apply hI); exact rfl; ((simp only [iz]; (omega))) | (with_reducible apply hZ); exact rfl; ((simp only [iz]; (omega))))
  ((refine bU rfl (bE rfl bf) ?_))
  first
  | exact ai.bo.refl _
  | exact ai.bo.of_eq (by rw [bR (show ¬ x < z by omega), Bool.false_beq, Bool.not_not]; rfl)
  | exact ai.bo.of_eq (by rw [bB (show x < z by omega), Bool.true_beq]; rfl)
  | exact ai.bo.of_eq (by rw [bR (show ¬ y < w by omega), Bool.false_beq, Bool.not_not]; rfl)
  | exact ai.bo.of_eq (by rw [bB (show y < w by omega), Bool.true_beq]; rfl)
section
variable {P : Program} {s : aD} {ops : Array Oper} {K : aD → Prop} {rest : List Oper} {ty : Nat} {pos : String} {after : Array Edge} {guard : Option (Nat × Bool)} {d : Nat}
theorem Tt {c0 dI : Nat} {x y : Operand} {a b : Int} (hw : want ops ⟨some d, .binOp .quo c0 x y dI, ty, pos, after, guard⟩ s = some true) (aa : s.look x = some (aQ (.int .i64 a))) (ag : s.look y = some (aQ (.int .i64 b))) (aG : 0 ≤ a) (h1 : 0 < b) (h2 : a ≤ 9223372036854775807) (hd : Nat.blt d s.n = true) (h : bj P ops K rest (s.put (some d) (aQ (.int .i64 (a / b))))) : bj P ops K (⟨some d, .binOp .quo c0 x y dI, ty, pos, after, guard⟩ :: rest) s := by
 refine qb hw aa ag (fun W => ?_) rfl hd h;have ab : b ≠ 0 := by omega
 have e : a.tdiv b = a / b := Int.tdiv_eq_ediv_of_nonneg aG
 have aN : IntKind.i64.wrap (a / b) = a / b := da (by
  have := pL aG (show 0 ≤ b by omega);have := Int.ediv_le_self b aG;omega)
 simp [binOp, Op.intDiv, ab, e, aN]
end
theorem Nh : b3 [] = [] := rfl
theorem Ni (p : Int × Int) (l : List (Int × Int)) : ((b3 (p :: l)).drop ((1 : Int).toNat * 2)).take (l.length * 2) = b3 l := by
 show ((b3 (p :: l)).drop 2).take (l.length * 2) = b3 l;rw [← nw];simp [b3]
theorem Ht (p : Int × Int) (l : List (Int × Int)) : b3 l ++ [.c (.int .i64 p.1), .c (.int .i64 p.2)] = b3 (l ++ [p]) := by rw [r7]; rfl
theorem Zc (l : List (Int × Int)) (k : Nat) : ((b3 l).drop (0 * 2)).take ((l.take k).length * 2) = b3 (l.take k) := by
 have e : b3 l = b3 (l.take k) ++ b3 (l.drop k) := by rw [← r7, ks]
 rw [e, Nat.zero_mul, List.drop_zero, ← nw];simp
theorem Zb (l : List (Int × Int)) (k : Nat) (af : k ≤ l.length) : ((b3 l).drop (k * 2)).take ((l.drop k).length * 2) = b3 (l.drop k) := by
 have e : b3 l = b3 (l.take k) ++ b3 (l.drop k) := by rw [← r7, ks]
 have aN : k * 2 = (b3 (l.take k)).length := by rw [nw, eg, pJ af]
 rw [e, aN, List.drop_left, ← nw, List.take_length]
abbrev ie (v : Value) (l : List (Int × Int)) : bL := ⟨59, 2, v, l.length, b3 l⟩
instance ahw : nU aj 42 59 2 16 := ⟨by kernel_rfl⟩
def R7 (M : List (Int × Int)) (lt : Int × Int → Int × Int → Bool) (Dj : ai) (K : Nat) (m : Nat) (R : aJ) (aS : List (Nat × ai)) (bD : List (Nat × List AC)) : Prop :=
 ∃ (a b out : List (Int × Int)) (v : Value), m = a.length + b.length ∧ out ++ eP lt a b = M ∧ out.length + m = K ∧ R = bI 0 (ie v out) ∧ aS = [(0, hk a), (1, hk b), (2, Dj), (7, aQ v)] ∧ bD = []
theorem Ii {fx fy : Bool} {a b : List (Int × Int)} (aK : a.length ≤ 100000) (ab : b.length ≤ 100000) :
  aX aj 183 [hk a, hk b, vD fx fy] (hk (eP (dA fx fy) a b)) := by
 refine cl (f := 183) Tryz.func183 rfl rfl rfl rfl ?_;refine uB ?_;(repeat first | (with_reducible first | apply ba | apply aR | apply a7 | apply aU) | (with_reducible apply aM); exact rfl; (repeat first | (with_reducible apply aA); exact rfl | (with_reducible apply fh); (iterate 3 exact rfl); (exact da (by omega)); exact rfl | (with_reducible apply dC); (iterate 3 exact rfl)); (with_reducible apply aB));refine zb (l := 0) (c' := a.length + b.length) 0 rfl rfl rfl rfl (eC _) rfl rfl ?h2 (kR (by omega)) rfl (fun v hv => ?_)
 case h2 => omega
 (repeat first | (with_reducible first | apply ba | apply aR | apply aU | apply eM) | (with_reducible apply aM); exact rfl; (repeat first | (with_reducible apply aA); exact rfl); (with_reducible apply aB));refine ls 52 (R7 (eP (dA fx fy) a b) (dA fx fy) (vD fx fy) (a.length + b.length)) (a.length + b.length) (bI 0 (ie v [])) _ _ ⟨a, b, [], v, rfl, rfl, jF _, rfl, rfl, rfl⟩ (nI _ _ _) rfl ⟨rfl, rfl, rfl, rfl, trivial⟩ trivial rfl ?_;rintro m R aS bD ⟨a', bK, out, v, rfl, iW, dT, rfl, rfl, rfl⟩ dU;clear dU hv
 by_cases nB : 0 < a'.length
 ·by_cases nC : 0 < bK.length
  ·have DW : (a'.length : Int) > 0 := by omega
   have It : (bK.length : Int) > 0 := by omega
   obtain ⟨⟨x, n⟩, a2, rfl⟩ := List.exists_cons_of_length_pos nB;obtain ⟨⟨y, m⟩, b2, rfl⟩ := List.exists_cons_of_length_pos nC;have iR : ((b3 ((x, n) :: a2)).drop ((0 : Int).toNat * 2)).take 2 = [.c (.int .i64 x), .c (.int .i64 n)] := va (j := 0) (i := 0) rfl rfl;have p0 : ((b3 ((y, m) :: b2)).drop ((0 : Int).toNat * 2)).take 2 = [.c (.int .i64 y), .c (.int .i64 m)] := va (j := 0) (i := 0) rfl rfl;have aP := acj (x := y) (y := m) (z := x) (w := n) (l := fx) (d := fy) rfl;rw [show x4 y m x n fx fy = dA fx fy (y, m) (x, n) from rfl] at aP;cases bi : dA fx fy (y, m) (x, n) with
   | true =>
    rw [bi] at aP;have aI : ((y, m) :: b2).length - (1 : Int).toNat = b2.length := rfl;have aN := Ni (y, m) b2
    have Gm : (out ++ [(y, m)]) ++ eP (dA fx fy) ((x, n) :: a2) b2 = eP (dA fx fy) a b := by
     rw [← iW, eP, if_pos bi, ig]; rfl
    have XT : (out ++ [(y, m)]).length = out.length + 1 := cR;have mE : ((y, m) :: b2).length = b2.length + 1 := rfl;have XU : ((x, n) :: a2).length = a2.length + 1 := rfl;(repeat first | (with_reducible apply ev); kernel_rfl | (with_reducible apply dR (id := 3) [0,1,2,3,4,5,6,7]); kernel_rfl; kernel_rfl; exact rfl | (with_reducible apply dR (id := 4) [0,1,2,3,6,7,4,5,8,9]); kernel_rfl; kernel_rfl; exact rfl | (with_reducible first | apply ba | apply aR | apply a7 | apply aU | apply cS | apply eM) | (with_reducible apply dz); exact rfl; (first | exact bB (by omega) | exact rfl) | (with_reducible apply aM); exact rfl; (repeat first | (with_reducible apply aA); exact rfl | (with_reducible apply fZ); (iterate 5 exact rfl) | (with_reducible apply e7); (iterate 3 exact rfl); (decide); (omega); (assumption); exact rfl | (with_reducible apply dC); (iterate 3 exact rfl) | (with_reducible apply Ke); (iterate 3 exact rfl); (omega); (assumption); (assumption); (assumption); exact rfl | (with_reducible apply l5); (iterate 10 exact rfl) | refine Ka (args := [_, _]) rfl rfl rfl (by (exact aP)) rfl ?_ | (with_reducible apply c8 (c := true)); exact rfl; exact rfl; (exact bB (by omega))); (with_reducible apply aB));refine qx 0 rfl rfl rfl rfl ?q1 ?q2 rfl rfl (fun aZ b4 => ?_)
    case q1 => exact kR (by show out.length + 1 ≤ 1000000; omega)
    case q2 => show (out.length + 1) * 16 ≤ 140737488355328; omega
    (repeat first | (with_reducible apply ev); kernel_rfl | (with_reducible first | apply aR | apply j3) | (with_reducible apply aM); exact rfl; (repeat first | (with_reducible apply aA); exact rfl); (with_reducible apply aB))
    have cC : ie aZ (out ++ [(y, m)]) = ⟨59, 2, aZ, out.length + 1, b3 out ++ [.c (.int .i64 y), .c (.int .i64 m)]⟩ := by
     unfold ie; rw [← Ht, cR]; rfl
    refine ⟨_, bI 0 (ie aZ (out ++ [(y, m)])), _, _, ?_, ⟨(x, n) :: a2, b2, out ++ [(y, m)], aZ, rfl, Gm, ?_, rfl, rfl, rfl⟩, by rw [cC]; exact nI _ _ _, rfl, ⟨rfl, rfl, rfl, rfl, trivial⟩, trivial, rfl⟩
    ·omega
    ·omega
   | false =>
    rw [bi] at aP;have aI : ((x, n) :: a2).length - (1 : Int).toNat = a2.length := rfl;have aN := Ni (x, n) a2
    have Gm : (out ++ [(x, n)]) ++ eP (dA fx fy) a2 ((y, m) :: b2) = eP (dA fx fy) a b := by
     rw [← iW, eP, if_neg (by rw [bi]; decide), ig]; rfl
    have XT : (out ++ [(x, n)]).length = out.length + 1 := cR;have mE : ((y, m) :: b2).length = b2.length + 1 := rfl;have XU : ((x, n) :: a2).length = a2.length + 1 := rfl;(repeat first | (with_reducible apply ev); kernel_rfl | (with_reducible apply dR (id := 3) [0,1,2,3,4,5,6,7]); kernel_rfl; kernel_rfl; exact rfl | (with_reducible apply dR (id := 5) [0,1,2,3,6,7,4,5,8,9]); kernel_rfl; kernel_rfl; exact rfl | (with_reducible first | apply ba | apply aR | apply a7 | apply aU | apply cS | apply eM) | (with_reducible apply dz); exact rfl; (exact bB (by omega)) | (with_reducible apply c6); exact rfl; (exact rfl) | (with_reducible apply aM); exact rfl; (repeat first | (with_reducible apply aA); exact rfl | (with_reducible apply fZ); (iterate 5 exact rfl) | (with_reducible apply e7); (iterate 3 exact rfl); (decide); (omega); (assumption); exact rfl | (with_reducible apply dC); (iterate 3 exact rfl) | (with_reducible apply Ke); (iterate 3 exact rfl); (omega); (assumption); (assumption); (assumption); exact rfl | (with_reducible apply l5); (iterate 10 exact rfl) | refine Ka (args := [_, _]) rfl rfl rfl (by (exact aP)) rfl ?_ | (with_reducible apply c8 (c := true)); exact rfl; exact rfl; (exact bB (by omega))); (with_reducible apply aB));refine qx 0 rfl rfl rfl rfl ?q1 ?q2 rfl rfl (fun aZ b4 => ?_)
    case q1 => exact kR (by show out.length + 1 ≤ 1000000; omega)
    case q2 => show (out.length + 1) * 16 ≤ 140737488355328; omega
    (repeat first | (with_reducible apply ev); kernel_rfl | (with_reducible first | apply aR | apply j3) | (with_reducible apply aM); exact rfl; (repeat first | (with_reducible apply aA); exact rfl); (with_reducible apply aB))
    have cC : ie aZ (out ++ [(x, n)]) = ⟨59, 2, aZ, out.length + 1, b3 out ++ [.c (.int .i64 x), .c (.int .i64 n)]⟩ := by
     unfold ie; rw [← Ht, cR]; rfl
    refine ⟨_, bI 0 (ie aZ (out ++ [(x, n)])), _, _, ?_, ⟨a2, (y, m) :: b2, out ++ [(x, n)], aZ, rfl, Gm, ?_, rfl, rfl, rfl⟩, by rw [cC]; exact nI _ _ _, rfl, ⟨rfl, rfl, rfl, rfl, trivial⟩, trivial, rfl⟩
    ·omega
    ·omega
  ·have DW : (a'.length : Int) > 0 := by omega
   have It : ¬ (bK.length : Int) > 0 := by omega
   have l7 : bK = [] := List.length_eq_zero_iff.1 (by omega);have a6 : (a'.length : Int) = a'.length := rfl;(repeat first | (with_reducible first | apply ba | apply aR | apply a7 | apply aU | apply j4 | apply j6 | apply j5) | (with_reducible apply c6); exact rfl; (exact bR (by omega)) | (with_reducible apply aM); exact rfl; (repeat first | (with_reducible apply aA); exact rfl | (with_reducible apply dC); (iterate 3 exact rfl) | (with_reducible apply c8 (c := true)); exact rfl; exact rfl; (exact bB (by omega))); (with_reducible apply aB));refine qx 0 rfl rfl rfl rfl ?q1 ?q2 (u7 _) rfl (fun aZ b4 => ?_)
   case q1 => exact kR (by show out.length + a'.length ≤ 1000000; omega)
   case q2 => show (out.length + a'.length) * 16 ≤ 140737488355328; omega
   (repeat first | (with_reducible first | apply ba | apply aR | apply a7 | apply aU) | (with_reducible apply aM); exact rfl; (repeat first | (with_reducible apply aA); exact rfl); (with_reducible apply aB));refine MI (k := (eP (dA fx fy) a b).length) (zs := b3 (eP (dA fx fy) a b)) 0 rfl rfl rfl rfl ?p1 ?p2 ?p3 ?p4 (u7 _) rfl ?_
   case p1 => exact kR (by show (out.length + a'.length) + bK.length ≤ 1000000; omega)
   case p2 => show ((out.length + a'.length) + bK.length) * 16 ≤ 140737488355328; omega
   case p3 => show (out.length + a'.length) + bK.length = (eP (dA fx fy) a b).length; rw [HY]; omega
   case p4 => show (b3 out ++ b3 a') ++ b3 bK = b3 (eP (dA fx fy) a b); rw [← iW, l7, HZ, ← r7, Nh, pF]
   (repeat first | (with_reducible first | apply aR | apply aU | apply db) | (with_reducible apply aM); exact rfl; (repeat first | (with_reducible apply aA); exact rfl); (with_reducible apply aB))
   ((refine bU rfl (bE rfl bf) ?_))
   exact ai.bo.refl _
 ·have DW : ¬ (a'.length : Int) > 0 := by omega
  have W3 : a' = [] := List.length_eq_zero_iff.1 (by omega);(repeat first | (with_reducible first | apply ba | apply aR | apply a7 | apply aU | apply j4 | apply j6 | apply j5) | (with_reducible apply c6); exact rfl; (exact rfl) | (with_reducible apply aM); exact rfl; (repeat first | (with_reducible apply aA); exact rfl | (with_reducible apply dC); (iterate 3 exact rfl) | (with_reducible apply c8 (c := false)); exact rfl; exact rfl; (exact bR (by omega))); (with_reducible apply aB));refine qx 0 rfl rfl rfl rfl ?q1 ?q2 (u7 _) rfl (fun aZ b4 => ?_)
  case q1 => exact kR (by show out.length + a'.length ≤ 1000000; omega)
  case q2 => show (out.length + a'.length) * 16 ≤ 140737488355328; omega
  (repeat first | (with_reducible first | apply ba | apply aR | apply a7 | apply aU) | (with_reducible apply aM); exact rfl; (repeat first | (with_reducible apply aA); exact rfl); (with_reducible apply aB));refine MI (k := (eP (dA fx fy) a b).length) (zs := b3 (eP (dA fx fy) a b)) 0 rfl rfl rfl rfl ?p1 ?p2 ?p3 ?p4 (u7 _) rfl ?_
  case p1 => exact kR (by show (out.length + a'.length) + bK.length ≤ 1000000; omega)
  case p2 => show ((out.length + a'.length) + bK.length) * 16 ≤ 140737488355328; omega
  case p3 => show (out.length + a'.length) + bK.length = (eP (dA fx fy) a b).length; rw [HY]; omega
  case p4 => show (b3 out ++ b3 a') ++ b3 bK = b3 (eP (dA fx fy) a b); rw [← iW, W3, aaH, Nh, pF, ← r7]
  (repeat first | (with_reducible first | apply aR | apply aU | apply db) | (with_reducible apply aM); exact rfl; (repeat first | (with_reducible apply aA); exact rfl); (with_reducible apply aB))
  ((refine bU rfl (bE rfl bf) ?_))
  exact ai.bo.refl _
theorem acf {fx fy : Bool} :
  ∀ (N : Nat) (l : List (Int × Int)), l.length ≤ N → N ≤ 100000 → aX aj 126 [hk l, vD fx fy] (hk (il (dA fx fy) l)) := by
 intro N
 induction N with
 | zero =>
  intro l h1 h2;have fL := Ii (fx := fx) (fy := fy) (a := l) (b := []) (by omega) (by simp);rw [HZ] at fL
  have aP : aX aj 183 [hk l, I4, vD fx fy] (hk l) := Pt fL rfl rfl (by
   intro i x y aa ag
   match i with
   | 0 => cases aa; cases ag; exact .refl _
   | 1 => cases aa; cases ag; exact nil_le 2
   | 2 => cases aa; cases ag; exact .refl _
   | i + 3 => simp at aa)
  have q1 : (l.length : Int) < 2 := by omega
  have e : il (dA fx fy) l = l := by rw [il, dif_pos (by omega)]
  rw [e];clear fL;refine cl (f := 126) Tryz.func126 rfl rfl rfl rfl ?_;(repeat first | (with_reducible apply aA); exact rfl | (with_reducible apply dC); (iterate 3 exact rfl) | refine jP rfl rfl rfl rfl rfl (by (exact aP)) rfl ?_ | (with_reducible first | apply bX | apply bN | apply bV | apply aB | apply cd | apply gy) | (with_reducible apply hI); exact rfl; (exact bB (by omega)))
  ((refine bU rfl (bE rfl bf) ?_))
  exact ai.bo.refl _
 | succ N cp =>
  intro l h1 h2
  by_cases q : l.length < 2
  ·have fL := Ii (fx := fx) (fy := fy) (a := l) (b := []) (by omega) (by simp);rw [HZ] at fL
   have aP : aX aj 183 [hk l, I4, vD fx fy] (hk l) := Pt fL rfl rfl (by
    intro i x y aa ag
    match i with
    | 0 => cases aa; cases ag; exact .refl _
    | 1 => cases aa; cases ag; exact nil_le 2
    | 2 => cases aa; cases ag; exact .refl _
    | i + 3 => simp at aa)
   have q1 : (l.length : Int) < 2 := by omega
   have e : il (dA fx fy) l = l := by rw [il, dif_pos (by omega)]
   rw [e];clear fL cp;refine cl (f := 126) Tryz.func126 rfl rfl rfl rfl ?_;(repeat first | (with_reducible apply aA); exact rfl | (with_reducible apply dC); (iterate 3 exact rfl) | refine jP rfl rfl rfl rfl rfl (by (exact aP)) rfl ?_ | (with_reducible first | apply bX | apply bN | apply bV | apply aB | apply cd | apply gy) | (with_reducible apply hI); exact rfl; (exact bB (by omega)))
   ((refine bU rfl (bE rfl bf) ?_))
   exact ai.bo.refl _
  ·have q1 : ¬ (l.length : Int) < 2 := by omega
   have e : il (dA fx fy) l = eP (dA fx fy) (il (dA fx fy) (l.take (l.length / 2))) (il (dA fx fy) (l.drop (l.length / 2))) := by rw [il, dif_neg q]
   have aP := cp (l.take (l.length / 2)) (by simp; omega) (by omega);have cc := cp (l.drop (l.length / 2)) (by simp; omega) (by omega);have l1 := En (dA fx fy) _ (l.take (l.length / 2)) (dL _);have l2 := En (dA fx fy) _ (l.drop (l.length / 2)) (dL _);have e5 := Ii (fx := fx) (fy := fy) (a := il (dA fx fy) (l.take (l.length / 2))) (b := il (dA fx fy) (l.drop (l.length / 2))) (by rw [l1]; simp; omega) (by rw [l2]; simp; omega);have aY : ((l.length : Int) / 2).toNat = l.length / 2 := by omega
   have aI : ((l.length : Int) / 2).toNat - 0 = (l.take (l.length / 2)).length := by rw [aY]; simp; omega
   have aN := Zc l (l.length / 2);have cC : ((l.length : Int)).toNat - ((l.length : Int) / 2).toNat = (l.drop (l.length / 2)).length := by rw [aY]; simp
   have eH := Zb l (l.length / 2) (by omega);have k6 : ((b3 l).drop (((l.length : Int) / 2).toNat * 2)).take ((l.drop (l.length / 2)).length * 2) = b3 (l.drop (l.length / 2)) := by rw [aY]; exact eH
   rw [e];clear cp l1 l2 e eH aY;refine cl (f := 126) Tryz.func126 rfl rfl rfl rfl ?_;(repeat first | (with_reducible apply aA); exact rfl | (with_reducible apply dC); (iterate 3 exact rfl) | (with_reducible apply Fk); (iterate 4 exact rfl); (omega); (omega); (omega); (assumption); (assumption); exact rfl | (with_reducible apply Fl); (iterate 5 exact rfl); (omega); (omega); (omega); (omega); (assumption); (assumption); exact rfl | (with_reducible apply Tt); (iterate 3 exact rfl); omega; omega; omega; exact rfl | refine dM rfl rfl rfl rfl (by (first | exact aP | exact cc)) rfl ?_ | refine jP rfl rfl rfl rfl rfl (by (exact e5)) rfl ?_ | (with_reducible apply hX); kernel_rfl | (with_reducible apply h0); kernel_rfl; kernel_rfl; exact rfl | (with_reducible first | apply bX | apply bN | apply bV | apply aB | apply cd | apply fr) | (with_reducible apply hZ); exact rfl; (exact bR (by omega)))
   ((refine bU rfl (bE rfl bf) ?_))
   exact ai.bo.refl _
section
variable {P : Program} {br : eS} {s : aD} {ops : Array Oper} {dr : Option (List Nat)} {ty d : Nat} {pos : String} {after : Array Edge} {guard : Option (Nat × Bool)} {K : aD → Prop} {rest : List Oper}
theorem Fj {tt z n l lo hi : Nat} {v u : Value} {x y : Operand} [S : hH P tt z] (hw : want ops ⟨some d, .slice tt x (some y) none none, ty, pos, after, guard⟩ s = some true) (aa : s.look x = some (aQ u)) (ag : s.look y = some (aW (l : Int))) (hu : ix v z lo hi u) (hm : hi - lo = n) (h1 : l ≤ n) (hd : Nat.blt d s.n = true) (h : bj P ops K rest (s.put (some d) (aQ (gJ u z l n)))) : bj P ops K (⟨some d, .slice tt x (some y) none none, ty, pos, after, guard⟩ :: rest) s := by
 subst hm;obtain ⟨⟨A, c, rfl⟩, _⟩ := hu;refine fO (av := aQ (gJ (.slice A (hi - lo) c) z l (hi - lo))) hw ⟨fun _ _ h => (by cases h), fun q al => ?_, fun U ad W env he => ?_, fun j ae => absurd ae (iJ _ j)⟩ hd h
 ·simp [Op.operands] at al;rcases al with rfl | rfl
  ·exact ⟨_, aa⟩
  ·exact ⟨_, ag⟩
 ·have ex : env x = .slice A (hi - lo) c := (he x (by simp [Op.operands]) _ aa).1;have kg : env y = .int .i64 (l : Int) := (he y (by simp [Op.operands]) _ ag).1;obtain ⟨bu, ft, hu, de, hs⟩ := ms S.h;have e2 : P.underlying tt = some (.slice (P.elem tt)) := by rw [kf hu]; exact hu
  refine ⟨gJ (.slice A (hi - lo) c) z l (hi - lo), ?_, rfl, rfl⟩;simp only [execOp, ex, gH, su, kg, Sem.run_bind, run_sliceAt_slice W tt _ _ _ _ e2, run_slice_l W tt A (hi - lo) c e2 .i64 l (by omega) (by omega), kf hu, hj de, Result.andThen_ok, hs, Sem.run_pure, kw, gJ]
theorem Tu {tt z n l lo hi : Nat} {v u : Value} {x y : Operand} [S : hH P tt z] (hw : want ops ⟨some d, .slice tt x none (some y) none, ty, pos, after, guard⟩ s = some true) (aa : s.look x = some (aQ u)) (ag : s.look y = some (aW (l : Int))) (hu : ix v z lo hi u) (hm : hi - lo = n) (h1 : l ≤ n) (hd : Nat.blt d s.n = true) (h : bj P ops K rest (s.put (some d) (aQ (gJ u z 0 l)))) : bj P ops K (⟨some d, .slice tt x none (some y) none, ty, pos, after, guard⟩ :: rest) s := by
 subst hm;obtain ⟨⟨A, c, rfl⟩, ak⟩ := hu
 have GS : l ≤ c := by
  rcases vp l with e | e
  ·omega
  ·have aY := ak (show lo < hi by omega);obtain ⟨g, n', c', g1, g2, g3⟩ := aY;have eH : c = c' - lo := by injection g3
   clear g1 g3 ak;omega
 refine fO (av := aQ (gJ (.slice A (hi - lo) c) z 0 l)) hw ⟨fun _ _ h => (by cases h), fun q al => ?_, fun U ad W env he => ?_, fun j ae => absurd ae (iJ _ j)⟩ hd h
 ·simp [Op.operands] at al;rcases al with rfl | rfl
  ·exact ⟨_, aa⟩
  ·exact ⟨_, ag⟩
 ·have ex : env x = .slice A (hi - lo) c := (he x (by simp [Op.operands]) _ aa).1;have kg : env y = .int .i64 (l : Int) := (he y (by simp [Op.operands]) _ ag).1;obtain ⟨bu, ft, hu, de, hs⟩ := ms S.h;have e2 : P.underlying tt = some (.slice (P.elem tt)) := by rw [kf hu]; exact hu
  refine ⟨gJ (.slice A (hi - lo) c) z 0 l, ?_, rfl, rfl⟩;simp only [execOp, ex, gH, su, kg, Sem.run_bind, run_sliceAt_slice W tt _ _ _ _ e2, run_slice_h W tt A (hi - lo) c e2 .i64 l (by omega) (by omega), kf hu, hj de, Result.andThen_ok, hs, Sem.run_pure, kw, gJ]
end
theorem IU {A C JV : List AC} {n : Nat} (h : A.length = n) : ey (A ++ JV) n C = (A ++ C) ++ JV.drop C.length := by
 subst h;unfold ey;rw [List.take_left, List.drop_append, vq (by omega), List.nil_append, Nat.add_sub_cancel_left]
theorem Nj {l : List ao} {n : Nat} (h : l.length = n) : (b3 l).take (n * 2) = b3 l := hA (by rw [nw]; omega)
theorem M5 {l : List Int} {n : Nat} (h : l.length = n) : (cD l).take (n * 1) = cD l := hA (by simp [cD]; omega)
theorem M4 (l : List Int) : (cD l).all AC.bc = true := cu.2 fun y ag => by
 obtain ⟨x, _, rfl⟩ := hU.1 ag;rfl
theorem C0 (l : List Int) : (cD l).length = l.length * 1 := by simp [cD]
abbrev D8 (LL : List (List ao)) : List AC := LL.map fun l => AC.p (cz 2 l.length (b3 l))
abbrev EA (LL : List (List ao)) : ai := cI 1 LL.length (D8 LL)
theorem Qc {LL : List (List ao)} {j : Int} {i : Nat} {l : List ao} (ae : j = i) (h : LL[i]? = some l) : ((D8 LL).drop (j.toNat * 1)).take 1 = [.p (cz 2 l.length (b3 l))] := by
 subst ae;have hi := (bS.1 h).1;rw [kw, Nat.mul_one, nE (by simpa [D8] using hi)];have : LL[i] = l := (bS.1 h).2;simp [D8, this]
def hy (LL : List (List ao)) (i : Nat) : List ao := (LL.take i).flatten
theorem PF {LL : List (List ao)} {i : Nat} {l : List ao} (h : LL[i]? = some l) : hy LL (i + 1) = hy LL i ++ l := by
 unfold hy;rw [nF (bS.1 h).1, (bS.1 h).2]; simp
theorem PD {LL : List (List ao)} {i : Nat} (h : LL.length ≤ i) : hy LL i = LL.flatten := by unfold hy; rw [hA h]
theorem PE (LL : List (List ao)) (i : Nat) : (hy LL i).length ≤ LL.flatten.length := by
 have : LL.flatten = hy LL i ++ (LL.drop i).flatten := by unfold hy; rw [← List.flatten_append, ks]
 rw [this, cR]; omega
def RW (LL : List (List ao)) (n : Nat) (R : aJ) (aS : List (Nat × ai)) (bD : List (Nat × List AC)) : Prop :=
 ∃ (i : Nat) (ii oA : Int), i ≤ LL.length ∧ n = LL.length - i ∧ ii = i ∧ oA = ((hy LL i).length : Nat) ∧ R = fk ∧ bD = [] ∧ aS = [(0, EA LL), (3, aW oA), (10, EA LL), (11, aW LL.length), (12, aW ii)]
def RX (LL : List (List ao)) (N : Nat) (v : Value) (e0 : List AC) (n : Nat) (R : aJ) (aS : List (Nat × ai)) (bD : List (Nat × List AC)) : Prop :=
 ∃ (i : Nat) (ii : Int) (u : Value), i ≤ LL.length ∧ n = LL.length - i ∧ ii = i ∧ ix v 2 (hy LL i).length N u ∧ R = bI 0 ⟨59, 2, v, N, b3 (hy LL i) ++ e0.drop ((hy LL i).length * 2)⟩ ∧ bD = [] ∧ aS = [(6, aQ v), (7, aQ u), (24, EA LL), (25, aW LL.length), (26, aW ii)]
theorem Pl {LL : List (List ao)} (iB : LL.length ≤ 1100) (kj : LL.flatten.length ≤ 100000) : aX aj 186 [EA LL] (hk LL.flatten) := by
 refine cl (f := 186) Tryz.func186 rfl rfl rfl rfl ?_;refine uB ?_;(repeat first | (with_reducible first | apply ba | apply aR | apply a7 | apply aU | apply eM) | (with_reducible apply aM); exact rfl; (repeat first | (with_reducible apply aA); exact rfl | (with_reducible apply dC); (iterate 3 exact rfl)); (with_reducible apply aB));refine ls 37 (RW LL) LL.length fk _ [] ⟨0, 0, 0, eC _, rfl, rfl, rfl, rfl, rfl, rfl⟩ (bH.refl _) rfl ⟨rfl, rfl, rfl, rfl, rfl, trivial⟩ trivial rfl ?_;rintro n R aS bD ⟨i, ii, oA, hi, rfl, gX, y2, rfl, rfl, rfl⟩ dU;clear dU
 by_cases al : i < LL.length
 ·have q2 : ii < (LL.length : Int) := by omega
  have b5 : 0 ≤ ii := by omega
  obtain ⟨l, g1⟩ : ∃ l, LL[i]? = some l := ⟨_, cm al⟩;have iR := Qc gX g1;have h1 := PF g1;have h2 := PE LL (i + 1);have ap : (hy LL (i + 1)).length = (hy LL i).length + l.length := by rw [h1, cR]
  (repeat first | (with_reducible first | apply ba | apply aR | apply a7 | apply aU | apply cS | apply eM | apply j3) | (with_reducible apply dz); exact rfl; (exact bB (by omega)) | (with_reducible apply aM); exact rfl; (repeat first | (with_reducible apply aA); exact rfl | (with_reducible apply qc); (iterate 5 exact rfl) | (with_reducible apply e7); (iterate 3 exact rfl); (omega); (omega); (assumption); exact rfl | (with_reducible apply fh); (iterate 3 exact rfl); (exact da (by omega)); exact rfl | (with_reducible apply dC); (iterate 3 exact rfl)); (with_reducible apply aB));exact ⟨LL.length - (i + 1), fk, _, [], by omega, ⟨i + 1, ii + 1, _, by omega, rfl, by omega, by omega, rfl, rfl, rfl⟩, bH.refl _, rfl, ⟨rfl, rfl, rfl, rfl, rfl, trivial⟩, trivial, rfl⟩
 ·have q2 : ¬ ii < (LL.length : Int) := by omega
  rw [PD (by omega)] at y2;subst y2;generalize yI : LL.flatten.length = N at *;(repeat first | (with_reducible first | apply ba | apply aR | apply a7 | apply aU | apply j4 | apply j6 | apply j5) | (with_reducible apply c6); exact rfl; (exact bR (by omega)) | (with_reducible apply aM); exact rfl; (repeat first | (with_reducible apply aA); exact rfl); (with_reducible apply aB));refine zb (l := N) (c' := N) 0 rfl rfl rfl rfl (dL _) rfl rfl ?h2 (kR (by omega)) rfl (fun v hv => ?_)
  case h2 => show 16 * N ≤ 281474976710656; omega
  generalize dE : hD N 2 _ = e0;have Cr : e0.length = N * 2 := by rw [← dE]; simp [hD]
  clear dE;(repeat first | (with_reducible first | apply ba | apply aR | apply a7 | apply aU | apply eM) | (with_reducible apply aM); exact rfl; (repeat first | (with_reducible apply aA); exact rfl | (with_reducible apply dC); (iterate 3 exact rfl)); (with_reducible apply aB));refine IF 0 (r := ⟨59, 2, v, N, e0⟩) rfl (fun eR c iF eK jq dS hlen => ?_);have mG : v = .slice eR N c := iF;have rY : ix v 2 0 N v := by rw [mG]; exact ix.all 2 eK dS
  clear iF eK jq dS hlen;refine ls 37 (RX LL N v e0) LL.length (bI 0 ⟨59, 2, v, N, e0⟩) _ [] ⟨0, 0, v, eC _, rfl, rfl, rY, rfl, rfl, rfl⟩ (nI _ _ _) rfl ⟨rfl, rfl, rfl, rfl, rfl, trivial⟩ trivial rfl ?_;clear al q2 rY gX mG;rintro n R aS bD ⟨i, ii, u, hi, rfl, gX, hu, rfl, rfl, rfl⟩ dU;clear dU
  by_cases al : i < LL.length
  ·have q2 : ii < (LL.length : Int) := by omega
   have b5 : 0 ≤ ii := by omega
   obtain ⟨l, g1⟩ : ∃ l, LL[i]? = some l := ⟨_, cm al⟩;have iR := Qc gX g1;have h1 := PF g1;have h2 := PE LL (i + 1);have ap : (hy LL (i + 1)).length = (hy LL i).length + l.length := by rw [h1, cR]
   rw [yI] at h2;have c1 := u7 l;have bA : Nat.min l.length (N - (hy LL i).length) = l.length := pJ (by omega);obtain ⟨m, hm⟩ : ∃ m, N - (hy LL i).length = m := ⟨_, rfl⟩;have b1 : (hy LL i).length ≤ N := by omega
   have b2 : l.length ≤ m := by omega
   have s1 : ey (b3 (hy LL i) ++ e0.drop ((hy LL i).length * 2)) ((hy LL i).length * 2) ((b3 l).take (l.length * 2)) = b3 (hy LL (i + 1)) ++ e0.drop ((hy LL (i + 1)).length * 2) := by
    rw [Nj rfl, IU (nw _), ← r7, ← h1, List.drop_drop, nw];congr 2;omega
   have e2 := hu.sl hm b2 b1;rw [← ap] at e2;(repeat first | (with_reducible first | apply ba | apply aR | apply a7 | apply aU | apply cS | apply eM | apply j3) | (with_reducible apply dz); exact rfl; (exact bB (by omega)) | (with_reducible apply aM); exact rfl; (repeat first | (with_reducible apply aA); exact rfl | (with_reducible apply qc); (iterate 5 exact rfl) | (with_reducible apply e7); (iterate 3 exact rfl); (omega); (omega); (assumption); exact rfl | (with_reducible apply fh); (iterate 3 exact rfl); (exact da (by omega)); exact rfl | (with_reducible apply Fj); (iterate 3 exact rfl); assumption; (assumption); (assumption); exact rfl); (with_reducible apply aB) | (with_reducible apply MJ 0); (iterate 3 exact rfl); assumption; exact rfl; exact rfl; exact rfl; (assumption); (exact dL _); (assumption); exact rfl; assumption; assumption; exact rfl);exact ⟨LL.length - (i + 1), _, _, [], by omega, ⟨i + 1, ii + 1, _, by omega, rfl, by omega, e2, rfl, rfl, rfl⟩, nI _ _ _, rfl, ⟨rfl, rfl, rfl, rfl, rfl, trivial⟩, trivial, rfl⟩
  ·have q2 : ¬ ii < (LL.length : Int) := by omega
   have dp : b3 (hy LL i) ++ e0.drop ((hy LL i).length * 2) = b3 LL.flatten := by
    rw [PD (by omega), vq (by omega), pF]
   rw [dp];refine Ed 0 6 ⟨59, 2, v, N, b3 LL.flatten⟩ rfl rfl ?_;rw [← yI];(repeat first | (with_reducible first | apply ba | apply aR | apply a7 | apply aU | apply db | apply j4 | apply j6 | apply j5) | (with_reducible apply c6); exact rfl; (exact bR (by omega)) | (with_reducible apply aM); exact rfl; (repeat first | (with_reducible apply aA); exact rfl); (with_reducible apply aB))
   ((refine bU rfl (bE rfl bf) ?_))
   exact ai.bo.refl _
abbrev D9 (LL : List (List Int)) : List AC := LL.map fun l => AC.p (cz 1 l.length (cD l))
abbrev Ey (LL : List (List Int)) : ai := cI 1 LL.length (D9 LL)
theorem Qd {LL : List (List Int)} {j : Int} {i : Nat} {l : List Int} (ae : j = i) (h : LL[i]? = some l) : ((D9 LL).drop (j.toNat * 1)).take 1 = [.p (cz 1 l.length (cD l))] := by
 subst ae;have hi := (bS.1 h).1;rw [kw, Nat.mul_one, nE (by simpa [D9] using hi)];have : LL[i] = l := (bS.1 h).2;simp [D9, this]
def hx (LL : List (List Int)) (i : Nat) : List Int := (LL.take i).flatten
theorem PC {LL : List (List Int)} {i : Nat} {l : List Int} (h : LL[i]? = some l) : hx LL (i + 1) = hx LL i ++ l := by
 unfold hx;rw [nF (bS.1 h).1, (bS.1 h).2]; simp
theorem PA {LL : List (List Int)} {i : Nat} (h : LL.length ≤ i) : hx LL i = LL.flatten := by unfold hx; rw [hA h]
theorem PB (LL : List (List Int)) (i : Nat) : (hx LL i).length ≤ LL.flatten.length := by
 have : LL.flatten = hx LL i ++ (LL.drop i).flatten := by unfold hx; rw [← List.flatten_append, ks]
 rw [this, cR]; omega
def RU (LL : List (List Int)) (n : Nat) (R : aJ) (aS : List (Nat × ai)) (bD : List (Nat × List AC)) : Prop :=
 ∃ (i : Nat) (ii oA : Int), i ≤ LL.length ∧ n = LL.length - i ∧ ii = i ∧ oA = ((hx LL i).length : Nat) ∧ R = fk ∧ bD = [] ∧ aS = [(0, Ey LL), (3, aW oA), (10, Ey LL), (11, aW LL.length), (12, aW ii)]
def RV (LL : List (List Int)) (N : Nat) (v : Value) (e0 : List AC) (n : Nat) (R : aJ) (aS : List (Nat × ai)) (bD : List (Nat × List AC)) : Prop :=
 ∃ (i : Nat) (ii : Int) (u : Value), i ≤ LL.length ∧ n = LL.length - i ∧ ii = i ∧ ix v 1 (hx LL i).length N u ∧ R = bI 0 ⟨3, 1, v, N, cD (hx LL i) ++ e0.drop ((hx LL i).length * 1)⟩ ∧ bD = [] ∧ aS = [(6, aQ v), (7, aQ u), (24, Ey LL), (25, aW LL.length), (26, aW ii)]
theorem Pk {LL : List (List Int)} (iB : LL.length ≤ 1100) (kj : LL.flatten.length ≤ 100000) : aX aj 187 [Ey LL] (nN LL.flatten) := by
 refine cl (f := 187) Tryz.func187 rfl rfl rfl rfl ?_;refine uB ?_;(repeat first | (with_reducible first | apply ba | apply aR | apply a7 | apply aU | apply eM) | (with_reducible apply aM); exact rfl; (repeat first | (with_reducible apply aA); exact rfl | (with_reducible apply dC); (iterate 3 exact rfl)); (with_reducible apply aB));refine ls 37 (RU LL) LL.length fk _ [] ⟨0, 0, 0, eC _, rfl, rfl, rfl, rfl, rfl, rfl⟩ (bH.refl _) rfl ⟨rfl, rfl, rfl, rfl, rfl, trivial⟩ trivial rfl ?_;rintro n R aS bD ⟨i, ii, oA, hi, rfl, gX, y2, rfl, rfl, rfl⟩ dU;clear dU
 by_cases al : i < LL.length
 ·have q2 : ii < (LL.length : Int) := by omega
  have b5 : 0 ≤ ii := by omega
  obtain ⟨l, g1⟩ : ∃ l, LL[i]? = some l := ⟨_, cm al⟩;have iR := Qd gX g1;have h1 := PC g1;have h2 := PB LL (i + 1);have ap : (hx LL (i + 1)).length = (hx LL i).length + l.length := by rw [h1, cR]
  (repeat first | (with_reducible first | apply ba | apply aR | apply a7 | apply aU | apply cS | apply eM | apply j3) | (with_reducible apply dz); exact rfl; (exact bB (by omega)) | (with_reducible apply aM); exact rfl; (repeat first | (with_reducible apply aA); exact rfl | (with_reducible apply qc); (iterate 5 exact rfl) | (with_reducible apply e7); (iterate 3 exact rfl); (omega); (omega); (assumption); exact rfl | (with_reducible apply fh); (iterate 3 exact rfl); (exact da (by omega)); exact rfl | (with_reducible apply dC); (iterate 3 exact rfl)); (with_reducible apply aB));exact ⟨LL.length - (i + 1), fk, _, [], by omega, ⟨i + 1, ii + 1, _, by omega, rfl, by omega, by omega, rfl, rfl, rfl⟩, bH.refl _, rfl, ⟨rfl, rfl, rfl, rfl, rfl, trivial⟩, trivial, rfl⟩
 ·have q2 : ¬ ii < (LL.length : Int) := by omega
  rw [PA (by omega)] at y2;subst y2;generalize yI : LL.flatten.length = N at *;(repeat first | (with_reducible first | apply ba | apply aR | apply a7 | apply aU | apply j4 | apply j6 | apply j5) | (with_reducible apply c6); exact rfl; (exact bR (by omega)) | (with_reducible apply aM); exact rfl; (repeat first | (with_reducible apply aA); exact rfl); (with_reducible apply aB));refine zb (l := N) (c' := N) 0 rfl rfl rfl rfl (dL _) rfl rfl ?h2 (kR (by omega)) rfl (fun v hv => ?_)
  case h2 => show 8 * N ≤ 281474976710656; omega
  generalize dE : hD N 1 _ = e0;have Cr : e0.length = N * 1 := by rw [← dE]; simp [hD]
  clear dE;(repeat first | (with_reducible first | apply ba | apply aR | apply a7 | apply aU | apply eM) | (with_reducible apply aM); exact rfl; (repeat first | (with_reducible apply aA); exact rfl | (with_reducible apply dC); (iterate 3 exact rfl)); (with_reducible apply aB));refine IF 0 (r := ⟨3, 1, v, N, e0⟩) rfl (fun eR c iF eK jq dS hlen => ?_);have mG : v = .slice eR N c := iF;have rY : ix v 1 0 N v := by rw [mG]; exact ix.all 1 eK dS
  clear iF eK jq dS hlen;refine ls 37 (RV LL N v e0) LL.length (bI 0 ⟨3, 1, v, N, e0⟩) _ [] ⟨0, 0, v, eC _, rfl, rfl, rY, rfl, rfl, rfl⟩ (nI _ _ _) rfl ⟨rfl, rfl, rfl, rfl, rfl, trivial⟩ trivial rfl ?_;clear al q2 rY gX mG;rintro n R aS bD ⟨i, ii, u, hi, rfl, gX, hu, rfl, rfl, rfl⟩ dU;clear dU
  by_cases al : i < LL.length
  ·have q2 : ii < (LL.length : Int) := by omega
   have b5 : 0 ≤ ii := by omega
   obtain ⟨l, g1⟩ : ∃ l, LL[i]? = some l := ⟨_, cm al⟩;have iR := Qd gX g1;have h1 := PC g1;have h2 := PB LL (i + 1);have ap : (hx LL (i + 1)).length = (hx LL i).length + l.length := by rw [h1, cR]
   rw [yI] at h2;have c1 := M4 l;have bA : Nat.min l.length (N - (hx LL i).length) = l.length := pJ (by omega);obtain ⟨m, hm⟩ : ∃ m, N - (hx LL i).length = m := ⟨_, rfl⟩;have b1 : (hx LL i).length ≤ N := by omega
   have b2 : l.length ≤ m := by omega
   have s1 : ey (cD (hx LL i) ++ e0.drop ((hx LL i).length * 1)) ((hx LL i).length * 1) ((cD l).take (l.length * 1)) = cD (hx LL (i + 1)) ++ e0.drop ((hx LL (i + 1)).length * 1) := by
    rw [M5 rfl, IU (C0 _), ← CY, ← h1, List.drop_drop, C0];congr 2;omega
   have e2 := hu.sl hm b2 b1;rw [← ap] at e2;(repeat first | (with_reducible first | apply ba | apply aR | apply a7 | apply aU | apply cS | apply eM | apply j3) | (with_reducible apply dz); exact rfl; (exact bB (by omega)) | (with_reducible apply aM); exact rfl; (repeat first | (with_reducible apply aA); exact rfl | (with_reducible apply qc); (iterate 5 exact rfl) | (with_reducible apply e7); (iterate 3 exact rfl); (omega); (omega); (assumption); exact rfl | (with_reducible apply fh); (iterate 3 exact rfl); (exact da (by omega)); exact rfl | (with_reducible apply Fj); (iterate 3 exact rfl); assumption; (assumption); (assumption); exact rfl); (with_reducible apply aB) | (with_reducible apply MJ 0); (iterate 3 exact rfl); assumption; exact rfl; exact rfl; exact rfl; (assumption); (exact dL _); (assumption); exact rfl; assumption; assumption; exact rfl);exact ⟨LL.length - (i + 1), _, _, [], by omega, ⟨i + 1, ii + 1, _, by omega, rfl, by omega, e2, rfl, rfl, rfl⟩, nI _ _ _, rfl, ⟨rfl, rfl, rfl, rfl, rfl, trivial⟩, trivial, rfl⟩
  ·have q2 : ¬ ii < (LL.length : Int) := by omega
   have dp : cD (hx LL i) ++ e0.drop ((hx LL i).length * 1) = cD LL.flatten := by
    rw [PA (by omega), vq (by omega), pF]
   rw [dp];refine Ed 0 6 ⟨3, 1, v, N, cD LL.flatten⟩ rfl rfl ?_;rw [← yI];(repeat first | (with_reducible first | apply ba | apply aR | apply a7 | apply aU | apply db | apply j4 | apply j6 | apply j5) | (with_reducible apply c6); exact rfl; (exact bR (by omega)) | (with_reducible apply aM); exact rfl; (repeat first | (with_reducible apply aA); exact rfl); (with_reducible apply aB))
   ((refine bU rfl (bE rfl bf) ?_))
   exact ai.bo.refl _
theorem ab7 {x y : Nat} (aa : x < 9223372036854775808) (ag : y < 9223372036854775808) (h : x * y < 9223372036854775808) : aX aj 258 [aQ (.int .u64 (x : Nat)), aQ (.int .u64 (y : Nat))] (.cZ [.one (.c (.int .u64 0)), .one (.c (.int .u64 ((x * y : Nat) : Int)))]) := by
 refine mK [.int .u64 (x : Nat), .int .u64 (y : Nat)] (.tuple #[.int .u64 0, .int .u64 ((x * y : Nat) : Int)]) rfl rfl rfl rfl rfl fun W => ?_;refine (Tryz.bits_Mul64 x y (by omega) (by omega) W).mono ?_;rintro e w' ⟨rfl, rfl⟩;have aI : x * y / 18446744073709551616 = 0 := Nat.div_eq_of_lt (by omega);have aN : x * y % 18446744073709551616 = x * y := Nat.mod_eq_of_lt (by omega);rw [aI, aN];exact ⟨rfl, Below.refl _ _⟩
theorem ab6 {y : Nat} (ag : y < 9223372036854775808) : aX aj 227 [aQ (.int .u64 1), aQ (.int .u64 (y : Nat))] (.cZ [.one (.c (.int .u64 0)), .one (.c (.int .u64 (y : Nat)))]) := by
 have aP := ab7 (x := 1) (y := y) (by decide) ag (by omega);rw [Nat.one_mul] at aP
 replace aP : aX aj 258 [aQ (.int .u64 1), aQ (.int .u64 (y : Nat))] (.cZ [.one (.c (.int .u64 0)), .one (.c (.int .u64 (y : Nat)))]) := aP
 refine cl (f := 227) Tryz.func227 rfl rfl rfl rfl ?_;(repeat first | (with_reducible apply aA); exact rfl | refine dM rfl rfl rfl rfl (by (exact aP)) rfl ?_ | (with_reducible first | apply bX | apply bN | apply bV | apply aB | apply cd | apply fr) | (with_reducible apply jm); exact rfl)
 ((refine bU rfl (bE rfl (bE rfl bf)) ?_))
 exact ai.bo.refl _
def Sm (d : Int) (m : Nat) (v : Value) (e0 : List AC) (n : Nat) (R : aJ) (aS : List (Nat × ai)) (bD : List (Nat × List AC)) : Prop :=
 ∃ (k : Nat) (fc : Int), 1 ≤ k ∧ k ≤ m ∧ n = m - k ∧ fc = k ∧ R = bI 0 ⟨3, 1, v, m, cD (List.replicate k d) ++ e0.drop k⟩ ∧ bD = [] ∧ aS = [(7, aQ v), (8, aW fc)]
theorem aca {d : Int} {m : Nat} (wU : 1 ≤ m) (hm : m ≤ 100000) : aX aj 180 [nN [d], aW m] (nN (List.replicate m d)) := by
 have A9 := ab6 (y := m) (by omega);have aO : IntKind.u64.wrap (m : Int) = m := by rw [IntKind.wrap_u64]; omega
 have w2 : IntKind.i64.wrap (m : Int) = m := da (by omega);have cY : ¬ (m : Int) < 0 := by omega
 have q1 : ¬ (m : Int) > 9223372036854775807 := by omega
 have bA : Nat.min 1 m = 1 := pJ wU;refine cl (f := 180) Tryz.func180 rfl rfl rfl rfl ?_;refine uB ?_;(repeat first | (with_reducible first | apply ba | apply aR | apply a7 | apply aU | apply cS) | (with_reducible apply c6); exact rfl; (exact bR (by omega)) | (with_reducible apply aM); exact rfl; (repeat first | (with_reducible apply aA); exact rfl | (with_reducible apply Ff); exact rfl; exact rfl; (first | exact da (by omega) | assumption | rfl); exact rfl | (with_reducible apply dC); (iterate 3 exact rfl) | refine dM rfl rfl rfl rfl (by (exact A9)) rfl ?_); (with_reducible apply aB));refine zb (l := m) (c' := m) 0 rfl rfl rfl rfl (dL _) rfl rfl ?h2 (kR (by omega)) rfl (fun v hv => ?_)
 case h2 => show 8 * m ≤ 281474976710656; omega
 generalize dE : hD m 1 _ = e0;have Cr : e0.length = m := by rw [← dE]; simp [hD]
 have W2 : e0.all AC.bc = true := by
  rw [← dE];refine cu.2 fun y ag => ?_;simp only [hD, hU] at ag;obtain ⟨j, _, rfl⟩ := ag;rfl
 clear dE
 have s1 : ey e0 (0 * 1) ((cD [d]).take (1 * 1)) = cD (List.replicate 1 d) ++ e0.drop 1 := by
  unfold ey; simp [cD]
 (repeat first | (with_reducible first | apply ba | apply aR | apply a7 | apply aU | apply eM) | (with_reducible apply aM); exact rfl; (repeat first | (with_reducible apply aA); exact rfl); (with_reducible apply aB) | (with_reducible apply Yo 0); (iterate 6 exact rfl); (exact rfl); exact rfl; (assumption); (assumption); exact rfl);refine IF 0 (r := ⟨3, 1, v, m, cD (List.replicate 1 d) ++ e0.drop 1⟩) rfl (fun eR c iF eK jq dS hlen => ?_);have mG : v = .slice eR m c := iF;have hu : ix v 1 0 m v := by rw [mG]; exact ix.all 1 eK dS
 clear iF eK jq dS hlen mG;refine ls 48 (Sm d m v e0) (m - 1) (bI 0 ⟨3, 1, v, m, cD (List.replicate 1 d) ++ e0.drop 1⟩) _ [] ⟨1, 1, dL _, wU, rfl, rfl, rfl, rfl, rfl⟩ (nI _ _ _) rfl ⟨rfl, rfl, trivial⟩ trivial rfl ?_;clear A9 aO w2 cY q1 bA s1;rintro n R aS bD ⟨k, fc, qu, af, rfl, rfl, rfl, rfl, rfl⟩ dU;clear dU
 by_cases al : k < m
 ·have q2 : (k : Int) < (m : Int) := by omega
  obtain ⟨x, aa⟩ : ∃ x, Nat.min k (m - k) = x := ⟨_, rfl⟩;have aho : 1 ≤ x := by rw [← aa]; exact Nat.le_min.2 ⟨qu, by omega⟩
  have YH : x ≤ k := by rw [← aa]; exact Nat.min_le_left _ _
  have ahp : x ≤ m - k := by rw [← aa]; exact Nat.min_le_right _ _
  have m0 : m - 0 = m := Nat.sub_zero m;have cE := hu.sl m0 af (eC _);have cF := hu.aeB (k := k) (by omega);rw [jF] at cE cF;have dp : 0 + k = k := jF k
  have pa : (cD (List.replicate k d) ++ e0.drop k).all AC.bc = true := by
   rw [List.all_append, M4, qO];exact cu.2 fun y ag => cu.1 W2 y (mO ag)
  have s1 : ey (cD (List.replicate k d) ++ e0.drop k) (k * 1) ((((cD (List.replicate k d) ++ e0.drop k).drop (0 * 1)).take (k * 1)).take (x * 1)) = cD (List.replicate (k + x) d) ++ e0.drop (k + x) := by
   have lk : (cD (List.replicate k d)).length = k * 1 := by simp [cD]
   rw [Nat.zero_mul, List.drop_zero, ← lk, List.take_left, IU rfl]
   have cC : (cD (List.replicate k d)).take (x * 1) = cD (List.replicate x d) := by
    simp only [cD, List.map_replicate, Nat.mul_one, List.take_replicate];rw [pJ YH]
   rw [cC, List.drop_drop, ← CY, List.replicate_append_replicate, show (cD (List.replicate x d)).length = x by simp [cD]]
  have aO : IntKind.i64.wrap ((k : Int) + (x : Int)) = (k : Int) + (x : Int) := da (by omega);(repeat first | (with_reducible apply ev); kernel_rfl | (with_reducible apply dR (id := 9) [0,1,2,3,4,5,6,7,8,9]); kernel_rfl; kernel_rfl; exact rfl | (with_reducible first | apply ba | apply aR | apply a7 | apply aU | apply cS | apply eM | apply j3) | (with_reducible apply dz); exact rfl; (exact bB (by omega)) | (with_reducible apply aM); exact rfl; (repeat first | (with_reducible apply aA); exact rfl | (with_reducible apply fh); (iterate 3 exact rfl); (exact da (by omega)); exact rfl | (with_reducible apply Fj); (iterate 3 exact rfl); assumption; (assumption); (assumption); exact rfl | (with_reducible apply Tu); (iterate 3 exact rfl); assumption; (assumption); (assumption); exact rfl); (with_reducible apply aB) | (with_reducible apply nn 0); (iterate 4 exact rfl); kernel_rfl; exact rfl | (with_reducible apply Yp 0); (iterate 3 exact rfl); assumption; exact rfl; assumption; assumption; assumption; exact rfl; exact rfl; (assumption); (exact dL _); (assumption); exact rfl; assumption; assumption; exact rfl);exact ⟨m - (k + x), _, _, [], by omega, ⟨k + x, (k : Int) + (x : Int), by omega, by omega, rfl, by omega, rfl, rfl, rfl⟩, nI _ _ _, rfl, ⟨rfl, rfl, trivial⟩, trivial, rfl⟩
 ·have q2 : ¬ (k : Int) < (m : Int) := by omega
  have dp : cD (List.replicate k d) ++ e0.drop k = cD (List.replicate m d) := by
   rw [show k = m by omega, vq (by omega), pF]
  rw [dp];refine Ed 0 7 ⟨3, 1, v, m, cD (List.replicate m d)⟩ rfl rfl ?_
  have el : cI 1 m (cD (List.replicate m d)) = nN (List.replicate m d) := by
   show cI 1 m _ = cI 1 (List.replicate m d).length _;rw [List.length_replicate]
  rw [← el];(repeat first | (with_reducible first | apply ba | apply aR | apply a7 | apply aU | apply db | apply j4 | apply j6 | apply j5) | (with_reducible apply c6); exact rfl; (exact bR (by omega)) | (with_reducible apply aM); exact rfl; (repeat first | (with_reducible apply aA); exact rfl | (with_reducible apply dC); (iterate 3 exact rfl)); (with_reducible apply aB))
  ((refine bU rfl (bE rfl bf) ?_))
  exact ai.bo.refl _
end Go.Proofs.YtpochbhajmbfdaaGreat
