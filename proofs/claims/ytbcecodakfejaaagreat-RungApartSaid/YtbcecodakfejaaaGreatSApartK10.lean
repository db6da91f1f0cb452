/-
  My own texts, without what this claim does not need. My own text.
-/
import Derived.Lib.SliceRun
import Derived.Laws.BytesArg
import Derived.Test.YtbcecodakfejaaaGreatSApartK9
set_option maxRecDepth 100000
set_option maxHeartbeats 64000000
set_option linter.unusedVariables false
set_option linter.unusedSimpArgs false
set_option linter.unusedSectionVars false
open Go.Proofs.Tryz renaming prog → ag
namespace Go.Proofs.YtbcecodakfejaaaGreat.bp
abbrev bU := an × an
def lg (r : Nat) (p : an) : an := (cn p.1 r, cn p.2 r)
abbrev l5 : bU := ((0, 0), (0, 0))
def gM (a b : bU) : fm := h5 a.1.1 a.1.2 a.2.1 a.2.2 b.1.1 b.1.2 b.2.1 b.2.2
def sI (a b : bU) : Bool := Fb (gM a b) a.1.1 a.1.2 a.2.1 a.2.2 b.1.1 b.1.2 b.2.1 b.2.2
def iv (r : Nat) (M : fm) : an := (fP (2 ^ r) M.n M.d, fP (2 ^ r) M.m M.e)
def xY (r : Nat) (p : an) : an := (2 ^ r * p.1, 2 ^ r * p.2)
def fU (r : Nat) (l : an × an) : bU := (xY r l.1, xY r l.2)
def Mu (r : Nat) (p q x : an) : Bool := qB (2 ^ r * p.1) (2 ^ r * p.2) (2 ^ r * q.1) (2 ^ r * q.2) r x
def fw (p q : an) (l : List an) : List an := qS (decide (q.1 < p.1)) (decide (q.2 < p.2)) (fun _ => true) l
def rj (r : Nat) (l m : an × an) : Option an := if (gM (fU r l) (fU r m)).k = 1 ∧ sI (fU r l) (fU r m) = false then some (iv r (gM (fU r l) (fU r m))) else none
def zw (r : Nat) (a b : bU) : Option an := if (gM a b).k = 1 then some (iv r (gM a b)) else none
def qI (E : List bU) (r R : Nat) : cO an where
 BS := Mu r
 gp := fw
 cut := rj r
 n := E.length
 P i := lg r (E.getD i l5).1
 Q i := lg r (E.getD i l5).2
 tu i j := zw r (E.getD i l5) (E.getD j l5)
 R := R
 gG x := er r x.1 x.2 = true
def gj (p : an) : Bool := decide (-134217728 ≤ p.1) && decide (p.1 < 134217728) && decide (-134217728 ≤ p.2) && decide (p.2 < 134217728)
def gi (E : List bU) : Bool := E.all fun e => gj e.1 && gj e.2
theorem rW {p : an} : gj p = true ↔ ((-134217728 ≤ p.1 ∧ p.1 < 134217728) ∧ -134217728 ≤ p.2 ∧ p.2 < 134217728) := by
 unfold gj; simp only [dx, ca]; omega
theorem qE {E : List bU} (h : gi E = true) (i : Nat) : gj (E.getD i l5).1 = true ∧ gj (E.getD i l5).2 = true := by
 rw [fZ];cases he : E[i]? with
 | none => exact ⟨by decide, by decide⟩
 | some e =>
  have := cb.1 h e (c5 he);exact Bool.and_eq_true_iff.1 this
theorem Bw (v : Int) (r : Nat) : cn v r = fP (2 ^ r) v 1 := by
 unfold cn fP; rw [Int.mul_one]
theorem Qe {S X W ub bb : Int} (hS : 0 < S) (dJ : 0 < W) (ym : 0 < bb) (h : X * bb ≤ ub * W) : fP S X W ≤ fP S ub bb := by
 obtain ⟨a1, a2⟩ := C9 hS dJ X;obtain ⟨b1, b2⟩ := C9 hS ym ub;generalize fP S X W = g at *;generalize fP S ub bb = jb at *;refine Int.not_lt.1 fun a8 => ?_;have h1 : S * (jb + 1) ≤ S * g := pJ a8 (by omega);rw [Int.mul_add, Int.mul_one] at h1;generalize S * g = G at *;generalize S * jb = vr at *;have c1 : (2 * vr + S) * W ≤ (2 * G - S) * W := lh (by omega) (by omega);have c2 : (2 * vr + S) * W ≤ 2 * X := by omega
 have iH : (2 * vr + S) * W * bb ≤ 2 * X * bb := lh c2 (by omega);have qb : 2 * ub * W < (2 * vr + S) * bb * W := Int.mul_lt_mul_of_pos_right b2 dJ;have aF : (2 * vr + S) * W * bb = (2 * vr + S) * bb * W := by rw [jl, gR W, ← jl]
 have aN : 2 * X * bb = 2 * (X * bb) := jl ..;have b5 : 2 * ub * W = 2 * (ub * W) := jl ..;omega
theorem Ae {m lo hi x : Int} (h1 : wi m lo = true) (h2 : wi m hi = true) (h3 : lo ≤ x) (aE : x ≤ hi) : wi m x = true := by
 unfold wi at *; simp only [dx, ca] at *; omega
theorem Wf {r : Nat} (al : r ≤ 28) : wi (134217728 / 2 ^ r) (cn (-134217728) r) = true ∧ wi (134217728 / 2 ^ r) (cn 134217727 r) = true := by
 have : r = 0 ∨ r = 1 ∨ r = 2 ∨ r = 3 ∨ r = 4 ∨ r = 5 ∨ r = 6 ∨ r = 7 ∨ r = 8 ∨ r = 9 ∨ r = 10 ∨ r = 11 ∨ r = 12 ∨ r = 13 ∨ r = 14 ∨ r = 15 ∨ r = 16 ∨ r = 17 ∨ r = 18 ∨ r = 19 ∨ r = 20 ∨ r = 21 ∨ r = 22 ∨ r = 23 ∨ r = 24 ∨ r = 25 ∨ r = 26 ∨ r = 27 ∨ r = 28 := by omega
 rcases this with rfl | rfl | rfl | rfl | rfl | rfl | rfl | rfl | rfl | rfl | rfl | rfl | rfl | rfl | rfl | rfl | rfl | rfl | rfl | rfl | rfl | rfl | rfl | rfl | rfl | rfl | rfl | rfl | rfl <;> exact ⟨by decide, by decide⟩
theorem Da {r : Nat} (al : r ≤ 28) {X W : Int} (dJ : 0 < W) (h1 : -134217728 * W ≤ X) (h2 : X ≤ 134217727 * W) : wi (134217728 / 2 ^ r) (fP (2 ^ r) X W) = true := by
 have hS : (0 : Int) < 2 ^ r := hr (by decide);have g := Wf al;rw [Bw, Bw] at g;exact Ae g.1 g.2 (Qe hS (by decide) dJ (by omega)) (Qe hS dJ (by decide) (by omega))
theorem CI {r : Nat} (al : r ≤ 28) {p : an} (h : gj p = true) : er r (lg r p).1 (lg r p).2 = true := by
 have h := rW.1 h;unfold er lg;rw [Bw, Bw, Da al (by decide) (by omega) (by omega), Da al (by decide) (by omega) (by omega)]; rfl
theorem G5 {a b : bU} (h : (gM a b).k = 1) : ∃ X Y W bb, gM a b = iT X W Y bb := by
 unfold gM h5 at h ⊢
 split at h
 ·rename_i hw;rw [if_pos hw];unfold uQ inl at h ⊢
  split at h
  ·rename_i Gs;rw [if_pos Gs];unfold uP at h ⊢
   split at h
   ·rename_i he;rw [if_pos he]; exact ⟨_, _, _, _, rfl⟩
   ·simp [sw] at h
  ·simp [hI] at h
 ·rename_i hw;rw [if_neg hw];unfold mg td at h ⊢
  split at h
  ·rename_i ap;rw [if_pos ap]; exact ⟨_, _, _, _, rfl⟩
  ·simp [hI] at h
theorem VX {a b : bU} (h : (gM a b).k = 1) : sI a b = true ↔ (a.1 = b.1 ∨ a.1 = b.2 ∨ a.2 = b.1 ∨ a.2 = b.2) := by
 have e : ∀ p q : an, dI p.1 p.2 q.1 q.2 = true ↔ p = q := fun p q => by rw [pd, Prod.ext_iff]
 unfold sI Fb;rw [if_pos h];simp only [qL, e, or_assoc]
theorem U3 {r : Nat} {p q : an} : xY r p = xY r q ↔ p = q := by
 have hS : (2 : Int) ^ r ≠ 0 := by have : (0 : Int) < 2 ^ r := hr (by decide); omega
 unfold xY;rw [Prod.ext_iff, Prod.ext_iff];exact ⟨fun ⟨h1, h2⟩ => ⟨Int.eq_of_mul_eq_mul_left hS h1, Int.eq_of_mul_eq_mul_left hS h2⟩, fun ⟨h1, h2⟩ => ⟨by rw [h1], by rw [h2]⟩⟩
theorem Li {r : Nat} {l m : an × an} (h : (gM (fU r l) (fU r m)).k = 1) : sI (fU r l) (fU r m) = true ↔ xH l m := by
 rw [VX h]; unfold fU xH; simp only [U3]
theorem HV {r : Nat} {a b : bU} {X Y W bb : Int} (e : gM a b = iT X W Y bb) : bb = W ∧ 0 < W ∧ iv r (gM a b) = (fP (2 ^ r) X W, fP (2 ^ r) Y W) ∧ Ax (2 ^ r) X Y W (iv r (gM a b)) := by
 obtain ⟨h1, h2, _⟩ := Cx e;have hS : (0 : Int) < 2 ^ r := hr (by decide);have aN : iv r (gM a b) = (fP (2 ^ r) X W, fP (2 ^ r) Y W) := by rw [e]; unfold iv iT; rw [h1]
 exact ⟨h1, h2, aN, by rw [aN]; exact YY hS h2⟩
theorem qh {r : Nat} {p : an} (h : er r p.1 p.2 = true) : b7 (2 ^ r * p.1) (2 ^ r * p.2) = true := by
 have h := (wI r _ _).1 h;unfold b7; simp only [dx, ca]; omega
theorem aep (E : List bU) {r : Nat} (al : r ≤ 28) (R : Nat) : xE (2 ^ r) (qI E r R) where
 pos := hr (by decide)
 XS p q x h := by
  have h : qB _ _ _ _ _ _ = true := h;unfold qB at h;rw [yv al, Hd] at h;exact h.2.2
 Mt p q x hp ak aa h := by
  show qB _ _ _ _ _ _ = true;unfold qB;have aa : er r x.1 x.2 = true := aa;have kq := (wI r _ _).1 aa;have abH := zv al;rw [yv al, Hd, NX];refine ⟨aa, ⟨qh hp, qh ak, ?_, ?_, rfl⟩, h⟩
  ·rw [vL]; omega
  ·rw [vL]; omega
 KR l m x h := by
  have h : rj r l m = some x := h;unfold rj at h
  split at h
  ·rename_i af;cases h;obtain ⟨X, Y, W, bb, e⟩ := G5 af.1;refine ⟨fun hs => ?_, X, Y, W, bb, e, (HV e).2.2.2⟩;have := (Li af.1).2 hs;rw [af.2] at this; cases this
  ·cases h
 Vi l m _ _ _ _ h af := by
  have h : rj r l m = none := h;unfold rj at h
  split at h
  ·cases h
  ·rename_i au;refine (Li af).1 ?_;cases he : sI (fU r l) (fU r m) with
   | true => rfl
   | false => exact absurd ⟨af, he⟩ au
def vd (r : Nat) (V : List an) (D : List Int) : Prop :=
 V ≠ [] ∧ V.length = D.length + 1 ∧ (∀ v ∈ V, er r v.1 v.2 = true) ∧ hR (· ≠ ·) V ∧ (hR (fun p q => p.1 ≤ q.1) V ∨ hR (fun p q => q.1 ≤ p.1) V) ∧ (hR (fun p q => p.2 ≤ q.2) V ∨ hR (fun p q => q.2 ≤ p.2) V)
theorem ER {R T : an → an → Prop} : ∀ {l : List an}, hR R l → hR T l → hR (fun p q => R p q ∧ T p q) l
 | [], _, _ => trivial
 | [_], _, _ => trivial
 | p :: q :: W, h, aJ => ⟨⟨h.1, aJ.1⟩, ER (l := q :: W) h.2 aJ.2⟩
theorem KG {R : an → an → Prop} (ax : ∀ a b c, R a b → R b c → R a c) : ∀ {l : List an}, hR R l → l.Pairwise R
 | [], _ => .nil
 | [_], _ => by simp
 | p :: q :: W, h => by
  have bO := KG ax (l := q :: W) h.2;refine iV.2 ⟨fun x aa => ?_, bO⟩;rcases fQ.1 aa with rfl | aa
  ·exact h.1
  ·exact ax _ _ _ h.1 ((iV.1 bO).1 x aa)
theorem A8 {R T : an → an → Prop} (h1 : ∀ a b c, R a b → R b c → R a c) (h2 : ∀ a b c, T a b → T b c → T a c) (aH : ∀ a b, R a b → R b a → T a b → T b a → a = b) {l : List an} (al : hR R l) (ax : hR T l) (au : hR (· ≠ ·) l) : l.Nodup := by
 have := KG (R := fun p q => (R p q ∧ T p q) ∧ p ≠ q) (fun a b c x y => ⟨⟨h1 _ _ _ x.1.1 y.1.1, h2 _ _ _ x.1.2 y.1.2⟩, fun e => by subst e; exact x.2 (aH _ _ x.1.1 y.1.1 x.1.2 y.1.2)⟩) (ER (ER al ax) au);exact this.imp fun h => h.2
theorem vd.nodup {r : Nat} {V : List an} {D : List Int} (h : vd r V D) : V.Nodup := by
 obtain ⟨_, _, _, au, aa, ai⟩ := h;rcases aa with aa | aa <;> rcases ai with ai | ai
 ·exact A8 (R := fun p q : an => p.1 ≤ q.1) (T := fun p q : an => p.2 ≤ q.2) (fun a b c => Int.le_trans) (fun a b c => Int.le_trans) (fun a b h1 h2 h3 aE => Prod.ext (Int.le_antisymm h1 h2) (Int.le_antisymm h3 aE)) aa ai au
 ·exact A8 (R := fun p q : an => p.1 ≤ q.1) (T := fun p q : an => q.2 ≤ p.2) (fun a b c => Int.le_trans) (fun a b c h aJ => Int.le_trans aJ h) (fun a b h1 h2 h3 aE => Prod.ext (Int.le_antisymm h1 h2) (Int.le_antisymm aE h3)) aa ai au
 ·exact A8 (R := fun p q : an => q.1 ≤ p.1) (T := fun p q : an => p.2 ≤ q.2) (fun a b c h aJ => Int.le_trans aJ h) (fun a b c => Int.le_trans) (fun a b h1 h2 h3 aE => Prod.ext (Int.le_antisymm h2 h1) (Int.le_antisymm h3 aE)) aa ai au
 ·exact A8 (R := fun p q : an => q.1 ≤ p.1) (T := fun p q : an => q.2 ≤ p.2) (fun a b c h aJ => Int.le_trans aJ h) (fun a b c h aJ => Int.le_trans aJ h) (fun a b h1 h2 h3 aE => Prod.ext (Int.le_antisymm h2 h1) (Int.le_antisymm aE h3)) aa ai au
theorem Bp (r : Nat) (a b : Int) : decide ((2 : Int) ^ r * a < 2 ^ r * b) = decide (a < b) := by
 have hS : (0 : Int) < 2 ^ r := hr (by decide);rw [decide_eq_decide];exact ⟨fun h => Int.lt_of_mul_lt_mul_left h (by omega), fun h => Int.mul_lt_mul_of_pos_left h hS⟩
theorem K0 {fx fy : Bool} {p q : an} : ∀ (l out : List an), (∀ x ∈ l, x ≠ p ∧ x ≠ q) → (out ++ l).Nodup → l.foldl (pb p q) out = out ++ l
 | [], out, _, _ => by simp
 | x :: l, out, h, hd => by
  have aa := h x (kr ..);have e : pb p q out x = out ++ [x] := if_pos ⟨aa.1, aa.2, fun he => (List.nodup_append.1 hd).2.2 x (List.mem_of_getLast? he) x (kr ..) rfl⟩;rw [List.foldl_cons, e, K0 (fx := fx) (fy := fy) l (out ++ [x]) (fun y ai => h y (nL _ ai)) (by simpa using hd), gQ]; rfl
theorem afm {fx fy : Bool} {f g : an → Bool} {l : List an} (h : ∀ x ∈ l, f x = g x) : qS fx fy f l = qS fx fy g l := by
 unfold qS
 have key : ∀ (l out : List an), (∀ x ∈ l, f x = g x) → l.foldl (fun out q => if f q then lF fx fy q out else out) out = l.foldl (fun out q => if g q then lF fx fy q out else out) out := by
  intro l
  induction l with
  | nil => intro out _; rfl
  | cons x l bO =>
   intro out h;rw [List.foldl_cons, List.foldl_cons, h x (kr ..)];exact bO _ fun y ai => h y (nL _ ai)
 exact key l [] h
theorem Fw {E : List bU} {r R : Nat} {p q x : an} : iI (qI E r R) p q x = true ↔ x ≠ p ∧ x ≠ q ∧ Mu r p q x = true := by
 unfold iI; simp only [dx, ca, and_assoc]; exact Iff.rfl
theorem zW (p q : an) (bc : List an) : (fw p q bc).Perm bc := by
 have := DA (decide (q.1 < p.1)) (decide (q.2 < p.2)) (fun _ => true) bc;rwa [List.filter_eq_self.2 (fun _ _ => rfl)] at this
theorem Iw {E : List bU} {r R : Nat} {p q : an} {bc : List an} (au : bc.Nodup) (h : ∀ x ∈ bc, iI (qI E r R) p q x = true) : fw p q bc = q9 r bc p q := by
 unfold q9 KZ;rw [Bp, Bp, ← afm (f := fun _ => true) (g := qB (2 ^ r * p.1) (2 ^ r * p.2) (2 ^ r * q.1) (2 ^ r * q.2) r) (fun x aa => ((Fw.1 (h x aa)).2.2).symm)];have hp := zW p q bc;show fw p q bc = (fw p q bc).foldl (pb p q) [];rw [K0 (fx := false) (fy := false) (fw p q bc) [] (fun x aa => ⟨(Fw.1 (h x (hp.mem_iff.1 aa))).1, (Fw.1 (h x (hp.mem_iff.1 aa))).2.1⟩) (by simpa using hp.nodup_iff.2 au)];rfl
theorem KF {R : an → an → Prop} : ∀ {A B : List an} {q : an}, hR R (A ++ q :: B) → hR R (A ++ [q]) ∧ hR R (q :: B)
 | [], _, _, h => ⟨trivial, h⟩
 | [a], _, _, h => ⟨⟨h.1, trivial⟩, h.2⟩
 | a :: b :: A, B, q, h => by
  have bO := KF (A := b :: A) h.2;exact ⟨⟨h.1, bO.1⟩, bO.2⟩
theorem afS {V : List an} {j : Nat} {p q : an} (hp : V[j]? = some p) (ak : V[j + 1]? = some q) : ∃ A B, V = A ++ p :: q :: B ∧ A.length = j ∧ ∀ l, bT V j l = A ++ p :: (l ++ q :: B) := by
 obtain ⟨h1, aF⟩ := bF.1 hp;obtain ⟨h2, aN⟩ := bF.1 ak;have hd := VB hp ak;refine ⟨V.take j, V.drop (j + 2), by rw [← hd, jG], by rw [dS]; omega, fun l => ?_⟩;unfold bT;rw [nO h1, aF, ml h2, aN];simp
theorem xZ {R : an → an → Prop} {V l : List an} {j : Nat} {p q : an} (hp : V[j]? = some p) (ak : V[j + 1]? = some q) (h : hR R V) (hl : R p q → hR R (p :: (l ++ [q]))) : hR R (bT V j l) := by
 obtain ⟨A, B, e, _, E5⟩ := afS hp ak;rw [E5];rw [e] at h;obtain ⟨h1, h2⟩ := KF h;refine ES h1 ?_;have h3 := hl h2.1;have := ES (A := p :: l) (q := q) (W := B) h3 h2.2;exact this
theorem vd.cut {E : List bU} {r R : Nat} (al : r ≤ 28) {V : List an} {D : List Int} (h : vd r V D) {j : Nat} {p q : an} {bc : List an} (hp : V[j]? = some p) (ak : V[j + 1]? = some q) (au : bc.Nodup) (ao : ∀ x ∈ bc, iI (qI E r R) p q x = true) : vd r (bT V j (fw p q bc)) (ei D j bc.length) := by
 obtain ⟨h1, h2, h3, aE, ff, js⟩ := h;have hS : (0 : Int) < 2 ^ r := hr (by decide);have ae := (bF.1 ak).1;rw [Iw au ao];have lC := AW al bc p q;have hlen : (q9 r bc p q).length = bc.length := by rw [← Iw au ao]; exact (zW p q bc).length_eq
 refine ⟨fun aA => ?_, ?_, fun v hv => ?_, ?_, ?_, ?_⟩
 ·have := congrArg List.length aA;rw [x0, List.length_nil] at this; omega
 ·rw [x0, EZ (by omega), hlen]; omega
 ·rcases KV hv with hv | hv
  ·exact h3 v hv
  ·exact (lC.2.1 v hv).2.1
 ·exact xZ hp ak aE fun hW => Uw al bc p q hW
 ·refine ff.imp (fun h => xZ hp ak h fun hW => AY al bc p q hW (fun x aa => ?_) (fun x y u w hu hw rI => ?_)) (fun h => xZ hp ak h fun hW => AY al bc p q hW (fun x aa => ?_) (fun x y u w hu hw rI => ?_))
  ·obtain ⟨u, hu⟩ := aa; exact (CB hS hu.1.1 hu.1.2 hu.2.1).1 hW
  ·exact CD hS hu.2.1 hw.2.1 rI hW
  ·obtain ⟨u, hu⟩ := aa; exact ((CB hS hu.1.1 hu.1.2 hu.2.1).2 hW).symm
  ·exact CC hS hu.2.1 hw.2.1 rI hW
 ·refine js.imp (fun h => xZ hp ak h fun hW => AY al bc p q hW (fun x aa => ?_) (fun x y u w hu hw rI => ?_)) (fun h => xZ hp ak h fun hW => AY al bc p q hW (fun x aa => ?_) (fun x y u w hu hw rI => ?_))
  ·obtain ⟨u, hu⟩ := aa; exact (CB hS hu.1.1 hu.1.2 hu.2.2).1 hW
  ·exact CD hS hu.2.2 hw.2.2 rI hW
  ·obtain ⟨u, hu⟩ := aa; exact ((CB hS hu.1.1 hu.1.2 hu.2.2).2 hW).symm
  ·exact CC hS hu.2.2 hw.2.2 rI hW
def rY (r : Nat) (e : bU) (d : Int) (t : Rat) (x : an) : Prop := wS e.1.1 e.1.2 e.2.1 e.2.2 (2 ^ r) (bk d * bk (2 ^ r)) t x
theorem abc {r : Nat} {e : bU} {d d' : Int} (h : d ≤ d') {t : Rat} {x : an} (aa : rY r e d t x) : rY r e d' t x := by
 refine abe ?_ aa;have hS : (0 : Rat) < bk (2 ^ r) := pM (hr (by decide));exact Rat.mul_le_mul_of_nonneg_right (qM.2 h) (Rat.le_of_lt hS)
theorem KI {r : Nat} {e : bU} {p q : an} {d : Int} {t1 t2 : Rat} (Fz : t1 ≤ t2) (FB : t2 ≤ 1) (hp : rY r e d t1 p) (ak : rY r e d t2 q) : ∀ (l : List an) (j9 : Rat), 0 ≤ j9 → j9 ≤ 1 → (∀ x ∈ l, ∀ u, pX (2 ^ r) p q u x → j9 ≤ u) → (∀ x ∈ l, ∃ u, pX (2 ^ r) p q u x) → jN (decide ((2 : Int) ^ r * q.1 < 2 ^ r * p.1)) (decide ((2 : Int) ^ r * q.2 < 2 ^ r * p.2)) l → Ba (rY r e) (d + 1) t2 (t1 + j9 * (t2 - t1)) l
 | [], j9, aA, h1, _, _, _ => by
  show t1 + j9 * (t2 - t1) ≤ t2;have := j4 (show 0 ≤ 1 - j9 by grind) (show 0 ≤ t2 - t1 by grind);grind
 | x :: l, j9, aA, h1, hu, hm, aH => by
  have hS : (0 : Int) < 2 ^ r := hr (by decide);obtain ⟨u, wE⟩ := hm x (kr ..);have aj := iV.1 aH;have h2 := hu x (kr ..) u wE;have bd := j4 (show 0 ≤ u - j9 by grind) (show 0 ≤ t2 - t1 by grind);have bC := j4 (show 0 ≤ 1 - u by have := wE.1.2; grind) (show 0 ≤ t2 - t1 by grind)
  have aa : rY r e (d + 1) (t1 + u * (t2 - t1)) x := by
   have := abd hp ak wE;unfold rY;rw [show bk (d + 1) = bk d + 1 by simp [bk, r6]];exact this
  exact ⟨t1 + u * (t2 - t1), by grind, by grind, aa, KI Fz FB hp ak l u wE.1.1 wE.1.2 (fun y ai w hw => N6 hS wE hw (aj.1 y ai)) (fun y ai => hm y (nL _ ai)) aj.2⟩
def u1 (E : List bU) (r : Nat) (i : Nat) (c : List an × List Int) : Prop := vd r c.1 c.2 ∧ rh (rY r (E.getD i l5)) 0 c.1 c.2
theorem CP {r : Nat} (a b : Int) : rX (bk a) (bk b) (2 * (bk (2 ^ r) * bk (cn a r))) (bk 1 * bk (2 ^ r)) 0 ∧ rX (bk b) (bk a) (2 * (bk (2 ^ r) * bk (cn a r))) (bk 1 * bk (2 ^ r)) 1 := by
 have dV : (0 : Int) < 2 ^ r := hr (by decide);obtain ⟨g0, g1⟩ : 2 * (cn a r * 2 ^ r) ≤ 2 * a + 2 ^ r ∧ 2 * a + 2 ^ r < 2 * (cn a r * 2 ^ r) + 2 * 2 ^ r := WA dV;have q0 := qM.2 g0;have q1 := H4.2 g1;have z : bk 1 = 1 := by simp [bk]
 rw [z];simp only [bk, r6, Rat.intCast_mul] at q0 q1 ⊢;generalize ((2 ^ r : Int) : Rat) = S at *;generalize ((cn a r : Int) : Rat) = g at *;generalize ((a : Int) : Rat) = a' at *;generalize ((b : Int) : Rat) = bK at *;have aN : ((2 : Int) : Rat) = 2 := by simp
 rw [aN] at q0 q1;refine ⟨⟨?_, ?_⟩, ?_, ?_⟩ <;> grind
theorem Va {r : Nat} (e : bU) : rh (rY r e) 0 (gN (lg r e.1) (lg r e.2)).1 (gN (lg r e.1) (lg r e.2)).2 :=
 U9 ⟨(CP e.1.1 e.2.1).1, (CP e.1.2 e.2.2).1⟩ ⟨(CP e.2.1 e.1.1).2, (CP e.2.2 e.1.2).2⟩
theorem aa5 {r : Nat} {p q : an} (hp : er r p.1 p.2 = true) (ak : er r q.1 q.2 = true) : vd r (gN p q).1 (gN p q).2 := by
 unfold gN
 split
 ·exact ⟨by simp, rfl, fun v hv => by rw [ix.1 hv]; exact hp, trivial, .inl trivial, .inl trivial⟩
 ·rename_i bX;refine ⟨by simp, rfl, fun v hv => ?_, ⟨bX, trivial⟩, ?_, ?_⟩
  ·simp only [fQ, r2, or_false] at hv;rcases hv with rfl | rfl
   ·exact hp
   ·exact ak
  ·rcases Int.le_total p.1 q.1 with h | h
   ·exact .inl ⟨h, trivial⟩
   ·exact .inr ⟨h, trivial⟩
  ·rcases Int.le_total p.2 q.2 with h | h
   ·exact .inl ⟨h, trivial⟩
   ·exact .inr ⟨h, trivial⟩
theorem Ki {X W a b n d : Int} (dJ : 0 < W) (hd : 0 < d) (au : 0 ≤ n ∧ n ≤ d) (e : X * d = W * (a * (d - n) + b * n)) {lo hi : Int} (aH : lo ≤ a ∧ a ≤ hi) (ab : lo ≤ b ∧ b ≤ hi) : lo * W ≤ X ∧ X ≤ hi * W := by
 have a1 := fD (show 0 ≤ a - lo by omega) (show 0 ≤ d - n by omega);have a2 := fD (show 0 ≤ hi - a by omega) (show 0 ≤ d - n by omega);have b1 := fD (show 0 ≤ b - lo by omega) au.1;have b2 := fD (show 0 ≤ hi - b by omega) au.1;have s1 : lo * d ≤ a * (d - n) + b * n := by grind
 have s2 : a * (d - n) + b * n ≤ hi * d := by grind
 have t1 := pJ s1 (kt dJ);have t2 := pJ s2 (kt dJ);rw [← e] at t1 t2;refine ⟨Int.le_of_mul_le_mul_right ?_ hd, Int.le_of_mul_le_mul_right ?_ hd⟩
 ·rw [show lo * W * d = W * (lo * d) by grind]; exact t1
 ·rw [show hi * W * d = W * (hi * d) by grind]; exact t2
theorem P1 {r : Nat} (al : r ≤ 28) {a b : bU} (h1 : gj a.1 = true) (h2 : gj a.2 = true) {x : an} (h : zw r a b = some x) : er r x.1 x.2 = true := by
 unfold zw at h
 split at h
 ·rename_i af;cases h;obtain ⟨X, Y, W, bb, e⟩ := G5 af;obtain ⟨q1, q2, bE, _⟩ := HV (r := r) e;obtain ⟨_, _, ⟨n, d, g1, g2, g3, g4⟩, _⟩ := Cx e;have cr := rW.1 h1;have cm := rW.1 h2;obtain ⟨c1, c2⟩ := Ki q2 g1 g2 g3 (lo := -134217728) (hi := 134217727) (by omega) (by omega);obtain ⟨iH, qb⟩ := Ki q2 g1 g2 g4 (lo := -134217728) (hi := 134217727) (by omega) (by omega);rw [bE];unfold er;rw [Da al q2 c1 c2, Da al q2 iH qb]; rfl
 ·cases h
theorem KX {r : Nat} {l m : an × an} (h1 : er r l.1.1 l.1.2 = true) (h2 : er r l.2.1 l.2.2 = true) {x : an} (h : rj r l m = some x) : er r x.1 x.2 = true := by
 have hS : (0 : Int) < 2 ^ r := hr (by decide);unfold rj at h
 split at h
 ·rename_i af;cases h;obtain ⟨X, Y, W, bb, e⟩ := G5 af.1;obtain ⟨q1, q2, bE, c4⟩ := HV (r := r) e;obtain ⟨_, _, ⟨n, d, g1, g2, g3, g4⟩, _⟩ := Cx e;generalize iv r (gM (fU r l) (fU r m)) = x at *;obtain ⟨⟨i1, i2⟩, i3, i4⟩ := c4;have v1 := Qg hS q2 g1 g2 g3 i1 i2;have v2 := Qg hS q2 g1 g2 g4 i3 i4;unfold er at h1 h2 ⊢;rw [dx] at h1 h2 ⊢;refine ⟨?_, ?_⟩
  ·rcases Int.le_total l.1.1 l.2.1 with h | h
   ·exact Ae h1.1 h2.1 (v1.1 h).1 (v1.1 h).2
   ·exact Ae h2.1 h1.1 (v1.2 h).1 (v1.2 h).2
  ·rcases Int.le_total l.1.2 l.2.2 with h | h
   ·exact Ae h1.2 h2.2 (v2.1 h).1 (v2.1 h).2
   ·exact Ae h2.2 h1.2 (v2.2 h).1 (v2.2 h).2
 ·cases h
theorem aee {E : List bU} {r R : Nat} (al : r ≤ 28) (fp : gi E = true) : ke (qI E r R) (u1 E r) where
 nodup i c h := h.1.nodup
 new i hi := ⟨aa5 (CI al (qE fp i).1) (CI al (qE fp i).2), Va _⟩
 split i c j p q bc h hlen hp ak au _ ao := by
  refine ⟨h.1.cut al hp ak au ao, ?_⟩;have Yf := zW p q bc;have e : bc.length = (fw p q bc).length := Yf.length_eq.symm;show rh _ _ (bT c.1 j (fw p q bc)) (ei c.2 j bc.length);rw [e];refine KJ (fun d t x aa => abc (by omega) aa) (fun d t1 t2 Fz FB h1 h2 => ?_) c.1 c.2 j 0 hlen hp ak h.2;have lC := AW al bc p q;rw [Iw au ao];have := KI Fz FB h1 h2 (q9 r bc p q) 0 Rat.le_refl (by decide) (fun x aa u hu => hu.1.1) (fun x aa => (lC.2.1 x aa).2.2) lC.1;rwa [show t1 + 0 * (t2 - t1) = t1 by grind] at this
 gp := zW
 Fq i _ := ⟨CI al (qE fp i).1, CI al (qE fp i).2⟩
 LW i j x _ _ h := P1 al (qE fp i).1 (qE fp i).2 h
 LS p q ft cd x h1 h2 _ _ h := KX (l := (p, q)) (m := (ft, cd)) h1 h2 h
 cut hot p q ft cd x ao _ _ h1 h2 h3 aE cZ ff h := (aep E al R).Vl hot p q ft cd x ao h1 h2 h3 aE cZ ff h
variable {α : Type} [DecidableEq α]
theorem Nr (o : cO α) : ∀ (m n : Nat) (s : aS α), lc o (m + n) s = lc o n (lc o m s)
 | 0, n, s => by rw [jj]; rfl
 | m + 1, n, s => by
  rw [show m + 1 + n = (m + n) + 1 by omega];exact Nr o m n (eJ o s)
def eE (o : cO α) : Nat → aS α → Nat × aS α
 | 0, s => (0, s)
 | n + 1, s => if 4 ≤ s.ph then (0, s) else ((eE o n (eJ o s)).1 + 1, (eE o n (eJ o s)).2)
theorem aex {o : cO α} {s : aS α} (h : 4 ≤ s.ph) : ∀ n, eE o n s = (0, s)
 | 0 => rfl
 | n + 1 => if_pos h
theorem Ds {o : cO α} : ∀ (n : Nat) (s : aS α), (eE o n s).2 = lc o (eE o n s).1 s ∧ (eE o n s).1 ≤ n ∧ ((eE o n s).1 < n → 4 ≤ (eE o n s).2.ph)
 | 0, s => ⟨rfl, dl _, fun h => absurd h (by show ¬ 0 < 0; omega)⟩
 | n + 1, s => by
  obtain ⟨h1, h2, h3⟩ := Ds n (eJ o s);unfold eE
  by_cases h : 4 ≤ s.ph
  ·rw [if_pos h]; exact ⟨rfl, dA _, fun _ => h⟩
  ·rw [if_neg h]; exact ⟨h1, by show _ + 1 ≤ n + 1; omega, fun aR => h3 (by have : (eE o n (eJ o s)).1 + 1 < n + 1 := aR; omega)⟩
end Go.Proofs.YtbcecodakfejaaaGreat.bp
namespace Go.Proofs.YtbcecodakfejaaaGreat
open Go.RowKit
section
variable {P : Program} {bo : eP} {bG A : Nat → Prop} {R : aG} {s s' : az} {a a' : Act} {w w' : World} {ad aY : Nat → Nat}
theorem eo.Ve (ar : eo bo bG R s a w A ad) (i : Nat) (r : bz) (hi : R i = some r) (bB : 0 < r.sz) : ∃ dH, eo bo bG (fun j => if j = i then none else R j) s a w dH ad ∧ gd (s.free dH ad) ad w (.p (cl r.sz r.n r.aO)) r.v := by
 obtain ⟨oi, cA, ao⟩ := ar.rows i r hi;obtain ⟨xs, ay, hl⟩ := oi.row bB;have uu : ∀ b, s.free A ad b → b < w.heap.size → s.free (fun b => A b ∨ r.v.ownBlock = some b) ad b ∧ w.heap[b]? = w.heap[b]? := fun b ab _ => ⟨⟨.inl ab.1, ab.2⟩, rfl⟩;have FO : Rel (mI bo s ad w) (fun b => A b ∨ r.v.ownBlock = some b) s ad a w := ar.rel.xR (fun b ab _ => ⟨.inl ab, rfl⟩) (fun k cs af => ⟨rfl, fun ap => ap.2 k cs af rfl⟩) (jO.refl _) (fun b ab => .inl (ar.rel.up b ab)) (wa _ _ _)
 have v7 : eo bo bG (fun j => if j = i then none else R j) s a w (fun b => A b ∨ r.v.ownBlock = some b) ad := by
  refine ⟨ar.up, ?_, FO, ar.ov, ar.below, fun j q ae => ?_, fun j k q cd ae af kn => ?_, fun j q g ae => ?_, ar.jS⟩
  ·rintro b (ab | ab)
   ·exact ar.sub b ab
   ·exact (ar.hot i r b hi (.inl ab)).2
  ·have fH : j ≠ i := fun e => by rw [if_pos e] at ae; cases ae
   rw [if_neg fH] at ae;obtain ⟨k7, z6, z7⟩ := ar.rows j q ae;refine ⟨k7.kept z6 (fun _ _ => rfl) (dl _) uu, z6, fun g dX => ⟨?_, (z7 g dX).2⟩⟩;rintro (ab | ab)
   ·exact (z7 g dX).1 ab
   ·exact ar.apart i j r q hi ae (Ne.symm fH) g (.inl ab) dX
  ·have fH : j ≠ i := fun e => by rw [if_pos e] at ae; cases ae
   have ko : k ≠ i := fun e => by rw [if_pos e] at af; cases af
   rw [if_neg fH] at ae;rw [if_neg ko] at af;exact ar.apart j k q cd ae af kn
  ·have fH : j ≠ i := fun e => by rw [if_pos e] at ae; cases ae
   rw [if_neg fH] at ae;exact ar.hot j q g ae
 refine ⟨fun b => A b ∨ r.v.ownBlock = some b, v7, ?_⟩
 ·have nB := hl.1;obtain ⟨kI, au | ⟨g, cap, cur, km, ql, uA, eI, ju, ej, nF⟩⟩ := id ay
  ·obtain ⟨aF, aN⟩ := au;have : r.aO = [] := j3 (by rw [nB, kI, aN]; simp);rw [aF];exact ⟨⟨none, 0, by rw [aN], by omega, by rw [this, aN]; simp, fun h => absurd h (by omega)⟩, fun b ⟨c', a', q, au, ab⟩ => by cases q⟩
  ·have sV := ay.cells (g := g) (by rw [km]; rfl);rw [km];have qi : kv w ⟨g, 0, none⟩ r.aO xs := ⟨(jH.1 uA).1, hl.vK cA fun b _ _ => ⟨trivial, rfl⟩, sV, cA⟩;refine ⟨⟨some ⟨g, 0, none⟩, cap, rfl, eI, by rw [nB]; exact kI, fun au => ⟨⟨g, 0, none⟩, xs, rfl, qi⟩⟩, ?_⟩;rintro b ⟨c', a', q, au, ap⟩;cases q;rcases ap with rfl | ⟨j, y, v, ai, hv, fW⟩
   ·exact ⟨.inr rfl, (ao g (.inl (by rw [km]; rfl))).2⟩
   ·have a8 : j < xs.length := by rw [← nB]; exact (bF.1 ai).1
    have h2 := sV j _ (bQ a8);rw [hv] at h2;cases h2;have h3 := hl.2 j y _ ai (bQ a8);cases y with
    | c u => cases fW
    | own k o => cases fW
    | p S => have := h3.2 b fW; exact ⟨.inl this.1, this.2⟩
theorem QX (i k off : Nat) {c : Code} {Q : Exit → aG → az → Prop} {cs : List AC} (r : bz) (hi : R i = some r) (af : s.mem k = some cs) (aj : cs[off]? = some (.c r.v)) (h : e4 P c Q (fun j => if j = i then none else R j) (s.dT k (cs.set off (.p (cl r.sz r.n r.aO))))) (bB : 0 < r.sz := by first | decide | exact jk _) : e4 P c Q R s := by
 rintro ok bo bG a w ⟨A, ad, ar⟩;obtain ⟨dH, BD, w2⟩ := ar.Ve i r hi bB
 have W0 := BD.next (BD.rel.ad1 (ds := cs.set off (.p (cl r.sz r.n r.aO))) af fun vs hv => ⟨by rw [List.length_set]; exact hv.1, fun j x u aa hu => by
  rw [List.getElem?_set] at aa
  by_cases e : off = j
  ·subst e;rw [if_pos rfl] at aa
   split at aa
   ·cases aa;obtain ⟨rfl, _⟩ := hv.2 off _ u aj hu;exact w2
   ·cases aa
  ·rw [if_neg e] at aa;exact hv.2 j x u aa hu⟩)
 refine h (ok.dT fun x aa j ae => ?_) bo bG a w ⟨dH, ad, W0⟩;rcases List.mem_or_eq_of_mem_set aa with aa | rfl
 ·exact ok.dt k cs x j af aa ae
 ·cases ae
end
section
variable {P : Program} {s : az} {ops : Array Oper} {K : az → Prop} {rest : List Oper} {ty : Nat} {pos : String} {after : Array Edge} {guard : Option (Nat × Bool)} {d : Nat}
end
theorem aen {xs aO : List AC} (hl : xs.length = aO.length) (h : ∀ (i : Nat) x y, xs[i]? = some x → aO[i]? = some y → x = y ∨ (x = .c (.slice none 0 0) ∧ ∃ z, y = .p (cl z 0 []))) (U : Nat → Prop) (ad : Nat → Nat) (W : World) (vs : List Value) (hv : bH U ad W xs vs) : bH U ad W aO vs := by
 refine ⟨by rw [← hl]; exact hv.1, fun i y v ai hu => ?_⟩;have hi : i < xs.length := by rw [hl]; exact (bF.1 ai).1
 have aa := bQ hi;have h1 := hv.2 i _ v aa hu;rcases h i _ y aa ai with e | ⟨e, z, rfl⟩
 ·rw [← e]; exact h1
 ·rw [e] at h1;exact OC z U ad W v h1
theorem Jx {xs aO : List AC} (hl : xs.length = aO.length) (h : ∀ (i : Nat) x y, xs[i]? = some x → aO[i]? = some y → x = y ∨ (x = .c (.slice none 0 0) ∧ ∃ z, y = .p (cl z 0 []))) : ah.aQ (.w (.agg xs)) (.w (.agg aO)) := fun U ad W v hv => by
 obtain ⟨vs, rfl, e0⟩ := hv;exact ⟨vs, rfl, aen hl h U ad W vs e0⟩
section
variable {U : Nat → Prop} {W : World} {x y : AC} {xs aO : List AC}
end
structure S9 where
 l : Nat
 U : Nat → Prop
 gX : World
 ni : Nat → Prop
 J : Nat → (Nat → Prop) → World → Prop
 agq : (Nat → Prop) → World → Prop
 xs : List (List ah)
section
variable {P : Program} {X : S9} {x y c : Code} {Q : Exit → Option Nat → az → Prop} {g jb : Option Nat} {s s' : az} {a a' : Act} {w w' w2 : World} {A : Nat → Prop} {ad aY : Nat → Nat} {C : Nat → Prop}
end
def RY (oR : Bool → Prop) : eQ where
 holds w v := ∃ b, v = .bool b ∧ oR b
 kE w v b := False
 frame w w' v := fun h ap => ⟨h, fun b ab => ab⟩
 h7 w v b := fun h ap => ap.elim
 cell w v := by rintro ⟨b, rfl, _⟩; rfl
abbrev z8 (oR : Bool → Prop) : ah := .w (.one (.p (RY oR)))
section
variable {P : Program} {ops : Array Oper} {K : az → Prop} {rest : List Oper} {s : az} {d ty : Nat} {pos : String} {after : Array Edge} {guard : Option (Nat × Bool)}
theorem WE {op : BinOp} {t : TypeId} {x y : Operand} {a : Option Addr} {n c : Nat} {v : Value} : eqGuard op t x y (.slice a n c) v = pure () := by cases op <;> rfl
theorem TJ {t dK sz n e bytes : Nat} {x : Operand} {xs : List AC} [T : l0 P t e sz bytes] (hw : want ops ⟨some d, .binOp .eql t x (.const (.slice none 0 0)) dK, ty, pos, after, guard⟩ s = some true) (aa : s.look x = some (cz sz n xs)) (hd : Nat.blt d s.n = true) (h : a7 P ops K rest (s.put (some d) (z8 fun b => b = true → n = 0))) : a7 P ops K (⟨some d, .binOp .eql t x (.const (.slice none 0 0)) dK, ty, pos, after, guard⟩ :: rest) s := by
 obtain ⟨_, _, hu, _⟩ := qP T.h;refine fF (av := z8 fun b => b = true → n = 0) hw ⟨fun _ _ h => (by cases h), fun z aI => ?_, fun U ad W env he => ?_, fun j ae => absurd ae (lf _ j)⟩ hd h
 ·simp [Op.operands] at aI;rcases aI with rfl | rfl
  ·exact ⟨_, aa⟩
  ·exact ⟨_, rfl⟩
 ·obtain ⟨⟨A, c, hv, _, _, dR⟩, _⟩ := he x (by simp [Op.operands]) _ aa;have aN : env (.const (.slice none 0 0)) = .slice none 0 0 := (he (.const (.slice none 0 0)) (by simp [Op.operands]) _ rfl).1;refine ⟨.bool A.isNone, ?_, ⟨_, rfl, fun ab => ?_⟩, fun b ab => ab.elim⟩
  ·simp only [execOp, hv, aN, WE, Sem.run_bind, Sem.run_pure, Result.andThen_ok, Lib.run_eql_slice_nil W t e A n c 0 0 hu]
  ·refine Classical.byContradiction fun au => ?_;obtain ⟨a, _, e, _⟩ := dR (by omega);rw [e] at ab; cases ab
end
section
variable {P : Program} {c : Code} {s : az}
theorem Rel.Rl {B : eP} {A : Nat → Prop} {ad : Nat → Nat} {a : Act} {w : World} {d : Nat} {oR : Bool → Prop} (h : Rel B A s ad a w) (hd : s.tmps d = some (z8 oR)) : ∃ b, oR b ∧ Rel B A (s.put (some d) (bf b)) ad a w := by
 obtain ⟨v, h1, ⟨b, rfl, ab⟩, _⟩ := h.gE d _ hd;refine ⟨b, ab, h.Qy hd fun u hu _ => ?_⟩;rw [h1] at hu;cases hu;exact ⟨rfl, rfl⟩
theorem UE (d : Nat) {Q : Exit → az → Prop} {oR : Bool → Prop} (hd : s.tmps d = some (z8 oR)) (h : ∀ b, oR b → e2 P c Q (s.put (some d) (bf b))) : e2 P c Q s := by
 intro ok B A ad a w ar;obtain ⟨b, ab, cg⟩ := ar.Rl hd;exact h b ab (ok.put fun j ae => absurd ae (iR _ j)) B A ad a w cg
theorem Q0 (d : Nat) {Q : Exit → aG → az → Prop} {R : aG} {oR : Bool → Prop} (hd : s.tmps d = some (z8 oR)) (h : ∀ b, oR b → e4 P c Q R (s.put (some d) (bf b))) : e4 P c Q R s := by
 intro ok bo bG a w ⟨A, ad, ar⟩;obtain ⟨b, ab, cg⟩ := ar.rel.Rl hd;exact h b ab (ok.put fun j ae => absurd ae (iR _ j)) bo bG a w ⟨A, ad, ar.next cg⟩
end
def AC.u6 : AC → Bool
 | .p _ => false
 | _ => true
def mX (m : Mem) (R : aG) : Prop := (∀ k cs, m k = some cs → cs.all AC.u6 = true) ∧ ∀ i r, R i = some r → 0 < r.sz ∧ r.aO.all AC.u6 = true
theorem bH.plain {U cq : Nat → Prop} {ad : Nat → Nat} {W bb : World} {xs : List AC} {vs : List Value} (h : bH U ad W xs vs) (hp : xs.all AC.u6 = true) : bH cq ad bb xs vs := by
 refine ⟨h.1, fun i x v aa hv => ?_⟩;have h1 := h.2 i x v aa hv;have h2 := cb.1 hp x (c5 aa);cases x with
 | c u => exact h1
 | own k o => exact h1
 | p S => cases h2
theorem bz.ok.plain {U cq : Nat → Prop} {ad : Nat → Nat} {W : World} {r : bz} (h : r.ok U ad W) (hs : 0 < r.sz) (hp : r.aO.all AC.u6 = true) : r.ok cq ad W := by
 obtain ⟨xs, h1, h2⟩ := h.row hs;exact .inl ⟨hs, xs, h1, h2.plain hp⟩
abbrev mY (b off : Nat) : Value := .pointer (some ⟨b, off, none⟩)
abbrev dO (b : Nat) : Value := mY b 0
abbrev th : Nat → Prop := fun _ => False
theorem eS.lt {U : Nat → Prop} {ad : Nat → Nat} {W : World} {m : Mem} {R : aG} (h : eS U ad W m R) {b : Nat} (ab : ea ad m R b) : b < W.heap.size := by
 rcases ab with ⟨k, cs, af, rfl⟩ | ⟨i, r, hi, ao⟩
 ·obtain ⟨vs, ty, h1, _⟩ := h.dt k cs af;exact (jH.1 h1).1
 ·exact (h.rows i r hi).1.lt ao
def kS (ad : Nat → Nat) (m : Mem) (R : aG) (k : Nat) : eQ where
 holds w v := v = dO (ad k) ∧ eS th ad w m R ∧ mX m R
 kE w v b := ea ad m R b
 frame := by
  rintro w w' v ⟨rfl, h, hp⟩ ap;refine ⟨⟨rfl, ⟨fun j cs ae => ?_, h.fs, h.inj, fun i r hi => ?_, h.apart⟩, hp⟩, fun b ab => ab⟩
  ·obtain ⟨vs, ty, h1, h2, h3⟩ := h.dt j cs ae;exact ⟨vs, ty, by rw [ap _ (.inl ⟨j, cs, ae, rfl⟩)]; exact h1, h2.plain (hp.1 j cs ae), h3⟩
  ·obtain ⟨h1, h2, h3⟩ := h.rows i r hi;obtain ⟨xs, g1, g2⟩ := h1.row (hp.2 i r hi).1;exact ⟨.inl ⟨(hp.2 i r hi).1, xs, Pd g1 fun g q => ap g (.inr ⟨i, r, hi, .inl q⟩), g2.plain (hp.2 i r hi).2⟩, h2, h3⟩
 h7 := fun w v b ⟨_, h, _⟩ ab => h.lt ab
 cell := fun w v ⟨e, _⟩ => by rw [e]; rfl
def CR (ad : Nat → Nat) (m : Mem) (R : aG) (k : Nat) : bz := ⟨0, 0, dO (ad k), 0, [.p (kS ad m R k)]⟩
theorem OS {ad : Nat → Nat} {m : Mem} {R : aG} {k : Nat} {W : World} (h : eS th ad W m R) (hp : mX m R) {b : Nat} : (CR ad m R k).own b ↔ ea ad m R b := by
 constructor
 ·rintro (h1 | ⟨_, S, w, h1, h2, h3⟩)
  ·cases h1
  ·cases h1; exact h3
 ·exact fun h1 => .inr ⟨rfl, kS ad m R k, W, rfl, ⟨rfl, h, hp⟩, h1⟩
theorem OT {ad : Nat → Nat} {m : Mem} {R : aG} {k : Nat} {b : Nat} (h : (CR ad m R k).own b) : ea ad m R b := by
 rcases h with h1 | ⟨_, S, w, h1, h2, h3⟩
 ·cases h1
 ·cases h1; exact h3
theorem abo {U : Nat → Prop} {ad aY : Nat → Nat} {m : Mem} {R : aG} {k : Nat} {W : World} (h : eS th ad W m R) (hp : mX m R) : (CR ad m R k).ok U aY W :=
 .inr ⟨rfl, rfl, rfl, ⟨_, rfl, rfl, h, hp⟩, fun b ab => h.lt (OT ab)⟩
theorem abn {U : Nat → Prop} {ad aY : Nat → Nat} {m : Mem} {R : aG} {k : Nat} {W : World} (h : (CR ad m R k).ok U aY W) : eS th ad W m R ∧ mX m R := by
 rcases h with ⟨h1, _⟩ | ⟨_, _, _, ⟨S, hS, aR⟩, _⟩
 ·cases h1
 ·cases hS; exact aR.2
theorem eS.sub {U : Nat → Prop} {ad : Nat → Nat} {W : World} {m m1 : Mem} {R bg : aG} (h : eS U ad W m R) (hm : ∀ k cs, m1 k = some cs → m k = some cs) (al : bt bg R) (fs : ∀ k cs x j, m1 k = some cs → x ∈ cs → x.owns j → ∃ aq, m1 j = some aq) : eS U ad W m1 bg := by
 refine ⟨fun k cs af => h.dt k cs (hm k cs af), fs, fun k k' cs aq af eD => h.inj k k' cs aq (hm k cs af) (hm k' aq eD), fun i r hi => ?_, fun i j r q hi ae => h.apart i j r q (al i r hi) (al j q ae)⟩;obtain ⟨h1, h2, h3⟩ := h.rows i r (al i r hi);exact ⟨h1, h2, fun g ao => ⟨(h3 g ao).1, fun k cs af => (h3 g ao).2 k cs (hm k cs af)⟩⟩
theorem eS.none {U : Nat → Prop} {ad : Nat → Nat} {W : World} {m : Mem} {R : aG} (h : eS U ad W m R) (hp : mX m R) : eS th ad W m R := by
 refine ⟨fun k cs af => ?_, h.fs, h.inj, fun i r hi => ?_, h.apart⟩
 ·obtain ⟨vs, ty, h1, h2, _⟩ := h.dt k cs af;exact ⟨vs, ty, h1, h2.plain (hp.1 k cs af), id⟩
 ·obtain ⟨h1, h2, h3⟩ := h.rows i r hi;exact ⟨h1.plain (hp.2 i r hi).1 (hp.2 i r hi).2, h2, fun g ao => ⟨id, (h3 g ao).2⟩⟩
theorem eS.more {U : Nat → Prop} {ad : Nat → Nat} {W : World} {m : Mem} {R : aG} (h : eS th ad W m R) (hp : mX m R) (c8 : ∀ b, ea ad m R b → ¬ U b) : eS U ad W m R := by
 refine ⟨fun k cs af => ?_, h.fs, h.inj, fun i r hi => ?_, h.apart⟩
 ·obtain ⟨vs, ty, h1, h2, _⟩ := h.dt k cs af;exact ⟨vs, ty, h1, h2.plain (hp.1 k cs af), c8 _ (.inl ⟨k, cs, af, rfl⟩)⟩
 ·obtain ⟨h1, h2, h3⟩ := h.rows i r hi;exact ⟨h1.plain (hp.2 i r hi).1 (hp.2 i r hi).2, h2, fun g ao => ⟨c8 g (.inr ⟨i, r, hi, ao⟩), (h3 g ao).2⟩⟩
theorem eS.aba {U : Nat → Prop} {ad : Nat → Nat} {W : World} {m : Mem} {R : aG} (h : eS U ad W m R) {b : Nat} (ab : ea ad m R b) : ¬ U b := by
 rcases ab with ⟨k, cs, af, rfl⟩ | ⟨i, r, hi, ao⟩
 ·exact (h.dt k cs af).choose_spec.choose_spec.2.2
 ·exact ((h.rows i r hi).2.2 b ao).1
abbrev iS (p : Value) (S : eQ) : bz := ⟨0, 0, p, 0, [.p S]⟩
def xK (P : Program) (f : FuncId) (args : List ah) (p : Value) (S : eQ) (post : ah → eQ → Prop) : Prop := ∀ i, cY P f args bW (bw i (iS p S)) fun v aD aw => ∃ c7, aD = bW ∧ aw = bw i (iS p c7) ∧ post v c7
def Es (P : Program) (f : FuncId) (args : List ah) (post : Value → eQ → Prop) : Prop := ∀ i, cY P f args bW fO fun v aD aw => ∃ p S, aD = bW ∧ aw = bw i (iS p S) ∧ v = aM p ∧ post p S
theorem Qb {U : Nat → Prop} {ad : Nat → Nat} {W : World} {k off : Nat} {v : Value} (h : v = mY (ad k) off) : cR U ad W (.w (.one (.own k off))) v := by subst h; rfl
theorem jR.closed {U : Nat → Prop} {ad aY : Nat → Nat} {W : World} {args : List ah} {vs : List Value} (aj : args.all ah.aV = true) (h : jR U ad W args vs) : jR U aY W args vs :=
 ⟨h.1, fun i x v aa hv => (h.2 i x v aa hv).map (fun b ab _ => ⟨ab, rfl⟩) fun j ae => absurd ae (ah.dd (cb.1 aj x (c5 aa)) j)⟩
theorem CS {ad : Nat → Nat} {m : Mem} {R : aG} {k : Nat} {b : Nat} (h : (iS (dO (ad k)) (kS ad m R k)).own b) : ea ad m R b := OT h
theorem afI {P : Program} {f : FuncId} {args : List ah} {ad : Nat → Nat} {m : Mem} {R : aG} {k off : Nat} {Post : ah → Mem → aG → Prop} {Post2 : ah → Mem → aG → Prop} (af : ∃ cs, m k = some cs) (dW : args.all ah.aV = true) (aj : cY P f (.w (.one (.own k off)) :: args) m R Post) (i : Nat)
  (hp : ∀ r m1 bg eK n2 gX v, Post r m1 bg → eK k = ad k → eS n2 eK gX m1 bg → cR n2 eK gX r v → ∃ cT fo, Post2 cT bW fo ∧ cT.aV = true ∧ cR n2 eK gX cT v ∧ eS n2 eK gX bW fo ∧ (∃ q, fo i = some q) ∧ ∀ b, ea eK bW fo b → ea eK m1 bg b) : cY P f (aM (mY (ad k) off) :: args) bW (bw i (iS (dO (ad k)) (kS ad m R k))) Post2 := by
 refine ⟨fun U agi W vs cH cB cI => ?_⟩;have hi : bw i (iS (dO (ad k)) (kS ad m R k)) i = some (iS (dO (ad k)) (kS ad m R k)) := by unfold bw; exact cf _ _ _
 obtain ⟨c3, _, uG⟩ := cH.rows i _ hi;obtain ⟨aR, qq⟩ := abn c3
 have gf : ∀ b, ea agi bW (bw i (iS (dO (ad k)) (kS ad m R k))) b ↔ ea ad m R b := fun b => by
  constructor
  ·rintro (⟨j, cs, ae, _⟩ | ⟨j, q, ae, ao⟩)
   ·cases ae
   ·obtain ⟨rfl, rfl⟩ := fu ae; exact CS ao
  ·exact fun h => .inr ⟨i, _, hi, (OS aR qq).2 h⟩
 have c8 : ∀ b, ea ad m R b → ¬ U b := fun b ab => (uG b ((OS aR qq).2 ab)).1;obtain ⟨hlen, hv⟩ := cI
 match vs, hlen with
 | v0 :: vs, hlen =>
  have ol : v0 = mY (ad k) off := (hv 0 _ v0 rfl rfl).1;have yJ : jR U ad W args vs := jR.closed dW ⟨by simpa using hlen, fun j x v aa bP => hv (j + 1) x v aa bP⟩;refine (aj.call U ad W (v0 :: vs) (aR.more qq c8) (fun x aa j ae => ?_) ⟨hlen, fun j x v aa bP => ?_⟩).mono ?_
  ·rcases fQ.1 aa with rfl | aa
   ·obtain ⟨y, ai, ae⟩ := ae;simp [br.cells] at ai;subst ai;cases ae;exact af
   ·exact absurd ae (ah.dd (cb.1 dW x aa) j)
  ·match j with
   | 0 => cases aa; cases bP; exact Qb ol
   | j + 1 => exact yJ.2 j x v aa bP
  ·rintro e bb ⟨v, r, m1, bg, eK, n2, rfl, jx, BC, pv, iO, bd, bC, cr, cm, ab⟩;have je : eK k = ad k := by obtain ⟨cs, h⟩ := af; exact (bd k cs h).1
   obtain ⟨cT, fo, q1, q2, bE, c4, kP, HZ⟩ := hp r m1 bg eK n2 bb v jx je BC pv;refine ⟨v, cT, bW, fo, eK, n2, rfl, q1, c4, bE, fun j ae => absurd ae (ah.dd q2 j), fun k cs af => (by cases af), fun j q ae => ?_, fun b ab => ?_, fun b ab => ?_, ⟨ab.os, ab.tape, ab.output, ab.size, fun b ap => ab.block b ⟨ap.1, fun F7 => ap.2 ((gf b).2 F7)⟩⟩⟩
   ·obtain ⟨rfl, rfl⟩ := fu ae;exact kP
   ·rcases cr b ab with q | q | q
    ·exact .inl q
    ·exact .inr (.inl q)
    ·exact .inr (.inr ((gf b).2 q))
   ·rcases cm b (HZ b ab) with q | q
    ·exact .inl ((gf b).2 q)
    ·exact .inr q
theorem OU {U : Nat → Prop} {ad aY : Nat → Nat} {W : World} {m m1 : Mem} {R bg : aG} {k : Nat} (h : eS U ad W m R) (hm : ∀ k cs, m1 k = some cs → m k = some cs) (al : bt bg R) (fs : ∀ k cs x j, m1 k = some cs → x ∈ cs → x.owns j → ∃ aq, m1 j = some aq) (hp : mX m1 bg) :
  (iS (dO (ad k)) (kS ad m1 bg k)).ok U aY W ∧ (∀ y ∈ (iS (dO (ad k)) (kS ad m1 bg k)).aO, y.aV = true) ∧ ∀ g, (iS (dO (ad k)) (kS ad m1 bg k)).own g → ¬ U g ∧ ∀ j cs, bW j = some cs → aY j ≠ g :=
 ⟨abo ((h.sub hm al fs).none hp) hp, fun y ai => by simp at ai; subst ai; rfl, fun g ao => ⟨(h.sub hm al fs).aba (CS ao), fun j cs ae => (by cases ae)⟩⟩
theorem Rn {P : Program} {f : FuncId} {args : List ah} {ad : Nat → Nat} {m : Mem} {R : aG} {k off : Nat} {Post : ah → Mem → aG → Prop} {post : ah → eQ → Prop} (af : ∃ cs, m k = some cs) (dW : args.all ah.aV = true) (aj : cY P f (.w (.one (.own k off)) :: args) m R Post)
  (hp : ∀ v m1 bg, Post v m1 bg → v.aV = true ∧ mX m1 bg ∧ ∀ eK, eK k = ad k → post v (kS eK m1 bg k)) : xK P f (aM (mY (ad k) off) :: args) (dO (ad k)) (kS ad m R k) post := by
 intro i;refine afI af dW aj i fun r m1 bg eK n2 gX v jx je cH pv => ?_;obtain ⟨c1, c2, iH⟩ := hp _ _ _ jx;have ab := OU (aY := eK) (k := k) cH (fun _ _ h => h) (bt.refl _) cH.fs c2;refine ⟨r, bw i (iS (dO (ad k)) (kS eK m1 bg k)), ⟨_, rfl, rfl, iH eK je⟩, c1, pv, ⟨fun k cs af => (by cases af), fun k cs x j af => (by cases af), fun k k' cs aq af => (by cases af), fun j q ae => ?_, fun j ek q cd ae iM bX => ?_⟩, ⟨_, by unfold bw; exact cf _ _ _⟩, ?_⟩
 ·obtain ⟨rfl, rfl⟩ := fu ae;rw [← je]; exact ab
 ·obtain ⟨rfl, _⟩ := fu ae;obtain ⟨rfl, _⟩ := fu iM;exact absurd rfl bX
 ·rintro b (⟨j, cs, ae, _⟩ | ⟨j, q, ae, ao⟩)
  ·cases ae
  ·obtain ⟨rfl, rfl⟩ := fu ae;rw [← je] at ao;exact CS ao
theorem afH {P : Program} {f : FuncId} {args : List ah} {Post : ah → Mem → aG → Prop} {post : Value → eQ → Prop} (aj : cY P f args bW fO Post)
  (hp : ∀ v m1 bg, Post v m1 bg → ∃ k, v = .w (.one (.own k 0)) ∧ mX m1 bg ∧ ∀ eK, post (dO (eK k)) (kS eK m1 bg k)) : Es P f args post := by
 intro i;refine ⟨fun U ad W vs cH cB cI => (aj.call U ad W vs cH cB cI).mono ?_⟩;rintro e bb ⟨v, r, m1, bg, eK, n2, rfl, jx, BC, pv, iO, bd, bC, cr, cm, ab⟩;obtain ⟨k, rfl, c2, iH⟩ := hp _ _ _ jx;have Xe := OU (aY := eK) (k := k) BC (fun _ _ h => h) (bt.refl _) BC.fs c2;have hv : v = dO (eK k) := pv;refine ⟨v, aM (dO (eK k)), bW, bw i (iS (dO (eK k)) (kS eK m1 bg k)), eK, n2, rfl, ⟨_, _, rfl, rfl, rfl, iH eK⟩, ⟨fun k cs af => (by cases af), fun k cs x j af => (by cases af), fun k k' cs aq af => (by cases af), fun j q ae => ?_, fun j ek q cd ae iM bX => ?_⟩, ⟨hv, rfl⟩, fun j ae => absurd ae (iR _ j), fun k cs af => (by cases af), fun j q ae => (by cases ae), cr, fun b ab => ?_, ab⟩
 ·obtain ⟨rfl, rfl⟩ := fu ae;exact Xe
 ·obtain ⟨rfl, _⟩ := fu ae;obtain ⟨rfl, _⟩ := fu iM;exact absurd rfl bX
 ·rcases ab with ⟨j, cs, ae, _⟩ | ⟨j, q, ae, ao⟩
  ·cases ae
  ·obtain ⟨rfl, rfl⟩ := fu ae;exact cm b (CS ao)
section
variable {P : Program} {R : aG} {s : az} {ops : Array Oper} {dr : Option (List Nat)} {ty : Nat} {pos : String} {after : Array Edge} {guard : Option (Nat × Bool)} {K : aG → az → Prop} {rest : List Oper}
theorem yS (i : Nat) {dst : Option Nat} {f : FuncId} {g : Operand} {aL : Array TypeId} {l : List Operand} {args : List ah} {p : Value} {S : eQ} {post : ah → eQ → Prop} [E : Enters P f] (hw : want ops ⟨dst, .call ⟨.value g, l.toArray, aL⟩, ty, pos, after, guard⟩ s = some true) (hm : dL dr ⟨dst, .call ⟨.value g, l.toArray, aL⟩, ty, pos, after, guard⟩ = true)
  (ao : s.look g = some (aM (.func (.func f) #[] #[]))) (aH : l.map s.look = args.map some) (hp : xK P f args p S post) (hi : R i = some (iS p S)) (dW : args.all ah.aV = true) (hd : kC dst s.n = true)
  (h : ∀ v c7, post v c7 → ct P ops dr K rest (bA R i (iS p c7)) (s.put dst v)) : ct P ops dr K (⟨dst, .call ⟨.value g, l.toArray, aL⟩, ty, pos, after, guard⟩ :: rest) R s := by
 refine uL hw hm ao aH (hp i) (fun x aa j ae => absurd ae (ah.dd (cb.1 dW x aa) j)) (fun k' aq aJ => by cases aJ) (fun fi aT aJ => ?_) (fun k' aq x j aJ aa ae => by cases aJ) hd ?_
 ·obtain ⟨rfl, rfl⟩ := fu aJ; exact hi
 ·rintro v aD aw ⟨c7, rfl, rfl, ak⟩;refine ⟨fun k' c aJ => (by cases aJ), ?_⟩;rw [show bJ (bw i (iS p c7)) R = bA R i (iS p c7) from u3 R i _, tp];exact h v c7 ak
theorem MU (i : Nat) {dst : Option Nat} {f : FuncId} {g : Operand} {aL : Array TypeId} {l : List Operand} {args : List ah} {post : Value → eQ → Prop} [E : Enters P f] (hw : want ops ⟨dst, .call ⟨.value g, l.toArray, aL⟩, ty, pos, after, guard⟩ s = some true) (hm : dL dr ⟨dst, .call ⟨.value g, l.toArray, aL⟩, ty, pos, after, guard⟩ = true)
  (ao : s.look g = some (aM (.func (.func f) #[] #[]))) (aH : l.map s.look = args.map some) (hp : Es P f args post) (dW : args.all ah.aV = true) (hd : kC dst s.n = true)
  (h : ∀ p S, post p S → ct P ops dr K rest (bA R i (iS p S)) (s.put dst (aM p))) : ct P ops dr K (⟨dst, .call ⟨.value g, l.toArray, aL⟩, ty, pos, after, guard⟩ :: rest) R s := by
 refine uL hw hm ao aH (hp i) (fun x aa j ae => absurd ae (ah.dd (cb.1 dW x aa) j)) (fun k' aq aJ => by cases aJ) (fun fi aT aJ => by cases aJ) (fun k' aq x j aJ aa ae => by cases aJ) hd ?_;rintro v aD aw ⟨p, S, rfl, rfl, rfl, ak⟩;refine ⟨fun k' c aJ => (by cases aJ), ?_⟩;rw [show bJ (bw i (iS p S)) R = bA R i (iS p S) from u3 R i _, tp];exact h p S ak
end
section
variable {P : Program} {s : az} {ops : Array Oper} {K : az → Prop} {rest : List Oper} {ty : Nat} {pos : String} {after : Array Edge} {guard : Option (Nat × Bool)} {d : Nat}
theorem Ud {x : Operand} {b off : Nat} (hw : want ops ⟨some d, .nilCheck x, ty, pos, after, guard⟩ s = some true) (aa : s.look x = some (aM (mY b off))) (hd : Nat.blt d s.n = true) (h : a7 P ops K rest (s.put (some d) (aM (mY b off)))) : a7 P ops K (⟨some d, .nilCheck x, ty, pos, after, guard⟩ :: rest) s := by
 refine fF hw ⟨fun _ _ h => (by cases h), fun y ai => ?_, fun U ad W env he => ?_, fun j ae => absurd ae (iR _ j)⟩ hd h
 ·simp [Op.operands] at ai;subst ai;exact ⟨_, aa⟩
 ·have hv : env x = mY b off := (he x (by simp [Op.operands]) _ aa).1;exact ⟨_, by simp only [execOp, hv]; rfl, rfl, rfl⟩
theorem TQ {x : Operand} {pP i b off hU : Nat} [F : mA P pP i hU] (hw : want ops ⟨some d, .fieldAddr pP x i, ty, pos, after, guard⟩ s = some true) (aa : s.look x = some (aM (mY b off))) (hd : Nat.blt d s.n = true) (h : a7 P ops K rest (s.put (some d) (aM (mY b (off + hU))))) : a7 P ops K (⟨some d, .fieldAddr pP x i, ty, pos, after, guard⟩ :: rest) s := by
 refine fF (av := aM (mY b (off + hU))) hw ⟨fun _ _ h => (by cases h), fun y ai => ?_, fun U ad W env he => ?_, fun j ae => absurd ae (iR _ j)⟩ hd h
 ·simp [Op.operands] at ai;subst ai;exact ⟨_, aa⟩
 ·have hp : env x = .pointer (some ⟨b, off, none⟩) := (he x (by simp [Op.operands]) _ aa).1;have hF := F.h;unfold sM at hF
  split at hF
  ·rename_i bc hu;cases ap : bc[i]? with
   | none => rw [ap] at hF; cases hF
   | some f =>
    rw [ap] at hF;simp only [j2] at hF;cases hi : P.info? f.type with
    | none => rw [hi] at hF; cases hF
    | some t =>
     rw [hi] at hF;simp only [j2] at hF
     split at hF
     ·cases hF
     ·rename_i bX;cases hF;refine ⟨.pointer (some ⟨b, off + f.offset, none⟩), ?_, rfl, rfl⟩;have kj : (⟨b, off, none⟩ : Addr).add f.offset = ⟨b, off + f.offset, none⟩ := by unfold Addr.add; split <;> simp_all
      simp only [execOp, Instr.fieldAt, hp, Instr.sureAddr, Sem.run_bind, Sem.run_pure, Result.andThen_ok, run_underlying hu, ap, fieldPlace, ht hi, if_neg bX, kj]
  ·cases hF
theorem aez (n : Nat) {t e : TypeId} (hu : P.underlying t = some (.pointer e)) (a : Addr) (W : World) : (Op.equalIn (n + 1) t (.pointer (some a)) (.pointer none)).run P W = .ok false W := by
 simp [Op.equalIn, run_underlying hu]
theorem aeA {t e : TypeId} (hu : P.underlying t = some (.pointer e)) (a : Addr) (W : World) : (Op.equal t (.pointer (some a)) (.pointer none)).run P W = .ok false W := aez 9999 hu a W
theorem aey {t e : TypeId} (hu : P.underlying t = some (.pointer e)) (a : Addr) (W : World) : (binOp .eql t (.pointer (some a)) (.pointer none)).run P W = .ok (.bool false) W := by
 simp only [binOp];simp [aeA hu]
theorem WD {op : BinOp} {t : TypeId} {x y : Operand} {a : Option Addr} {v : Value} : eqGuard op t x y (.pointer a) v = pure () := by cases op <;> rfl
def Nh (P : Program) (t : TypeId) : Bool := match P.underlying t with
 | some (.pointer _) => true
 | _ => false
end
section
variable {P : Program} {s : az} {ops : Array Oper} {K : az → Prop} {rest : List Oper} {ty : Nat} {pos : String} {after : Array Edge} {guard : Option (Nat × Bool)} {d : Nat}
end
theorem eQ.same {A B : eQ} (h1 : A.holds = B.holds) (h2 : A.kE = B.kE) : A = B := by
 cases A; cases B; cases h1; cases h2; rfl
theorem AC.Qw {bx : Nat → Nat} (x : AC) : (x.aW bx).u6 = x.u6 := by cases x <;> rfl
theorem adr {bx bS ib : Nat → Nat} (fh : ∀ j, bx (bx j) = j) (fr : ∀ j, bS (ib j) = j) {m : Mem} {R : aG} : mX (m.aW bx) (R.aW bS) ↔ mX m R := by
 constructor
 ·rintro ⟨h1, h2⟩;refine ⟨fun k cs af => ?_, fun i r hi => h2 (ib i) r (by unfold aG.aW; rw [fr]; exact hi)⟩;have := h1 _ _ (Mem.qN fh af);rw [List.all_map] at this;rw [cb] at this ⊢;exact fun x aa => (AC.Qw x).symm.trans (this x aa)
 ·rintro ⟨h1, h2⟩;refine ⟨fun k cs af => ?_, fun i r hi => h2 (bS i) r hi⟩;obtain ⟨ds, hd, rfl⟩ := Mem.qO af;have := h1 _ _ hd;rw [List.all_map];rw [cb] at this ⊢;exact fun x aa => (AC.Qw x).trans (this x aa)
theorem afJ {bx bS ib : Nat → Nat} (fh : ∀ j, bx (bx j) = j) (fr : ∀ j, bS (ib j) = j) (uN : ∀ j, ib (bS j) = j) {ad : Nat → Nat} {m : Mem} {R : aG} {k : Nat} : kS ad (m.aW bx) (R.aW bS) (bx k) = kS (fun j => ad (bx j)) m R k := by
 refine eQ.same ?_ ?_
 ·funext w v;show (v = dO (ad (bx k)) ∧ eS th ad w (m.aW bx) (R.aW bS) ∧ mX (m.aW bx) (R.aW bS)) = (v = dO (ad (bx k)) ∧ eS th (fun j => ad (bx j)) w m R ∧ mX m R);rw [propext (adr fh fr), propext (eS.aW fh fr uN)]
 ·funext w v b;exact propext (ea.aW fh fr)
theorem eH {P : Program} {fn : Func} {l : List ResultVar} {xs : List br} {R R0 bg : aG} {s : az} {cs aq : List AC} {Post : ah → Mem → aG → Prop} (al : fn.results = l.toArray) (h : l.map (iy P s) = xs.map some) (af : s.mem 1000 = some aq) (ar : bt bg R) (aj : aq.all AC.aV = true) (aa : (packed xs).aV = true) (aA : ∀ i r, R0 i = some r → ∃ aT, bg i = some aT)
  (hp : Post (packed xs) (cE 1000 aq) bg) : sX P fn (cE 1000 cs) R0 Post R s := by
 refine ⟨xs, packed xs, cE 1000 aq, bg, by rw [al]; exact h, .refl _, hp, fun k c h => ?_, ar, fun j ae => absurd ae (ah.dd aa j), fun k c x j h aa ae => ?_, fun k c h => ?_, aA⟩
 ·obtain ⟨rfl, rfl⟩ := hj h; exact af
 ·obtain ⟨rfl, rfl⟩ := hj h; exact absurd ae (AC.dd (cb.1 aj x aa) j)
 ·obtain ⟨rfl, rfl⟩ := hj h; exact ⟨aq, by unfold cE; exact cf _ _ _⟩
theorem BR (k : Nat) {P : Program} {fn : Func} {l : List ResultVar} {xs : List br} {R bg : aG} {s : az} {aq : List AC} {Post : ah → Mem → aG → Prop} (al : fn.results = l.toArray) (h : l.map (iy P s) = xs.map some) (af : s.mem k = some aq) (ar : bt bg R) (aj : aq.all AC.aV = true) (aa : (packed xs).wV k = true)
  (hp : Post (packed xs) (cE k aq) bg) : sX P fn bW fO Post R s := by
 refine ⟨xs, packed xs, cE k aq, bg, by rw [al]; exact h, .refl _, hp, fun k c h => ?_, ar, fun j ae => ?_, fun k c x j h yW ae => ?_, fun k c h => (by cases h), fun i r h => (by cases h)⟩
 ·obtain ⟨rfl, rfl⟩ := hj h; exact af
 ·rw [ah.abF aa ae]; exact ⟨aq, by unfold cE; exact cf _ _ _⟩
 ·obtain ⟨rfl, rfl⟩ := hj h; exact absurd ae (AC.dd (cb.1 aj x yW) j)
section
variable {P : Program} {R : aG} {s : az} {ops : Array Oper} {dr : Option (List Nat)} {ty : Nat} {pos : String} {after : Array Edge} {guard : Option (Nat × Bool)} {K : aG → az → Prop} {rest : List Oper}
end
def oS (P : Program) (f : FuncId) (args : List ah) (post : ah → bz → Prop) : Prop :=
 ∀ i, cY P f args bW fO fun v aD aw => ∃ q, aD = bW ∧ aw = bw i q ∧ 0 < q.sz ∧ post v q
theorem Ey {P : Program} {f : FuncId} {args : List ah} {post : ah → bz → Prop} (aH : args.all ah.aV = true) (hp : ∀ v q, post v q → v.aV = true)
  (h : cY P f args bW fO fun v aD aw => ∃ q, aD = bW ∧ aw = bw 0 q ∧ 0 < q.sz ∧ post v q) : oS P f args post := by
 intro i;have h1 := h.aW (bx := fun j => j) (bS := swp 0 i) (ib := swp 0 i) (fun _ => rfl) (mv _ _) (mv _ _);rw [Qs aH, show Mem.aW (fun j => j) bW = bW from rfl, show aG.aW (swp 0 i) fO = fO from rfl] at h1;refine ⟨fun U ad W vs cH cB cI => (h1.call U ad W vs cH cB cI).mono ?_⟩;rintro e bb ⟨v1, b9, aD, aw, aY, cq, q0, ⟨cT, m2, fo, ⟨q, rfl, rfl, aI, ak⟩, rfl, rfl, rfl⟩, lM⟩;rw [show Mem.aW (fun j => j) bW = bW from rfl, zH, tE (hp _ _ ak)] at lM;exact ⟨v1, cT, bW, bw i q, aY, cq, q0, ⟨q, rfl, rfl, aI, ak⟩, lM⟩
theorem yu {P : Program} {fn : Func} {l : List ResultVar} {xs : List br} {R : aG} {s : az} {q : bz} {post : ah → bz → Prop} (al : fn.results = l.toArray) (h : l.map (iy P s) = xs.map some) (hi : R 0 = some q) (aa : (packed xs).aV = true) (yH : 0 < q.sz)
  (hp : post (packed xs) q) : sX P fn bW fO (fun v aD aw => ∃ q, aD = bW ∧ aw = bw 0 q ∧ 0 < q.sz ∧ post v q) R s := by
 refine ⟨xs, packed xs, bW, bw 0 q, by rw [al]; exact h, .refl _, ⟨q, rfl, rfl, yH, hp⟩, fun k c h => (by cases h), fun i r h => ?_, fun j ae => absurd ae (ah.dd aa j), fun k c x j h => (by cases h), fun k c h => (by cases h), fun i r h => (by cases h)⟩;obtain ⟨rfl, rfl⟩ := fu h; exact hi
section
variable {P : Program} {R : aG} {s : az} {ops : Array Oper} {dr : Option (List Nat)} {ty : Nat} {pos : String} {after : Array Edge} {guard : Option (Nat × Bool)} {K : aG → az → Prop} {rest : List Oper}
end
section
variable {P : Program} {U k0 : Nat → Prop} {ad : Nat → Nat} {w : World}
theorem bz.ok.Rm {r : bz} (h : r.ok U ad w) (hs : 0 < r.sz) (Ag : List AC) (ai : ∀ xs, bH U ad w r.aO xs → bH k0 ad w Ag xs) (aj : ∀ y ∈ Ag, y.aV = true) (c8 : ∀ b, r.own b → k0 b) : gd k0 ad w (.p (cl r.sz r.n Ag)) r.v := by
 obtain ⟨xs, ay, Ge⟩ := h.row hs;have hl := ai xs Ge;have nB := hl.1;obtain ⟨kI, au | ⟨g, cap, cur, km, ql, uA, eI, ju, ej, nF⟩⟩ := id ay
 ·obtain ⟨aF, aN⟩ := au;have : Ag = [] := j3 (by rw [nB, kI, aN]; simp);rw [aF];exact ⟨⟨none, 0, by rw [aN], by omega, by rw [this, aN]; simp, fun h => absurd h (by omega)⟩, fun b ⟨c', a', q, au, ab⟩ => by cases q⟩
 ·have sV := ay.cells (g := g) (by rw [km]; rfl);have X6 : r.own g := .inl (by rw [km]; rfl);rw [km];have qi : kv w ⟨g, 0, none⟩ Ag xs := ⟨(jH.1 uA).1, hl.vK aj fun b _ _ => ⟨trivial, rfl⟩, sV, aj⟩;refine ⟨⟨some ⟨g, 0, none⟩, cap, rfl, eI, by rw [nB]; exact kI, fun au => ⟨⟨g, 0, none⟩, xs, rfl, qi⟩⟩, ?_⟩;rintro b ⟨c', a', q, au, ap⟩;cases q;rcases ap with rfl | ⟨j, y, v, ai, hv, fW⟩
  ·exact c8 g X6
  ·have a8 : j < xs.length := by rw [← nB]; exact (bF.1 ai).1
   have h2 := sV j _ (bQ a8);rw [hv] at h2;cases h2;have h3 := hl.2 j y _ ai (bQ a8);cases y with
   | c u => cases fW
   | own k o => cases fW
   | p S => exact h3.2 b fW
def As (r : ah) : Prop := ∀ (U cq : Nat → Prop) (ad aY : Nat → Nat) (W bb : World) v, cR U ad W r v → cR cq aY bb r v
def tO (aO : List AC) : Prop := ∀ (U cq : Nat → Prop) (ad aY : Nat → Nat) (W bb : World) xs, bH U ad W aO xs → bH cq aY bb aO xs
theorem tO.of {aO : List AC} (h : ∀ y ∈ aO, ∃ v, y = .c v) : tO aO := fun U cq ad aY W bb xs aa => ⟨aa.1, fun i y v ai hv => by
 have h1 := aa.2 i y v ai hv;obtain ⟨u, rfl⟩ := h y (c5 ai);exact h1⟩
theorem As.one {v : Value} : As (aM v) := fun U cq ad aY W bb u h => h
theorem Xj {f : FuncId} {args q8 : List ah} {R0 : aG} {Post : ah → Mem → aG → Prop} (hp : cY P f q8 bW fO Post) (aj : q8.all ah.aV = true)
  (hv : ∀ U ad W vs, eS U ad W bW R0 → jR U ad W args vs → jR (fun b => U b ∨ ea ad bW R0 b) ad W q8 vs)
  (jx : ∀ r aD bg, Post r aD bg → aD = bW ∧ As r ∧ r.aV = true ∧ ∀ i q, bg i = some q → 0 < q.sz ∧ tO q.aO) :
  cY P f args bW R0 fun r aD aw => ∃ bg, Post r bW bg ∧ aD = bW ∧ aw = bJ bg R0 := by
 refine ⟨fun U ad W vs cH cB cI => ?_⟩;have WU : eS (fun b => U b ∨ ea ad bW R0 b) ad W bW fO := ⟨fun k cs af => (by cases af), fun k cs x j af => (by cases af), fun k k' cs aq af => (by cases af), fun i q hi => (by cases hi), fun i j q cd hi => (by cases hi)⟩;have a8 : ∀ i q g, R0 i = some q → q.own g → g < W.heap.size := fun i q g hi ao => (cH.rows i q hi).1.lt ao;refine (hp.call _ ad W vs WU (fun x aa j ae => absurd ae (ah.dd (cb.1 aj x aa) j)) (hv U ad W vs cH cI)).mono ?_;rintro e bb ⟨v, r, aD, bg, aY, cq, rfl, h1, h2, h3, aE, cZ, ff, js, pg, iJ⟩;obtain ⟨rfl, ap, nE, Ym⟩ := jx r aD bg h1
 have yT : ∀ b, b < W.heap.size → bb.heap[b]? = W.heap[b]? := fun b ab => iJ.block b ⟨ab, by
  rintro (⟨k, cs, af, _⟩ | ⟨i, q, hi, _⟩)
  ·cases af
  ·cases hi⟩
 have pr : ∀ i q g, bg i = some q → q.own g → W.heap.size ≤ g := fun i q g hi ao => (pg g (.inr ⟨i, q, hi, ao⟩)).elim (fun h => by
  rcases h with ⟨k, cs, af, _⟩ | ⟨i, q, hi, _⟩
  ·cases af
  ·cases hi) id
 refine ⟨v, r, bW, bJ bg R0, aY, fun b => U b ∧ b < W.heap.size, rfl, ⟨bg, h1, rfl, rfl⟩, ⟨fun k cs af => (by cases af), fun k cs x j af => (by cases af), fun k k' cs aq af => (by cases af), fun i q hi => ?_, fun i j q cd hi ae fg g ao dX => ?_⟩, ap _ _ _ _ _ _ v h3, fun j ae => absurd ae (ah.dd nE j), fun k cs af => (by cases af), fun i q hi => ?_, fun b ab => .inl ab.1, fun b ab => ?_, ⟨iJ.os, iJ.tape, iJ.output, iJ.size, fun b ab => yT b ab.1⟩⟩
 ·rcases jE hi with hi | ⟨_, hi⟩
  ·obtain ⟨q1, q2, bE⟩ := h2.rows i q hi;obtain ⟨gU, z2⟩ := Ym i q hi;obtain ⟨xs, ay, hl⟩ := q1.row gU;exact ⟨.inl ⟨gU, xs, ay, z2 _ _ _ _ _ _ xs hl⟩, q2, fun g ao => ⟨fun hu => by have := pr i q g hi ao; have := hu.2; omega, fun k cs af => by cases af⟩⟩
  ·obtain ⟨q1, q2, bE⟩ := cH.rows i q hi;exact ⟨q1.kept q2 (fun g ao => yT g (a8 i q g hi ao)) iJ.size fun b ab hl => ⟨⟨ab, hl⟩, yT b hl⟩, q2, fun g ao => ⟨fun hu => (bE g ao).1 hu.1, fun k cs af => by cases af⟩⟩
 ·rcases jE hi with hi | ⟨_, hi⟩ <;> rcases jE ae with ae | ⟨_, ae⟩
  ·exact h2.apart i j q cd hi ae fg g ao dX
  ·have := pr i q g hi ao; have := a8 j cd g ae dX; omega
  ·have := pr j cd g ae dX; have := a8 i q g hi ao; omega
  ·exact cH.apart i j q cd hi ae fg g ao dX
 ·cases ak : bg i with
  | some x => exact ⟨x, hk ak⟩
  | none => exact ⟨q, by rw [hn ak]; exact hi⟩
 ·rcases ab with ⟨k, cs, af, _⟩ | ⟨i, q, hi, ao⟩
  ·cases af
  ·rcases jE hi with hi | ⟨_, hi⟩
   ·exact .inr (pr i q b hi ao)
   ·exact .inl (.inr ⟨i, q, hi, ao⟩)
end
section
variable {P : Program} {R : aG} {s : az} {ops : Array Oper} {dr : Option (List Nat)} {ty : Nat} {pos : String} {after : Array Edge} {guard : Option (Nat × Bool)} {K : aG → az → Prop} {rest : List Oper}
theorem MO {dst : Option Nat} {f : FuncId} {g : Operand} {aL : Array TypeId} {l : List Operand} {args : List ah} {R0 : aG} {Post : ah → Mem → aG → Prop} [E : Enters P f] (hw : want ops ⟨dst, .call ⟨.value g, l.toArray, aL⟩, ty, pos, after, guard⟩ s = some true) (hm : dL dr ⟨dst, .call ⟨.value g, l.toArray, aL⟩, ty, pos, after, guard⟩ = true)
  (ao : s.look g = some (aM (.func (.func f) #[] #[]))) (aH : l.map s.look = args.map some) (hp : cY P f args bW R0 Post) (al : bt R0 R) (dW : args.all ah.aV = true) (hd : kC dst s.n = true)
  (h : ∀ r aD aw, Post r aD aw → aD = bW ∧ ct P ops dr K rest (bJ aw R) (s.put dst r)) : ct P ops dr K (⟨dst, .call ⟨.value g, l.toArray, aL⟩, ty, pos, after, guard⟩ :: rest) R s := by
 refine uL hw hm ao aH hp (fun x aa j ae => absurd ae (ah.dd (cb.1 dW x aa) j)) (fun k' aq aJ => by cases aJ) al (fun k' aq x j aJ aa ae => by cases aJ) hd ?_;rintro r aD aw ak;obtain ⟨rfl, aJ⟩ := h r aD aw ak;refine ⟨fun k' aq aJ => (by cases aJ), ?_⟩;have cW : s.over bW = s := rfl;rw [cW]; exact aJ
end
def iG (g e : Nat) (cs : List AC) : bz := ⟨e, cs.length, .slice (some ⟨g, 0, none⟩) 1 1, 1, cs⟩
theorem ug {g e : Nat} {cs : List AC} (aI : 0 < cs.length) {b : Nat} : (iG g e cs).own b ↔ b = g := by
 constructor
 ·intro h;have h := bz.oA h (by exact aI);have : (some g : Option Nat) = some b := h;exact (lP this).symm
 ·rintro rfl; exact .inl rfl
theorem Kf {U : Nat → Prop} {ad : Nat → Nat} {W : World} {g e : Nat} {cs : List AC} (aI : 0 < cs.length) : (iG g e cs).ok U ad W ↔ ∃ vs : List Value, W.heap[g]? = some (.cells vs.toArray e (0, 0)) ∧ bH U ad W cs vs := by
 constructor
 ·intro h;obtain ⟨xs, ⟨hl, aR⟩, al⟩ := h.row aI;rcases aR with ⟨aA, _⟩ | ⟨jb, cap, cur, hv, _, uA, _, _, aj, hg⟩
  ·cases aA
  ·cases hv;have aj : cur.size = 1 * cs.length := aj;have hg : cur.toList.take (1 * cs.length) = xs := hg;have aF : cur.toList = xs := by rw [← hg]; exact (hq (by rw [Array.length_toList]; omega)).symm
   refine ⟨xs, ?_, al⟩;rw [← aF, Array.toArray_toList];exact uA
 ·rintro ⟨vs, h1, h2⟩;have hl := h2.1;refine .inl ⟨aI, vs, ⟨by show vs.length = 1 * cs.length; omega, .inr ⟨g, 1, vs.toArray, rfl, dA _, h1, dl _, by unfold maxLen; decide, by show vs.length = 1 * cs.length; omega, ?_⟩⟩, h2⟩;show vs.take (1 * cs.length) = vs;exact hq (by omega)
theorem sT {ad : Nat → Nat} {k g e i : Nat} {cs : List AC} {R : aG} (aI : 0 < cs.length) (hi : R i = none) (af : ad k = g) {b : Nat} {aY : Nat → Nat} : ea ad (cE k cs) R b ↔ ea aY bW (bA R i (iG g e cs)) b := by
 constructor
 ·rintro (⟨k', aq, h1, h2⟩ | ⟨j, r, h1, h2⟩)
  ·obtain ⟨rfl, rfl⟩ := hj h1;exact .inr ⟨i, _, cf _ _ _, (ug aI).2 (h2.symm.trans af)⟩
  ·have : j ≠ i := fun e => by subst e; rw [hi] at h1; cases h1
   exact .inr ⟨j, r, by rw [b3 _ _ this]; exact h1, h2⟩
 ·rintro (⟨k', aq, h1, h2⟩ | ⟨j, r, h1, h2⟩)
  ·cases h1
  ·by_cases ij : j = i
   ·subst ij;rw [cf] at h1;cases h1;exact .inl ⟨k, cs, by unfold cE; exact cf _ _ _, af.trans ((ug aI).1 h2).symm⟩
   ·rw [b3 _ _ ij] at h1;exact .inr ⟨j, r, h1, h2⟩
theorem Mm {U : Nat → Prop} {ad aY : Nat → Nat} {W : World} {k g e i : Nat} {cs : List AC} {R : aG} (aI : 0 < cs.length) (aj : cs.all AC.aV = true) (hi : R i = none) (af : ad k = g) (h : eS U aY W bW (bA R i (iG g e cs))) : eS U ad W (cE k cs) R := by
 have bX : ∀ {j r}, R j = some r → j ≠ i := fun {j r} h1 e => by subst e; rw [hi] at h1; cases h1
 obtain ⟨h1, h2, h3⟩ := h.rows i _ (cf _ _ _);obtain ⟨vs, w1, w2⟩ := (Kf aI).1 h1;have cA := cb.1 aj;refine ⟨fun k' aq eD => ?_, fun k' aq x j eD aa ae => ?_, fun bd bC c1 c2 h1 h2 _ => ?_, fun j r ae => ?_, fun j ek r q ae iM B4 => ?_⟩
 ·obtain ⟨rfl, rfl⟩ := hj eD;exact ⟨vs, e, by rw [af]; exact w1, w2.map (fun b ab _ => ⟨ab, rfl⟩) fun j x aa ae => absurd ae (AC.dd (cA x aa) j), by rw [af]; exact (h3 g ((ug aI).2 rfl)).1⟩
 ·obtain ⟨rfl, rfl⟩ := hj eD;exact absurd ae (AC.dd (cA x aa) j)
 ·exact (hj h1).1.trans (hj h2).1.symm
 ·obtain ⟨q1, q2, bE⟩ := h.rows j r (by rw [b3 _ _ (bX ae)]; exact ae);refine ⟨q1.kept q2 (fun _ _ => rfl) (dl _) (fun b ab _ => ⟨ab, rfl⟩), q2, fun b ab => ⟨(bE b ab).1, fun k' aq eD e => ?_⟩⟩;obtain ⟨rfl, rfl⟩ := hj eD;exact h.apart i j _ r (cf _ _ _) (by rw [b3 _ _ (bX ae)]; exact ae) (Ne.symm (bX ae)) b ((ug aI).2 (e.symm.trans af)) ab
 ·exact h.apart j ek r q (by rw [b3 _ _ (bX ae)]; exact ae) (by rw [b3 _ _ (bX iM)]; exact iM) B4
theorem Ke {U : Nat → Prop} {ad aY : Nat → Nat} {W : World} {k i : Nat} {cs : List AC} {R : aG} (aI : 0 < cs.length) (aj : cs.all AC.aV = true) (hi : R i = none) (h : eS U ad W (cE k cs) R) : ∃ e, eS U aY W bW (bA R i (iG (ad k) e cs)) := by
 have bX : ∀ {j r}, R j = some r → j ≠ i := fun {j r} h1 e => by subst e; rw [hi] at h1; cases h1
 have oh : cE k cs k = some cs := by unfold cE; exact cf _ _ _
 obtain ⟨vs, e, w1, w2, w3⟩ := h.dt k cs oh;have cA := cb.1 aj
 have Dt : ∀ {j q}, bA R i (iG (ad k) e cs) j = some q → (j = i ∧ q = iG (ad k) e cs) ∨ (j ≠ i ∧ R j = some q) := fun {j q} ae => by
  by_cases ij : j = i
  ·subst ij; rw [cf] at ae; cases ae; exact .inl ⟨rfl, rfl⟩
  ·rw [b3 _ _ ij] at ae; exact .inr ⟨ij, ae⟩
 refine ⟨e, fun k' aq eD => (by cases eD), fun k' aq x j eD => (by cases eD), fun bd bC c1 c2 h1 => (by cases h1), fun j q ae => ?_, fun j ek q cd ae iM B4 b ab c0 => ?_⟩
 ·rcases Dt ae with ⟨rfl, rfl⟩ | ⟨_, wv⟩
  ·refine ⟨(Kf aI).2 ⟨vs, w1, w2.map (fun b ab _ => ⟨ab, rfl⟩) fun j x aa ae => absurd ae (AC.dd (cA x aa) j)⟩, cA, fun b ab => ⟨?_, fun k' aq eD => (by cases eD)⟩⟩;rw [(ug aI).1 ab]; exact w3
  ·obtain ⟨q1, q2, bE⟩ := h.rows j q wv;exact ⟨q1.kept q2 (fun _ _ => rfl) (dl _) (fun b ab _ => ⟨ab, rfl⟩), q2, fun b ab => ⟨(bE b ab).1, fun k' aq eD => (by cases eD)⟩⟩
 ·rcases Dt ae with ⟨rfl, rfl⟩ | ⟨_, wv⟩
  ·rcases Dt iM with ⟨rfl, rfl⟩ | ⟨_, Gb⟩
   ·exact B4 rfl
   ·rw [(ug aI).1 ab] at c0;exact ((h.rows ek cd Gb).2.2 _ c0).2 k cs oh rfl
  ·rcases Dt iM with ⟨rfl, rfl⟩ | ⟨_, Gb⟩
   ·rw [(ug aI).1 c0] at ab;exact ((h.rows j q wv).2.2 _ ab).2 k cs oh rfl
   ·exact h.apart j ek q cd wv Gb B4 b ab c0
theorem cY.afN {P : Program} {f : FuncId} {args : List ah} {k : Nat} {cs : List AC} {R0 : aG} {Post : ah → Mem → aG → Prop} (i : Nat) (g e : Nat) (h : cY P f (.w (.one (.own k 0)) :: args) (cE k cs) R0 Post) (dW : args.all ah.aV = true) (ej : cs.all AC.aV = true) (aI : 0 < cs.length) (hi : R0 i = none)
  (hp : ∀ v aD aw, Post v aD aw → v.aV = true ∧ aw i = none ∧ ∃ aq, aD = cE k aq ∧ aq.all AC.aV = true ∧ 0 < aq.length) :
  cY P f (aM (dO g) :: args) bW (bA R0 i (iG g e cs)) fun v aD aw => ∃ aq bg bm, Post v (cE k aq) bg ∧ aD = bW ∧ aw = bA bg i (iG g bm aq) := by
 refine ⟨fun U ad W vs cH cB cI => ?_⟩
 let eK : Nat → Nat := fun j => if j = k then g else ad j
 have qo : eK k = g := if_pos rfl;have D4 := Mm (ad := eK) aI ej hi qo cH;obtain ⟨hlen, hv⟩ := cI
 match vs, hlen with
 | v0 :: vs, hlen =>
  have ol : v0 = dO g := (hv 0 _ v0 rfl rfl).1;have yJ : jR U eK W args vs := jR.closed dW ⟨by simpa using hlen, fun j x v aa bP => hv (j + 1) x v aa bP⟩;refine (h.call U eK W (v0 :: vs) D4 (fun x aa j ae => ?_) ⟨by simpa using hlen, fun j x v aa bP => ?_⟩).mono ?_
  ·rcases fQ.1 aa with rfl | aa
   ·obtain ⟨y, ai, ae⟩ := ae;simp [br.cells] at ai;subst ai;cases ae;exact ⟨cs, by unfold cE; exact cf _ _ _⟩
   ·exact absurd ae (ah.dd (cb.1 dW x aa) j)
  ·match j with
   | 0 => cases aa; cases bP; exact Qb (off := 0) (ol.trans (by rw [qo]))
   | j + 1 => exact yJ.2 j x v aa bP
  ·rintro cW bb ⟨v, r, aD, aw, aY, cq, rfl, jx, l7, pv, iO, bd, bC, cr, cm, ab⟩;obtain ⟨c1, au, aq, rfl, c2, iH⟩ := hp _ _ _ jx;have eD : aY k = g := (bd k cs (by unfold cE; exact cf _ _ _)).1.trans qo;obtain ⟨bm, Au⟩ := Ke (aY := aY) iH c2 au l7;rw [eD] at Au;refine ⟨v, r, bW, bA aw i (iG g bm aq), aY, cq, rfl, ⟨aq, aw, bm, jx, rfl, rfl⟩, Au, pv, fun j ae => absurd ae (ah.dd c1 j), fun fX gr aA => (by cases aA), fun j gn ae => ?_, fun b c0 => ?_, fun b c0 => ?_, ⟨ab.os, ab.tape, ab.output, ab.size, fun b ap => ab.block b ⟨ap.1, fun aR => ap.2 ((sT aI hi qo).1 aR)⟩⟩⟩
   ·by_cases ij : j = i
    ·subst ij; exact ⟨_, cf _ _ _⟩
    ·rw [b3 _ _ ij] at ae;obtain ⟨q, ak⟩ := bC j gn ae;exact ⟨q, by rw [b3 _ _ ij]; exact ak⟩
   ·rcases cr b c0 with q | q | q
    ·exact .inl q
    ·exact .inr (.inl q)
    ·exact .inr (.inr ((sT aI hi qo).1 q))
   ·rcases cm b ((sT iH au eD).2 c0) with q | q
    ·exact .inl ((sT aI hi qo).1 q)
    ·exact .inr q
theorem cY.afM {P : Program} {f : FuncId} {args : List ah} {k : Nat} {cs : List AC} {R0 : aG} {Post : ah → Mem → aG → Prop} (i : Nat) (h : ∀ g e, cY P f (aM (dO g) :: args) bW (bA R0 i (iG g e cs)) fun v aD aw => ∃ aq bg bm, Post v (cE k aq) bg ∧ aD = bW ∧ aw = bA bg i (iG g bm aq))
  (dW : args.all ah.aV = true) (ej : cs.all AC.aV = true) (aI : 0 < cs.length) (hi : R0 i = none) (hp : ∀ v aq aw, Post v (cE k aq) aw → v.aV = true ∧ aw i = none ∧ aq.all AC.aV = true ∧ 0 < aq.length) :
  cY P f (.w (.one (.own k 0)) :: args) (cE k cs) R0 Post := by
 refine ⟨fun U ad W vs cH cB cI => ?_⟩;obtain ⟨e, D4⟩ := Ke (aY := ad) aI ej hi cH;obtain ⟨hlen, hv⟩ := cI
 match vs, hlen with
 | v0 :: vs, hlen =>
  have ol : v0 = dO (ad k) := hv 0 _ v0 rfl rfl;have yJ : jR U ad W args vs := jR.closed dW ⟨by simpa using hlen, fun j x v aa bP => hv (j + 1) x v aa bP⟩;refine ((h (ad k) e).call U ad W (v0 :: vs) D4 (fun x aa j ae => ?_) ⟨by simpa using hlen, fun j x v aa bP => ?_⟩).mono ?_
  ·rcases fQ.1 aa with rfl | aa
   ·exact absurd ae (iR _ j)
   ·exact absurd ae (ah.dd (cb.1 dW x aa) j)
  ·match j with
   | 0 => cases aa; cases bP; exact ⟨ol, by rfl⟩
   | j + 1 => exact yJ.2 j x v aa bP
  ·rintro cW bb ⟨v, r, aD, aw, aY, cq, rfl, ⟨aq, bg, bm, jx, rfl, rfl⟩, l7, pv, iO, bd, bC, cr, cm, ab⟩;obtain ⟨c1, au, c2, iH⟩ := hp _ _ _ jx
   let Ai : Nat → Nat := fun j => if j = k then ad k else aY j
   have BV : Ai k = ad k := if_pos rfl;have Au := Mm (ad := Ai) iH c2 au BV l7;refine ⟨v, r, cE k aq, bg, Ai, cq, rfl, jx, Au, ?_, fun j ae => absurd ae (ah.dd c1 j), fun fX gr aA => ?_, fun j gn ae => ?_, fun b c0 => ?_, fun b c0 => ?_, ⟨ab.os, ab.tape, ab.output, ab.size, fun b ap => ab.block b ⟨ap.1, fun aR => ap.2 ((sT aI hi rfl).2 aR)⟩⟩⟩
   ·exact pv.map (fun b ab _ => ⟨ab, rfl⟩) fun j ae => absurd ae (ah.dd c1 j)
   ·obtain ⟨rfl, rfl⟩ := hj aA;exact ⟨BV, aq, by unfold cE; exact cf _ _ _⟩
   ·have iM : j ≠ i := fun e => by subst e; rw [hi] at ae; cases ae
    obtain ⟨q, ak⟩ := bC j gn (by rw [b3 _ _ iM]; exact ae);rw [b3 _ _ iM] at ak;exact ⟨q, ak⟩
   ·rcases cr b c0 with q | q | q
    ·exact .inl q
    ·exact .inr (.inl q)
    ·exact .inr (.inr ((sT aI hi rfl).2 q))
   ·rcases cm b ((sT iH au BV).1 c0) with q | q
    ·exact .inl ((sT aI hi rfl).2 q)
    ·exact .inr q
abbrev nV (V : List an) (D : List Int) : ah := .w (.agg [.p (cl 2 V.length (bL V)), .p (cl 1 D.length (cu D))])
abbrev uS (V : List an) (D : List Int) : List AC := [.p (cl 2 V.length (bL V)), .p (cl 1 D.length (cu D))]
abbrev A7 (b : Bool) : AC := .p (Eg [.c (.bool (!b))])
abbrev vk (l d : Bool) : ah := .w (.one (.p (oT (.func 137) [A7 l, A7 d])))
theorem abJ {a1 a2 b1 b2 : Int} : aC ag 101 [aP a1 a2, aP b1 b2] (vk (decide (b1 < a1)) (decide (b2 < a2))) := by
 have aF : decide (b1 ≥ a1) = !decide (b1 < a1) := by by_cases h : b1 < a1 <;> simp [h] <;> omega
 have aN : decide (b2 ≥ a2) = !decide (b2 < a2) := by by_cases h : b2 < a2 <;> simp [h] <;> omega
 refine adh (f := 101) Tryz.func101 rfl rfl rfl rfl ?_;refine J8 (EK ?_);(refine fl ?_);refine J8 (EK ?_);(refine fl ?_);refine J7 5 _ rfl rfl ?_;refine J7 6 _ rfl rfl ?_;refine EK ?_;(repeat first | refine ec ?_ | refine T4 (xs := [_, _]) (cs := [_, _]) rfl rfl rfl rfl ?_)
 ((refine ba rfl (a6 rfl aK) ?_))
 exact ah.aQ.of_eq (by rw [aF, aN]; rfl)
theorem ack {x y z w : Int} {l d r : Bool} (al : xP x y z w l d = r) : aC ag 137 [aP x y, aP z w, .w (.one (A7 l)), .w (.one (A7 d))] (bf r) := by
 have cs : (¬ x = z ∧ z < x ∧ r = l) ∨ (¬ x = z ∧ ¬ z < x ∧ r = !l) ∨ (x = z ∧ ¬ y = w ∧ w < y ∧ r = d) ∨ (x = z ∧ ¬ y = w ∧ ¬ w < y ∧ r = !d) ∨ (x = z ∧ y = w ∧ r = false) := by
  rw [← al]; unfold xP
  by_cases h1 : x < z <;> by_cases h2 : z < x <;> by_cases h3 : y < w <;> by_cases aE : w < y <;> simp [h1, h2, h3, aE] <;> omega
 clear al;rcases cs with ⟨h1, h2, rfl⟩ | ⟨h1, h2, rfl⟩ | ⟨h1, h3, h2, rfl⟩ | ⟨h1, h3, h2, rfl⟩ | ⟨h1, h3, rfl⟩
 all_goals
  refine bi (f := 137) Tryz.func137 rfl rfl rfl rfl ?_;(repeat first | refine ec ?_ | (with_reducible apply TH); (iterate 4 rfl); kernel_rfl | (with_reducible apply cc (c := true)); rfl; rfl; ((simp only [mE]; (omega))) | (with_reducible apply cc (c := false)); rfl; rfl; ((simp only [mE]; (omega))))
  ((refine ba rfl (a6 rfl aK) ?_))
  first
  | exact ah.aQ.refl _
  | exact ah.aQ.of_eq (by rw [cC (show ¬ x < z by omega), Bool.false_beq, Bool.not_not]; rfl)
  | exact ah.aQ.of_eq (by rw [ck (show x < z by omega), Bool.true_beq]; rfl)
  | exact ah.aQ.of_eq (by rw [cC (show ¬ y < w by omega), Bool.false_beq, Bool.not_not]; rfl)
  | exact ah.aQ.of_eq (by rw [ck (show y < w by omega), Bool.true_beq]; rfl)
section
variable {P : Program} {s : az} {ops : Array Oper} {K : az → Prop} {rest : List Oper} {ty : Nat} {pos : String} {after : Array Edge} {guard : Option (Nat × Bool)} {d : Nat}
theorem Ui {cV dK : Nat} {x y : Operand} {a b : Int} (hw : want ops ⟨some d, .binOp .quo cV x y dK, ty, pos, after, guard⟩ s = some true) (aa : s.look x = some (aM (.int .i64 a))) (ai : s.look y = some (aM (.int .i64 b))) (aA : 0 ≤ a) (h1 : 0 < b) (h2 : a ≤ 9223372036854775807) (hd : Nat.blt d s.n = true) (h : a7 P ops K rest (s.put (some d) (aM (.int .i64 (a / b))))) : a7 P ops K (⟨some d, .binOp .quo cV x y dK, ty, pos, after, guard⟩ :: rest) s := by
 refine p8 hw aa ai (fun W => ?_) rfl hd h;have ab : b ≠ 0 := by omega
 have e : a.tdiv b = a / b := Int.tdiv_eq_ediv_of_nonneg aA
 have aN : IntKind.i64.wrap (a / b) = a / b := la (by
  have := nc aA (show 0 ≤ b by omega);have := Int.ediv_le_self b aA;omega)
 simp [binOp, Op.intDiv, ab, e, aN]
end
theorem Nn : bL [] = [] := rfl
theorem Np (p : Int × Int) (l : List (Int × Int)) : ((bL (p :: l)).drop ((1 : Int).toNat * 2)).take (l.length * 2) = bL l := by
 show ((bL (p :: l)).drop 2).take (l.length * 2) = bL l;rw [← nI];simp [bL]
theorem GV (p : Int × Int) (l : List (Int × Int)) : bL l ++ [.c (.int .i64 p.1), .c (.int .i64 p.2)] = bL (l ++ [p]) := by rw [rO]; rfl
theorem Zd (l : List (Int × Int)) (k : Nat) : ((bL l).drop (0 * 2)).take ((l.take k).length * 2) = bL (l.take k) := by
 have e : bL l = bL (l.take k) ++ bL (l.drop k) := by rw [← rO, jG]
 rw [e, Nat.zero_mul, List.drop_zero, ← nI];simp
theorem Zc (l : List (Int × Int)) (k : Nat) (af : k ≤ l.length) : ((bL l).drop (k * 2)).take ((l.drop k).length * 2) = bL (l.drop k) := by
 have e : bL l = bL (l.take k) ++ bL (l.drop k) := by rw [← rO, jG]
 have aN : k * 2 = (bL (l.take k)).length := by rw [nI, dS, oJ af]
 rw [e, aN, List.drop_left, ← nI, List.take_length]
abbrev iw (v : Value) (l : List (Int × Int)) : bz := ⟨36, 2, v, l.length, bL l⟩
instance ahR : l0 ag 27 36 2 16 := ⟨by kernel_rfl⟩
def SJ (M : List (Int × Int)) (lt : Int × Int → Int × Int → Bool) (Cw : ah) (K : Nat) (m : Nat) (R : aG) (aL : List (Nat × ah)) (bj : List (Nat × List AC)) : Prop :=
 ∃ (a b out : List (Int × Int)) (v : Value), m = a.length + b.length ∧ out ++ eL lt a b = M ∧ out.length + m = K ∧ R = bw 0 (iw v out) ∧ aL = [(0, gT a), (1, gT b), (2, Cw), (7, aM v)] ∧ bj = []
theorem HL {fx fy : Bool} {a b : List (Int × Int)} (aH : a.length ≤ 100000) (ab : b.length ≤ 100000) :
  aC ag 136 [gT a, gT b, vk fx fy] (gT (eL (dy fx fy) a b)) := by
 refine bi (f := 136) Tryz.func136 rfl rfl rfl rfl ?_;refine rb ?_;(refine aZ ?_);refine yO (l := 0) (c' := a.length + b.length) 0 rfl rfl rfl rfl (dA _) rfl rfl ?h2 (kL (by omega)) rfl (fun v hv => ?_)
 case h2 => omega
 (refine aZ ?_);refine j7 52 (SJ (eL (dy fx fy) a b) (dy fx fy) (vk fx fy) (a.length + b.length)) (a.length + b.length) (bw 0 (iw v [])) _ _ ⟨a, b, [], v, rfl, rfl, jj _, rfl, rfl, rfl⟩ (ms _ _ _) rfl ⟨rfl, rfl, rfl, rfl, trivial⟩ trivial rfl ?_;rintro m R aL bj ⟨a', bK, out, v, rfl, fV, e6, rfl, rfl, rfl⟩ c3;clear c3 hv
 by_cases H0 : 0 < a'.length
 ·by_cases H2 : 0 < bK.length
  ·have Qj : (a'.length : Int) > 0 := by omega
   have adG : (bK.length : Int) > 0 := by omega
   obtain ⟨⟨x, n⟩, a2, rfl⟩ := List.exists_cons_of_length_pos H0;obtain ⟨⟨y, m⟩, b2, rfl⟩ := List.exists_cons_of_length_pos H2;have kW : ((bL ((x, n) :: a2)).drop ((0 : Int).toNat * 2)).take 2 = [.c (.int .i64 x), .c (.int .i64 n)] := qt (j := 0) (i := 0) rfl rfl;have xo : ((bL ((y, m) :: b2)).drop ((0 : Int).toNat * 2)).take 2 = [.c (.int .i64 y), .c (.int .i64 m)] := qt (j := 0) (i := 0) rfl rfl;have aU := ack (x := y) (y := m) (z := x) (w := n) (l := fx) (d := fy) rfl;rw [show xP y m x n fx fy = dy fx fy (y, m) (x, n) from rfl] at aU;cases a8 : dy fx fy (y, m) (x, n) with
   | true =>
    rw [a8] at aU;have aF : ((y, m) :: b2).length - (1 : Int).toNat = b2.length := rfl;have aN := Np (y, m) b2
    have FK : (out ++ [(y, m)]) ++ eL (dy fx fy) ((x, n) :: a2) b2 = eL (dy fx fy) a b := by
     rw [← fV, eL, if_pos a8, gQ]; rfl
    have Gf : (out ++ [(y, m)]).length = out.length + 1 := cx;have mM : ((y, m) :: b2).length = b2.length + 1 := rfl;have XV : ((x, n) :: a2).length = a2.length + 1 := rfl;(repeat first | (with_reducible apply dj (id := 3) [0,1,2,3,4,5,6,7]); kernel_rfl; kernel_rfl; rfl | (with_reducible apply dj (id := 4) [0,1,2,3,6,7,4,5,8,9]); kernel_rfl; kernel_rfl; rfl | refine cF ?_ | (with_reducible apply hX); rfl; (repeat first | refine iB ?_ | refine gF ?_ | (with_reducible apply cc (c := true)); rfl; rfl; (exact ck (by omega))); (with_reducible apply gY));refine qs 0 rfl rfl rfl rfl ?q1 ?q2 rfl rfl (fun v' bP => ?_)
    case q1 => exact kL (by show out.length + 1 ≤ 1000000; omega)
    case q2 => show (out.length + 1) * 16 ≤ 140737488355328; omega
    (refine aZ ?_)
    have b5 : iw v' (out ++ [(y, m)]) = ⟨36, 2, v', out.length + 1, bL out ++ [.c (.int .i64 y), .c (.int .i64 m)]⟩ := by
     unfold iw; rw [← GV, cx]; rfl
    refine ⟨_, bw 0 (iw v' (out ++ [(y, m)])), _, _, ?_, ⟨(x, n) :: a2, b2, out ++ [(y, m)], v', rfl, FK, ?_, rfl, rfl, rfl⟩, by rw [b5]; exact ms _ _ _, rfl, ⟨rfl, rfl, rfl, rfl, trivial⟩, trivial, rfl⟩
    ·omega
    ·omega
   | false =>
    rw [a8] at aU;have aF : ((x, n) :: a2).length - (1 : Int).toNat = a2.length := rfl;have aN := Np (x, n) a2
    have FK : (out ++ [(x, n)]) ++ eL (dy fx fy) a2 ((y, m) :: b2) = eL (dy fx fy) a b := by
     rw [← fV, eL, if_neg (by rw [a8]; decide), gQ]; rfl
    have Gf : (out ++ [(x, n)]).length = out.length + 1 := cx;have mM : ((y, m) :: b2).length = b2.length + 1 := rfl;have XV : ((x, n) :: a2).length = a2.length + 1 := rfl;(repeat first | (with_reducible apply dj (id := 3) [0,1,2,3,4,5,6,7]); kernel_rfl; kernel_rfl; rfl | (with_reducible apply dj (id := 5) [0,1,2,3,6,7,4,5,8,9]); kernel_rfl; kernel_rfl; rfl | refine cF ?_ | (with_reducible apply hX); rfl; (repeat first | refine iB ?_ | refine gF ?_ | (with_reducible apply cc (c := true)); rfl; rfl; (exact ck (by omega))); (with_reducible apply gY));refine qs 0 rfl rfl rfl rfl ?q1 ?q2 rfl rfl (fun v' bP => ?_)
    case q1 => exact kL (by show out.length + 1 ≤ 1000000; omega)
    case q2 => show (out.length + 1) * 16 ≤ 140737488355328; omega
    (refine aZ ?_)
    have b5 : iw v' (out ++ [(x, n)]) = ⟨36, 2, v', out.length + 1, bL out ++ [.c (.int .i64 x), .c (.int .i64 n)]⟩ := by
     unfold iw; rw [← GV, cx]; rfl
    refine ⟨_, bw 0 (iw v' (out ++ [(x, n)])), _, _, ?_, ⟨a2, (y, m) :: b2, out ++ [(x, n)], v', rfl, FK, ?_, rfl, rfl, rfl⟩, by rw [b5]; exact ms _ _ _, rfl, ⟨rfl, rfl, rfl, rfl, trivial⟩, trivial, rfl⟩
    ·omega
    ·omega
  ·have Qj : (a'.length : Int) > 0 := by omega
   have adG : ¬ (bK.length : Int) > 0 := by omega
   have Mh : bK = [] := List.length_eq_zero_iff.1 (by omega);have aI : (a'.length : Int) = a'.length := rfl;(repeat first | refine cF ?_ | (with_reducible apply hX); rfl; (repeat first | refine iB ?_ | (with_reducible apply cc (c := true)); rfl; rfl; (exact ck (by omega))); (with_reducible apply gY));refine qs 0 rfl rfl rfl rfl ?q1 ?q2 (uR _) rfl (fun v' bP => ?_)
   case q1 => exact kL (by show out.length + a'.length ≤ 1000000; omega)
   case q2 => show (out.length + a'.length) * 16 ≤ 140737488355328; omega
   (refine aZ ?_);refine MM (k := (eL (dy fx fy) a b).length) (zs := bL (eL (dy fx fy) a b)) 0 rfl rfl rfl rfl ?p1 ?p2 ?p3 ?p4 (uR _) rfl ?_
   case p1 => exact kL (by show (out.length + a'.length) + bK.length ≤ 1000000; omega)
   case p2 => show ((out.length + a'.length) + bK.length) * 16 ≤ 140737488355328; omega
   case p3 => show (out.length + a'.length) + bK.length = (eL (dy fx fy) a b).length; rw [Ho]; omega
   case p4 => show (bL out ++ bL a') ++ bL bK = bL (eL (dy fx fy) a b); rw [← fV, Mh, Hp, ← rO, Nn, mn]
   (refine aZ ?_)
   ((refine ba rfl (a6 rfl aK) ?_))
   exact ah.aQ.refl _
 ·have Qj : ¬ (a'.length : Int) > 0 := by omega
  have W7 : a' = [] := List.length_eq_zero_iff.1 (by omega);(repeat first | refine cF ?_ | (with_reducible apply hX); rfl; (repeat first | refine iB ?_ | (with_reducible apply cc (c := false)); rfl; rfl; (exact cC (by omega))); (with_reducible apply gY));refine qs 0 rfl rfl rfl rfl ?q1 ?q2 (uR _) rfl (fun v' bP => ?_)
  case q1 => exact kL (by show out.length + a'.length ≤ 1000000; omega)
  case q2 => show (out.length + a'.length) * 16 ≤ 140737488355328; omega
  (refine aZ ?_);refine MM (k := (eL (dy fx fy) a b).length) (zs := bL (eL (dy fx fy) a b)) 0 rfl rfl rfl rfl ?p1 ?p2 ?p3 ?p4 (uR _) rfl ?_
  case p1 => exact kL (by show (out.length + a'.length) + bK.length ≤ 1000000; omega)
  case p2 => show ((out.length + a'.length) + bK.length) * 16 ≤ 140737488355328; omega
  case p3 => show (out.length + a'.length) + bK.length = (eL (dy fx fy) a b).length; rw [Ho]; omega
  case p4 => show (bL out ++ bL a') ++ bL bK = bL (eL (dy fx fy) a b); rw [← fV, W7, aaD, Nn, mn, ← rO]
  (refine aZ ?_)
  ((refine ba rfl (a6 rfl aK) ?_))
  exact ah.aQ.refl _
theorem acg {fx fy : Bool} :
  ∀ (N : Nat) (l : List (Int × Int)), l.length ≤ N → N ≤ 100000 → aC ag 100 [gT l, vk fx fy] (gT (iz (dy fx fy) l)) := by
 intro N
 induction N with
 | zero =>
  intro l h1 h2;have ni := HL (fx := fx) (fy := fy) (a := l) (b := []) (by omega) (by simp);rw [Hp] at ni
  have aU : aC ag 136 [gT l, IG, vk fx fy] (gT l) := PP ni rfl rfl (by
   intro i x y aa ai
   match i with
   | 0 => cases aa; cases ai; exact .refl _
   | 1 => cases aa; cases ai; exact nil_le 2
   | 2 => cases aa; cases ai; exact .refl _
   | i + 3 => simp at aa)
  have q1 : (l.length : Int) < 2 := by omega
  have e : iz (dy fx fy) l = l := by rw [iz, dif_pos (by omega)]
  rw [e];clear ni;refine bi (f := 100) Tryz.func100 rfl rfl rfl rfl ?_;(refine bZ ?_)
  ((refine ba rfl (a6 rfl aK) ?_))
  exact ah.aQ.refl _
 | succ N bO =>
  intro l h1 h2
  by_cases q : l.length < 2
  ·have ni := HL (fx := fx) (fy := fy) (a := l) (b := []) (by omega) (by simp);rw [Hp] at ni
   have aU : aC ag 136 [gT l, IG, vk fx fy] (gT l) := PP ni rfl rfl (by
    intro i x y aa ai
    match i with
    | 0 => cases aa; cases ai; exact .refl _
    | 1 => cases aa; cases ai; exact nil_le 2
    | 2 => cases aa; cases ai; exact .refl _
    | i + 3 => simp at aa)
   have q1 : (l.length : Int) < 2 := by omega
   have e : iz (dy fx fy) l = l := by rw [iz, dif_pos (by omega)]
   rw [e];clear ni bO;refine bi (f := 100) Tryz.func100 rfl rfl rfl rfl ?_;(refine bZ ?_)
   ((refine ba rfl (a6 rfl aK) ?_))
   exact ah.aQ.refl _
  ·have q1 : ¬ (l.length : Int) < 2 := by omega
   have e : iz (dy fx fy) l = eL (dy fx fy) (iz (dy fx fy) (l.take (l.length / 2))) (iz (dy fx fy) (l.drop (l.length / 2))) := by rw [iz, dif_neg q]
   have aU := bO (l.take (l.length / 2)) (by simp; omega) (by omega);have bD := bO (l.drop (l.length / 2)) (by simp; omega) (by omega);have l1 := DC (dy fx fy) _ (l.take (l.length / 2)) (dl _);have l2 := DC (dy fx fy) _ (l.drop (l.length / 2)) (dl _);have eg := HL (fx := fx) (fy := fy) (a := iz (dy fx fy) (l.take (l.length / 2))) (b := iz (dy fx fy) (l.drop (l.length / 2))) (by rw [l1]; simp; omega) (by rw [l2]; simp; omega);have aR : ((l.length : Int) / 2).toNat = l.length / 2 := by omega
   have aF : ((l.length : Int) / 2).toNat - 0 = (l.take (l.length / 2)).length := by rw [aR]; simp; omega
   have aN := Zd l (l.length / 2);have b5 : ((l.length : Int)).toNat - ((l.length : Int) / 2).toNat = (l.drop (l.length / 2)).length := by rw [aR]; simp
   have eB := Zc l (l.length / 2) (by omega);have lx : ((bL l).drop (((l.length : Int) / 2).toNat * 2)).take ((l.drop (l.length / 2)).length * 2) = bL (l.drop (l.length / 2)) := by rw [aR]; exact eB
   rw [e];clear bO l1 l2 e eB aR;refine bi (f := 100) Tryz.func100 rfl rfl rfl rfl ?_;(repeat first | (with_reducible apply AR); rfl | (with_reducible apply JL); (iterate 3 rfl) | (with_reducible apply EF); (iterate 4 rfl); (omega); (omega); (omega); (assumption); (assumption); rfl | (with_reducible apply EG); (iterate 5 rfl); (omega); (omega); (omega); (omega); (assumption); (assumption); rfl | (with_reducible apply Ui); (iterate 3 rfl); omega; omega; omega; rfl | refine EB rfl rfl rfl rfl (by (first | exact aU | exact bD)) rfl ?_ | refine EC rfl rfl rfl rfl rfl (by (exact eg)) rfl ?_ | (with_reducible apply JM); kernel_rfl | (with_reducible apply J3); kernel_rfl; kernel_rfl; rfl | (with_reducible first | apply J5 | apply JU | apply J2 | apply gY | apply J4 | apply J6) | (with_reducible apply JX); rfl; (exact cC (by omega)))
   ((refine ba rfl (a6 rfl aK) ?_))
   exact ah.aQ.refl _
section
variable {P : Program} {bo : eP} {s : az} {ops : Array Oper} {dr : Option (List Nat)} {ty d : Nat} {pos : String} {after : Array Edge} {guard : Option (Nat × Bool)} {K : az → Prop} {rest : List Oper}
theorem EE {tt z n l lo hi : Nat} {v u : Value} {x y : Operand} [S : hQ P tt z] (hw : want ops ⟨some d, .slice tt x (some y) none none, ty, pos, after, guard⟩ s = some true) (aa : s.look x = some (aM u)) (ai : s.look y = some (aB (l : Int))) (hu : iE v z lo hi u) (hm : hi - lo = n) (h1 : l ≤ n) (hd : Nat.blt d s.n = true) (h : a7 P ops K rest (s.put (some d) (aM (gD u z l n)))) : a7 P ops K (⟨some d, .slice tt x (some y) none none, ty, pos, after, guard⟩ :: rest) s := by
 subst hm;obtain ⟨⟨A, c, rfl⟩, _⟩ := hu;refine fF (av := aM (gD (.slice A (hi - lo) c) z l (hi - lo))) hw ⟨fun _ _ h => (by cases h), fun q ak => ?_, fun U ad W env he => ?_, fun j ae => absurd ae (iR _ j)⟩ hd h
 ·simp [Op.operands] at ak;rcases ak with rfl | rfl
  ·exact ⟨_, aa⟩
  ·exact ⟨_, ai⟩
 ·have ex : env x = .slice A (hi - lo) c := (he x (by simp [Op.operands]) _ aa).1;have kg : env y = .int .i64 (l : Int) := (he y (by simp [Op.operands]) _ ai).1;obtain ⟨bm, fi, hu, cP, hs⟩ := mu S.h;have eU : P.underlying tt = some (.slice (P.elem tt)) := by rw [kf hu]; exact hu
  refine ⟨gD (.slice A (hi - lo) c) z l (hi - lo), ?_, rfl, rfl⟩;simp only [execOp, ex, gC, r4, kg, Sem.run_bind, run_sliceAt_slice W tt _ _ _ _ eU, run_slice_l W tt A (hi - lo) c eU .i64 l (by omega) (by omega), kf hu, ht cP, Result.andThen_ok, hs, Sem.run_pure, ks, gD]
theorem Uj {tt z n l lo hi : Nat} {v u : Value} {x y : Operand} [S : hQ P tt z] (hw : want ops ⟨some d, .slice tt x none (some y) none, ty, pos, after, guard⟩ s = some true) (aa : s.look x = some (aM u)) (ai : s.look y = some (aB (l : Int))) (hu : iE v z lo hi u) (hm : hi - lo = n) (h1 : l ≤ n) (hd : Nat.blt d s.n = true) (h : a7 P ops K rest (s.put (some d) (aM (gD u z 0 l)))) : a7 P ops K (⟨some d, .slice tt x none (some y) none, ty, pos, after, guard⟩ :: rest) s := by
 subst hm;obtain ⟨⟨A, c, rfl⟩, aj⟩ := hu
 have Gg : l ≤ c := by
  rcases vb l with e | e
  ·omega
  ·have aR := aj (show lo < hi by omega);obtain ⟨g, n', c', g1, g2, g3⟩ := aR;have eB : c = c' - lo := by injection g3
   clear g1 g3 aj;omega
 refine fF (av := aM (gD (.slice A (hi - lo) c) z 0 l)) hw ⟨fun _ _ h => (by cases h), fun q ak => ?_, fun U ad W env he => ?_, fun j ae => absurd ae (iR _ j)⟩ hd h
 ·simp [Op.operands] at ak;rcases ak with rfl | rfl
  ·exact ⟨_, aa⟩
  ·exact ⟨_, ai⟩
 ·have ex : env x = .slice A (hi - lo) c := (he x (by simp [Op.operands]) _ aa).1;have kg : env y = .int .i64 (l : Int) := (he y (by simp [Op.operands]) _ ai).1;obtain ⟨bm, fi, hu, cP, hs⟩ := mu S.h;have eU : P.underlying tt = some (.slice (P.elem tt)) := by rw [kf hu]; exact hu
  refine ⟨gD (.slice A (hi - lo) c) z 0 l, ?_, rfl, rfl⟩;simp only [execOp, ex, gC, r4, kg, Sem.run_bind, run_sliceAt_slice W tt _ _ _ _ eU, run_slice_h W tt A (hi - lo) c eU .i64 l (by omega) (by omega), kf hu, ht cP, Result.andThen_ok, hs, Sem.run_pure, ks, gD]
end
theorem Iu {A C Jq : List AC} {n : Nat} (h : A.length = n) : eu (A ++ Jq) n C = (A ++ C) ++ Jq.drop C.length := by
 subst h;unfold eu;rw [List.take_left, List.drop_append, tA (by omega), List.nil_append, Nat.add_sub_cancel_left]
theorem Nq {l : List an} {n : Nat} (h : l.length = n) : (bL l).take (n * 2) = bL l := hq (by rw [nI]; omega)
theorem M9 {l : List Int} {n : Nat} (h : l.length = n) : (cu l).take (n * 1) = cu l := hq (by simp [cu]; omega)
theorem M8 (l : List Int) : (cu l).all AC.aV = true := cb.2 fun y ai => by
 obtain ⟨x, _, rfl⟩ := h9.1 ai;rfl
theorem Ce (l : List Int) : (cu l).length = l.length * 1 := by simp [cu]
abbrev Dp (LL : List (List an)) : List AC := LL.map fun l => AC.p (cl 2 l.length (bL l))
abbrev DN (LL : List (List an)) : ah := cz 1 LL.length (Dp LL)
theorem QM {LL : List (List an)} {j : Int} {i : Nat} {l : List an} (ae : j = i) (h : LL[i]? = some l) : ((Dp LL).drop (j.toNat * 1)).take 1 = [.p (cl 2 l.length (bL l))] := by
 subst ae;have hi := (bF.1 h).1;rw [ks, Nat.mul_one, ml (by simpa [Dp] using hi)];have : LL[i] = l := (bF.1 h).2;simp [Dp, this]
def hK (LL : List (List an)) (i : Nat) : List an := (LL.take i).flatten
theorem P7 {LL : List (List an)} {i : Nat} {l : List an} (h : LL[i]? = some l) : hK LL (i + 1) = hK LL i ++ l := by
 unfold hK;rw [nO (bF.1 h).1, (bF.1 h).2]; simp
theorem P5 {LL : List (List an)} {i : Nat} (h : LL.length ≤ i) : hK LL i = LL.flatten := by unfold hK; rw [hq h]
theorem P6 (LL : List (List an)) (i : Nat) : (hK LL i).length ≤ LL.flatten.length := by
 have : LL.flatten = hK LL i ++ (LL.drop i).flatten := by unfold hK; rw [← List.flatten_append, jG]
 rw [this, cx]; omega
def Sz (LL : List (List an)) (n : Nat) (R : aG) (aL : List (Nat × ah)) (bj : List (Nat × List AC)) : Prop :=
 ∃ (i : Nat) (ii lH : Int), i ≤ LL.length ∧ n = LL.length - i ∧ ii = i ∧ lH = ((hK LL i).length : Nat) ∧ R = fO ∧ bj = [] ∧ aL = [(0, DN LL), (3, aB lH), (10, DN LL), (11, aB LL.length), (12, aB ii)]
def SA (LL : List (List an)) (N : Nat) (v : Value) (fe : List AC) (n : Nat) (R : aG) (aL : List (Nat × ah)) (bj : List (Nat × List AC)) : Prop :=
 ∃ (i : Nat) (ii : Int) (u : Value), i ≤ LL.length ∧ n = LL.length - i ∧ ii = i ∧ iE v 2 (hK LL i).length N u ∧ R = bw 0 ⟨36, 2, v, N, bL (hK LL i) ++ fe.drop ((hK LL i).length * 2)⟩ ∧ bj = [] ∧ aL = [(6, aM v), (7, aM u), (24, DN LL), (25, aB LL.length), (26, aB ii)]
theorem Pu {LL : List (List an)} (iK : LL.length ≤ 1100) (eC : LL.flatten.length ≤ 100000) : aC ag 106 [DN LL] (gT LL.flatten) := by
 refine bi (f := 106) Tryz.func106 rfl rfl rfl rfl ?_;refine rb ?_;(refine aZ ?_);refine j7 37 (Sz LL) LL.length fO _ [] ⟨0, 0, 0, dA _, rfl, rfl, rfl, rfl, rfl, rfl⟩ (bt.refl _) rfl ⟨rfl, rfl, rfl, rfl, rfl, trivial⟩ trivial rfl ?_;rintro n R aL bj ⟨i, ii, lH, hi, rfl, hc, yC, rfl, rfl, rfl⟩ c3;clear c3
 by_cases ak : i < LL.length
 ·have q2 : ii < (LL.length : Int) := by omega
  have bE : 0 ≤ ii := by omega
  obtain ⟨l, g1⟩ : ∃ l, LL[i]? = some l := ⟨_, bQ ak⟩;have kW := QM hc g1;have h1 := P7 g1;have h2 := P6 LL (i + 1);have h3 : (hK LL (i + 1)).length = (hK LL i).length + l.length := by rw [h1, cx]
  (refine aZ ?_);exact ⟨LL.length - (i + 1), fO, _, [], by omega, ⟨i + 1, ii + 1, _, by omega, rfl, by omega, by omega, rfl, rfl, rfl⟩, bt.refl _, rfl, ⟨rfl, rfl, rfl, rfl, rfl, trivial⟩, trivial, rfl⟩
 ·have q2 : ¬ ii < (LL.length : Int) := by omega
  rw [P5 (by omega)] at yC;subst yC;generalize yh : LL.flatten.length = N at *;(refine aZ ?_);refine yO (l := N) (c' := N) 0 rfl rfl rfl rfl (dl _) rfl rfl ?h2 (kL (by omega)) rfl (fun v hv => ?_)
  case h2 => show 16 * N ≤ 281474976710656; omega
  generalize dD : hA N 2 _ = fe;have BG : fe.length = N * 2 := by rw [← dD]; simp [hA]
  clear dD;(refine aZ ?_);refine Ii 0 (r := ⟨36, 2, v, N, fe⟩) rfl (fun eO c hZ eI ju dR hlen => ?_);have lD : v = .slice eO N c := hZ;have rH : iE v 2 0 N v := by rw [lD]; exact iE.all 2 eI dR
  clear hZ eI ju dR hlen;refine j7 37 (SA LL N v fe) LL.length (bw 0 ⟨36, 2, v, N, fe⟩) _ [] ⟨0, 0, v, dA _, rfl, rfl, rH, rfl, rfl, rfl⟩ (ms _ _ _) rfl ⟨rfl, rfl, rfl, rfl, rfl, trivial⟩ trivial rfl ?_;clear ak q2 rH hc lD;rintro n R aL bj ⟨i, ii, u, hi, rfl, hc, hu, rfl, rfl, rfl⟩ c3;clear c3
  by_cases ak : i < LL.length
  ·have q2 : ii < (LL.length : Int) := by omega
   have bE : 0 ≤ ii := by omega
   obtain ⟨l, g1⟩ : ∃ l, LL[i]? = some l := ⟨_, bQ ak⟩;have kW := QM hc g1;have h1 := P7 g1;have h2 := P6 LL (i + 1);have h3 : (hK LL (i + 1)).length = (hK LL i).length + l.length := by rw [h1, cx]
   rw [yh] at h2;have c1 := uR l;have bd : Nat.min l.length (N - (hK LL i).length) = l.length := oJ (by omega);obtain ⟨m, hm⟩ : ∃ m, N - (hK LL i).length = m := ⟨_, rfl⟩;have b1 : (hK LL i).length ≤ N := by omega
   have b2 : l.length ≤ m := by omega
   have s1 : eu (bL (hK LL i) ++ fe.drop ((hK LL i).length * 2)) ((hK LL i).length * 2) ((bL l).take (l.length * 2)) = bL (hK LL (i + 1)) ++ fe.drop ((hK LL (i + 1)).length * 2) := by
    rw [Nq rfl, Iu (nI _), ← rO, ← h1, pL, nI];congr 2;omega
   have eU := hu.sl hm b2 b1;rw [← h3] at eU;(repeat first | refine cF ?_ | (with_reducible apply hX); rfl; (repeat first | refine iB ?_ | (with_reducible apply EE); (iterate 3 rfl); assumption; (assumption); (assumption); rfl); (with_reducible apply gY) | (with_reducible apply MN 0); (iterate 3 rfl); assumption; rfl; rfl; rfl; (assumption); (exact dl _); (assumption); rfl; assumption; assumption; rfl);exact ⟨LL.length - (i + 1), _, _, [], by omega, ⟨i + 1, ii + 1, _, by omega, rfl, by omega, eU, rfl, rfl, rfl⟩, ms _ _ _, rfl, ⟨rfl, rfl, rfl, rfl, rfl, trivial⟩, trivial, rfl⟩
  ·have q2 : ¬ ii < (LL.length : Int) := by omega
   have cW : bL (hK LL i) ++ fe.drop ((hK LL i).length * 2) = bL LL.flatten := by
    rw [P5 (by omega), tA (by omega), mn]
   rw [cW];refine zN 0 6 ⟨36, 2, v, N, bL LL.flatten⟩ rfl rfl ?_;rw [← yh];(refine aZ ?_)
   ((refine ba rfl (a6 rfl aK) ?_))
   exact ah.aQ.refl _
abbrev Dq (LL : List (List Int)) : List AC := LL.map fun l => AC.p (cl 1 l.length (cu l))
abbrev DL (LL : List (List Int)) : ah := cz 1 LL.length (Dq LL)
theorem QN {LL : List (List Int)} {j : Int} {i : Nat} {l : List Int} (ae : j = i) (h : LL[i]? = some l) : ((Dq LL).drop (j.toNat * 1)).take 1 = [.p (cl 1 l.length (cu l))] := by
 subst ae;have hi := (bF.1 h).1;rw [ks, Nat.mul_one, ml (by simpa [Dq] using hi)];have : LL[i] = l := (bF.1 h).2;simp [Dq, this]
def hJ (LL : List (List Int)) (i : Nat) : List Int := (LL.take i).flatten
theorem P4 {LL : List (List Int)} {i : Nat} {l : List Int} (h : LL[i]? = some l) : hJ LL (i + 1) = hJ LL i ++ l := by
 unfold hJ;rw [nO (bF.1 h).1, (bF.1 h).2]; simp
theorem P2 {LL : List (List Int)} {i : Nat} (h : LL.length ≤ i) : hJ LL i = LL.flatten := by unfold hJ; rw [hq h]
theorem P3 (LL : List (List Int)) (i : Nat) : (hJ LL i).length ≤ LL.flatten.length := by
 have : LL.flatten = hJ LL i ++ (LL.drop i).flatten := by unfold hJ; rw [← List.flatten_append, jG]
 rw [this, cx]; omega
def Sx (LL : List (List Int)) (n : Nat) (R : aG) (aL : List (Nat × ah)) (bj : List (Nat × List AC)) : Prop :=
 ∃ (i : Nat) (ii lH : Int), i ≤ LL.length ∧ n = LL.length - i ∧ ii = i ∧ lH = ((hJ LL i).length : Nat) ∧ R = fO ∧ bj = [] ∧ aL = [(0, DL LL), (3, aB lH), (10, DL LL), (11, aB LL.length), (12, aB ii)]
def Sy (LL : List (List Int)) (N : Nat) (v : Value) (fe : List AC) (n : Nat) (R : aG) (aL : List (Nat × ah)) (bj : List (Nat × List AC)) : Prop :=
 ∃ (i : Nat) (ii : Int) (u : Value), i ≤ LL.length ∧ n = LL.length - i ∧ ii = i ∧ iE v 1 (hJ LL i).length N u ∧ R = bw 0 ⟨3, 1, v, N, cu (hJ LL i) ++ fe.drop ((hJ LL i).length * 1)⟩ ∧ bj = [] ∧ aL = [(6, aM v), (7, aM u), (24, DL LL), (25, aB LL.length), (26, aB ii)]
theorem Pt {LL : List (List Int)} (iK : LL.length ≤ 1100) (eC : LL.flatten.length ≤ 100000) : aC ag 107 [DL LL] (mw LL.flatten) := by
 refine bi (f := 107) Tryz.func107 rfl rfl rfl rfl ?_;refine rb ?_;(refine aZ ?_);refine j7 37 (Sx LL) LL.length fO _ [] ⟨0, 0, 0, dA _, rfl, rfl, rfl, rfl, rfl, rfl⟩ (bt.refl _) rfl ⟨rfl, rfl, rfl, rfl, rfl, trivial⟩ trivial rfl ?_;rintro n R aL bj ⟨i, ii, lH, hi, rfl, hc, yC, rfl, rfl, rfl⟩ c3;clear c3
 by_cases ak : i < LL.length
 ·have q2 : ii < (LL.length : Int) := by omega
  have bE : 0 ≤ ii := by omega
  obtain ⟨l, g1⟩ : ∃ l, LL[i]? = some l := ⟨_, bQ ak⟩;have kW := QN hc g1;have h1 := P4 g1;have h2 := P3 LL (i + 1);have h3 : (hJ LL (i + 1)).length = (hJ LL i).length + l.length := by rw [h1, cx]
  (refine aZ ?_);exact ⟨LL.length - (i + 1), fO, _, [], by omega, ⟨i + 1, ii + 1, _, by omega, rfl, by omega, by omega, rfl, rfl, rfl⟩, bt.refl _, rfl, ⟨rfl, rfl, rfl, rfl, rfl, trivial⟩, trivial, rfl⟩
 ·have q2 : ¬ ii < (LL.length : Int) := by omega
  rw [P2 (by omega)] at yC;subst yC;generalize yh : LL.flatten.length = N at *;(refine aZ ?_);refine yO (l := N) (c' := N) 0 rfl rfl rfl rfl (dl _) rfl rfl ?h2 (kL (by omega)) rfl (fun v hv => ?_)
  case h2 => show 8 * N ≤ 281474976710656; omega
  generalize dD : hA N 1 _ = fe;have BG : fe.length = N * 1 := by rw [← dD]; simp [hA]
  clear dD;(refine aZ ?_);refine Ii 0 (r := ⟨3, 1, v, N, fe⟩) rfl (fun eO c hZ eI ju dR hlen => ?_);have lD : v = .slice eO N c := hZ;have rH : iE v 1 0 N v := by rw [lD]; exact iE.all 1 eI dR
  clear hZ eI ju dR hlen;refine j7 37 (Sy LL N v fe) LL.length (bw 0 ⟨3, 1, v, N, fe⟩) _ [] ⟨0, 0, v, dA _, rfl, rfl, rH, rfl, rfl, rfl⟩ (ms _ _ _) rfl ⟨rfl, rfl, rfl, rfl, rfl, trivial⟩ trivial rfl ?_;clear ak q2 rH hc lD;rintro n R aL bj ⟨i, ii, u, hi, rfl, hc, hu, rfl, rfl, rfl⟩ c3;clear c3
  by_cases ak : i < LL.length
  ·have q2 : ii < (LL.length : Int) := by omega
   have bE : 0 ≤ ii := by omega
   obtain ⟨l, g1⟩ : ∃ l, LL[i]? = some l := ⟨_, bQ ak⟩;have kW := QN hc g1;have h1 := P4 g1;have h2 := P3 LL (i + 1);have h3 : (hJ LL (i + 1)).length = (hJ LL i).length + l.length := by rw [h1, cx]
   rw [yh] at h2;have c1 := M8 l;have bd : Nat.min l.length (N - (hJ LL i).length) = l.length := oJ (by omega);obtain ⟨m, hm⟩ : ∃ m, N - (hJ LL i).length = m := ⟨_, rfl⟩;have b1 : (hJ LL i).length ≤ N := by omega
   have b2 : l.length ≤ m := by omega
   have s1 : eu (cu (hJ LL i) ++ fe.drop ((hJ LL i).length * 1)) ((hJ LL i).length * 1) ((cu l).take (l.length * 1)) = cu (hJ LL (i + 1)) ++ fe.drop ((hJ LL (i + 1)).length * 1) := by
    rw [M9 rfl, Iu (Ce _), ← Cc, ← h1, pL, Ce];congr 2;omega
   have eU := hu.sl hm b2 b1;rw [← h3] at eU;(repeat first | refine cF ?_ | (with_reducible apply hX); rfl; (repeat first | refine iB ?_ | (with_reducible apply EE); (iterate 3 rfl); assumption; (assumption); (assumption); rfl); (with_reducible apply gY) | (with_reducible apply MN 0); (iterate 3 rfl); assumption; rfl; rfl; rfl; (assumption); (exact dl _); (assumption); rfl; assumption; assumption; rfl);exact ⟨LL.length - (i + 1), _, _, [], by omega, ⟨i + 1, ii + 1, _, by omega, rfl, by omega, eU, rfl, rfl, rfl⟩, ms _ _ _, rfl, ⟨rfl, rfl, rfl, rfl, rfl, trivial⟩, trivial, rfl⟩
  ·have q2 : ¬ ii < (LL.length : Int) := by omega
   have cW : cu (hJ LL i) ++ fe.drop ((hJ LL i).length * 1) = cu LL.flatten := by
    rw [P2 (by omega), tA (by omega), mn]
   rw [cW];refine zN 0 6 ⟨3, 1, v, N, cu LL.flatten⟩ rfl rfl ?_;rw [← yh];(refine aZ ?_)
   ((refine ba rfl (a6 rfl aK) ?_))
   exact ah.aQ.refl _
end Go.Proofs.YtbcecodakfejaaaGreat
