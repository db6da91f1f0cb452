/-
  My own texts, without what this claim does not need. My own text.
-/
import Derived.Lib.SliceRun
import Derived.Laws.BytesArg
import Derived.Test.YtpochbhajmbfdaaGreatSRunsK8
set_option maxRecDepth 100000
set_option maxHeartbeats 64000000
set_option linter.unusedVariables false
set_option linter.unusedSimpArgs false
set_option linter.unusedSectionVars false
open Go.Proofs.Tryz renaming prog → aj
namespace Go.Proofs.YtpochbhajmbfdaaGreat.bF
abbrev cc := an × an
def lQ (r : Nat) (p : an) : an := (cJ p.1 r, cJ p.2 r)
abbrev mF : cc := ((0, 0), (0, 0))
def hx (a b : cc) : fP := iv a.1.1 a.1.2 a.2.1 a.2.2 b.1.1 b.1.2 b.2.1 b.2.2
def tE (a b : cc) : Bool := Gt (hx a b) a.1.1 a.1.2 a.2.1 a.2.2 b.1.1 b.1.2 b.2.1 b.2.2
def iN (r : Nat) (M : fP) : an := (gx (2 ^ r) M.n M.d, gx (2 ^ r) M.m M.e)
def yH (r : Nat) (p : an) : an := (2 ^ r * p.1, 2 ^ r * p.2)
def gB (r : Nat) (l : an × an) : cc := (yH r l.1, yH r l.2)
def MV (r : Nat) (p q x : an) : Bool := q9 (2 ^ r * p.1) (2 ^ r * p.2) (2 ^ r * q.1) (2 ^ r * q.2) r x
def fW (p q : an) (l : List an) : List an := rC (decide (q.1 < p.1)) (decide (q.2 < p.2)) (fun _ => true) l
def r9 (r : Nat) (l m : an × an) : Option an := if (hx (gB r l) (gB r m)).k = 1 ∧ tE (gB r l) (gB r m) = false then some (iN r (hx (gB r l) (gB r m))) else none
def Au (r : Nat) (a b : cc) : Option an := if (hx a b).k = 1 then some (iN r (hx a b)) else none
def rf (E : List cc) (r R : Nat) : c4 an where
 C7 := MV r
 gP := fW
 cut := r9 r
 n := E.length
 P i := lQ r (E.getD i mF).1
 Q i := lQ r (E.getD i mF).2
 uE i j := Au r (E.getD i mF) (E.getD j mF)
 R := R
 ho x := e3 r x.1 x.2 = true
def gN (p : an) : Bool := decide (-134217728 ≤ p.1) && decide (p.1 < 134217728) && decide (-134217728 ≤ p.2) && decide (p.2 < 134217728)
def h6 (E : List cc) : Bool := E.all fun e => gN e.1 && gN e.2
theorem sL {p : an} : gN p = true ↔ ((-134217728 ≤ p.1 ∧ p.1 < 134217728) ∧ -134217728 ≤ p.2 ∧ p.2 < 134217728) := by
 unfold gN; simp only [eo, c0]; omega
theorem ra {E : List cc} (h : h6 E = true) (i : Nat) : gN (E.getD i mF).1 = true ∧ gN (E.getD i mF).2 = true := by
 rw [List.getD_eq_getElem?_getD];cases he : E[i]? with
 | none => exact ⟨by decide, by decide⟩
 | some e =>
  have := cC.1 h e (dJ he);exact Bool.and_eq_true_iff.1 this
theorem CR (v : Int) (r : Nat) : cJ v r = gx (2 ^ r) v 1 := by
 unfold cJ gx; rw [Int.mul_one]
theorem Qk {S X W u3 bq : Int} (hS : 0 < S) (fg : 0 < W) (ze : 0 < bq) (h : X * bq ≤ u3 * W) : gx S X W ≤ gx S u3 bq := by
 obtain ⟨a1, a2⟩ := Er hS fg X;obtain ⟨b1, b2⟩ := Er hS ze u3;generalize gx S X W = g at *;generalize gx S u3 bq = jx at *;refine Int.not_lt.1 fun bj => ?_;have h1 : S * (jx + 1) ≤ S * g := rp bj (by omega);rw [Int.mul_add, Int.mul_one] at h1;generalize S * g = G at *;generalize S * jx = wA at *;have c1 : (2 * wA + S) * W ≤ (2 * G - S) * W := qg (by omega) (by omega);have c2 : (2 * wA + S) * W ≤ 2 * X := by omega
 have k6 : (2 * wA + S) * W * bq ≤ 2 * X * bq := qg c2 (by omega);have F9 : 2 * u3 * W < (2 * wA + S) * bq * W := Int.mul_lt_mul_of_pos_right b2 fg;have aG : (2 * wA + S) * W * bq = (2 * wA + S) * bq * W := by rw [lU, ka W, ← lU]
 have aO : 2 * X * bq = 2 * (X * bq) := lU ..;have cz : 2 * u3 * W = 2 * (u3 * W) := lU ..;omega
theorem A9 {m lo hi x : Int} (h1 : wi m lo = true) (h2 : wi m hi = true) (aq : lo ≤ x) (aK : x ≤ hi) : wi m x = true := by
 unfold wi at *; simp only [eo, c0] at *; omega
theorem WB {r : Nat} (ap : r ≤ 28) : wi (134217728 / 2 ^ r) (cJ (-134217728) r) = true ∧ wi (134217728 / 2 ^ r) (cJ 134217727 r) = true := by
 have : r = 0 ∨ r = 1 ∨ r = 2 ∨ r = 3 ∨ r = 4 ∨ r = 5 ∨ r = 6 ∨ r = 7 ∨ r = 8 ∨ r = 9 ∨ r = 10 ∨ r = 11 ∨ r = 12 ∨ r = 13 ∨ r = 14 ∨ r = 15 ∨ r = 16 ∨ r = 17 ∨ r = 18 ∨ r = 19 ∨ r = 20 ∨ r = 21 ∨ r = 22 ∨ r = 23 ∨ r = 24 ∨ r = 25 ∨ r = 26 ∨ r = 27 ∨ r = 28 := by omega
 rcases this with rfl | rfl | rfl | rfl | rfl | rfl | rfl | rfl | rfl | rfl | rfl | rfl | rfl | rfl | rfl | rfl | rfl | rfl | rfl | rfl | rfl | rfl | rfl | rfl | rfl | rfl | rfl | rfl | rfl <;> exact ⟨by decide, by decide⟩
theorem Es {r : Nat} (ap : r ≤ 28) {X W : Int} (fg : 0 < W) (h1 : -134217728 * W ≤ X) (h2 : X ≤ 134217727 * W) : wi (134217728 / 2 ^ r) (gx (2 ^ r) X W) = true := by
 have hS : (0 : Int) < 2 ^ r := kb (by decide);have g := WB ap;rw [CR, CR] at g;exact A9 g.1 g.2 (Qk hS (by decide) fg (by omega)) (Qk hS fg (by decide) (by omega))
theorem D4 {r : Nat} (ap : r ≤ 28) {p : an} (h : gN p = true) : e3 r (lQ r p).1 (lQ r p).2 = true := by
 have h := sL.1 h;unfold e3 lQ;rw [CR, CR, Es ap (by decide) (by omega) (by omega), Es ap (by decide) (by omega) (by omega)]; rfl
theorem Ia {a b : cc} (h : (hx a b).k = 1) : ∃ X Y W bq, hx a b = jm X W Y bq := by
 unfold hx iv at h ⊢
 split at h
 ·rename_i hw;rw [if_pos hw];unfold vH inl at h ⊢
  split at h
  ·rename_i mK;rw [if_pos mK];unfold vG at h ⊢
   split at h
   ·rename_i he;rw [if_pos he]; exact ⟨_, _, _, _, rfl⟩
   ·simp [tk] at h
  ·simp [h7] at h
 ·rename_i hw;rw [if_neg hw];unfold mT uk at h ⊢
  split at h
  ·rename_i au;rw [if_pos au]; exact ⟨_, _, _, _, rfl⟩
  ·simp [h7] at h
theorem V4 {a b : cc} (h : (hx a b).k = 1) : tE a b = true ↔ (a.1 = b.1 ∨ a.1 = b.2 ∨ a.2 = b.1 ∨ a.2 = b.2) := by
 have e : ∀ p q : an, dZ p.1 p.2 q.1 q.2 = true ↔ p = q := fun p q => by rw [sc, Prod.ext_iff]
 unfold tE Gt;rw [if_pos h];simp only [rl, e, or_assoc]
theorem UY {r : Nat} {p q : an} : yH r p = yH r q ↔ p = q := by
 have hS : (2 : Int) ^ r ≠ 0 := by have : (0 : Int) < 2 ^ r := kb (by decide); omega
 unfold yH;rw [Prod.ext_iff, Prod.ext_iff];exact ⟨fun ⟨h1, h2⟩ => ⟨Int.eq_of_mul_eq_mul_left hS h1, Int.eq_of_mul_eq_mul_left hS h2⟩, fun ⟨h1, h2⟩ => ⟨by rw [h1], by rw [h2]⟩⟩
theorem LS {r : Nat} {l m : an × an} (h : (hx (gB r l) (gB r m)).k = 1) : tE (gB r l) (gB r m) = true ↔ yn l m := by
 rw [V4 h]; unfold gB yn; simp only [UY]
theorem I0 {r : Nat} {a b : cc} {X Y W bq : Int} (e : hx a b = jm X W Y bq) : bq = W ∧ 0 < W ∧ iN r (hx a b) = (gx (2 ^ r) X W, gx (2 ^ r) Y W) ∧ BD (2 ^ r) X Y W (iN r (hx a b)) := by
 obtain ⟨h1, h2, _⟩ := DS e;have hS : (0 : Int) < 2 ^ r := kb (by decide);have aO : iN r (hx a b) = (gx (2 ^ r) X W, gx (2 ^ r) Y W) := by rw [e]; unfold iN jm; rw [h1]
 exact ⟨h1, h2, aO, by rw [aO]; exact Zw hS h2⟩
theorem qQ {r : Nat} {p : an} (h : e3 r p.1 p.2 = true) : cH (2 ^ r * p.1) (2 ^ r * p.2) = true := by
 have h := (Du r _ _).1 h;unfold cH; simp only [eo, c0]; omega
theorem aez (E : List cc) {r : Nat} (ap : r ≤ 28) (R : Nat) : ym (2 ^ r) (rf E r R) where
 pos := kb (by decide)
 Ys p q x h := by
  have h : q9 _ _ _ _ _ _ = true := h;unfold q9 at h;rw [Hi ap, Ip] at h;exact h.2.2
 MU p q x hp al aa h := by
  show q9 _ _ _ _ _ _ = true;unfold q9;have aa : e3 r x.1 x.2 = true := aa;have kU := (Du r _ _).1 aa;have ai7 := I1 ap;rw [Hi ap, Ip, aa5];refine ⟨aa, ⟨qQ hp, qQ al, ?_, ?_, rfl⟩, h⟩
  ·rw [Cm]; omega
  ·rw [Cm]; omega
 Ln l m x h := by
  have h : r9 r l m = some x := h;unfold r9 at h
  split at h
  ·rename_i af;cases h;obtain ⟨X, Y, W, bq, e⟩ := Ia af.1;refine ⟨fun hs => ?_, X, Y, W, bq, e, (I0 e).2.2.2⟩;have := (LS af.1).2 hs;rw [af.2] at this; cases this
  ·cases h
 Vd l m _ _ _ _ h af := by
  have h : r9 r l m = none := h;unfold r9 at h
  split at h
  ·cases h
  ·rename_i aE;refine (LS af).1 ?_;cases he : tE (gB r l) (gB r m) with
   | true => rfl
   | false => exact absurd ⟨af, he⟩ aE
def vZ (r : Nat) (V : List an) (D : List Int) : Prop :=
 V ≠ [] ∧ V.length = D.length + 1 ∧ (∀ v ∈ V, e3 r v.1 v.2 = true) ∧ il (· ≠ ·) V ∧ (il (fun p q => p.1 ≤ q.1) V ∨ il (fun p q => q.1 ≤ p.1) V) ∧ (il (fun p q => p.2 ≤ q.2) V ∨ il (fun p q => q.2 ≤ p.2) V)
theorem Gd {R T : an → an → Prop} : ∀ {l : List an}, il R l → il T l → il (fun p q => R p q ∧ T p q) l
 | [], _, _ => trivial
 | [_], _, _ => trivial
 | p :: q :: W, h, aF => ⟨⟨h.1, aF.1⟩, Gd (l := q :: W) h.2 aF.2⟩
theorem Lg {R : an → an → Prop} (aD : ∀ a b c, R a b → R b c → R a c) : ∀ {l : List an}, il R l → l.Pairwise R
 | [], _ => .nil
 | [_], _ => by simp
 | p :: q :: W, h => by
  have cF := Lg aD (l := q :: W) h.2;refine js.2 ⟨fun x aa => ?_, cF⟩;rcases hf.1 aa with rfl | aa
  ·exact h.1
  ·exact aD _ _ _ h.1 ((js.1 cF).1 x aa)
theorem Ch {R T : an → an → Prop} (h1 : ∀ a b c, R a b → R b c → R a c) (h2 : ∀ a b c, T a b → T b c → T a c) (aL : ∀ a b, R a b → R b a → T a b → T b a → a = b) {l : List an} (ap : il R l) (aD : il T l) (aE : il (· ≠ ·) l) : l.Nodup := by
 have := Lg (R := fun p q => (R p q ∧ T p q) ∧ p ≠ q) (fun a b c x y => ⟨⟨h1 _ _ _ x.1.1 y.1.1, h2 _ _ _ x.1.2 y.1.2⟩, fun e => by subst e; exact x.2 (aL _ _ x.1.1 y.1.1 x.1.2 y.1.2)⟩) (Gd (Gd ap aD) aE);exact this.imp fun h => h.2
theorem vZ.nodup {r : Nat} {V : List an} {D : List Int} (h : vZ r V D) : V.Nodup := by
 obtain ⟨_, _, _, aE, aa, ag⟩ := h;rcases aa with aa | aa <;> rcases ag with ag | ag
 ·exact Ch (R := fun p q : an => p.1 ≤ q.1) (T := fun p q : an => p.2 ≤ q.2) (fun a b c => Int.le_trans) (fun a b c => Int.le_trans) (fun a b h1 h2 aq aK => Prod.ext (Int.le_antisymm h1 h2) (Int.le_antisymm aq aK)) aa ag aE
 ·exact Ch (R := fun p q : an => p.1 ≤ q.1) (T := fun p q : an => q.2 ≤ p.2) (fun a b c => Int.le_trans) (fun a b c h aF => Int.le_trans aF h) (fun a b h1 h2 aq aK => Prod.ext (Int.le_antisymm h1 h2) (Int.le_antisymm aK aq)) aa ag aE
 ·exact Ch (R := fun p q : an => q.1 ≤ p.1) (T := fun p q : an => p.2 ≤ q.2) (fun a b c h aF => Int.le_trans aF h) (fun a b c => Int.le_trans) (fun a b h1 h2 aq aK => Prod.ext (Int.le_antisymm h2 h1) (Int.le_antisymm aq aK)) aa ag aE
 ·exact Ch (R := fun p q : an => q.1 ≤ p.1) (T := fun p q : an => q.2 ≤ p.2) (fun a b c h aF => Int.le_trans aF h) (fun a b c h aF => Int.le_trans aF h) (fun a b h1 h2 aq aK => Prod.ext (Int.le_antisymm h2 h1) (Int.le_antisymm aK aq)) aa ag aE
theorem CJ (r : Nat) (a b : Int) : decide ((2 : Int) ^ r * a < 2 ^ r * b) = decide (a < b) := by
 have hS : (0 : Int) < 2 ^ r := kb (by decide);rw [decide_eq_decide];exact ⟨fun h => Int.lt_of_mul_lt_mul_left h (by omega), fun h => Int.mul_lt_mul_of_pos_left h hS⟩
theorem LA {fx fy : Bool} {p q : an} : ∀ (l out : List an), (∀ x ∈ l, x ≠ p ∧ x ≠ q) → (out ++ l).Nodup → l.foldl (pK p q) out = out ++ l
 | [], out, _, _ => by simp
 | x :: l, out, h, hd => by
  have aa := h x (lS ..);have e : pK p q out x = out ++ [x] := if_pos ⟨aa.1, aa.2, fun he => (List.nodup_append.1 hd).2.2 x (List.mem_of_getLast? he) x (lS ..) rfl⟩;rw [List.foldl_cons, e, LA (fx := fx) (fy := fy) l (out ++ [x]) (fun y ag => h y (qc _ ag)) (by simpa using hd), jo]; rfl
theorem afo {fx fy : Bool} {f g : an → Bool} {l : List an} (h : ∀ x ∈ l, f x = g x) : rC fx fy f l = rC fx fy g l := by
 unfold rC
 have key : ∀ (l out : List an), (∀ x ∈ l, f x = g x) → l.foldl (fun out q => if f q then mh fx fy q out else out) out = l.foldl (fun out q => if g q then mh fx fy q out else out) out := by
  intro l
  induction l with
  | nil => intro out _; rfl
  | cons x l cF =>
   intro out h;rw [List.foldl_cons, List.foldl_cons, h x (lS ..)];exact cF _ fun y ag => h y (qc _ ag)
 exact key l [] h
theorem GM {E : List cc} {r R : Nat} {p q x : an} : jy (rf E r R) p q x = true ↔ x ≠ p ∧ x ≠ q ∧ MV r p q x = true := by
 unfold jy; simp only [eo, c0, and_assoc]; exact Iff.rfl
theorem AZ (p q : an) (bm : List an) : (fW p q bm).Perm bm := by
 have := EV (decide (q.1 < p.1)) (decide (q.2 < p.2)) (fun _ => true) bm;rwa [List.filter_eq_self.2 (fun _ _ => rfl)] at this
theorem Jt {E : List cc} {r R : Nat} {p q : an} {bm : List an} (aE : bm.Nodup) (h : ∀ x ∈ bm, jy (rf E r R) p q x = true) : fW p q bm = r1 r bm p q := by
 unfold r1 Ly;rw [CJ, CJ, ← afo (f := fun _ => true) (g := q9 (2 ^ r * p.1) (2 ^ r * p.2) (2 ^ r * q.1) (2 ^ r * q.2) r) (fun x aa => ((GM.1 (h x aa)).2.2).symm)];have hp := AZ p q bm;show fW p q bm = (fW p q bm).foldl (pK p q) [];rw [LA (fx := false) (fy := false) (fW p q bm) [] (fun x aa => ⟨(GM.1 (h x (hp.mem_iff.1 aa))).1, (GM.1 (h x (hp.mem_iff.1 aa))).2.1⟩) (by simpa using hp.nodup_iff.2 aE)];rfl
theorem Lf {R : an → an → Prop} : ∀ {A B : List an} {q : an}, il R (A ++ q :: B) → il R (A ++ [q]) ∧ il R (q :: B)
 | [], _, _, h => ⟨trivial, h⟩
 | [a], _, _, h => ⟨⟨h.1, trivial⟩, h.2⟩
 | a :: b :: A, B, q, h => by
  have cF := Lf (A := b :: A) h.2;exact ⟨⟨h.1, cF.1⟩, cF.2⟩
theorem afP {V : List an} {j : Nat} {p q : an} (hp : V[j]? = some p) (al : V[j + 1]? = some q) : ∃ A B, V = A ++ p :: q :: B ∧ A.length = j ∧ ∀ l, dk V j l = A ++ p :: (l ++ q :: B) := by
 obtain ⟨h1, aG⟩ := bV.1 hp;obtain ⟨h2, aO⟩ := bV.1 al;have hd := VQ hp al;refine ⟨V.take j, V.drop (j + 2), by rw [← hd, j9], by rw [eI]; omega, fun l => ?_⟩;unfold dk;rw [pi h1, aG, mr h2, aO];simp
theorem yI {R : an → an → Prop} {V l : List an} {j : Nat} {p q : an} (hp : V[j]? = some p) (al : V[j + 1]? = some q) (h : il R V) (ao : R p q → il R (p :: (l ++ [q]))) : il R (dk V j l) := by
 obtain ⟨A, B, e, _, wV⟩ := afP hp al;rw [wV];rw [e] at h;obtain ⟨h1, h2⟩ := Lf h;refine Ge h1 ?_;have aq := ao h2.1;have := Ge (A := p :: l) (q := q) (W := B) aq h2.2;exact this
theorem vZ.cut {E : List cc} {r R : Nat} (ap : r ≤ 28) {V : List an} {D : List Int} (h : vZ r V D) {j : Nat} {p q : an} {bm : List an} (hp : V[j]? = some p) (al : V[j + 1]? = some q) (aE : bm.Nodup) (aw : ∀ x ∈ bm, jy (rf E r R) p q x = true) : vZ r (dk V j (fW p q bm)) (eG D j bm.length) := by
 obtain ⟨h1, h2, aq, aK, ek, np⟩ := h;have hS : (0 : Int) < 2 ^ r := kb (by decide);have ae := (bV.1 al).1;rw [Jt aE aw];have mf := B4 ap bm p q;have hlen : (r1 r bm p q).length = bm.length := by rw [← Jt aE aw]; exact (AZ p q bm).length_eq
 refine ⟨fun aI => ?_, ?_, fun v hv => ?_, ?_, ?_, ?_⟩
 ·have := congrArg List.length aI;rw [yL, List.length_nil] at this; omega
 ·rw [yL, Gh (by omega), hlen]; omega
 ·rcases Lq hv with hv | hv
  ·exact aq v hv
  ·exact (mf.2.1 v hv).2.1
 ·exact yI hp al aK fun iq => Uh ap bm p q iq
 ·refine ek.imp (fun h => yI hp al h fun iq => B5 ap bm p q iq (fun x aa => ?_) (fun x y u w hu hw sx => ?_)) (fun h => yI hp al h fun iq => B5 ap bm p q iq (fun x aa => ?_) (fun x y u w hu hw sx => ?_))
  ·obtain ⟨u, hu⟩ := aa; exact (DV hS hu.1.1 hu.1.2 hu.2.1).1 iq
  ·exact DX hS hu.2.1 hw.2.1 sx iq
  ·obtain ⟨u, hu⟩ := aa; exact ((DV hS hu.1.1 hu.1.2 hu.2.1).2 iq).symm
  ·exact DW hS hu.2.1 hw.2.1 sx iq
 ·refine np.imp (fun h => yI hp al h fun iq => B5 ap bm p q iq (fun x aa => ?_) (fun x y u w hu hw sx => ?_)) (fun h => yI hp al h fun iq => B5 ap bm p q iq (fun x aa => ?_) (fun x y u w hu hw sx => ?_))
  ·obtain ⟨u, hu⟩ := aa; exact (DV hS hu.1.1 hu.1.2 hu.2.2).1 iq
  ·exact DX hS hu.2.2 hw.2.2 sx iq
  ·obtain ⟨u, hu⟩ := aa; exact ((DV hS hu.1.1 hu.1.2 hu.2.2).2 iq).symm
  ·exact DW hS hu.2.2 hw.2.2 sx iq
def sN (r : Nat) (e : cc) (d : Int) (t : Rat) (x : an) : Prop := xJ e.1.1 e.1.2 e.2.1 e.2.2 (2 ^ r) (bt d * bt (2 ^ r)) t x
theorem abS {r : Nat} {e : cc} {d d' : Int} (h : d ≤ d') {t : Rat} {x : an} (aa : sN r e d t x) : sN r e d' t x := by
 refine abU ?_ aa;have hS : (0 : Rat) < bt (2 ^ r) := qm (kb (by decide));exact Rat.mul_le_mul_of_nonneg_right (rs.2 h) (Rat.le_of_lt hS)
theorem Lh {r : Nat} {e : cc} {p q : an} {d : Int} {t1 t2 : Rat} (GO : t1 ≤ t2) (GQ : t2 ≤ 1) (hp : sN r e d t1 p) (al : sN r e d t2 q) : ∀ (l : List an) (kG : Rat), 0 ≤ kG → kG ≤ 1 → (∀ x ∈ l, ∀ u, qA (2 ^ r) p q u x → kG ≤ u) → (∀ x ∈ l, ∃ u, qA (2 ^ r) p q u x) → kg (decide ((2 : Int) ^ r * q.1 < 2 ^ r * p.1)) (decide ((2 : Int) ^ r * q.2 < 2 ^ r * p.2)) l → Ck (sN r e) (d + 1) t2 (t1 + kG * (t2 - t1)) l
 | [], kG, aI, h1, _, _, _ => by
  show t1 + kG * (t2 - t1) ≤ t2;have := kB (show 0 ≤ 1 - kG by grind) (show 0 ≤ t2 - t1 by grind);grind
 | x :: l, kG, aI, h1, hu, hm, aL => by
  have hS : (0 : Int) < 2 ^ r := kb (by decide);obtain ⟨u, xv⟩ := hm x (lS ..);have ak := js.1 aL;have h2 := hu x (lS ..) u xv;have bC := kB (show 0 ≤ u - kG by grind) (show 0 ≤ t2 - t1 by grind);have cf := kB (show 0 ≤ 1 - u by have := xv.1.2; grind) (show 0 ≤ t2 - t1 by grind)
  have aa : sN r e (d + 1) (t1 + u * (t2 - t1)) x := by
   have := abT hp al xv;unfold sN;rw [show bt (d + 1) = bt d + 1 by simp [bt, sW]];exact this
  exact ⟨t1 + u * (t2 - t1), by grind, by grind, aa, Lh GO GQ hp al l u xv.1.1 xv.1.2 (fun y ag w hw => OE hS xv hw (ak.1 y ag)) (fun y ag => hm y (qc _ ag)) ak.2⟩
def Ed (E : List cc) (r : Nat) (i : Nat) (c : List an × List Int) : Prop := vZ r c.1 c.2 ∧ r5 (sN r (E.getD i mF)) 0 c.1 c.2
theorem D9 {r : Nat} (a b : Int) : sM (bt a) (bt b) (2 * (bt (2 ^ r) * bt (cJ a r))) (bt 1 * bt (2 ^ r)) 0 ∧ sM (bt b) (bt a) (2 * (bt (2 ^ r) * bt (cJ a r))) (bt 1 * bt (2 ^ r)) 1 := by
 have fp : (0 : Int) < 2 ^ r := kb (by decide);obtain ⟨g0, g1⟩ : 2 * (cJ a r * 2 ^ r) ≤ 2 * a + 2 ^ r ∧ 2 * a + 2 ^ r < 2 * (cJ a r * 2 ^ r) + 2 * 2 ^ r := Xb fp;have c9 := rs.2 g0;have q1 := Ja.2 g1;have z : bt 1 = 1 := by simp [bt]
 rw [z];simp only [bt, sW, Rat.intCast_mul] at c9 q1 ⊢;generalize ((2 ^ r : Int) : Rat) = S at *;generalize ((cJ a r : Int) : Rat) = g at *;generalize ((a : Int) : Rat) = a' at *;generalize ((b : Int) : Rat) = bT at *;have aO : ((2 : Int) : Rat) = 2 := by simp
 rw [aO] at c9 q1;refine ⟨⟨?_, ?_⟩, ?_, ?_⟩ <;> grind
theorem U5 {r : Nat} (e : cc) : r5 (sN r e) 0 (hz (lQ r e.1) (lQ r e.2)).1 (hz (lQ r e.1) (lQ r e.2)).2 :=
 U4 ⟨(D9 e.1.1 e.2.1).1, (D9 e.1.2 e.2.2).1⟩ ⟨(D9 e.2.1 e.1.1).2, (D9 e.2.2 e.1.2).2⟩
theorem abH {r : Nat} {p q : an} (hp : e3 r p.1 p.2 = true) (al : e3 r q.1 q.2 = true) : vZ r (hz p q).1 (hz p q).2 := by
 unfold hz
 split
 ·exact ⟨by simp, rfl, fun v hv => by rw [mu.1 hv]; exact hp, trivial, .inl trivial, .inl trivial⟩
 ·rename_i ck;refine ⟨by simp, rfl, fun v hv => ?_, ⟨ck, trivial⟩, ?_, ?_⟩
  ·simp only [hf, rj, or_false] at hv;rcases hv with rfl | rfl
   ·exact hp
   ·exact al
  ·rcases Int.le_total p.1 q.1 with h | h
   ·exact .inl ⟨h, trivial⟩
   ·exact .inr ⟨h, trivial⟩
  ·rcases Int.le_total p.2 q.2 with h | h
   ·exact .inl ⟨h, trivial⟩
   ·exact .inr ⟨h, trivial⟩
theorem K2 {X W a b n d : Int} (fg : 0 < W) (hd : 0 < d) (aE : 0 ≤ n ∧ n ≤ d) (e : X * d = W * (a * (d - n) + b * n)) {lo hi : Int} (aL : lo ≤ a ∧ a ≤ hi) (ab : lo ≤ b ∧ b ≤ hi) : lo * W ≤ X ∧ X ≤ hi * W := by
 have a1 := jq (show 0 ≤ a - lo by omega) (show 0 ≤ d - n by omega);have a2 := jq (show 0 ≤ hi - a by omega) (show 0 ≤ d - n by omega);have b1 := jq (show 0 ≤ b - lo by omega) aE.1;have b2 := jq (show 0 ≤ hi - b by omega) aE.1;have s1 : lo * d ≤ a * (d - n) + b * n := by grind
 have s2 : a * (d - n) + b * n ≤ hi * d := by grind
 have t1 := rp s1 (qk fg);have t2 := rp s2 (qk fg);rw [← e] at t1 t2;refine ⟨Int.le_of_mul_le_mul_right ?_ hd, Int.le_of_mul_le_mul_right ?_ hd⟩
 ·rw [show lo * W * d = W * (lo * d) by grind]; exact t1
 ·rw [show hi * W * d = W * (hi * d) by grind]; exact t2
theorem P7 {r : Nat} (ap : r ≤ 28) {a b : cc} (h1 : gN a.1 = true) (h2 : gN a.2 = true) {x : an} (h : Au r a b = some x) : e3 r x.1 x.2 = true := by
 unfold Au at h
 split at h
 ·rename_i af;cases h;obtain ⟨X, Y, W, bq, e⟩ := Ia af;obtain ⟨q1, q2, cj, _⟩ := I0 (r := r) e;obtain ⟨_, _, ⟨n, d, g1, g2, g3, g4⟩, _⟩ := DS e;have cP := sL.1 h1;have cw := sL.1 h2;obtain ⟨c1, c2⟩ := K2 q2 g1 g2 g3 (lo := -134217728) (hi := 134217727) (by omega) (by omega);obtain ⟨k6, F9⟩ := K2 q2 g1 g2 g4 (lo := -134217728) (hi := 134217727) (by omega) (by omega);rw [cj];unfold e3;rw [Es ap q2 c1 c2, Es ap q2 k6 F9]; rfl
 ·cases h
theorem Ls {r : Nat} {l m : an × an} (h1 : e3 r l.1.1 l.1.2 = true) (h2 : e3 r l.2.1 l.2.2 = true) {x : an} (h : r9 r l m = some x) : e3 r x.1 x.2 = true := by
 have hS : (0 : Int) < 2 ^ r := kb (by decide);unfold r9 at h
 split at h
 ·rename_i af;cases h;obtain ⟨X, Y, W, bq, e⟩ := Ia af.1;obtain ⟨q1, q2, cj, eH⟩ := I0 (r := r) e;obtain ⟨_, _, ⟨n, d, g1, g2, g3, g4⟩, _⟩ := DS e;generalize iN r (hx (gB r l) (gB r m)) = x at *;obtain ⟨⟨i1, i2⟩, i3, i4⟩ := eH;have v1 := Qm hS q2 g1 g2 g3 i1 i2;have v2 := Qm hS q2 g1 g2 g4 i3 i4;unfold e3 at h1 h2 ⊢;rw [eo] at h1 h2 ⊢;refine ⟨?_, ?_⟩
  ·rcases Int.le_total l.1.1 l.2.1 with h | h
   ·exact A9 h1.1 h2.1 (v1.1 h).1 (v1.1 h).2
   ·exact A9 h2.1 h1.1 (v1.2 h).1 (v1.2 h).2
  ·rcases Int.le_total l.1.2 l.2.2 with h | h
   ·exact A9 h1.2 h2.2 (v2.1 h).1 (v2.1 h).2
   ·exact A9 h2.2 h1.2 (v2.2 h).1 (v2.2 h).2
 ·cases h
theorem aer {E : List cc} {r R : Nat} (ap : r ≤ 28) (jS : h6 E = true) : l5 (rf E r R) (Ed E r) where
 nodup i c h := h.1.nodup
 new i hi := ⟨abH (D4 ap (ra jS i).1) (D4 ap (ra jS i).2), U5 _⟩
 split i c j p q bm h hlen hp al aE _ aw := by
  refine ⟨h.1.cut ap hp al aE aw, ?_⟩;have YO := AZ p q bm;have e : bm.length = (fW p q bm).length := YO.length_eq.symm;show r5 _ _ (dk c.1 j (fW p q bm)) (eG c.2 j bm.length);rw [e];refine Li (fun d t x aa => abS (by omega) aa) (fun d t1 t2 GO GQ h1 h2 => ?_) c.1 c.2 j 0 hlen hp al h.2;have mf := B4 ap bm p q;rw [Jt aE aw];have := Lh GO GQ h1 h2 (r1 r bm p q) 0 Rat.le_refl (by decide) (fun x aa u hu => hu.1.1) (fun x aa => (mf.2.1 x aa).2.2) mf.1;rwa [show t1 + 0 * (t2 - t1) = t1 by grind] at this
 gP := AZ
 GI i _ := ⟨D4 ap (ra jS i).1, D4 ap (ra jS i).2⟩
 Mm i j x _ _ h := P7 ap (ra jS i).1 (ra jS i).2 h
 Mk p q fU cK x h1 h2 _ _ h := Ls (l := (p, q)) (m := (fU, cK)) h1 h2 h
 cut hot p q fU cK x aw _ _ h1 h2 aq aK cO ek h := (aez E ap R).Vh hot p q fU cK x aw h1 h2 aq aK cO ek h
variable {α : Type} [DecidableEq α]
theorem ZM (o : c4 α) : ∀ (m n : Nat) (s : aX α), q3 o (m + n) s = q3 o n (q3 o m s)
 | 0, n, s => by rw [jr]; rfl
 | m + 1, n, s => by
  rw [show m + 1 + n = (m + n) + 1 by omega];exact ZM o m n (dS o s)
def c5 (o : c4 α) : Nat → aX α → Nat × aX α
 | 0, s => (0, s)
 | n + 1, s => if 4 ≤ s.ph then (0, s) else ((c5 o n (dS o s)).1 + 1, (c5 o n (dS o s)).2)
theorem AM {o : c4 α} {s : aX α} (h : 4 ≤ s.ph) : ∀ n, c5 o n s = (0, s)
 | 0 => rfl
 | n + 1 => if_pos h
theorem Jf {o : c4 α} : ∀ (n : Nat) (s : aX α), (c5 o n s).2 = q3 o (c5 o n s).1 s ∧ (c5 o n s).1 ≤ n ∧ ((c5 o n s).1 < n → 4 ≤ (c5 o n s).2.ph)
 | 0, s => ⟨rfl, dU _, fun h => absurd h (by show ¬ 0 < 0; omega)⟩
 | n + 1, s => by
  obtain ⟨h1, h2, aq⟩ := Jf n (dS o s);unfold c5
  by_cases h : 4 ≤ s.ph
  ·rw [if_pos h]; exact ⟨rfl, ez _, fun _ => h⟩
  ·rw [if_neg h]; exact ⟨h1, by show _ + 1 ≤ n + 1; omega, fun a6 => aq (by have : (c5 o n (dS o s)).1 + 1 < n + 1 := a6; omega)⟩
theorem QU {o : c4 α} : ∀ (m n : Nat) (s : aX α), c5 o (m + n) s = ((c5 o m s).1 + (c5 o n (c5 o m s).2).1, (c5 o n (c5 o m s).2).2)
 | 0, n, s => by rw [jr]; show _ = (0 + (c5 o n s).1, (c5 o n s).2); rw [jr]
 | m + 1, n, s => by
  rw [show m + 1 + n = (m + n) + 1 by omega]
  by_cases h : 4 ≤ s.ph
  ·rw [AM h (m + n + 1), AM h (m + 1), show c5 o n ((0, s) : Nat × aX α).2 = (0, s) from AM h n]; rfl
  ·have aG : c5 o (m + n + 1) s = ((c5 o (m + n) (dS o s)).1 + 1, (c5 o (m + n) (dS o s)).2) := if_neg h;have aO : c5 o (m + 1) s = ((c5 o m (dS o s)).1 + 1, (c5 o m (dS o s)).2) := if_neg h;rw [aG, aO, QU m n (dS o s)];simp only [Prod.mk.injEq, and_true];omega
theorem Q0 {o : c4 α} : ∀ (n : Nat) (s : aX α), c5 o (c5 o n s).1 s = c5 o n s
 | 0, s => rfl
 | n + 1, s => by
  by_cases h : 4 ≤ s.ph
  ·rw [AM h (n + 1)]; rfl
  ·have aG : c5 o (n + 1) s = ((c5 o n (dS o s)).1 + 1, (c5 o n (dS o s)).2) := if_neg h;have aO : c5 o ((c5 o n (dS o s)).1 + 1) s = ((c5 o (c5 o n (dS o s)).1 (dS o s)).1 + 1, (c5 o (c5 o n (dS o s)).1 (dS o s)).2) := if_neg h;rw [aG];show c5 o ((c5 o n (dS o s)).1 + 1) s = _;rw [aO, Q0 n (dS o s)]
end Go.Proofs.YtpochbhajmbfdaaGreat.bF
namespace Go.Proofs.YtpochbhajmbfdaaGreat
open Go.RowKit
section
variable {P : Program} {bp : ff} {bU A : Nat → Prop} {R : aJ} {s s' : aC} {a a' : Act} {w w' : World} {ad bf : Nat → Nat}
theorem eL.Va (aA : eL bp bU R s a w A ad) (i : Nat) (r : bQ) (hi : R i = some r) (b0 : 0 < r.sz) : ∃ eA, eL bp bU (fun j => if j = i then none else R j) s a w eA ad ∧ gI (s.free eA ad) ad w (.p (cA r.sz r.n r.aU)) r.v := by
 obtain ⟨oO, cW, aw⟩ := aA.rows i r hi;obtain ⟨xs, az, ao⟩ := oO.row b0;have y7 : ∀ b, s.free A ad b → b < w.heap.size → s.free (fun b => A b ∨ r.v.ownBlock = some b) ad b ∧ w.heap[b]? = w.heap[b]? := fun b ab _ => ⟨⟨.inl ab.1, ab.2⟩, rfl⟩;have G1 : Rel (nV bp s ad w) (fun b => A b ∨ r.v.ownBlock = some b) s ad a w := aA.rel.yz (fun b ab _ => ⟨.inl ab, rfl⟩) (fun k cs af => ⟨rfl, fun au => au.2 k cs af rfl⟩) (kh.refl _) (fun b ab => .inl (aA.rel.up b ab)) (xb _ _ _)
 have xa : eL bp bU (fun j => if j = i then none else R j) s a w (fun b => A b ∨ r.v.ownBlock = some b) ad := by
  refine ⟨aA.up, ?_, G1, aA.o3, aA.below, fun j q ae => ?_, fun j k q cK ae af ld => ?_, fun j q g ae => ?_, aA.kp⟩
  ·rintro b (ab | ab)
   ·exact aA.sub b ab
   ·exact (aA.hot i r b hi (.inl ab)).2
  ·have gD : j ≠ i := fun e => by rw [if_pos e] at ae; cases ae
   rw [if_neg gD] at ae;obtain ⟨lK, A3, A4⟩ := aA.rows j q ae;refine ⟨lK.kept A3 (fun _ _ => rfl) (dU _) y7, A3, fun g eN => ⟨?_, (A4 g eN).2⟩⟩;rintro (ab | ab)
   ·exact (A4 g eN).1 ab
   ·exact aA.apart i j r q hi ae (Ne.symm gD) g (.inl ab) eN
  ·have gD : j ≠ i := fun e => by rw [if_pos e] at ae; cases ae
   have kT : k ≠ i := fun e => by rw [if_pos e] at af; cases af
   rw [if_neg gD] at ae;rw [if_neg kT] at af;exact aA.apart j k q cK ae af ld
  ·have gD : j ≠ i := fun e => by rw [if_pos e] at ae; cases ae
   rw [if_neg gD] at ae;exact aA.hot j q g ae
 refine ⟨fun b => A b ∨ r.v.ownBlock = some b, xa, ?_⟩
 ·have nZ := ao.1;obtain ⟨lf, aE | ⟨g, cap, cur, kR, qT, vr, e1, jV, eg, n3⟩⟩ := id az
  ·obtain ⟨aG, aO⟩ := aE;have : r.aU = [] := na (by rw [nZ, lf, aO]; simp);rw [aG];exact ⟨⟨none, 0, by rw [aO], by omega, by rw [this, aO]; simp, fun h => absurd h (by omega)⟩, fun b ⟨c', a', q, aE, ab⟩ => by cases q⟩
  ·have tU := az.cells (g := g) (by rw [kR]; rfl);rw [kR];have qR : k0 w ⟨g, 0, none⟩ r.aU xs := ⟨(ln.1 vr).1, ao.wS cW fun b _ _ => ⟨trivial, rfl⟩, tU, cW⟩;refine ⟨⟨some ⟨g, 0, none⟩, cap, rfl, e1, by rw [nZ]; exact lf, fun aE => ⟨⟨g, 0, none⟩, xs, rfl, qR⟩⟩, ?_⟩;rintro b ⟨c', a', q, aE, au⟩;cases q;rcases au with rfl | ⟨j, y, v, ag, hv, gC⟩
   ·exact ⟨.inr rfl, (aw g (.inl (by rw [kR]; rfl))).2⟩
   ·have bj : j < xs.length := by rw [← nZ]; exact (bV.1 ag).1
    have h2 := tU j _ (cl bj);rw [hv] at h2;cases h2;have aq := ao.2 j y _ ag (cl bj);cases y with
    | c u => cases gC
    | own k o => cases gC
    | p S => have := aq.2 b gC; exact ⟨.inl this.1, this.2⟩
theorem Q2 (i k off : Nat) {c : Code} {Q : Exit → aJ → aC → Prop} {cs : List AC} (r : bQ) (hi : R i = some r) (af : s.mem k = some cs) (ak : cs[off]? = some (.c r.v)) (h : fJ P c Q (fun j => if j = i then none else R j) (s.eh k (cs.set off (.p (cA r.sz r.n r.aU))))) (b0 : 0 < r.sz := by first | decide | exact jG _) : fJ P c Q R s := by
 rintro ok bp bU a w ⟨A, ad, aA⟩;obtain ⟨eA, CT, w2⟩ := aA.Va i r hi b0
 have Xz := CT.next (CT.rel.aea (ds := cs.set off (.p (cA r.sz r.n r.aU))) af fun vs hv => ⟨by rw [oc]; exact hv.1, fun j x u aa hu => by
  rw [List.getElem?_set] at aa
  by_cases e : off = j
  ·subst e;rw [if_pos rfl] at aa
   split at aa
   ·cases aa;obtain ⟨rfl, _⟩ := hv.2 off _ u ak hu;exact w2
   ·cases aa
  ·rw [if_neg e] at aa;exact hv.2 j x u aa hu⟩)
 refine h (ok.eh fun x aa j ae => ?_) bp bU a w ⟨eA, ad, Xz⟩;rcases List.mem_or_eq_of_mem_set aa with aa | rfl
 ·exact ok.dG k cs x j af aa ae
 ·cases ae
end
section
variable {P : Program} {s : aC} {ops : Array Oper} {K : aC → Prop} {rest : List Oper} {ty : Nat} {pos : String} {after : Array Edge} {guard : Option (Nat × Bool)} {d : Nat}
end
theorem aey {xs aU : List AC} (ao : xs.length = aU.length) (h : ∀ (i : Nat) x y, xs[i]? = some x → aU[i]? = some y → x = y ∨ (x = .c (.slice none 0 0) ∧ ∃ z, y = .p (cA z 0 []))) (U : Nat → Prop) (ad : Nat → Nat) (W : World) (vs : List Value) (hv : bZ U ad W xs vs) : bZ U ad W aU vs := by
 refine ⟨by rw [← ao]; exact hv.1, fun i y v ag hu => ?_⟩;have hi : i < xs.length := by rw [ao]; exact (bV.1 ag).1
 have aa := cl hi;have h1 := hv.2 i _ v aa hu;rcases h i _ y aa ag with e | ⟨e, z, rfl⟩
 ·rw [← e]; exact h1
 ·rw [e] at h1;exact O4 z U ad W v h1
theorem Kz {xs aU : List AC} (ao : xs.length = aU.length) (h : ∀ (i : Nat) x y, xs[i]? = some x → aU[i]? = some y → x = y ∨ (x = .c (.slice none 0 0) ∧ ∃ z, y = .p (cA z 0 []))) : ai.br (.w (.agg xs)) (.w (.agg aU)) := fun U ad W v hv => by
 obtain ⟨vs, rfl, h4⟩ := hv;exact ⟨vs, rfl, aey ao h U ad W vs h4⟩
section
variable {U : Nat → Prop} {W : World} {x y : AC} {xs aU : List AC}
end
structure Th where
 l : Nat
 U : Nat → Prop
 h0 : World
 eE : Nat → Prop
 J : Nat → (Nat → Prop) → World → Prop
 agj : (Nat → Prop) → World → Prop
 xs : List (List ai)
section
variable {P : Program} {X : Th} {x y c : Code} {Q : Exit → Option Nat → aC → Prop} {g jx : Option Nat} {s s' : aC} {a a' : Act} {w w' w2 : World} {A : Nat → Prop} {ad bf : Nat → Nat} {C : Nat → Prop}
end
def R2 (pp : Bool → Prop) : fm where
 holds w v := ∃ b, v = .bool b ∧ pp b
 lG w v b := False
 frame w w' v := fun h au => ⟨h, fun b ab => ab⟩
 iM w v b := fun h au => au.elim
 cell w v := by rintro ⟨b, rfl, _⟩; rfl
abbrev A5 (pp : Bool → Prop) : ai := .w (.one (.p (R2 pp)))
section
variable {P : Program} {ops : Array Oper} {K : aC → Prop} {rest : List Oper} {s : aC} {d ty : Nat} {pos : String} {after : Array Edge} {guard : Option (Nat × Bool)}
theorem Xe {op : BinOp} {t : TypeId} {x y : Operand} {a : Option Addr} {n c : Nat} {v : Value} : eqGuard op t x y (.slice a n c) v = pure () := by cases op <;> rfl
theorem FV {t dK sz n e bytes : Nat} {x : Operand} {xs : List AC} [T : ox P t e sz bytes] (hw : want ops ⟨some d, .binOp .eql t x (.const (.slice none 0 0)) dK, ty, pos, after, guard⟩ s = some true) (aa : s.look x = some (cU sz n xs)) (hd : Nat.blt d s.n = true) (h : bi P ops K rest (s.put (some d) (A5 fun b => b = true → n = 0))) : bi P ops K (⟨some d, .binOp .eql t x (.const (.slice none 0 0)) dK, ty, pos, after, guard⟩ :: rest) s := by
 obtain ⟨_, _, hu, _⟩ := rz T.h;refine fY (av := A5 fun b => b = true → n = 0) hw ⟨fun _ _ h => (by cases h), fun z aZ => ?_, fun U ad W env he => ?_, fun j ae => absurd ae (lP _ j)⟩ hd h
 ·simp [Op.operands] at aZ;rcases aZ with rfl | rfl
  ·exact ⟨_, aa⟩
  ·exact ⟨_, rfl⟩
 ·obtain ⟨⟨A, c, hv, _, _, dO⟩, _⟩ := he x (by simp [Op.operands]) _ aa;have aO : env (.const (.slice none 0 0)) = .slice none 0 0 := (he (.const (.slice none 0 0)) (by simp [Op.operands]) _ rfl).1;refine ⟨.bool A.isNone, ?_, ⟨_, rfl, fun ab => ?_⟩, fun b ab => ab.elim⟩
  ·simp only [execOp, hv, aO, Xe, Sem.run_bind, Sem.run_pure, Result.andThen_ok, Lib.run_eql_slice_nil W t e A n c 0 0 hu]
  ·refine Classical.byContradiction fun aE => ?_;obtain ⟨a, _, e, _⟩ := dO (by omega);rw [e] at ab; cases ab
end
section
variable {P : Program} {c : Code} {s : aC}
theorem Rel.Rp {B : ff} {A : Nat → Prop} {ad : Nat → Nat} {a : Act} {w : World} {d : Nat} {pp : Bool → Prop} (h : Rel B A s ad a w) (hd : s.tmps d = some (A5 pp)) : ∃ b, pp b ∧ Rel B A (s.put (some d) (bD b)) ad a w := by
 obtain ⟨v, h1, ⟨b, rfl, ab⟩, _⟩ := h.hh d _ hd;refine ⟨b, ab, h.Qz hd fun u hu _ => ?_⟩;rw [h1] at hu;cases hu;exact ⟨rfl, rfl⟩
theorem Uk (d : Nat) {Q : Exit → aC → Prop} {pp : Bool → Prop} (hd : s.tmps d = some (A5 pp)) (h : ∀ b, pp b → fI P c Q (s.put (some d) (bD b))) : fI P c Q s := by
 intro ok B A ad a w aA;obtain ⟨b, ab, cE⟩ := aA.Rp hd;exact h b ab (ok.put fun j ae => absurd ae (iJ _ j)) B A ad a w cE
theorem Q3 (d : Nat) {Q : Exit → aJ → aC → Prop} {R : aJ} {pp : Bool → Prop} (hd : s.tmps d = some (A5 pp)) (h : ∀ b, pp b → fJ P c Q R (s.put (some d) (bD b))) : fJ P c Q R s := by
 intro ok bp bU a w ⟨A, ad, aA⟩;obtain ⟨b, ab, cE⟩ := aA.rel.Rp hd;exact h b ab (ok.put fun j ae => absurd ae (iJ _ j)) bp bU a w ⟨A, ad, aA.next cE⟩
end
def AC.vU : AC → Bool
 | .p _ => false
 | _ => true
def nA (m : Mem) (R : aJ) : Prop := (∀ k cs, m k = some cs → cs.all AC.vU = true) ∧ ∀ i r, R i = some r → 0 < r.sz ∧ r.aU.all AC.vU = true
theorem bZ.plain {U cM : Nat → Prop} {ad : Nat → Nat} {W bq : World} {xs : List AC} {vs : List Value} (h : bZ U ad W xs vs) (hp : xs.all AC.vU = true) : bZ cM ad bq xs vs := by
 refine ⟨h.1, fun i x v aa hv => ?_⟩;have h1 := h.2 i x v aa hv;have h2 := cC.1 hp x (dJ aa);cases x with
 | c u => exact h1
 | own k o => exact h1
 | p S => cases h2
theorem bQ.ok.plain {U cM : Nat → Prop} {ad : Nat → Nat} {W : World} {r : bQ} (h : r.ok U ad W) (hs : 0 < r.sz) (hp : r.aU.all AC.vU = true) : r.ok cM ad W := by
 obtain ⟨xs, h1, h2⟩ := h.row hs;exact .inl ⟨hs, xs, h1, h2.plain hp⟩
abbrev nB (b off : Nat) : Value := .pointer (some ⟨b, off, none⟩)
abbrev eb (b : Nat) : Value := nB b 0
abbrev uu : Nat → Prop := fun _ => False
theorem fk.lt {U : Nat → Prop} {ad : Nat → Nat} {W : World} {m : Mem} {R : aJ} (h : fk U ad W m R) {b : Nat} (ab : eu ad m R b) : b < W.heap.size := by
 rcases ab with ⟨k, cs, af, rfl⟩ | ⟨i, r, hi, aw⟩
 ·obtain ⟨vs, ty, h1, _⟩ := h.dG k cs af;exact (ln.1 h1).1
 ·exact (h.rows i r hi).1.lt aw
def ls (ad : Nat → Nat) (m : Mem) (R : aJ) (k : Nat) : fm where
 holds w v := v = eb (ad k) ∧ fk uu ad w m R ∧ nA m R
 lG w v b := eu ad m R b
 frame := by
  rintro w w' v ⟨rfl, h, hp⟩ au;refine ⟨⟨rfl, ⟨fun j cs ae => ?_, h.fT, h.inj, fun i r hi => ?_, h.apart⟩, hp⟩, fun b ab => ab⟩
  ·obtain ⟨vs, ty, h1, h2, aq⟩ := h.dG j cs ae;exact ⟨vs, ty, by rw [au _ (.inl ⟨j, cs, ae, rfl⟩)]; exact h1, h2.plain (hp.1 j cs ae), aq⟩
  ·obtain ⟨h1, h2, aq⟩ := h.rows i r hi;obtain ⟨xs, g1, g2⟩ := h1.row (hp.2 i r hi).1;exact ⟨.inl ⟨(hp.2 i r hi).1, xs, PD g1 fun g q => au g (.inr ⟨i, r, hi, .inl q⟩), g2.plain (hp.2 i r hi).2⟩, h2, aq⟩
 iM := fun w v b ⟨_, h, _⟩ ab => h.lt ab
 cell := fun w v ⟨e, _⟩ => by rw [e]; rfl
def Eb (ad : Nat → Nat) (m : Mem) (R : aJ) (k : Nat) : bQ := ⟨0, 0, eb (ad k), 0, [.p (ls ad m R k)]⟩
theorem Pl {ad : Nat → Nat} {m : Mem} {R : aJ} {k : Nat} {W : World} (h : fk uu ad W m R) (hp : nA m R) {b : Nat} : (Eb ad m R k).own b ↔ eu ad m R b := by
 constructor
 ·rintro (h1 | ⟨_, S, w, h1, h2, aq⟩)
  ·cases h1
  ·cases h1; exact aq
 ·exact fun h1 => .inr ⟨rfl, ls ad m R k, W, rfl, ⟨rfl, h, hp⟩, h1⟩
theorem Pm {ad : Nat → Nat} {m : Mem} {R : aJ} {k : Nat} {b : Nat} (h : (Eb ad m R k).own b) : eu ad m R b := by
 rcases h with h1 | ⟨_, S, w, h1, h2, aq⟩
 ·cases h1
 ·cases h1; exact aq
theorem ab7 {U : Nat → Prop} {ad bf : Nat → Nat} {m : Mem} {R : aJ} {k : Nat} {W : World} (h : fk uu ad W m R) (hp : nA m R) : (Eb ad m R k).ok U bf W :=
 .inr ⟨rfl, rfl, rfl, ⟨_, rfl, rfl, h, hp⟩, fun b ab => h.lt (Pm ab)⟩
theorem ab6 {U : Nat → Prop} {ad bf : Nat → Nat} {m : Mem} {R : aJ} {k : Nat} {W : World} (h : (Eb ad m R k).ok U bf W) : fk uu ad W m R ∧ nA m R := by
 rcases h with ⟨h1, _⟩ | ⟨_, _, _, ⟨S, hS, a6⟩, _⟩
 ·cases h1
 ·cases hS; exact a6.2
theorem fk.sub {U : Nat → Prop} {ad : Nat → Nat} {W : World} {m m1 : Mem} {R bo : aJ} (h : fk U ad W m R) (hm : ∀ k cs, m1 k = some cs → m k = some cs) (ap : bH bo R) (fT : ∀ k cs x j, m1 k = some cs → x ∈ cs → x.owns j → ∃ ar, m1 j = some ar) : fk U ad W m1 bo := by
 refine ⟨fun k cs af => h.dG k cs (hm k cs af), fT, fun k k' cs ar af e0 => h.inj k k' cs ar (hm k cs af) (hm k' ar e0), fun i r hi => ?_, fun i j r q hi ae => h.apart i j r q (ap i r hi) (ap j q ae)⟩;obtain ⟨h1, h2, aq⟩ := h.rows i r (ap i r hi);exact ⟨h1, h2, fun g aw => ⟨(aq g aw).1, fun k cs af => (aq g aw).2 k cs (hm k cs af)⟩⟩
theorem fk.none {U : Nat → Prop} {ad : Nat → Nat} {W : World} {m : Mem} {R : aJ} (h : fk U ad W m R) (hp : nA m R) : fk uu ad W m R := by
 refine ⟨fun k cs af => ?_, h.fT, h.inj, fun i r hi => ?_, h.apart⟩
 ·obtain ⟨vs, ty, h1, h2, _⟩ := h.dG k cs af;exact ⟨vs, ty, h1, h2.plain (hp.1 k cs af), id⟩
 ·obtain ⟨h1, h2, aq⟩ := h.rows i r hi;exact ⟨h1.plain (hp.2 i r hi).1 (hp.2 i r hi).2, h2, fun g aw => ⟨id, (aq g aw).2⟩⟩
theorem fk.more {U : Nat → Prop} {ad : Nat → Nat} {W : World} {m : Mem} {R : aJ} (h : fk uu ad W m R) (hp : nA m R) (dI : ∀ b, eu ad m R b → ¬ U b) : fk U ad W m R := by
 refine ⟨fun k cs af => ?_, h.fT, h.inj, fun i r hi => ?_, h.apart⟩
 ·obtain ⟨vs, ty, h1, h2, _⟩ := h.dG k cs af;exact ⟨vs, ty, h1, h2.plain (hp.1 k cs af), dI _ (.inl ⟨k, cs, af, rfl⟩)⟩
 ·obtain ⟨h1, h2, aq⟩ := h.rows i r hi;exact ⟨h1.plain (hp.2 i r hi).1 (hp.2 i r hi).2, h2, fun g aw => ⟨dI g (.inr ⟨i, r, hi, aw⟩), (aq g aw).2⟩⟩
theorem fk.abR {U : Nat → Prop} {ad : Nat → Nat} {W : World} {m : Mem} {R : aJ} (h : fk U ad W m R) {b : Nat} (ab : eu ad m R b) : ¬ U b := by
 rcases ab with ⟨k, cs, af, rfl⟩ | ⟨i, r, hi, aw⟩
 ·exact (h.dG k cs af).choose_spec.choose_spec.2.2
 ·exact ((h.rows i r hi).2.2 b aw).1
abbrev iw (p : Value) (S : fm) : bQ := ⟨0, 0, p, 0, [.p S]⟩
def yp (P : Program) (f : FuncId) (args : List ai) (p : Value) (S : fm) (post : ai → fm → Prop) : Prop := ∀ i, dt P f args cg (bL i (iw p S)) fun v aH aB => ∃ dm, aH = cg ∧ aB = bL i (iw p dm) ∧ post v dm
def FM (P : Program) (f : FuncId) (args : List ai) (post : Value → fm → Prop) : Prop := ∀ i, dt P f args cg gO fun v aH aB => ∃ p S, aH = cg ∧ aB = bL i (iw p S) ∧ v = aR p ∧ post p S
theorem Qh {U : Nat → Prop} {ad : Nat → Nat} {W : World} {k off : Nat} {v : Value} (h : v = nB (ad k) off) : di U ad W (.w (.one (.own k off))) v := by subst h; rfl
theorem ko.closed {U : Nat → Prop} {ad bf : Nat → Nat} {W : World} {args : List ai} {vs : List Value} (ak : args.all ai.ba = true) (h : ko U ad W args vs) : ko U bf W args vs :=
 ⟨h.1, fun i x v aa hv => (h.2 i x v aa hv).map (fun b ab _ => ⟨ab, rfl⟩) fun j ae => absurd ae (ai.dH (cC.1 ak x (dJ aa)) j)⟩
theorem Ec {ad : Nat → Nat} {m : Mem} {R : aJ} {k : Nat} {b : Nat} (h : (iw (eb (ad k)) (ls ad m R k)).own b) : eu ad m R b := Pm h
theorem afH {P : Program} {f : FuncId} {args : List ai} {ad : Nat → Nat} {m : Mem} {R : aJ} {k off : Nat} {Post : ai → Mem → aJ → Prop} {Post2 : ai → Mem → aJ → Prop} (af : ∃ cs, m k = some cs) (eC : args.all ai.ba = true) (ak : dt P f (.w (.one (.own k off)) :: args) m R Post) (i : Nat)
  (hp : ∀ r m1 bo e5 oy h0 v, Post r m1 bo → e5 k = ad k → fk oy e5 h0 m1 bo → di oy e5 h0 r v → ∃ ec eT, Post2 ec cg eT ∧ ec.ba = true ∧ di oy e5 h0 ec v ∧ fk oy e5 h0 cg eT ∧ (∃ q, eT i = some q) ∧ ∀ b, eu e5 cg eT b → eu e5 m1 bo b) : dt P f (aR (nB (ad k) off) :: args) cg (bL i (iw (eb (ad k)) (ls ad m R k))) Post2 := by
 refine ⟨fun U agi W vs cS ew dT => ?_⟩;have hi : bL i (iw (eb (ad k)) (ls ad m R k)) i = some (iw (eb (ad k)) (ls ad m R k)) := by unfold bL; exact cy _ _ _
 obtain ⟨dD, _, vy⟩ := cS.rows i _ hi;obtain ⟨a6, oQ⟩ := ab6 dD
 have gr : ∀ b, eu agi cg (bL i (iw (eb (ad k)) (ls ad m R k))) b ↔ eu ad m R b := fun b => by
  constructor
  ·rintro (⟨j, cs, ae, _⟩ | ⟨j, q, ae, aw⟩)
   ·cases ae
   ·obtain ⟨rfl, rfl⟩ := fV ae; exact Ec aw
  ·exact fun h => .inr ⟨i, _, hi, (Pl a6 oQ).2 h⟩
 have dI : ∀ b, eu ad m R b → ¬ U b := fun b ab => (vy b ((Pl a6 oQ).2 ab)).1;obtain ⟨hlen, hv⟩ := dT
 match vs, hlen with
 | v0 :: vs, hlen =>
  have sy : v0 = nB (ad k) off := (hv 0 _ v0 rfl rfl).1;have zB : ko U ad W args vs := ko.closed eC ⟨by simpa using hlen, fun j x v aa b8 => hv (j + 1) x v aa b8⟩;refine (ak.call U ad W (v0 :: vs) (a6.more oQ dI) (fun x aa j ae => ?_) ⟨hlen, fun j x v aa b8 => ?_⟩).mono ?_
  ·rcases hf.1 aa with rfl | aa
   ·obtain ⟨y, ag, ae⟩ := ae;simp [bK.cells] at ag;subst ag;cases ae;exact af
   ·exact absurd ae (ai.dH (cC.1 eC x aa) j)
  ·match j with
   | 0 => cases aa; cases b8; exact Qh sy
   | j + 1 => exact zB.2 j x v aa b8
  ·rintro e bq ⟨v, r, m1, bo, e5, oy, rfl, jZ, CS, p9, jf, bC, cf, cP, cw, ab⟩;have jC : e5 k = ad k := by obtain ⟨cs, h⟩ := af; exact (bC k cs h).1
   obtain ⟨ec, eT, q1, q2, cj, eH, lR, Ax⟩ := hp r m1 bo e5 oy bq v jZ jC CS p9;refine ⟨v, ec, cg, eT, e5, oy, rfl, q1, eH, cj, fun j ae => absurd ae (ai.dH q2 j), fun k cs af => (by cases af), fun j q ae => ?_, fun b ab => ?_, fun b ab => ?_, ⟨ab.os, ab.tape, ab.output, ab.size, fun b au => ab.block b ⟨au.1, fun Hh => au.2 ((gr b).2 Hh)⟩⟩⟩
   ·obtain ⟨rfl, rfl⟩ := fV ae;exact lR
   ·rcases cP b ab with q | q | q
    ·exact .inl q
    ·exact .inr (.inl q)
    ·exact .inr (.inr ((gr b).2 q))
   ·rcases cw b (Ax b ab) with q | q
    ·exact .inl ((gr b).2 q)
    ·exact .inr q
theorem Pn {U : Nat → Prop} {ad bf : Nat → Nat} {W : World} {m m1 : Mem} {R bo : aJ} {k : Nat} (h : fk U ad W m R) (hm : ∀ k cs, m1 k = some cs → m k = some cs) (ap : bH bo R) (fT : ∀ k cs x j, m1 k = some cs → x ∈ cs → x.owns j → ∃ ar, m1 j = some ar) (hp : nA m1 bo) :
  (iw (eb (ad k)) (ls ad m1 bo k)).ok U bf W ∧ (∀ y ∈ (iw (eb (ad k)) (ls ad m1 bo k)).aU, y.ba = true) ∧ ∀ g, (iw (eb (ad k)) (ls ad m1 bo k)).own g → ¬ U g ∧ ∀ j cs, cg j = some cs → bf j ≠ g :=
 ⟨ab7 ((h.sub hm ap fT).none hp) hp, fun y ag => by simp at ag; subst ag; rfl, fun g aw => ⟨(h.sub hm ap fT).abR (Ec aw), fun j cs ae => (by cases ae)⟩⟩
theorem Rr {P : Program} {f : FuncId} {args : List ai} {ad : Nat → Nat} {m : Mem} {R : aJ} {k off : Nat} {Post : ai → Mem → aJ → Prop} {post : ai → fm → Prop} (af : ∃ cs, m k = some cs) (eC : args.all ai.ba = true) (ak : dt P f (.w (.one (.own k off)) :: args) m R Post)
  (hp : ∀ v m1 bo, Post v m1 bo → v.ba = true ∧ nA m1 bo ∧ ∀ e5, e5 k = ad k → post v (ls e5 m1 bo k)) : yp P f (aR (nB (ad k) off) :: args) (eb (ad k)) (ls ad m R k) post := by
 intro i;refine afH af eC ak i fun r m1 bo e5 oy h0 v jZ jC cS p9 => ?_;obtain ⟨c1, c2, k6⟩ := hp _ _ _ jZ;have ab := Pn (bf := e5) (k := k) cS (fun _ _ h => h) (bH.refl _) cS.fT c2;refine ⟨r, bL i (iw (eb (ad k)) (ls e5 m1 bo k)), ⟨_, rfl, rfl, k6 e5 jC⟩, c1, p9, ⟨fun k cs af => (by cases af), fun k cs x j af => (by cases af), fun k k' cs ar af => (by cases af), fun j q ae => ?_, fun j e4 q cK ae ks ck => ?_⟩, ⟨_, by unfold bL; exact cy _ _ _⟩, ?_⟩
 ·obtain ⟨rfl, rfl⟩ := fV ae;rw [← jC]; exact ab
 ·obtain ⟨rfl, _⟩ := fV ae;obtain ⟨rfl, _⟩ := fV ks;exact absurd rfl ck
 ·rintro b (⟨j, cs, ae, _⟩ | ⟨j, q, ae, aw⟩)
  ·cases ae
  ·obtain ⟨rfl, rfl⟩ := fV ae;rw [← jC] at aw;exact Ec aw
theorem afG {P : Program} {f : FuncId} {args : List ai} {Post : ai → Mem → aJ → Prop} {post : Value → fm → Prop} (ak : dt P f args cg gO Post)
  (hp : ∀ v m1 bo, Post v m1 bo → ∃ k, v = .w (.one (.own k 0)) ∧ nA m1 bo ∧ ∀ e5, post (eb (e5 k)) (ls e5 m1 bo k)) : FM P f args post := by
 intro i;refine ⟨fun U ad W vs cS ew dT => (ak.call U ad W vs cS ew dT).mono ?_⟩;rintro e bq ⟨v, r, m1, bo, e5, oy, rfl, jZ, CS, p9, jf, bC, cf, cP, cw, ab⟩;obtain ⟨k, rfl, c2, k6⟩ := hp _ _ _ jZ;have XQ := Pn (bf := e5) (k := k) CS (fun _ _ h => h) (bH.refl _) CS.fT c2;have hv : v = eb (e5 k) := p9;refine ⟨v, aR (eb (e5 k)), cg, bL i (iw (eb (e5 k)) (ls e5 m1 bo k)), e5, oy, rfl, ⟨_, _, rfl, rfl, rfl, k6 e5⟩, ⟨fun k cs af => (by cases af), fun k cs x j af => (by cases af), fun k k' cs ar af => (by cases af), fun j q ae => ?_, fun j e4 q cK ae ks ck => ?_⟩, ⟨hv, rfl⟩, fun j ae => absurd ae (iJ _ j), fun k cs af => (by cases af), fun j q ae => (by cases ae), cP, fun b ab => ?_, ab⟩
 ·obtain ⟨rfl, rfl⟩ := fV ae;exact XQ
 ·obtain ⟨rfl, _⟩ := fV ae;obtain ⟨rfl, _⟩ := fV ks;exact absurd rfl ck
 ·rcases ab with ⟨j, cs, ae, _⟩ | ⟨j, q, ae, aw⟩
  ·cases ae
  ·obtain ⟨rfl, rfl⟩ := fV ae;exact cw b (Ec aw)
section
variable {P : Program} {R : aJ} {s : aC} {ops : Array Oper} {dr : Option (List Nat)} {ty : Nat} {pos : String} {after : Array Edge} {guard : Option (Nat × Bool)} {K : aJ → aC → Prop} {rest : List Oper}
theorem zH (i : Nat) {dst : Option Nat} {f : FuncId} {g : Operand} {ts : Array TypeId} {l : List Operand} {args : List ai} {p : Value} {S : fm} {post : ai → fm → Prop} [E : Enters P f] (hw : want ops ⟨dst, .call ⟨.value g, l.toArray, ts⟩, ty, pos, after, guard⟩ s = some true) (hm : dW dr ⟨dst, .call ⟨.value g, l.toArray, ts⟩, ty, pos, after, guard⟩ = true)
  (aw : s.look g = some (aR (.func (.func f) #[] #[]))) (aL : l.map s.look = args.map some) (hp : yp P f args p S post) (hi : R i = some (iw p S)) (eC : args.all ai.ba = true) (hd : k8 dst s.n = true)
  (h : ∀ v dm, post v dm → cT P ops dr K rest (bS R i (iw p dm)) (s.put dst v)) : cT P ops dr K (⟨dst, .call ⟨.value g, l.toArray, ts⟩, ty, pos, after, guard⟩ :: rest) R s := by
 refine vC hw hm aw aL (hp i) (fun x aa j ae => absurd ae (ai.dH (cC.1 eC x aa) j)) (fun k' ar aF => by cases aF) (fun fN a8 aF => ?_) (fun k' ar x j aF aa ae => by cases aF) hd ?_
 ·obtain ⟨rfl, rfl⟩ := fV aF; exact hi
 ·rintro v aH aB ⟨dm, rfl, rfl, al⟩;refine ⟨fun k' c aF => (by cases aF), ?_⟩;rw [show b5 (bL i (iw p dm)) R = bS R i (iw p dm) from vT R i _, uC];exact h v dm al
theorem Nk (i : Nat) {dst : Option Nat} {f : FuncId} {g : Operand} {ts : Array TypeId} {l : List Operand} {args : List ai} {post : Value → fm → Prop} [E : Enters P f] (hw : want ops ⟨dst, .call ⟨.value g, l.toArray, ts⟩, ty, pos, after, guard⟩ s = some true) (hm : dW dr ⟨dst, .call ⟨.value g, l.toArray, ts⟩, ty, pos, after, guard⟩ = true)
  (aw : s.look g = some (aR (.func (.func f) #[] #[]))) (aL : l.map s.look = args.map some) (hp : FM P f args post) (eC : args.all ai.ba = true) (hd : k8 dst s.n = true)
  (h : ∀ p S, post p S → cT P ops dr K rest (bS R i (iw p S)) (s.put dst (aR p))) : cT P ops dr K (⟨dst, .call ⟨.value g, l.toArray, ts⟩, ty, pos, after, guard⟩ :: rest) R s := by
 refine vC hw hm aw aL (hp i) (fun x aa j ae => absurd ae (ai.dH (cC.1 eC x aa) j)) (fun k' ar aF => by cases aF) (fun fN a8 aF => by cases aF) (fun k' ar x j aF aa ae => by cases aF) hd ?_;rintro v aH aB ⟨p, S, rfl, rfl, rfl, al⟩;refine ⟨fun k' c aF => (by cases aF), ?_⟩;rw [show b5 (bL i (iw p S)) R = bS R i (iw p S) from vT R i _, uC];exact h p S al
end
section
variable {P : Program} {s : aC} {ops : Array Oper} {K : aC → Prop} {rest : List Oper} {ty : Nat} {pos : String} {after : Array Edge} {guard : Option (Nat × Bool)} {d : Nat}
theorem tp {x : Operand} {b off : Nat} (hw : want ops ⟨some d, .nilCheck x, ty, pos, after, guard⟩ s = some true) (aa : s.look x = some (aR (nB b off))) (hd : Nat.blt d s.n = true) (h : bi P ops K rest (s.put (some d) (aR (nB b off)))) : bi P ops K (⟨some d, .nilCheck x, ty, pos, after, guard⟩ :: rest) s := by
 refine fY hw ⟨fun _ _ h => (by cases h), fun y ag => ?_, fun U ad W env he => ?_, fun j ae => absurd ae (iJ _ j)⟩ hd h
 ·simp [Op.operands] at ag;subst ag;exact ⟨_, aa⟩
 ·have hv : env x = nB b off := (he x (by simp [Op.operands]) _ aa).1;exact ⟨_, by simp only [execOp, hv]; rfl, rfl, rfl⟩
theorem tm {x : Operand} {qq i b off im : Nat} [F : mx P qq i im] (hw : want ops ⟨some d, .fieldAddr qq x i, ty, pos, after, guard⟩ s = some true) (aa : s.look x = some (aR (nB b off))) (hd : Nat.blt d s.n = true) (h : bi P ops K rest (s.put (some d) (aR (nB b (off + im))))) : bi P ops K (⟨some d, .fieldAddr qq x i, ty, pos, after, guard⟩ :: rest) s := by
 refine fY (av := aR (nB b (off + im))) hw ⟨fun _ _ h => (by cases h), fun y ag => ?_, fun U ad W env he => ?_, fun j ae => absurd ae (iJ _ j)⟩ hd h
 ·simp [Op.operands] at ag;subst ag;exact ⟨_, aa⟩
 ·have hp : env x = .pointer (some ⟨b, off, none⟩) := (he x (by simp [Op.operands]) _ aa).1;have hF := F.h;unfold tL at hF
  split at hF
  ·rename_i bm hu;cases au : bm[i]? with
   | none => rw [au] at hF; cases hF
   | some f =>
    rw [au] at hF;simp only [kz] at hF;cases hi : P.info? f.type with
    | none => rw [hi] at hF; cases hF
    | some t =>
     rw [hi] at hF;simp only [kz] at hF
     split at hF
     ·cases hF
     ·rename_i ck;cases hF;refine ⟨.pointer (some ⟨b, off + f.offset, none⟩), ?_, rfl, rfl⟩;have kP : (⟨b, off, none⟩ : Addr).add f.offset = ⟨b, off + f.offset, none⟩ := by unfold Addr.add; split <;> simp_all
      simp only [execOp, Instr.fieldAt, hp, Instr.sureAddr, Sem.run_bind, Sem.run_pure, Result.andThen_ok, run_underlying hu, au, fieldPlace, hV hi, if_neg ck, kP]
  ·cases hF
theorem aeG (n : Nat) {t e : TypeId} (hu : P.underlying t = some (.pointer e)) (a : Addr) (W : World) : (Op.equalIn (n + 1) t (.pointer (some a)) (.pointer none)).run P W = .ok false W := by
 simp [Op.equalIn, run_underlying hu]
theorem QW {t e : TypeId} (hu : P.underlying t = some (.pointer e)) (a : Addr) (W : World) : (Op.equal t (.pointer (some a)) (.pointer none)).run P W = .ok false W := aeG 9999 hu a W
theorem aeF {t e : TypeId} (hu : P.underlying t = some (.pointer e)) (a : Addr) (W : World) : (binOp .eql t (.pointer (some a)) (.pointer none)).run P W = .ok (.bool false) W := by
 simp only [binOp];simp [QW hu]
theorem Mn {op : BinOp} {t : TypeId} {x y : Operand} {a : Option Addr} {v : Value} : eqGuard op t x y (.pointer a) v = pure () := by cases op <;> rfl
def Dy (P : Program) (t : TypeId) : Bool := match P.underlying t with
 | some (.pointer _) => true
 | _ => false
end
section
variable {P : Program} {s : aC} {ops : Array Oper} {K : aC → Prop} {rest : List Oper} {ty : Nat} {pos : String} {after : Array Edge} {guard : Option (Nat × Bool)} {d : Nat}
theorem aeH {t e : TypeId} (hu : P.underlying t = some (.pointer e)) (a : Addr) (W : World) : (binOp .neq t (.pointer (some a)) (.pointer none)).run P W = .ok (.bool true) W := by
 simp only [binOp];simp [QW hu]
end
theorem fm.same {A B : fm} (h1 : A.holds = B.holds) (h2 : A.lG = B.lG) : A = B := by
 cases A; cases B; cases h1; cases h2; rfl
theorem AC.Qw {bP : Nat → Nat} (x : AC) : (x.bd bP).vU = x.vU := by cases x <;> rfl
theorem adH {bP cu iX : Nat → Nat} (fM : ∀ j, bP (bP j) = j) (gM : ∀ j, cu (iX j) = j) {m : Mem} {R : aJ} : nA (m.bd bP) (R.bd cu) ↔ nA m R := by
 constructor
 ·rintro ⟨h1, h2⟩;refine ⟨fun k cs af => ?_, fun i r hi => h2 (iX i) r (by unfold aJ.bd; rw [gM]; exact hi)⟩;have := h1 _ _ (Mem.rv fM af);rw [List.all_map] at this;rw [cC] at this ⊢;exact fun x aa => (AC.Qw x).symm.trans (this x aa)
 ·rintro ⟨h1, h2⟩;refine ⟨fun k cs af => ?_, fun i r hi => h2 (cu i) r hi⟩;obtain ⟨ds, hd, rfl⟩ := Mem.ry af;have := h1 _ _ hd;rw [List.all_map];rw [cC] at this ⊢;exact fun x aa => (AC.Qw x).trans (this x aa)
theorem afI {bP cu iX : Nat → Nat} (fM : ∀ j, bP (bP j) = j) (gM : ∀ j, cu (iX j) = j) (vF : ∀ j, iX (cu j) = j) {ad : Nat → Nat} {m : Mem} {R : aJ} {k : Nat} : ls ad (m.bd bP) (R.bd cu) (bP k) = ls (fun j => ad (bP j)) m R k := by
 refine fm.same ?_ ?_
 ·funext w v;show (v = eb (ad (bP k)) ∧ fk uu ad w (m.bd bP) (R.bd cu) ∧ nA (m.bd bP) (R.bd cu)) = (v = eb (ad (bP k)) ∧ fk uu (fun j => ad (bP j)) w m R ∧ nA m R);rw [propext (adH fM gM), propext (fk.bd fM gM vF)]
 ·funext w v b;exact propext (eu.bd fM gM)
theorem eZ {P : Program} {fn : Func} {l : List ResultVar} {xs : List bK} {R R0 bo : aJ} {s : aC} {cs ar : List AC} {Post : ai → Mem → aJ → Prop} (ap : fn.results = l.toArray) (h : l.map (iS P s) = xs.map some) (af : s.mem 1000 = some ar) (aA : bH bo R) (ak : ar.all AC.ba = true) (aa : (packed xs).ba = true) (aI : ∀ i r, R0 i = some r → ∃ a8, bo i = some a8)
  (hp : Post (packed xs) (cQ 1000 ar) bo) : tW P fn (cQ 1000 cs) R0 Post R s := by
 refine ⟨xs, packed xs, cQ 1000 ar, bo, by rw [ap]; exact h, .refl _, hp, fun k c h => ?_, aA, fun j ae => absurd ae (ai.dH aa j), fun k c x j h aa ae => ?_, fun k c h => ?_, aI⟩
 ·obtain ⟨rfl, rfl⟩ := hT h; exact af
 ·obtain ⟨rfl, rfl⟩ := hT h; exact absurd ae (AC.dH (cC.1 ak x aa) j)
 ·obtain ⟨rfl, rfl⟩ := hT h; exact ⟨ar, by unfold cQ; exact cy _ _ _⟩
theorem Hf (k : Nat) {P : Program} {fn : Func} {l : List ResultVar} {xs : List bK} {R bo : aJ} {s : aC} {ar : List AC} {Post : ai → Mem → aJ → Prop} (ap : fn.results = l.toArray) (h : l.map (iS P s) = xs.map some) (af : s.mem k = some ar) (aA : bH bo R) (ak : ar.all AC.ba = true) (aa : (packed xs).xM k = true)
  (hp : Post (packed xs) (cQ k ar) bo) : tW P fn cg gO Post R s := by
 refine ⟨xs, packed xs, cQ k ar, bo, by rw [ap]; exact h, .refl _, hp, fun k c h => ?_, aA, fun j ae => ?_, fun k c x j h zL ae => ?_, fun k c h => (by cases h), fun i r h => (by cases h)⟩
 ·obtain ⟨rfl, rfl⟩ := hT h; exact af
 ·rw [ai.acn aa ae]; exact ⟨ar, by unfold cQ; exact cy _ _ _⟩
 ·obtain ⟨rfl, rfl⟩ := hT h; exact absurd ae (AC.dH (cC.1 ak x zL) j)
section
variable {P : Program} {R : aJ} {s : aC} {ops : Array Oper} {dr : Option (List Nat)} {ty : Nat} {pos : String} {after : Array Edge} {guard : Option (Nat × Bool)} {K : aJ → aC → Prop} {rest : List Oper}
end
def pq (P : Program) (f : FuncId) (args : List ai) (post : ai → bQ → Prop) : Prop :=
 ∀ i, dt P f args cg gO fun v aH aB => ∃ q, aH = cg ∧ aB = bL i q ∧ 0 < q.sz ∧ post v q
theorem FR {P : Program} {f : FuncId} {args : List ai} {post : ai → bQ → Prop} (aL : args.all ai.ba = true) (hp : ∀ v q, post v q → v.ba = true)
  (h : dt P f args cg gO fun v aH aB => ∃ q, aH = cg ∧ aB = bL 0 q ∧ 0 < q.sz ∧ post v q) : pq P f args post := by
 intro i;have h1 := h.bd (bP := fun j => j) (cu := swp 0 i) (iX := swp 0 i) (fun _ => rfl) (nD _ _) (nD _ _);rw [Qs aL, show Mem.bd (fun j => j) cg = cg from rfl, show aJ.bd (swp 0 i) gO = gO from rfl] at h1;refine ⟨fun U ad W vs cS ew dT => (h1.call U ad W vs cS ew dT).mono ?_⟩;rintro e bq ⟨v1, c3, aH, aB, bf, cM, c9, ⟨ec, m2, eT, ⟨q, rfl, rfl, aZ, al⟩, rfl, rfl, rfl⟩, mo⟩;rw [show Mem.bd (fun j => j) cg = cg from rfl, AG, vX (hp _ _ al)] at mo;exact ⟨v1, ec, cg, bL i q, bf, cM, c9, ⟨q, rfl, rfl, aZ, al⟩, mo⟩
theorem zm {P : Program} {fn : Func} {l : List ResultVar} {xs : List bK} {R : aJ} {s : aC} {q : bQ} {post : ai → bQ → Prop} (ap : fn.results = l.toArray) (h : l.map (iS P s) = xs.map some) (hi : R 0 = some q) (aa : (packed xs).ba = true) (zA : 0 < q.sz)
  (hp : post (packed xs) q) : tW P fn cg gO (fun v aH aB => ∃ q, aH = cg ∧ aB = bL 0 q ∧ 0 < q.sz ∧ post v q) R s := by
 refine ⟨xs, packed xs, cg, bL 0 q, by rw [ap]; exact h, .refl _, ⟨q, rfl, rfl, zA, hp⟩, fun k c h => (by cases h), fun i r h => ?_, fun j ae => absurd ae (ai.dH aa j), fun k c x j h => (by cases h), fun k c h => (by cases h), fun i r h => (by cases h)⟩;obtain ⟨rfl, rfl⟩ := fV h; exact hi
section
variable {P : Program} {R : aJ} {s : aC} {ops : Array Oper} {dr : Option (List Nat)} {ty : Nat} {pos : String} {after : Array Edge} {guard : Option (Nat × Bool)} {K : aJ → aC → Prop} {rest : List Oper}
end
section
variable {P : Program} {U lz : Nat → Prop} {ad : Nat → Nat} {w : World}
theorem bQ.ok.Rq {r : bQ} (h : r.ok U ad w) (hs : 0 < r.sz) (Bb : List AC) (ag : ∀ xs, bZ U ad w r.aU xs → bZ lz ad w Bb xs) (ak : ∀ y ∈ Bb, y.ba = true) (dI : ∀ b, r.own b → lz b) : gI lz ad w (.p (cA r.sz r.n Bb)) r.v := by
 obtain ⟨xs, az, Hp⟩ := h.row hs;have ao := ag xs Hp;have nZ := ao.1;obtain ⟨lf, aE | ⟨g, cap, cur, kR, qT, vr, e1, jV, eg, n3⟩⟩ := id az
 ·obtain ⟨aG, aO⟩ := aE;have : Bb = [] := na (by rw [nZ, lf, aO]; simp);rw [aG];exact ⟨⟨none, 0, by rw [aO], by omega, by rw [this, aO]; simp, fun h => absurd h (by omega)⟩, fun b ⟨c', a', q, aE, ab⟩ => by cases q⟩
 ·have tU := az.cells (g := g) (by rw [kR]; rfl);have YF : r.own g := .inl (by rw [kR]; rfl);rw [kR];have qR : k0 w ⟨g, 0, none⟩ Bb xs := ⟨(ln.1 vr).1, ao.wS ak fun b _ _ => ⟨trivial, rfl⟩, tU, ak⟩;refine ⟨⟨some ⟨g, 0, none⟩, cap, rfl, e1, by rw [nZ]; exact lf, fun aE => ⟨⟨g, 0, none⟩, xs, rfl, qR⟩⟩, ?_⟩;rintro b ⟨c', a', q, aE, au⟩;cases q;rcases au with rfl | ⟨j, y, v, ag, hv, gC⟩
  ·exact dI g YF
  ·have bj : j < xs.length := by rw [← nZ]; exact (bV.1 ag).1
   have h2 := tU j _ (cl bj);rw [hv] at h2;cases h2;have aq := ao.2 j y _ ag (cl bj);cases y with
   | c u => cases gC
   | own k o => cases gC
   | p S => exact aq.2 b gC
def Bv (r : ai) : Prop := ∀ (U cM : Nat → Prop) (ad bf : Nat → Nat) (W bq : World) v, di U ad W r v → di cM bf bq r v
def uU (aU : List AC) : Prop := ∀ (U cM : Nat → Prop) (ad bf : Nat → Nat) (W bq : World) xs, bZ U ad W aU xs → bZ cM bf bq aU xs
theorem uU.of {aU : List AC} (h : ∀ y ∈ aU, ∃ v, y = .c v) : uU aU := fun U cM ad bf W bq xs aa => ⟨aa.1, fun i y v ag hv => by
 have h1 := aa.2 i y v ag hv;obtain ⟨u, rfl⟩ := h y (dJ ag);exact h1⟩
theorem Bv.one {v : Value} : Bv (aR v) := fun U cM ad bf W bq u h => h
theorem XV {f : FuncId} {args r0 : List ai} {R0 : aJ} {Post : ai → Mem → aJ → Prop} (hp : dt P f r0 cg gO Post) (ak : r0.all ai.ba = true)
  (hv : ∀ U ad W vs, fk U ad W cg R0 → ko U ad W args vs → ko (fun b => U b ∨ eu ad cg R0 b) ad W r0 vs)
  (jZ : ∀ r aH bo, Post r aH bo → aH = cg ∧ Bv r ∧ r.ba = true ∧ ∀ i q, bo i = some q → 0 < q.sz ∧ uU q.aU) :
  dt P f args cg R0 fun r aH aB => ∃ bo, Post r cg bo ∧ aH = cg ∧ aB = b5 bo R0 := by
 refine ⟨fun U ad W vs cS ew dT => ?_⟩;have Xs : fk (fun b => U b ∨ eu ad cg R0 b) ad W cg gO := ⟨fun k cs af => (by cases af), fun k cs x j af => (by cases af), fun k k' cs ar af => (by cases af), fun i q hi => (by cases hi), fun i j q cK hi => (by cases hi)⟩;have bj : ∀ i q g, R0 i = some q → q.own g → g < W.heap.size := fun i q g hi aw => (cS.rows i q hi).1.lt aw;refine (hp.call _ ad W vs Xs (fun x aa j ae => absurd ae (ai.dH (cC.1 ak x aa) j)) (hv U ad W vs cS dT)).mono ?_;rintro e bq ⟨v, r, aH, bo, bf, cM, rfl, h1, h2, aq, aK, cO, ek, np, pR, jc⟩;obtain ⟨rfl, au, n2, YW⟩ := jZ r aH bo h1
 have zI : ∀ b, b < W.heap.size → bq.heap[b]? = W.heap[b]? := fun b ab => jc.block b ⟨ab, by
  rintro (⟨k, cs, af, _⟩ | ⟨i, q, hi, _⟩)
  ·cases af
  ·cases hi⟩
 have p5 : ∀ i q g, bo i = some q → q.own g → W.heap.size ≤ g := fun i q g hi aw => (pR g (.inr ⟨i, q, hi, aw⟩)).elim (fun h => by
  rcases h with ⟨k, cs, af, _⟩ | ⟨i, q, hi, _⟩
  ·cases af
  ·cases hi) id
 refine ⟨v, r, cg, b5 bo R0, bf, fun b => U b ∧ b < W.heap.size, rfl, ⟨bo, h1, rfl, rfl⟩, ⟨fun k cs af => (by cases af), fun k cs x j af => (by cases af), fun k k' cs ar af => (by cases af), fun i q hi => ?_, fun i j q cK hi ae gL g aw eN => ?_⟩, au _ _ _ _ _ _ v aq, fun j ae => absurd ae (ai.dH n2 j), fun k cs af => (by cases af), fun i q hi => ?_, fun b ab => .inl ab.1, fun b ab => ?_, ⟨jc.os, jc.tape, jc.output, jc.size, fun b ab => zI b ab.1⟩⟩
 ·rcases j7 hi with hi | ⟨_, hi⟩
  ·obtain ⟨q1, q2, cj⟩ := h2.rows i q hi;obtain ⟨kf, z2⟩ := YW i q hi;obtain ⟨xs, az, ao⟩ := q1.row kf;exact ⟨.inl ⟨kf, xs, az, z2 _ _ _ _ _ _ xs ao⟩, q2, fun g aw => ⟨fun hu => by have := p5 i q g hi aw; have := hu.2; omega, fun k cs af => by cases af⟩⟩
  ·obtain ⟨q1, q2, cj⟩ := cS.rows i q hi;exact ⟨q1.kept q2 (fun g aw => zI g (bj i q g hi aw)) jc.size fun b ab ao => ⟨⟨ab, ao⟩, zI b ao⟩, q2, fun g aw => ⟨fun hu => (cj g aw).1 hu.1, fun k cs af => by cases af⟩⟩
 ·rcases j7 hi with hi | ⟨_, hi⟩ <;> rcases j7 ae with ae | ⟨_, ae⟩
  ·exact h2.apart i j q cK hi ae gL g aw eN
  ·have := p5 i q g hi aw; have := bj j cK g ae eN; omega
  ·have := p5 j cK g ae eN; have := bj i q g hi aw; omega
  ·exact cS.apart i j q cK hi ae gL g aw eN
 ·cases al : bo i with
  | some x => exact ⟨x, gv al⟩
  | none => exact ⟨q, by rw [gw al]; exact hi⟩
 ·rcases ab with ⟨k, cs, af, _⟩ | ⟨i, q, hi, aw⟩
  ·cases af
  ·rcases j7 hi with hi | ⟨_, hi⟩
   ·exact .inr (p5 i q b hi aw)
   ·exact .inl (.inr ⟨i, q, hi, aw⟩)
end
section
variable {P : Program} {R : aJ} {s : aC} {ops : Array Oper} {dr : Option (List Nat)} {ty : Nat} {pos : String} {after : Array Edge} {guard : Option (Nat × Bool)} {K : aJ → aC → Prop} {rest : List Oper}
theorem Nf {dst : Option Nat} {f : FuncId} {g : Operand} {ts : Array TypeId} {l : List Operand} {args : List ai} {R0 : aJ} {Post : ai → Mem → aJ → Prop} [E : Enters P f] (hw : want ops ⟨dst, .call ⟨.value g, l.toArray, ts⟩, ty, pos, after, guard⟩ s = some true) (hm : dW dr ⟨dst, .call ⟨.value g, l.toArray, ts⟩, ty, pos, after, guard⟩ = true)
  (aw : s.look g = some (aR (.func (.func f) #[] #[]))) (aL : l.map s.look = args.map some) (hp : dt P f args cg R0 Post) (ap : bH R0 R) (eC : args.all ai.ba = true) (hd : k8 dst s.n = true)
  (h : ∀ r aH aB, Post r aH aB → aH = cg ∧ cT P ops dr K rest (b5 aB R) (s.put dst r)) : cT P ops dr K (⟨dst, .call ⟨.value g, l.toArray, ts⟩, ty, pos, after, guard⟩ :: rest) R s := by
 refine vC hw hm aw aL hp (fun x aa j ae => absurd ae (ai.dH (cC.1 eC x aa) j)) (fun k' ar aF => by cases aF) ap (fun k' ar x j aF aa ae => by cases aF) hd ?_;rintro r aH aB al;obtain ⟨rfl, aF⟩ := h r aH aB al;refine ⟨fun k' ar aF => (by cases aF), ?_⟩;have dn : s.over cg = s := rfl;rw [dn]; exact aF
end
def jb (g e : Nat) (cs : List AC) : bQ := ⟨e, cs.length, .slice (some ⟨g, 0, none⟩) 1 1, 1, cs⟩
theorem vb {g e : Nat} {cs : List AC} (aZ : 0 < cs.length) {b : Nat} : (jb g e cs).own b ↔ b = g := by
 constructor
 ·intro h;have h := bQ.o9 h (by exact aZ);have : (some g : Option Nat) = some b := h;exact (mY this).symm
 ·rintro rfl; exact .inl rfl
theorem KZ {U : Nat → Prop} {ad : Nat → Nat} {W : World} {g e : Nat} {cs : List AC} (aZ : 0 < cs.length) : (jb g e cs).ok U ad W ↔ ∃ vs : List Value, W.heap[g]? = some (.cells vs.toArray e (0, 0)) ∧ bZ U ad W cs vs := by
 constructor
 ·intro h;obtain ⟨xs, ⟨ao, a6⟩, ap⟩ := h.row aZ;rcases a6 with ⟨aI, _⟩ | ⟨jx, cap, cur, hv, _, vr, _, _, ak, hO⟩
  ·cases aI
  ·cases hv;have ak : cur.size = 1 * cs.length := ak;have hO : cur.toList.take (1 * cs.length) = xs := hO;have aG : cur.toList = xs := by rw [← hO]; exact (iy (by rw [Array.length_toList]; omega)).symm
   refine ⟨xs, ?_, ap⟩;rw [← aG, Array.toArray_toList];exact vr
 ·rintro ⟨vs, h1, h2⟩;have ao := h2.1;refine .inl ⟨aZ, vs, ⟨by show vs.length = 1 * cs.length; omega, .inr ⟨g, 1, vs.toArray, rfl, ez _, h1, dU _, by unfold maxLen; decide, by show vs.length = 1 * cs.length; omega, ?_⟩⟩, h2⟩;show vs.take (1 * cs.length) = vs;exact iy (by omega)
theorem tT {ad : Nat → Nat} {k g e i : Nat} {cs : List AC} {R : aJ} (aZ : 0 < cs.length) (hi : R i = none) (af : ad k = g) {b : Nat} {bf : Nat → Nat} : eu ad (cQ k cs) R b ↔ eu bf cg (bS R i (jb g e cs)) b := by
 constructor
 ·rintro (⟨k', ar, h1, h2⟩ | ⟨j, r, h1, h2⟩)
  ·obtain ⟨rfl, rfl⟩ := hT h1;exact .inr ⟨i, _, cy _ _ _, (vb aZ).2 (h2.symm.trans af)⟩
  ·have : j ≠ i := fun e => by subst e; rw [hi] at h1; cases h1
   exact .inr ⟨j, r, by rw [ca _ _ this]; exact h1, h2⟩
 ·rintro (⟨k', ar, h1, h2⟩ | ⟨j, r, h1, h2⟩)
  ·cases h1
  ·by_cases lE : j = i
   ·subst lE;rw [cy] at h1;cases h1;exact .inl ⟨k, cs, by unfold cQ; exact cy _ _ _, af.trans ((vb aZ).1 h2).symm⟩
   ·rw [ca _ _ lE] at h1;exact .inr ⟨j, r, h1, h2⟩
theorem MM {U : Nat → Prop} {ad bf : Nat → Nat} {W : World} {k g e i : Nat} {cs : List AC} {R : aJ} (aZ : 0 < cs.length) (ak : cs.all AC.ba = true) (hi : R i = none) (af : ad k = g) (h : fk U bf W cg (bS R i (jb g e cs))) : fk U ad W (cQ k cs) R := by
 have ck : ∀ {j r}, R j = some r → j ≠ i := fun {j r} h1 e => by subst e; rw [hi] at h1; cases h1
 obtain ⟨h1, h2, aq⟩ := h.rows i _ (cy _ _ _);obtain ⟨vs, aP, w2⟩ := (KZ aZ).1 h1;have cW := cC.1 ak;refine ⟨fun k' ar e0 => ?_, fun k' ar x j e0 aa ae => ?_, fun bC cf c1 c2 h1 h2 _ => ?_, fun j r ae => ?_, fun j e4 r q ae ks Dh => ?_⟩
 ·obtain ⟨rfl, rfl⟩ := hT e0;exact ⟨vs, e, by rw [af]; exact aP, w2.map (fun b ab _ => ⟨ab, rfl⟩) fun j x aa ae => absurd ae (AC.dH (cW x aa) j), by rw [af]; exact (aq g ((vb aZ).2 rfl)).1⟩
 ·obtain ⟨rfl, rfl⟩ := hT e0;exact absurd ae (AC.dH (cW x aa) j)
 ·exact (hT h1).1.trans (hT h2).1.symm
 ·obtain ⟨q1, q2, cj⟩ := h.rows j r (by rw [ca _ _ (ck ae)]; exact ae);refine ⟨q1.kept q2 (fun _ _ => rfl) (dU _) (fun b ab _ => ⟨ab, rfl⟩), q2, fun b ab => ⟨(cj b ab).1, fun k' ar e0 e => ?_⟩⟩;obtain ⟨rfl, rfl⟩ := hT e0;exact h.apart i j _ r (cy _ _ _) (by rw [ca _ _ (ck ae)]; exact ae) (Ne.symm (ck ae)) b ((vb aZ).2 (e.symm.trans af)) ab
 ·exact h.apart j e4 r q (by rw [ca _ _ (ck ae)]; exact ae) (by rw [ca _ _ (ck ks)]; exact ks) Dh
theorem KY {U : Nat → Prop} {ad bf : Nat → Nat} {W : World} {k i : Nat} {cs : List AC} {R : aJ} (aZ : 0 < cs.length) (ak : cs.all AC.ba = true) (hi : R i = none) (h : fk U ad W (cQ k cs) R) : ∃ e, fk U bf W cg (bS R i (jb (ad k) e cs)) := by
 have ck : ∀ {j r}, R j = some r → j ≠ i := fun {j r} h1 e => by subst e; rw [hi] at h1; cases h1
 have nY : cQ k cs k = some cs := by unfold cQ; exact cy _ _ _
 obtain ⟨vs, e, aP, w2, w3⟩ := h.dG k cs nY;have cW := cC.1 ak
 have EM : ∀ {j q}, bS R i (jb (ad k) e cs) j = some q → (j = i ∧ q = jb (ad k) e cs) ∨ (j ≠ i ∧ R j = some q) := fun {j q} ae => by
  by_cases lE : j = i
  ·subst lE; rw [cy] at ae; cases ae; exact .inl ⟨rfl, rfl⟩
  ·rw [ca _ _ lE] at ae; exact .inr ⟨lE, ae⟩
 refine ⟨e, fun k' ar e0 => (by cases e0), fun k' ar x j e0 => (by cases e0), fun bC cf c1 c2 h1 => (by cases h1), fun j q ae => ?_, fun j e4 q cK ae ks Dh b ab du => ?_⟩
 ·rcases EM ae with ⟨rfl, rfl⟩ | ⟨_, xl⟩
  ·refine ⟨(KZ aZ).2 ⟨vs, aP, w2.map (fun b ab _ => ⟨ab, rfl⟩) fun j x aa ae => absurd ae (AC.dH (cW x aa) j)⟩, cW, fun b ab => ⟨?_, fun k' ar e0 => (by cases e0)⟩⟩;rw [(vb aZ).1 ab]; exact w3
  ·obtain ⟨q1, q2, cj⟩ := h.rows j q xl;exact ⟨q1.kept q2 (fun _ _ => rfl) (dU _) (fun b ab _ => ⟨ab, rfl⟩), q2, fun b ab => ⟨(cj b ab).1, fun k' ar e0 => (by cases e0)⟩⟩
 ·rcases EM ae with ⟨rfl, rfl⟩ | ⟨_, xl⟩
  ·rcases EM ks with ⟨rfl, rfl⟩ | ⟨_, Hm⟩
   ·exact Dh rfl
   ·rw [(vb aZ).1 ab] at du;exact ((h.rows e4 cK Hm).2.2 _ du).2 k cs nY rfl
  ·rcases EM ks with ⟨rfl, rfl⟩ | ⟨_, Hm⟩
   ·rw [(vb aZ).1 du] at ab;exact ((h.rows j q xl).2.2 _ ab).2 k cs nY rfl
   ·exact h.apart j e4 q cK xl Hm Dh b ab du
theorem dt.afM {P : Program} {f : FuncId} {args : List ai} {k : Nat} {cs : List AC} {R0 : aJ} {Post : ai → Mem → aJ → Prop} (i : Nat) (g e : Nat) (h : dt P f (.w (.one (.own k 0)) :: args) (cQ k cs) R0 Post) (eC : args.all ai.ba = true) (eg : cs.all AC.ba = true) (aZ : 0 < cs.length) (hi : R0 i = none)
  (hp : ∀ v aH aB, Post v aH aB → v.ba = true ∧ aB i = none ∧ ∃ ar, aH = cQ k ar ∧ ar.all AC.ba = true ∧ 0 < ar.length) :
  dt P f (aR (eb g) :: args) cg (bS R0 i (jb g e cs)) fun v aH aB => ∃ ar bo bz, Post v (cQ k ar) bo ∧ aH = cg ∧ aB = bS bo i (jb g bz ar) := by
 refine ⟨fun U ad W vs cS ew dT => ?_⟩
 let e5 : Nat → Nat := fun j => if j = k then g else ad j
 have qX : e5 k = g := if_pos rfl;have Fu := MM (ad := e5) aZ eg hi qX cS;obtain ⟨hlen, hv⟩ := dT
 match vs, hlen with
 | v0 :: vs, hlen =>
  have sy : v0 = eb g := (hv 0 _ v0 rfl rfl).1;have zB : ko U e5 W args vs := ko.closed eC ⟨by simpa using hlen, fun j x v aa b8 => hv (j + 1) x v aa b8⟩;refine (h.call U e5 W (v0 :: vs) Fu (fun x aa j ae => ?_) ⟨by simpa using hlen, fun j x v aa b8 => ?_⟩).mono ?_
  ·rcases hf.1 aa with rfl | aa
   ·obtain ⟨y, ag, ae⟩ := ae;simp [bK.cells] at ag;subst ag;cases ae;exact ⟨cs, by unfold cQ; exact cy _ _ _⟩
   ·exact absurd ae (ai.dH (cC.1 eC x aa) j)
  ·match j with
   | 0 => cases aa; cases b8; exact Qh (off := 0) (sy.trans (by rw [qX]))
   | j + 1 => exact zB.2 j x v aa b8
  ·rintro dn bq ⟨v, r, aH, aB, bf, cM, rfl, jZ, mG, p9, jf, bC, cf, cP, cw, ab⟩;obtain ⟨c1, aE, ar, rfl, c2, k6⟩ := hp _ _ _ jZ;have e0 : bf k = g := (bC k cs (by unfold cQ; exact cy _ _ _)).1.trans qX;obtain ⟨bz, Bx⟩ := KY (bf := bf) k6 c2 aE mG;rw [e0] at Bx;refine ⟨v, r, cg, bS aB i (jb g bz ar), bf, cM, rfl, ⟨ar, aB, bz, jZ, rfl, rfl⟩, Bx, p9, fun j ae => absurd ae (ai.dH c1 j), fun jj kK aI => (by cases aI), fun j hU ae => ?_, fun b du => ?_, fun b du => ?_, ⟨ab.os, ab.tape, ab.output, ab.size, fun b au => ab.block b ⟨au.1, fun a6 => au.2 ((tT aZ hi qX).1 a6)⟩⟩⟩
   ·by_cases lE : j = i
    ·subst lE; exact ⟨_, cy _ _ _⟩
    ·rw [ca _ _ lE] at ae;obtain ⟨q, al⟩ := cf j hU ae;exact ⟨q, by rw [ca _ _ lE]; exact al⟩
   ·rcases cP b du with q | q | q
    ·exact .inl q
    ·exact .inr (.inl q)
    ·exact .inr (.inr ((tT aZ hi qX).1 q))
   ·rcases cw b ((tT k6 aE e0).2 du) with q | q
    ·exact .inl ((tT aZ hi qX).1 q)
    ·exact .inr q
theorem dt.afL {P : Program} {f : FuncId} {args : List ai} {k : Nat} {cs : List AC} {R0 : aJ} {Post : ai → Mem → aJ → Prop} (i : Nat) (h : ∀ g e, dt P f (aR (eb g) :: args) cg (bS R0 i (jb g e cs)) fun v aH aB => ∃ ar bo bz, Post v (cQ k ar) bo ∧ aH = cg ∧ aB = bS bo i (jb g bz ar))
  (eC : args.all ai.ba = true) (eg : cs.all AC.ba = true) (aZ : 0 < cs.length) (hi : R0 i = none) (hp : ∀ v ar aB, Post v (cQ k ar) aB → v.ba = true ∧ aB i = none ∧ ar.all AC.ba = true ∧ 0 < ar.length) :
  dt P f (.w (.one (.own k 0)) :: args) (cQ k cs) R0 Post := by
 refine ⟨fun U ad W vs cS ew dT => ?_⟩;obtain ⟨e, Fu⟩ := KY (bf := ad) aZ eg hi cS;obtain ⟨hlen, hv⟩ := dT
 match vs, hlen with
 | v0 :: vs, hlen =>
  have sy : v0 = eb (ad k) := hv 0 _ v0 rfl rfl;have zB : ko U ad W args vs := ko.closed eC ⟨by simpa using hlen, fun j x v aa b8 => hv (j + 1) x v aa b8⟩;refine ((h (ad k) e).call U ad W (v0 :: vs) Fu (fun x aa j ae => ?_) ⟨by simpa using hlen, fun j x v aa b8 => ?_⟩).mono ?_
  ·rcases hf.1 aa with rfl | aa
   ·exact absurd ae (iJ _ j)
   ·exact absurd ae (ai.dH (cC.1 eC x aa) j)
  ·match j with
   | 0 => cases aa; cases b8; exact ⟨sy, by rfl⟩
   | j + 1 => exact zB.2 j x v aa b8
  ·rintro dn bq ⟨v, r, aH, aB, bf, cM, rfl, ⟨ar, bo, bz, jZ, rfl, rfl⟩, mG, p9, jf, bC, cf, cP, cw, ab⟩;obtain ⟨c1, aE, c2, k6⟩ := hp _ _ _ jZ
   let Bd : Nat → Nat := fun j => if j = k then ad k else bf j
   have xm : Bd k = ad k := if_pos rfl;have Bx := MM (ad := Bd) k6 c2 aE xm mG;refine ⟨v, r, cQ k ar, bo, Bd, cM, rfl, jZ, Bx, ?_, fun j ae => absurd ae (ai.dH c1 j), fun jj kK aI => ?_, fun j hU ae => ?_, fun b du => ?_, fun b du => ?_, ⟨ab.os, ab.tape, ab.output, ab.size, fun b au => ab.block b ⟨au.1, fun a6 => au.2 ((tT aZ hi rfl).2 a6)⟩⟩⟩
   ·exact p9.map (fun b ab _ => ⟨ab, rfl⟩) fun j ae => absurd ae (ai.dH c1 j)
   ·obtain ⟨rfl, rfl⟩ := hT aI;exact ⟨xm, ar, by unfold cQ; exact cy _ _ _⟩
   ·have ks : j ≠ i := fun e => by subst e; rw [hi] at ae; cases ae
    obtain ⟨q, al⟩ := cf j hU (by rw [ca _ _ ks]; exact ae);rw [ca _ _ ks] at al;exact ⟨q, al⟩
   ·rcases cP b du with q | q | q
    ·exact .inl q
    ·exact .inr (.inl q)
    ·exact .inr (.inr ((tT aZ hi rfl).2 q))
   ·rcases cw b ((tT k6 aE xm).1 du) with q | q
    ·exact .inl ((tT aZ hi rfl).2 q)
    ·exact .inr q
abbrev om (V : List an) (D : List Int) : ai := .w (.agg [.p (cA 2 V.length (bM V)), .p (cA 1 D.length (cB D))])
abbrev vN (V : List an) (D : List Int) : List AC := [.p (cA 2 V.length (bM V)), .p (cA 1 D.length (cB D))]
abbrev Cb (b : Bool) : AC := .p (FA [.c (.bool (!b))])
abbrev wm (l d : Bool) : ai := .w (.one (.p (pt (.func 184) [Cb l, Cb d])))
theorem acq {a1 a2 b1 b2 : Int} : aT aj 127 [bh a1 a2, bh b1 b2] (wm (decide (b1 < a1)) (decide (b2 < a2))) := by
 have aG : decide (b1 ≥ a1) = !decide (b1 < a1) := by by_cases h : b1 < a1 <;> simp [h] <;> omega
 have aO : decide (b2 ≥ a2) = !decide (b2 < a2) := by by_cases h : b2 < a2 <;> simp [h] <;> omega
 refine adx (f := 127) Tryz.func127 rfl rfl rfl rfl ?_;refine KU (F3 ?_);(repeat first | (with_reducible apply ax); rfl | (with_reducible first | apply bJ | apply bO | apply ay));refine KU (F3 ?_);(repeat first | (with_reducible apply ax); rfl | (with_reducible apply hH); kernel_rfl | (with_reducible apply hI); kernel_rfl; kernel_rfl; rfl | with_reducible apply bJ);refine KT 5 _ rfl rfl ?_;refine KT 6 _ rfl rfl ?_;refine F3 ?_;(repeat first | (with_reducible apply ax); rfl | refine T0 (xs := [_, _]) (cs := [_, _]) rfl rfl rfl rfl ?_ | (with_reducible first | apply bR | apply bJ | apply bO | apply ay | apply b7))
 ((refine bX rfl (bG rfl bc) ?_))
 exact ai.br.of_eq (by rw [aG, aO]; rfl)
theorem acU {x y z w : Int} {l d r : Bool} (ap : yv x y z w l d = r) : aT aj 184 [bh x y, bh z w, .w (.one (Cb l)), .w (.one (Cb d))] (bD r) := by
 have cs : (¬ x = z ∧ z < x ∧ r = l) ∨ (¬ x = z ∧ ¬ z < x ∧ r = !l) ∨ (x = z ∧ ¬ y = w ∧ w < y ∧ r = d) ∨ (x = z ∧ ¬ y = w ∧ ¬ w < y ∧ r = !d) ∨ (x = z ∧ y = w ∧ r = false) := by
  rw [← ap]; unfold yv
  by_cases h1 : x < z <;> by_cases h2 : z < x <;> by_cases aq : y < w <;> by_cases aK : w < y <;> simp [h1, h2, aq, aK] <;> omega
 clear ap;rcases cs with ⟨h1, h2, rfl⟩ | ⟨h1, h2, rfl⟩ | ⟨h1, aq, h2, rfl⟩ | ⟨h1, aq, h2, rfl⟩ | ⟨h1, aq, rfl⟩
 all_goals
  refine cd (f := 184) Tryz.func184 rfl rfl rfl rfl ?_;(repeat first | (with_reducible apply ax); rfl | (with_reducible apply e9); (iterate 5 rfl) | (with_reducible apply TM); (iterate 4 rfl); kernel_rfl | (with_reducible apply bW (c := true)); rfl; rfl; ((simp only [bB]; (omega))) | (with_reducible apply bW (c := false)); rfl; rfl; ((simp only [bB]; (omega))) | (with_reducible first | apply bR | apply bJ | apply bO | apply ay | apply b7 | apply eU | apply fL) | (with_reducible apply fZ); rfl; ((simp only [bB]; (omega))) | (with_reducible apply gT); rfl; ((simp only [bB]; (omega))))
  ((refine bX rfl (bG rfl bc) ?_))
  first
  | exact ai.br.refl _
  | exact ai.br.of_eq (by rw [bl (show ¬ x < z by omega), Bool.false_beq, Bool.not_not]; rfl)
  | exact ai.br.of_eq (by rw [bg (show x < z by omega), Bool.true_beq]; rfl)
  | exact ai.br.of_eq (by rw [bl (show ¬ y < w by omega), Bool.false_beq, Bool.not_not]; rfl)
  | exact ai.br.of_eq (by rw [bg (show y < w by omega), Bool.true_beq]; rfl)
section
variable {P : Program} {s : aC} {ops : Array Oper} {K : aC → Prop} {rest : List Oper} {ty : Nat} {pos : String} {after : Array Edge} {guard : Option (Nat × Bool)} {d : Nat}
theorem T8 {dc dK : Nat} {x y : Operand} {a b : Int} (hw : want ops ⟨some d, .binOp .quo dc x y dK, ty, pos, after, guard⟩ s = some true) (aa : s.look x = some (aR (.int .i64 a))) (ag : s.look y = some (aR (.int .i64 b))) (aI : 0 ≤ a) (h1 : 0 < b) (h2 : a ≤ 9223372036854775807) (hd : Nat.blt d s.n = true) (h : bi P ops K rest (s.put (some d) (aR (.int .i64 (a / b))))) : bi P ops K (⟨some d, .binOp .quo dc x y dK, ty, pos, after, guard⟩ :: rest) s := by
 refine qF hw aa ag (fun W => ?_) rfl hd h;have ab : b ≠ 0 := by omega
 have e : a.tdiv b = a / b := Int.tdiv_eq_ediv_of_nonneg aI
 have aO : IntKind.i64.wrap (a / b) = a / b := cp (by
  have := qj aI (show 0 ≤ b by omega);have := Int.ediv_le_self b aI;omega)
 simp [binOp, Op.intDiv, ab, e, aO]
end
theorem NO : bM [] = [] := rfl
theorem NQ (p : Int × Int) (l : List (Int × Int)) : ((bM (p :: l)).drop ((1 : Int).toNat * 2)).take (l.length * 2) = bM l := by
 show ((bM (p :: l)).drop 2).take (l.length * 2) = bM l;rw [← lM];simp [bM]
theorem H2 (p : Int × Int) (l : List (Int × Int)) : bM l ++ [.c (.int .i64 p.1), .c (.int .i64 p.2)] = bM (l ++ [p]) := by rw [oZ]; rfl
theorem ZL (l : List (Int × Int)) (k : Nat) : ((bM l).drop (0 * 2)).take ((l.take k).length * 2) = bM (l.take k) := by
 have e : bM l = bM (l.take k) ++ bM (l.drop k) := by rw [← oZ, j9]
 rw [e, Nat.zero_mul, List.drop_zero, ← lM];simp
theorem ZK (l : List (Int × Int)) (k : Nat) (af : k ≤ l.length) : ((bM l).drop (k * 2)).take ((l.drop k).length * 2) = bM (l.drop k) := by
 have e : bM l = bM (l.take k) ++ bM (l.drop k) := by rw [← oZ, j9]
 have aO : k * 2 = (bM (l.take k)).length := by rw [lM, eI, qh af]
 rw [e, aO, List.drop_left, ← lM, List.take_length]
abbrev iO (v : Value) (l : List (Int × Int)) : bQ := ⟨59, 2, v, l.length, bM l⟩
instance aic : ox aj 42 59 2 16 := ⟨by kernel_rfl⟩
def SL (M : List (Int × Int)) (lt : Int × Int → Int × Int → Bool) (DQ : ai) (K : Nat) (m : Nat) (R : aJ) (ts : List (Nat × ai)) (bw : List (Nat × List AC)) : Prop :=
 ∃ (a b out : List (Int × Int)) (v : Value), m = a.length + b.length ∧ out ++ e6 lt a b = M ∧ out.length + m = K ∧ R = bL 0 (iO v out) ∧ ts = [(0, hW a), (1, hW b), (2, DQ), (7, aR v)] ∧ bw = []
theorem IV {fx fy : Bool} {a b : List (Int × Int)} (aL : a.length ≤ 100000) (ab : b.length ≤ 100000) :
  aT aj 183 [hW a, hW b, wm fx fy] (hW (e6 (dL fx fy) a b)) := by
 refine cd (f := 183) Tryz.func183 rfl rfl rfl rfl ?_;refine u7 ?_;(repeat first | (with_reducible first | apply a7 | apply aQ | apply aY | apply aS) | (with_reducible apply aN); rfl; (repeat first | (with_reducible apply ax); rfl | (with_reducible apply dB); (iterate 3 rfl); (exact cp (by omega)); rfl | (with_reducible apply cx); (iterate 3 rfl)); (with_reducible apply ay));refine zF (l := 0) (c' := a.length + b.length) 0 rfl rfl rfl rfl (ez _) rfl rfl ?h2 (li (by omega)) rfl (fun v hv => ?_)
 case h2 => omega
 (repeat first | (with_reducible first | apply a7 | apply aQ | apply aS | apply dY) | (with_reducible apply aN); rfl; (repeat first | (with_reducible apply ax); rfl); (with_reducible apply ay));refine kD 52 (SL (e6 (dL fx fy) a b) (dL fx fy) (wm fx fy) (a.length + b.length)) (a.length + b.length) (bL 0 (iO v [])) _ _ ⟨a, b, [], v, rfl, rfl, jr _, rfl, rfl, rfl⟩ (og _ _ _) rfl ⟨rfl, rfl, rfl, rfl, trivial⟩ trivial rfl ?_;rintro m R ts bw ⟨a', bT, out, v, rfl, jz, ef, rfl, rfl, rfl⟩ dD;clear dD hv
 by_cases n9 : 0 < a'.length
 ·by_cases oa : 0 < bT.length
  ·have Ew : (a'.length : Int) > 0 := by omega
   have I6 : (bT.length : Int) > 0 := by omega
   obtain ⟨⟨x, n⟩, a2, rfl⟩ := List.exists_cons_of_length_pos n9;obtain ⟨⟨y, m⟩, b2, rfl⟩ := List.exists_cons_of_length_pos oa;have jv : ((bM ((x, n) :: a2)).drop ((0 : Int).toNat * 2)).take 2 = [.c (.int .i64 x), .c (.int .i64 n)] := vK (j := 0) (i := 0) rfl rfl;have qy : ((bM ((y, m) :: b2)).drop ((0 : Int).toNat * 2)).take 2 = [.c (.int .i64 y), .c (.int .i64 m)] := vK (j := 0) (i := 0) rfl rfl;have aM := acU (x := y) (y := m) (z := x) (w := n) (l := fx) (d := fy) rfl;rw [show yv y m x n fx fy = dL fx fy (y, m) (x, n) from rfl] at aM;cases bj : dL fx fy (y, m) (x, n) with
   | true =>
    rw [bj] at aM;have aG : ((y, m) :: b2).length - (1 : Int).toNat = b2.length := rfl;have aO := NQ (y, m) b2
    have GX : (out ++ [(y, m)]) ++ e6 (dL fx fy) ((x, n) :: a2) b2 = e6 (dL fx fy) a b := by
     rw [← jz, e6, if_pos bj, jo]; rfl
    have Hq : (out ++ [(y, m)]).length = out.length + 1 := dl;have nt : ((y, m) :: b2).length = b2.length + 1 := rfl;have Yv : ((x, n) :: a2).length = a2.length + 1 := rfl;(repeat first | (with_reducible apply cZ); kernel_rfl | (with_reducible apply cb (id := 3) [0,1,2,3,4,5,6,7]); kernel_rfl; kernel_rfl; rfl | (with_reducible apply cb (id := 4) [0,1,2,3,6,7,4,5,8,9]); kernel_rfl; kernel_rfl; rfl | (with_reducible first | apply a7 | apply aQ | apply aY | apply aS | apply cL | apply dY) | (with_reducible apply cX); rfl; (first | exact bg (by omega) | rfl) | (with_reducible apply aN); rfl; (repeat first | (with_reducible apply ax); rfl | (with_reducible apply ed); (iterate 5 rfl) | (with_reducible apply dC); (iterate 3 rfl); (decide); (omega); (assumption); rfl | (with_reducible apply cx); (iterate 3 rfl) | (with_reducible apply KL); (iterate 3 rfl); (omega); (assumption); (assumption); (assumption); rfl | (with_reducible apply nk); (iterate 10 rfl) | refine KH (args := [_, _]) rfl rfl rfl (by (exact aM)) rfl ?_ | (with_reducible apply bW (c := true)); rfl; rfl; (exact bg (by omega))); (with_reducible apply ay));refine q0 0 rfl rfl rfl rfl ?q1 ?q2 rfl rfl (fun aW b8 => ?_)
    case q1 => exact li (by show out.length + 1 ≤ 1000000; omega)
    case q2 => show (out.length + 1) * 16 ≤ 140737488355328; omega
    (repeat first | (with_reducible apply cZ); kernel_rfl | (with_reducible first | apply aQ | apply fi) | (with_reducible apply aN); rfl; (repeat first | (with_reducible apply ax); rfl); (with_reducible apply ay))
    have cz : iO aW (out ++ [(y, m)]) = ⟨59, 2, aW, out.length + 1, bM out ++ [.c (.int .i64 y), .c (.int .i64 m)]⟩ := by
     unfold iO; rw [← H2, dl]; rfl
    refine ⟨_, bL 0 (iO aW (out ++ [(y, m)])), _, _, ?_, ⟨(x, n) :: a2, b2, out ++ [(y, m)], aW, rfl, GX, ?_, rfl, rfl, rfl⟩, by rw [cz]; exact og _ _ _, rfl, ⟨rfl, rfl, rfl, rfl, trivial⟩, trivial, rfl⟩
    ·omega
    ·omega
   | false =>
    rw [bj] at aM;have aG : ((x, n) :: a2).length - (1 : Int).toNat = a2.length := rfl;have aO := NQ (x, n) a2
    have GX : (out ++ [(x, n)]) ++ e6 (dL fx fy) a2 ((y, m) :: b2) = e6 (dL fx fy) a b := by
     rw [← jz, e6, if_neg (by rw [bj]; decide), jo]; rfl
    have Hq : (out ++ [(x, n)]).length = out.length + 1 := dl;have nt : ((y, m) :: b2).length = b2.length + 1 := rfl;have Yv : ((x, n) :: a2).length = a2.length + 1 := rfl;(repeat first | (with_reducible apply cZ); kernel_rfl | (with_reducible apply cb (id := 3) [0,1,2,3,4,5,6,7]); kernel_rfl; kernel_rfl; rfl | (with_reducible apply cb (id := 5) [0,1,2,3,6,7,4,5,8,9]); kernel_rfl; kernel_rfl; rfl | (with_reducible first | apply a7 | apply aQ | apply aY | apply aS | apply cL | apply dY) | (with_reducible apply cX); rfl; (exact bg (by omega)) | (with_reducible apply cD); rfl; (rfl) | (with_reducible apply aN); rfl; (repeat first | (with_reducible apply ax); rfl | (with_reducible apply ed); (iterate 5 rfl) | (with_reducible apply dC); (iterate 3 rfl); (decide); (omega); (assumption); rfl | (with_reducible apply cx); (iterate 3 rfl) | (with_reducible apply KL); (iterate 3 rfl); (omega); (assumption); (assumption); (assumption); rfl | (with_reducible apply nk); (iterate 10 rfl) | refine KH (args := [_, _]) rfl rfl rfl (by (exact aM)) rfl ?_ | (with_reducible apply bW (c := true)); rfl; rfl; (exact bg (by omega))); (with_reducible apply ay));refine q0 0 rfl rfl rfl rfl ?q1 ?q2 rfl rfl (fun aW b8 => ?_)
    case q1 => exact li (by show out.length + 1 ≤ 1000000; omega)
    case q2 => show (out.length + 1) * 16 ≤ 140737488355328; omega
    (repeat first | (with_reducible apply cZ); kernel_rfl | (with_reducible first | apply aQ | apply fi) | (with_reducible apply aN); rfl; (repeat first | (with_reducible apply ax); rfl); (with_reducible apply ay))
    have cz : iO aW (out ++ [(x, n)]) = ⟨59, 2, aW, out.length + 1, bM out ++ [.c (.int .i64 x), .c (.int .i64 n)]⟩ := by
     unfold iO; rw [← H2, dl]; rfl
    refine ⟨_, bL 0 (iO aW (out ++ [(x, n)])), _, _, ?_, ⟨a2, (y, m) :: b2, out ++ [(x, n)], aW, rfl, GX, ?_, rfl, rfl, rfl⟩, by rw [cz]; exact og _ _ _, rfl, ⟨rfl, rfl, rfl, rfl, trivial⟩, trivial, rfl⟩
    ·omega
    ·omega
  ·have Ew : (a'.length : Int) > 0 := by omega
   have I6 : ¬ (bT.length : Int) > 0 := by omega
   have mH : bT = [] := List.length_eq_zero_iff.1 (by omega);have aZ : (a'.length : Int) = a'.length := rfl;(repeat first | (with_reducible first | apply a7 | apply aQ | apply aY | apply aS | apply fa | apply fc | apply fb) | (with_reducible apply cD); rfl; (exact bl (by omega)) | (with_reducible apply aN); rfl; (repeat first | (with_reducible apply ax); rfl | (with_reducible apply cx); (iterate 3 rfl) | (with_reducible apply bW (c := true)); rfl; rfl; (exact bg (by omega))); (with_reducible apply ay));refine q0 0 rfl rfl rfl rfl ?q1 ?q2 (vJ _) rfl (fun aW b8 => ?_)
   case q1 => exact li (by show out.length + a'.length ≤ 1000000; omega)
   case q2 => show (out.length + a'.length) * 16 ≤ 140737488355328; omega
   (repeat first | (with_reducible first | apply a7 | apply aQ | apply aY | apply aS) | (with_reducible apply aN); rfl; (repeat first | (with_reducible apply ax); rfl); (with_reducible apply ay));refine Nc (k := (e6 (dL fx fy) a b).length) (zs := bM (e6 (dL fx fy) a b)) 0 rfl rfl rfl rfl ?p1 ?p2 ?p3 ?p4 (vJ _) rfl ?_
   case p1 => exact li (by show (out.length + a'.length) + bT.length ≤ 1000000; omega)
   case p2 => show ((out.length + a'.length) + bT.length) * 16 ≤ 140737488355328; omega
   case p3 => show (out.length + a'.length) + bT.length = (e6 (dL fx fy) a b).length; rw [Iy]; omega
   case p4 => show (bM out ++ bM a') ++ bM bT = bM (e6 (dL fx fy) a b); rw [← jz, mH, Iz, ← oZ, NO, qe]
   (repeat first | (with_reducible first | apply aQ | apply aS | apply cN) | (with_reducible apply aN); rfl; (repeat first | (with_reducible apply ax); rfl); (with_reducible apply ay))
   ((refine bX rfl (bG rfl bc) ?_))
   exact ai.br.refl _
 ·have Ew : ¬ (a'.length : Int) > 0 := by omega
  have XH : a' = [] := List.length_eq_zero_iff.1 (by omega);(repeat first | (with_reducible first | apply a7 | apply aQ | apply aY | apply aS | apply fa | apply fc | apply fb) | (with_reducible apply cD); rfl; (rfl) | (with_reducible apply aN); rfl; (repeat first | (with_reducible apply ax); rfl | (with_reducible apply cx); (iterate 3 rfl) | (with_reducible apply bW (c := false)); rfl; rfl; (exact bl (by omega))); (with_reducible apply ay));refine q0 0 rfl rfl rfl rfl ?q1 ?q2 (vJ _) rfl (fun aW b8 => ?_)
  case q1 => exact li (by show out.length + a'.length ≤ 1000000; omega)
  case q2 => show (out.length + a'.length) * 16 ≤ 140737488355328; omega
  (repeat first | (with_reducible first | apply a7 | apply aQ | apply aY | apply aS) | (with_reducible apply aN); rfl; (repeat first | (with_reducible apply ax); rfl); (with_reducible apply ay));refine Nc (k := (e6 (dL fx fy) a b).length) (zs := bM (e6 (dL fx fy) a b)) 0 rfl rfl rfl rfl ?p1 ?p2 ?p3 ?p4 (vJ _) rfl ?_
  case p1 => exact li (by show (out.length + a'.length) + bT.length ≤ 1000000; omega)
  case p2 => show ((out.length + a'.length) + bT.length) * 16 ≤ 140737488355328; omega
  case p3 => show (out.length + a'.length) + bT.length = (e6 (dL fx fy) a b).length; rw [Iy]; omega
  case p4 => show (bM out ++ bM a') ++ bM bT = bM (e6 (dL fx fy) a b); rw [← jz, XH, abi, NO, qe, ← oZ]
  (repeat first | (with_reducible first | apply aQ | apply aS | apply cN) | (with_reducible apply aN); rfl; (repeat first | (with_reducible apply ax); rfl); (with_reducible apply ay))
  ((refine bX rfl (bG rfl bc) ?_))
  exact ai.br.refl _
theorem acQ {fx fy : Bool} :
  ∀ (N : Nat) (l : List (Int × Int)), l.length ≤ N → N ≤ 100000 → aT aj 126 [hW l, wm fx fy] (hW (iU (dL fx fy) l)) := by
 intro N
 induction N with
 | zero =>
  intro l h1 h2;have eE := IV (fx := fx) (fy := fy) (a := l) (b := []) (by omega) (by simp);rw [Iz] at eE
  have aM : aT aj 183 [hW l, JB, wm fx fy] (hW l) := P0 eE rfl rfl (by
   intro i x y aa ag
   match i with
   | 0 => cases aa; cases ag; exact .refl _
   | 1 => cases aa; cases ag; exact nil_le 2
   | 2 => cases aa; cases ag; exact .refl _
   | i + 3 => simp at aa)
  have q1 : (l.length : Int) < 2 := by omega
  have e : iU (dL fx fy) l = l := by rw [iU, dif_pos (by omega)]
  rw [e];clear eE;refine cd (f := 126) Tryz.func126 rfl rfl rfl rfl ?_;(repeat first | (with_reducible apply ax); rfl | (with_reducible apply cx); (iterate 3 rfl) | refine eR rfl rfl rfl rfl rfl (by (exact aM)) rfl ?_ | (with_reducible first | apply bR | apply bJ | apply bO | apply ay | apply b7 | apply fL) | (with_reducible apply fZ); rfl; (exact bg (by omega)))
  ((refine bX rfl (bG rfl bc) ?_))
  exact ai.br.refl _
 | succ N cF =>
  intro l h1 h2
  by_cases q : l.length < 2
  ·have eE := IV (fx := fx) (fy := fy) (a := l) (b := []) (by omega) (by simp);rw [Iz] at eE
   have aM : aT aj 183 [hW l, JB, wm fx fy] (hW l) := P0 eE rfl rfl (by
    intro i x y aa ag
    match i with
    | 0 => cases aa; cases ag; exact .refl _
    | 1 => cases aa; cases ag; exact nil_le 2
    | 2 => cases aa; cases ag; exact .refl _
    | i + 3 => simp at aa)
   have q1 : (l.length : Int) < 2 := by omega
   have e : iU (dL fx fy) l = l := by rw [iU, dif_pos (by omega)]
   rw [e];clear eE cF;refine cd (f := 126) Tryz.func126 rfl rfl rfl rfl ?_;(repeat first | (with_reducible apply ax); rfl | (with_reducible apply cx); (iterate 3 rfl) | refine eR rfl rfl rfl rfl rfl (by (exact aM)) rfl ?_ | (with_reducible first | apply bR | apply bJ | apply bO | apply ay | apply b7 | apply fL) | (with_reducible apply fZ); rfl; (exact bg (by omega)))
   ((refine bX rfl (bG rfl bc) ?_))
   exact ai.br.refl _
  ·have q1 : ¬ (l.length : Int) < 2 := by omega
   have e : iU (dL fx fy) l = e6 (dL fx fy) (iU (dL fx fy) (l.take (l.length / 2))) (iU (dL fx fy) (l.drop (l.length / 2))) := by rw [iU, dif_neg q]
   have aM := cF (l.take (l.length / 2)) (by simp; omega) (by omega);have bI := cF (l.drop (l.length / 2)) (by simp; omega) (by omega);have l1 := EY (dL fx fy) _ (l.take (l.length / 2)) (dU _);have l2 := EY (dL fx fy) _ (l.drop (l.length / 2)) (dU _);have et := IV (fx := fx) (fy := fy) (a := iU (dL fx fy) (l.take (l.length / 2))) (b := iU (dL fx fy) (l.drop (l.length / 2))) (by rw [l1]; simp; omega) (by rw [l2]; simp; omega);have a6 : ((l.length : Int) / 2).toNat = l.length / 2 := by omega
   have aG : ((l.length : Int) / 2).toNat - 0 = (l.take (l.length / 2)).length := by rw [a6]; simp; omega
   have aO := ZL l (l.length / 2);have cz : ((l.length : Int)).toNat - ((l.length : Int) / 2).toNat = (l.drop (l.length / 2)).length := by rw [a6]; simp
   have eX := ZK l (l.length / 2) (by omega);have lD : ((bM l).drop (((l.length : Int) / 2).toNat * 2)).take ((l.drop (l.length / 2)).length * 2) = bM (l.drop (l.length / 2)) := by rw [a6]; exact eX
   rw [e];clear cF l1 l2 e eX a6;refine cd (f := 126) Tryz.func126 rfl rfl rfl rfl ?_;(repeat first | (with_reducible apply ax); rfl | (with_reducible apply cx); (iterate 3 rfl) | (with_reducible apply FY); (iterate 4 rfl); (omega); (omega); (omega); (assumption); (assumption); rfl | (with_reducible apply FZ); (iterate 5 rfl); (omega); (omega); (omega); (omega); (assumption); (assumption); rfl | (with_reducible apply T8); (iterate 3 rfl); omega; omega; omega; rfl | refine cI rfl rfl rfl rfl (by (first | exact aM | exact bI)) rfl ?_ | refine eR rfl rfl rfl rfl rfl (by (exact et)) rfl ?_ | (with_reducible apply hH); kernel_rfl | (with_reducible apply hI); kernel_rfl; kernel_rfl; rfl | (with_reducible first | apply bR | apply bJ | apply bO | apply ay | apply b7 | apply eU) | (with_reducible apply gT); rfl; (exact bl (by omega)))
   ((refine bX rfl (bG rfl bc) ?_))
   exact ai.br.refl _
section
variable {P : Program} {bp : ff} {s : aC} {ops : Array Oper} {dr : Option (List Nat)} {ty d : Nat} {pos : String} {after : Array Edge} {guard : Option (Nat × Bool)} {K : aC → Prop} {rest : List Oper}
theorem FX {tt z n l lo hi : Nat} {v u : Value} {x y : Operand} [S : iC P tt z] (hw : want ops ⟨some d, .slice tt x (some y) none none, ty, pos, after, guard⟩ s = some true) (aa : s.look x = some (aR u)) (ag : s.look y = some (aV (l : Int))) (hu : ja v z lo hi u) (hm : hi - lo = n) (h1 : l ≤ n) (hd : Nat.blt d s.n = true) (h : bi P ops K rest (s.put (some d) (aR (hg u z l n)))) : bi P ops K (⟨some d, .slice tt x (some y) none none, ty, pos, after, guard⟩ :: rest) s := by
 subst hm;obtain ⟨⟨A, c, rfl⟩, _⟩ := hu;refine fY (av := aR (hg (.slice A (hi - lo) c) z l (hi - lo))) hw ⟨fun _ _ h => (by cases h), fun q al => ?_, fun U ad W env he => ?_, fun j ae => absurd ae (iJ _ j)⟩ hd h
 ·simp [Op.operands] at al;rcases al with rfl | rfl
  ·exact ⟨_, aa⟩
  ·exact ⟨_, ag⟩
 ·have ex : env x = .slice A (hi - lo) c := (he x (by simp [Op.operands]) _ aa).1;have kM : env y = .int .i64 (l : Int) := (he y (by simp [Op.operands]) _ ag).1;obtain ⟨bz, fN, hu, dq, hs⟩ := nc S.h;have fr : P.underlying tt = some (.slice (P.elem tt)) := by rw [kL hu]; exact hu
  refine ⟨hg (.slice A (hi - lo) c) z l (hi - lo), ?_, rfl, rfl⟩;simp only [execOp, ex, hD, sV, kM, Sem.run_bind, run_sliceAt_slice W tt _ _ _ _ fr, run_slice_l W tt A (hi - lo) c fr .i64 l (by omega) (by omega), kL hu, hV dq, Result.andThen_ok, hs, Sem.run_pure, kW, hg]
theorem T9 {tt z n l lo hi : Nat} {v u : Value} {x y : Operand} [S : iC P tt z] (hw : want ops ⟨some d, .slice tt x none (some y) none, ty, pos, after, guard⟩ s = some true) (aa : s.look x = some (aR u)) (ag : s.look y = some (aV (l : Int))) (hu : ja v z lo hi u) (hm : hi - lo = n) (h1 : l ≤ n) (hd : Nat.blt d s.n = true) (h : bi P ops K rest (s.put (some d) (aR (hg u z 0 l)))) : bi P ops K (⟨some d, .slice tt x none (some y) none, ty, pos, after, guard⟩ :: rest) s := by
 subst hm;obtain ⟨⟨A, c, rfl⟩, ak⟩ := hu
 have Hr : l ≤ c := by
  rcases vW l with e | e
  ·omega
  ·have a6 := ak (show lo < hi by omega);obtain ⟨g, n', c', g1, g2, g3⟩ := a6;have eX : c = c' - lo := by injection g3
   clear g1 g3 ak;omega
 refine fY (av := aR (hg (.slice A (hi - lo) c) z 0 l)) hw ⟨fun _ _ h => (by cases h), fun q al => ?_, fun U ad W env he => ?_, fun j ae => absurd ae (iJ _ j)⟩ hd h
 ·simp [Op.operands] at al;rcases al with rfl | rfl
  ·exact ⟨_, aa⟩
  ·exact ⟨_, ag⟩
 ·have ex : env x = .slice A (hi - lo) c := (he x (by simp [Op.operands]) _ aa).1;have kM : env y = .int .i64 (l : Int) := (he y (by simp [Op.operands]) _ ag).1;obtain ⟨bz, fN, hu, dq, hs⟩ := nc S.h;have fr : P.underlying tt = some (.slice (P.elem tt)) := by rw [kL hu]; exact hu
  refine ⟨hg (.slice A (hi - lo) c) z 0 l, ?_, rfl, rfl⟩;simp only [execOp, ex, hD, sV, kM, Sem.run_bind, run_sliceAt_slice W tt _ _ _ _ fr, run_slice_h W tt A (hi - lo) c fr .i64 l (by omega) (by omega), kL hu, hV dq, Result.andThen_ok, hs, Sem.run_pure, kW, hg]
end
theorem Jr {A C Kr : List AC} {n : Nat} (h : A.length = n) : er (A ++ Kr) n C = (A ++ C) ++ Kr.drop C.length := by
 subst h;unfold er;rw [List.take_left, List.drop_append, uJ (by omega), List.nil_append, Nat.add_sub_cancel_left]
theorem NR {l : List an} {n : Nat} (h : l.length = n) : (bM l).take (n * 2) = bM l := iy (by rw [lM]; omega)
theorem NC {l : List Int} {n : Nat} (h : l.length = n) : (cB l).take (n * 1) = cB l := iy (by simp [cB]; omega)
theorem NB (l : List Int) : (cB l).all AC.ba = true := cC.2 fun y ag => by
 obtain ⟨x, _, rfl⟩ := ix.1 ag;rfl
theorem Dw (l : List Int) : (cB l).length = l.length * 1 := by simp [cB]
abbrev EI (LL : List (List an)) : List AC := LL.map fun l => AC.p (cA 2 l.length (bM l))
abbrev Fb (LL : List (List an)) : ai := cU 1 LL.length (EI LL)
theorem QR {LL : List (List an)} {j : Int} {i : Nat} {l : List an} (ae : j = i) (h : LL[i]? = some l) : ((EI LL).drop (j.toNat * 1)).take 1 = [.p (cA 2 l.length (bM l))] := by
 subst ae;have hi := (bV.1 h).1;rw [kW, Nat.mul_one, mr (by simpa [EI] using hi)];have : LL[i] = l := (bV.1 h).2;simp [EI, this]
def h9 (LL : List (List an)) (i : Nat) : List an := (LL.take i).flatten
theorem Qd {LL : List (List an)} {i : Nat} {l : List an} (h : LL[i]? = some l) : h9 LL (i + 1) = h9 LL i ++ l := by
 unfold h9;rw [pi (bV.1 h).1, (bV.1 h).2]; simp
theorem Qb {LL : List (List an)} {i : Nat} (h : LL.length ≤ i) : h9 LL i = LL.flatten := by unfold h9; rw [iy h]
theorem Qc (LL : List (List an)) (i : Nat) : (h9 LL i).length ≤ LL.flatten.length := by
 have : LL.flatten = h9 LL i ++ (LL.drop i).flatten := by unfold h9; rw [← List.flatten_append, j9]
 rw [this, dl]; omega
def SD (LL : List (List an)) (n : Nat) (R : aJ) (ts : List (Nat × ai)) (bw : List (Nat × List AC)) : Prop :=
 ∃ (i : Nat) (ii o6 : Int), i ≤ LL.length ∧ n = LL.length - i ∧ ii = i ∧ o6 = ((h9 LL i).length : Nat) ∧ R = gO ∧ bw = [] ∧ ts = [(0, Fb LL), (3, aV o6), (10, Fb LL), (11, aV LL.length), (12, aV ii)]
def SE (LL : List (List an)) (N : Nat) (v : Value) (fo : List AC) (n : Nat) (R : aJ) (ts : List (Nat × ai)) (bw : List (Nat × List AC)) : Prop :=
 ∃ (i : Nat) (ii : Int) (u : Value), i ≤ LL.length ∧ n = LL.length - i ∧ ii = i ∧ ja v 2 (h9 LL i).length N u ∧ R = bL 0 ⟨59, 2, v, N, bM (h9 LL i) ++ fo.drop ((h9 LL i).length * 2)⟩ ∧ bw = [] ∧ ts = [(6, aR v), (7, aR u), (24, Fb LL), (25, aV LL.length), (26, aV ii)]
theorem PS {LL : List (List an)} (hK : LL.length ≤ 1100) (kr : LL.flatten.length ≤ 100000) : aT aj 186 [Fb LL] (hW LL.flatten) := by
 refine cd (f := 186) Tryz.func186 rfl rfl rfl rfl ?_;refine u7 ?_;(repeat first | (with_reducible first | apply a7 | apply aQ | apply aY | apply aS | apply dY) | (with_reducible apply aN); rfl; (repeat first | (with_reducible apply ax); rfl | (with_reducible apply cx); (iterate 3 rfl)); (with_reducible apply ay));refine kD 37 (SD LL) LL.length gO _ [] ⟨0, 0, 0, ez _, rfl, rfl, rfl, rfl, rfl, rfl⟩ (bH.refl _) rfl ⟨rfl, rfl, rfl, rfl, rfl, trivial⟩ trivial rfl ?_;rintro n R ts bw ⟨i, ii, o6, hi, rfl, gi, zw, rfl, rfl, rfl⟩ dD;clear dD
 by_cases al : i < LL.length
 ·have q2 : ii < (LL.length : Int) := by omega
  have cj : 0 ≤ ii := by omega
  obtain ⟨l, g1⟩ : ∃ l, LL[i]? = some l := ⟨_, cl al⟩;have jv := QR gi g1;have h1 := Qd g1;have h2 := Qc LL (i + 1);have aq : (h9 LL (i + 1)).length = (h9 LL i).length + l.length := by rw [h1, dl]
  (repeat first | (with_reducible first | apply a7 | apply aQ | apply aY | apply aS | apply cL | apply dY | apply fi) | (with_reducible apply cX); rfl; (exact bg (by omega)) | (with_reducible apply aN); rfl; (repeat first | (with_reducible apply ax); rfl | (with_reducible apply e9); (iterate 5 rfl) | (with_reducible apply dC); (iterate 3 rfl); (omega); (omega); (assumption); rfl | (with_reducible apply dB); (iterate 3 rfl); (exact cp (by omega)); rfl | (with_reducible apply cx); (iterate 3 rfl)); (with_reducible apply ay));exact ⟨LL.length - (i + 1), gO, _, [], by omega, ⟨i + 1, ii + 1, _, by omega, rfl, by omega, by omega, rfl, rfl, rfl⟩, bH.refl _, rfl, ⟨rfl, rfl, rfl, rfl, rfl, trivial⟩, trivial, rfl⟩
 ·have q2 : ¬ ii < (LL.length : Int) := by omega
  rw [Qb (by omega)] at zw;subst zw;generalize y9 : LL.flatten.length = N at *;(repeat first | (with_reducible first | apply a7 | apply aQ | apply aY | apply aS | apply fa | apply fc | apply fb) | (with_reducible apply cD); rfl; (exact bl (by omega)) | (with_reducible apply aN); rfl; (repeat first | (with_reducible apply ax); rfl); (with_reducible apply ay));refine zF (l := N) (c' := N) 0 rfl rfl rfl rfl (dU _) rfl rfl ?h2 (li (by omega)) rfl (fun v hv => ?_)
  case h2 => show 16 * N ≤ 281474976710656; omega
  generalize dP : ih N 2 _ = fo;have CW : fo.length = N * 2 := by rw [← dP]; simp [ih]
  clear dP;(repeat first | (with_reducible first | apply a7 | apply aQ | apply aY | apply aS | apply dY) | (with_reducible apply aN); rfl; (repeat first | (with_reducible apply ax); rfl | (with_reducible apply cx); (iterate 3 rfl)); (with_reducible apply ay));refine Ji 0 (r := ⟨59, 2, v, N, fo⟩) rfl (fun fe c jh e1 jV dO hlen => ?_);have nv : v = .slice fe N c := jh;have sw : ja v 2 0 N v := by rw [nv]; exact ja.all 2 e1 dO
  clear jh e1 jV dO hlen;refine kD 37 (SE LL N v fo) LL.length (bL 0 ⟨59, 2, v, N, fo⟩) _ [] ⟨0, 0, v, ez _, rfl, rfl, sw, rfl, rfl, rfl⟩ (og _ _ _) rfl ⟨rfl, rfl, rfl, rfl, rfl, trivial⟩ trivial rfl ?_;clear al q2 sw gi nv;rintro n R ts bw ⟨i, ii, u, hi, rfl, gi, hu, rfl, rfl, rfl⟩ dD;clear dD
  by_cases al : i < LL.length
  ·have q2 : ii < (LL.length : Int) := by omega
   have cj : 0 ≤ ii := by omega
   obtain ⟨l, g1⟩ : ∃ l, LL[i]? = some l := ⟨_, cl al⟩;have jv := QR gi g1;have h1 := Qd g1;have h2 := Qc LL (i + 1);have aq : (h9 LL (i + 1)).length = (h9 LL i).length + l.length := by rw [h1, dl]
   rw [y9] at h2;have c1 := vJ l;have bC : Nat.min l.length (N - (h9 LL i).length) = l.length := qh (by omega);obtain ⟨m, hm⟩ : ∃ m, N - (h9 LL i).length = m := ⟨_, rfl⟩;have b1 : (h9 LL i).length ≤ N := by omega
   have b2 : l.length ≤ m := by omega
   have s1 : er (bM (h9 LL i) ++ fo.drop ((h9 LL i).length * 2)) ((h9 LL i).length * 2) ((bM l).take (l.length * 2)) = bM (h9 LL (i + 1)) ++ fo.drop ((h9 LL (i + 1)).length * 2) := by
    rw [NR rfl, Jr (lM _), ← oZ, ← h1, List.drop_drop, lM];congr 2;omega
   have fr := hu.sl hm b2 b1;rw [← aq] at fr;(repeat first | (with_reducible first | apply a7 | apply aQ | apply aY | apply aS | apply cL | apply dY | apply fi) | (with_reducible apply cX); rfl; (exact bg (by omega)) | (with_reducible apply aN); rfl; (repeat first | (with_reducible apply ax); rfl | (with_reducible apply e9); (iterate 5 rfl) | (with_reducible apply dC); (iterate 3 rfl); (omega); (omega); (assumption); rfl | (with_reducible apply dB); (iterate 3 rfl); (exact cp (by omega)); rfl | (with_reducible apply FX); (iterate 3 rfl); assumption; (assumption); (assumption); rfl); (with_reducible apply ay) | (with_reducible apply Nd 0); (iterate 3 rfl); assumption; rfl; rfl; rfl; (assumption); (exact dU _); (assumption); rfl; assumption; assumption; rfl);exact ⟨LL.length - (i + 1), _, _, [], by omega, ⟨i + 1, ii + 1, _, by omega, rfl, by omega, fr, rfl, rfl, rfl⟩, og _ _ _, rfl, ⟨rfl, rfl, rfl, rfl, rfl, trivial⟩, trivial, rfl⟩
  ·have q2 : ¬ ii < (LL.length : Int) := by omega
   have dn : bM (h9 LL i) ++ fo.drop ((h9 LL i).length * 2) = bM LL.flatten := by
    rw [Qb (by omega), uJ (by omega), qe]
   rw [dn];refine EN 0 6 ⟨59, 2, v, N, bM LL.flatten⟩ rfl rfl ?_;rw [← y9];(repeat first | (with_reducible first | apply a7 | apply aQ | apply aY | apply aS | apply cN | apply fa | apply fc | apply fb) | (with_reducible apply cD); rfl; (exact bl (by omega)) | (with_reducible apply aN); rfl; (repeat first | (with_reducible apply ax); rfl); (with_reducible apply ay))
   ((refine bX rfl (bG rfl bc) ?_))
   exact ai.br.refl _
abbrev EJ (LL : List (List Int)) : List AC := LL.map fun l => AC.p (cA 1 l.length (cB l))
abbrev E9 (LL : List (List Int)) : ai := cU 1 LL.length (EJ LL)
theorem QS {LL : List (List Int)} {j : Int} {i : Nat} {l : List Int} (ae : j = i) (h : LL[i]? = some l) : ((EJ LL).drop (j.toNat * 1)).take 1 = [.p (cA 1 l.length (cB l))] := by
 subst ae;have hi := (bV.1 h).1;rw [kW, Nat.mul_one, mr (by simpa [EJ] using hi)];have : LL[i] = l := (bV.1 h).2;simp [EJ, this]
def h8 (LL : List (List Int)) (i : Nat) : List Int := (LL.take i).flatten
theorem Qa {LL : List (List Int)} {i : Nat} {l : List Int} (h : LL[i]? = some l) : h8 LL (i + 1) = h8 LL i ++ l := by
 unfold h8;rw [pi (bV.1 h).1, (bV.1 h).2]; simp
theorem P8 {LL : List (List Int)} {i : Nat} (h : LL.length ≤ i) : h8 LL i = LL.flatten := by unfold h8; rw [iy h]
theorem P9 (LL : List (List Int)) (i : Nat) : (h8 LL i).length ≤ LL.flatten.length := by
 have : LL.flatten = h8 LL i ++ (LL.drop i).flatten := by unfold h8; rw [← List.flatten_append, j9]
 rw [this, dl]; omega
def SB (LL : List (List Int)) (n : Nat) (R : aJ) (ts : List (Nat × ai)) (bw : List (Nat × List AC)) : Prop :=
 ∃ (i : Nat) (ii o6 : Int), i ≤ LL.length ∧ n = LL.length - i ∧ ii = i ∧ o6 = ((h8 LL i).length : Nat) ∧ R = gO ∧ bw = [] ∧ ts = [(0, E9 LL), (3, aV o6), (10, E9 LL), (11, aV LL.length), (12, aV ii)]
def SC (LL : List (List Int)) (N : Nat) (v : Value) (fo : List AC) (n : Nat) (R : aJ) (ts : List (Nat × ai)) (bw : List (Nat × List AC)) : Prop :=
 ∃ (i : Nat) (ii : Int) (u : Value), i ≤ LL.length ∧ n = LL.length - i ∧ ii = i ∧ ja v 1 (h8 LL i).length N u ∧ R = bL 0 ⟨3, 1, v, N, cB (h8 LL i) ++ fo.drop ((h8 LL i).length * 1)⟩ ∧ bw = [] ∧ ts = [(6, aR v), (7, aR u), (24, E9 LL), (25, aV LL.length), (26, aV ii)]
theorem PR {LL : List (List Int)} (hK : LL.length ≤ 1100) (kr : LL.flatten.length ≤ 100000) : aT aj 187 [E9 LL] (lu LL.flatten) := by
 refine cd (f := 187) Tryz.func187 rfl rfl rfl rfl ?_;refine u7 ?_;(repeat first | (with_reducible first | apply a7 | apply aQ | apply aY | apply aS | apply dY) | (with_reducible apply aN); rfl; (repeat first | (with_reducible apply ax); rfl | (with_reducible apply cx); (iterate 3 rfl)); (with_reducible apply ay));refine kD 37 (SB LL) LL.length gO _ [] ⟨0, 0, 0, ez _, rfl, rfl, rfl, rfl, rfl, rfl⟩ (bH.refl _) rfl ⟨rfl, rfl, rfl, rfl, rfl, trivial⟩ trivial rfl ?_;rintro n R ts bw ⟨i, ii, o6, hi, rfl, gi, zw, rfl, rfl, rfl⟩ dD;clear dD
 by_cases al : i < LL.length
 ·have q2 : ii < (LL.length : Int) := by omega
  have cj : 0 ≤ ii := by omega
  obtain ⟨l, g1⟩ : ∃ l, LL[i]? = some l := ⟨_, cl al⟩;have jv := QS gi g1;have h1 := Qa g1;have h2 := P9 LL (i + 1);have aq : (h8 LL (i + 1)).length = (h8 LL i).length + l.length := by rw [h1, dl]
  (repeat first | (with_reducible first | apply a7 | apply aQ | apply aY | apply aS | apply cL | apply dY | apply fi) | (with_reducible apply cX); rfl; (exact bg (by omega)) | (with_reducible apply aN); rfl; (repeat first | (with_reducible apply ax); rfl | (with_reducible apply e9); (iterate 5 rfl) | (with_reducible apply dC); (iterate 3 rfl); (omega); (omega); (assumption); rfl | (with_reducible apply dB); (iterate 3 rfl); (exact cp (by omega)); rfl | (with_reducible apply cx); (iterate 3 rfl)); (with_reducible apply ay));exact ⟨LL.length - (i + 1), gO, _, [], by omega, ⟨i + 1, ii + 1, _, by omega, rfl, by omega, by omega, rfl, rfl, rfl⟩, bH.refl _, rfl, ⟨rfl, rfl, rfl, rfl, rfl, trivial⟩, trivial, rfl⟩
 ·have q2 : ¬ ii < (LL.length : Int) := by omega
  rw [P8 (by omega)] at zw;subst zw;generalize y9 : LL.flatten.length = N at *;(repeat first | (with_reducible first | apply a7 | apply aQ | apply aY | apply aS | apply fa | apply fc | apply fb) | (with_reducible apply cD); rfl; (exact bl (by omega)) | (with_reducible apply aN); rfl; (repeat first | (with_reducible apply ax); rfl); (with_reducible apply ay));refine zF (l := N) (c' := N) 0 rfl rfl rfl rfl (dU _) rfl rfl ?h2 (li (by omega)) rfl (fun v hv => ?_)
  case h2 => show 8 * N ≤ 281474976710656; omega
  generalize dP : ih N 1 _ = fo;have CW : fo.length = N * 1 := by rw [← dP]; simp [ih]
  clear dP;(repeat first | (with_reducible first | apply a7 | apply aQ | apply aY | apply aS | apply dY) | (with_reducible apply aN); rfl; (repeat first | (with_reducible apply ax); rfl | (with_reducible apply cx); (iterate 3 rfl)); (with_reducible apply ay));refine Ji 0 (r := ⟨3, 1, v, N, fo⟩) rfl (fun fe c jh e1 jV dO hlen => ?_);have nv : v = .slice fe N c := jh;have sw : ja v 1 0 N v := by rw [nv]; exact ja.all 1 e1 dO
  clear jh e1 jV dO hlen;refine kD 37 (SC LL N v fo) LL.length (bL 0 ⟨3, 1, v, N, fo⟩) _ [] ⟨0, 0, v, ez _, rfl, rfl, sw, rfl, rfl, rfl⟩ (og _ _ _) rfl ⟨rfl, rfl, rfl, rfl, rfl, trivial⟩ trivial rfl ?_;clear al q2 sw gi nv;rintro n R ts bw ⟨i, ii, u, hi, rfl, gi, hu, rfl, rfl, rfl⟩ dD;clear dD
  by_cases al : i < LL.length
  ·have q2 : ii < (LL.length : Int) := by omega
   have cj : 0 ≤ ii := by omega
   obtain ⟨l, g1⟩ : ∃ l, LL[i]? = some l := ⟨_, cl al⟩;have jv := QS gi g1;have h1 := Qa g1;have h2 := P9 LL (i + 1);have aq : (h8 LL (i + 1)).length = (h8 LL i).length + l.length := by rw [h1, dl]
   rw [y9] at h2;have c1 := NB l;have bC : Nat.min l.length (N - (h8 LL i).length) = l.length := qh (by omega);obtain ⟨m, hm⟩ : ∃ m, N - (h8 LL i).length = m := ⟨_, rfl⟩;have b1 : (h8 LL i).length ≤ N := by omega
   have b2 : l.length ≤ m := by omega
   have s1 : er (cB (h8 LL i) ++ fo.drop ((h8 LL i).length * 1)) ((h8 LL i).length * 1) ((cB l).take (l.length * 1)) = cB (h8 LL (i + 1)) ++ fo.drop ((h8 LL (i + 1)).length * 1) := by
    rw [NC rfl, Jr (Dw _), ← Dv, ← h1, List.drop_drop, Dw];congr 2;omega
   have fr := hu.sl hm b2 b1;rw [← aq] at fr;(repeat first | (with_reducible first | apply a7 | apply aQ | apply aY | apply aS | apply cL | apply dY | apply fi) | (with_reducible apply cX); rfl; (exact bg (by omega)) | (with_reducible apply aN); rfl; (repeat first | (with_reducible apply ax); rfl | (with_reducible apply e9); (iterate 5 rfl) | (with_reducible apply dC); (iterate 3 rfl); (omega); (omega); (assumption); rfl | (with_reducible apply dB); (iterate 3 rfl); (exact cp (by omega)); rfl | (with_reducible apply FX); (iterate 3 rfl); assumption; (assumption); (assumption); rfl); (with_reducible apply ay) | (with_reducible apply Nd 0); (iterate 3 rfl); assumption; rfl; rfl; rfl; (assumption); (exact dU _); (assumption); rfl; assumption; assumption; rfl);exact ⟨LL.length - (i + 1), _, _, [], by omega, ⟨i + 1, ii + 1, _, by omega, rfl, by omega, fr, rfl, rfl, rfl⟩, og _ _ _, rfl, ⟨rfl, rfl, rfl, rfl, rfl, trivial⟩, trivial, rfl⟩
  ·have q2 : ¬ ii < (LL.length : Int) := by omega
   have dn : cB (h8 LL i) ++ fo.drop ((h8 LL i).length * 1) = cB LL.flatten := by
    rw [P8 (by omega), uJ (by omega), qe]
   rw [dn];refine EN 0 6 ⟨3, 1, v, N, cB LL.flatten⟩ rfl rfl ?_;rw [← y9];(repeat first | (with_reducible first | apply a7 | apply aQ | apply aY | apply aS | apply cN | apply fa | apply fc | apply fb) | (with_reducible apply cD); rfl; (exact bl (by omega)) | (with_reducible apply aN); rfl; (repeat first | (with_reducible apply ax); rfl); (with_reducible apply ay))
   ((refine bX rfl (bG rfl bc) ?_))
   exact ai.br.refl _
theorem acJ {x y : Nat} (aa : x < 9223372036854775808) (ag : y < 9223372036854775808) (h : x * y < 9223372036854775808) : aT aj 258 [aR (.int .u64 (x : Nat)), aR (.int .u64 (y : Nat))] (.da [.one (.c (.int .u64 0)), .one (.c (.int .u64 ((x * y : Nat) : Int)))]) := by
 refine nz [.int .u64 (x : Nat), .int .u64 (y : Nat)] (.tuple #[.int .u64 0, .int .u64 ((x * y : Nat) : Int)]) rfl rfl rfl rfl rfl fun W => ?_;refine (Tryz.bits_Mul64 x y (by omega) (by omega) W).mono ?_;rintro e w' ⟨rfl, rfl⟩;have aG : x * y / 18446744073709551616 = 0 := Nat.div_eq_of_lt (by omega);have aO : x * y % 18446744073709551616 = x * y := Nat.mod_eq_of_lt (by omega);rw [aG, aO];exact ⟨rfl, Below.refl _ _⟩
theorem acI {y : Nat} (ag : y < 9223372036854775808) : aT aj 227 [aR (.int .u64 1), aR (.int .u64 (y : Nat))] (.da [.one (.c (.int .u64 0)), .one (.c (.int .u64 (y : Nat)))]) := by
 have aM := acJ (x := 1) (y := y) (by decide) ag (by omega);rw [Nat.one_mul] at aM
 replace aM : aT aj 258 [aR (.int .u64 1), aR (.int .u64 (y : Nat))] (.da [.one (.c (.int .u64 0)), .one (.c (.int .u64 (y : Nat)))]) := aM
 refine cd (f := 227) Tryz.func227 rfl rfl rfl rfl ?_;(repeat first | (with_reducible apply ax); rfl | refine cI rfl rfl rfl rfl (by (exact aM)) rfl ?_ | (with_reducible first | apply bR | apply bJ | apply bO | apply ay | apply b7 | apply eU) | (with_reducible apply gU); rfl)
 ((refine bX rfl (bG rfl (bG rfl bc)) ?_))
 exact ai.br.refl _
def S2 (d : Int) (m : Nat) (v : Value) (fo : List AC) (n : Nat) (R : aJ) (ts : List (Nat × ai)) (bw : List (Nat × List AC)) : Prop :=
 ∃ (k : Nat) (fz : Int), 1 ≤ k ∧ k ≤ m ∧ n = m - k ∧ fz = k ∧ R = bL 0 ⟨3, 1, v, m, cB (List.replicate k d) ++ fo.drop k⟩ ∧ bw = [] ∧ ts = [(7, aR v), (8, aV fz)]
theorem acM {d : Int} {m : Nat} (xn : 1 ≤ m) (hm : m ≤ 100000) : aT aj 180 [lu [d], aV m] (lu (List.replicate m d)) := by
 have BG := acI (y := m) (by omega);have aP : IntKind.u64.wrap (m : Int) = m := by rw [IntKind.wrap_u64]; omega
 have w2 : IntKind.i64.wrap (m : Int) = m := cp (by omega);have c9 : ¬ (m : Int) < 0 := by omega
 have q1 : ¬ (m : Int) > 9223372036854775807 := by omega
 have bC : Nat.min 1 m = 1 := qh xn;refine cd (f := 180) Tryz.func180 rfl rfl rfl rfl ?_;refine u7 ?_;(repeat first | (with_reducible first | apply a7 | apply aQ | apply aY | apply aS | apply cL) | (with_reducible apply cD); rfl; (exact bl (by omega)) | (with_reducible apply aN); rfl; (repeat first | (with_reducible apply ax); rfl | (with_reducible apply FU); rfl; rfl; (first | exact cp (by omega) | assumption | rfl); rfl | (with_reducible apply cx); (iterate 3 rfl) | refine cI rfl rfl rfl rfl (by (exact BG)) rfl ?_); (with_reducible apply ay));refine zF (l := m) (c' := m) 0 rfl rfl rfl rfl (dU _) rfl rfl ?h2 (li (by omega)) rfl (fun v hv => ?_)
 case h2 => show 8 * m ≤ 281474976710656; omega
 generalize dP : ih m 1 _ = fo;have CW : fo.length = m := by rw [← dP]; simp [ih]
 have XG : fo.all AC.ba = true := by
  rw [← dP];refine cC.2 fun y ag => ?_;simp only [ih, ix] at ag;obtain ⟨j, _, rfl⟩ := ag;rfl
 clear dP
 have s1 : er fo (0 * 1) ((cB [d]).take (1 * 1)) = cB (List.replicate 1 d) ++ fo.drop 1 := by
  unfold er; simp [cB]
 (repeat first | (with_reducible first | apply a7 | apply aQ | apply aY | apply aS | apply dY) | (with_reducible apply aN); rfl; (repeat first | (with_reducible apply ax); rfl); (with_reducible apply ay) | (with_reducible apply YY 0); (iterate 6 rfl); (rfl); rfl; (assumption); (assumption); rfl);refine Ji 0 (r := ⟨3, 1, v, m, cB (List.replicate 1 d) ++ fo.drop 1⟩) rfl (fun fe c jh e1 jV dO hlen => ?_);have nv : v = .slice fe m c := jh;have hu : ja v 1 0 m v := by rw [nv]; exact ja.all 1 e1 dO
 clear jh e1 jV dO hlen nv;refine kD 48 (S2 d m v fo) (m - 1) (bL 0 ⟨3, 1, v, m, cB (List.replicate 1 d) ++ fo.drop 1⟩) _ [] ⟨1, 1, dU _, xn, rfl, rfl, rfl, rfl, rfl⟩ (og _ _ _) rfl ⟨rfl, rfl, trivial⟩ trivial rfl ?_;clear BG aP w2 c9 q1 bC s1;rintro n R ts bw ⟨k, fz, qX, af, rfl, rfl, rfl, rfl, rfl⟩ dD;clear dD
 by_cases al : k < m
 ·have q2 : (k : Int) < (m : Int) := by omega
  obtain ⟨x, aa⟩ : ∃ x, Nat.min k (m - k) = x := ⟨_, rfl⟩;have ah4 : 1 ≤ x := by rw [← aa]; exact Nat.le_min.2 ⟨qX, by omega⟩
  have Zg : x ≤ k := by rw [← aa]; exact Nat.min_le_left _ _
  have ah5 : x ≤ m - k := by rw [← aa]; exact Nat.min_le_right _ _
  have m0 : m - 0 = m := Nat.sub_zero m;have cP := hu.sl m0 af (ez _);have cw := hu.aff (k := k) (by omega);rw [jr] at cP cw;have dn : 0 + k = k := jr k
  have pH : (cB (List.replicate k d) ++ fo.drop k).all AC.ba = true := by
   rw [List.all_append, NB, rq];exact cC.2 fun y ag => cC.1 XG y (ob ag)
  have s1 : er (cB (List.replicate k d) ++ fo.drop k) (k * 1) ((((cB (List.replicate k d) ++ fo.drop k).drop (0 * 1)).take (k * 1)).take (x * 1)) = cB (List.replicate (k + x) d) ++ fo.drop (k + x) := by
   have lk : (cB (List.replicate k d)).length = k * 1 := by simp [cB]
   rw [Nat.zero_mul, List.drop_zero, ← lk, List.take_left, Jr rfl]
   have cz : (cB (List.replicate k d)).take (x * 1) = cB (List.replicate x d) := by
    simp only [cB, List.map_replicate, Nat.mul_one, List.take_replicate];rw [qh Zg]
   rw [cz, List.drop_drop, ← Dv, List.replicate_append_replicate, show (cB (List.replicate x d)).length = x by simp [cB]]
  have aP : IntKind.i64.wrap ((k : Int) + (x : Int)) = (k : Int) + (x : Int) := cp (by omega);(repeat first | (with_reducible apply cZ); kernel_rfl | (with_reducible apply cb (id := 9) [0,1,2,3,4,5,6,7,8,9]); kernel_rfl; kernel_rfl; rfl | (with_reducible first | apply a7 | apply aQ | apply aY | apply aS | apply cL | apply dY | apply fi) | (with_reducible apply cX); rfl; (exact bg (by omega)) | (with_reducible apply aN); rfl; (repeat first | (with_reducible apply ax); rfl | (with_reducible apply dB); (iterate 3 rfl); (exact cp (by omega)); rfl | (with_reducible apply FX); (iterate 3 rfl); assumption; (assumption); (assumption); rfl | (with_reducible apply T9); (iterate 3 rfl); assumption; (assumption); (assumption); rfl); (with_reducible apply ay) | (with_reducible apply fD 0); (iterate 4 rfl); kernel_rfl; rfl | (with_reducible apply YZ 0); (iterate 3 rfl); assumption; rfl; assumption; assumption; assumption; rfl; rfl; (assumption); (exact dU _); (assumption); rfl; assumption; assumption; rfl);exact ⟨m - (k + x), _, _, [], by omega, ⟨k + x, (k : Int) + (x : Int), by omega, by omega, rfl, by omega, rfl, rfl, rfl⟩, og _ _ _, rfl, ⟨rfl, rfl, trivial⟩, trivial, rfl⟩
 ·have q2 : ¬ (k : Int) < (m : Int) := by omega
  have dn : cB (List.replicate k d) ++ fo.drop k = cB (List.replicate m d) := by
   rw [show k = m by omega, uJ (by omega), qe]
  rw [dn];refine EN 0 7 ⟨3, 1, v, m, cB (List.replicate m d)⟩ rfl rfl ?_
  have el : cU 1 m (cB (List.replicate m d)) = lu (List.replicate m d) := by
   show cU 1 m _ = cU 1 (List.replicate m d).length _;rw [List.length_replicate]
  rw [← el];(repeat first | (with_reducible first | apply a7 | apply aQ | apply aY | apply aS | apply cN | apply fa | apply fc | apply fb) | (with_reducible apply cD); rfl; (exact bl (by omega)) | (with_reducible apply aN); rfl; (repeat first | (with_reducible apply ax); rfl | (with_reducible apply cx); (iterate 3 rfl)); (with_reducible apply ay))
  ((refine bX rfl (bG rfl bc) ?_))
  exact ai.br.refl _
end Go.Proofs.YtpochbhajmbfdaaGreat
namespace Go.Proofs.YtpochbhajmbfdaaGreat
def ur (p q : an) : List an := if p = q then [p] else [p, q]
def uq (p q : an) : List Int := if p = q then [] else [1]
end Go.Proofs.YtpochbhajmbfdaaGreat
namespace Go.Proofs.YtpochbhajmbfdaaGreat
open Go.RowKit
def pL (D : List Int) : Int := D.foldl max 0
def R8 : Prop := ∀ x y z w : Int, aT aj 42 [bh x y, bh z w] (om (ur (x, y) (z, w)) (uq (x, y) (z, w)))
def Sd : Prop := ∀ (V : List an) (D : List Int) (j : Nat) (l : List an), V.length = D.length + 1 → V.length ≤ 1100 → l.length ≤ 1100 → j < D.length → (∀ d ∈ D, 1 ≤ d ∧ d ≤ 1048576) →
 aT aj 125 [om V D, aV j, hW l] (.da [.agg (vN (if l.isEmpty then [] else EW V j l) (if l.isEmpty then [] else AX D j l.length)), .one (.c (.bool (!l.isEmpty)))])
def R5 : Prop := ∀ (V : List an) (D : List Int), V.length ≤ 1100 → D.length ≤ 1100 → aT aj 69 [om V D] (aV (pL D))
def Sc : Prop := ∀ (V W : List an) (D E : List Int), V.length ≤ 1100 → D.length ≤ 1100 → W.length ≤ 1100 → E.length ≤ 1100 → aT aj 50 [om V D, om W E] (bD (decide (V = W) && decide (D = E)))
def R4 : Prop := ∀ (V : List an) (D : List Int), V.length ≤ 1100 → D.length ≤ 1100 → aT aj 133 [om V D] (om V D)
theorem UZ : ai.br (.w (.agg [.c (.slice none 0 0), .c (.slice none 0 0)])) (om [] []) := Kz rfl fun j x y aa ag => by
 match j with
 | 0 => cases aa; cases ag; exact .inr ⟨rfl, 2, rfl⟩
 | 1 => cases aa; cases ag; exact .inr ⟨rfl, 1, rfl⟩
 | j + 2 => simp at aa
end Go.Proofs.YtpochbhajmbfdaaGreat
