/-
  My own texts, without what this claim does not need. My own text.
-/
import Derived.Lib.SliceRun
import Derived.Laws.BytesArg
import Derived.Test.YtpochbhajmbfdaaGreatSTurnedK8
set_option maxRecDepth 100000
set_option maxHeartbeats 64000000
set_option linter.unusedVariables false
set_option linter.unusedSimpArgs false
set_option linter.unusedSectionVars false
namespace Go.Proofs.YtpochbhajmbfdaaGreat.bt
abbrev bV := aq × aq
def k1 (r : Nat) (p : aq) : aq := (cI p.1 r, cI p.2 r)
abbrev jY : bV := ((0, 0), (0, 0))
def fl (a b : bV) : fU := hL a.1.1 a.1.2 a.2.1 a.2.2 b.1.1 b.1.2 b.2.1 b.2.2
def oW (a b : bV) : Bool := He (fl a b) a.1.1 a.1.2 a.2.1 a.2.2 b.1.1 b.1.2 b.2.1 b.2.2
def iU (r : Nat) (M : fU) : aq := (gD (2 ^ r) M.n M.d, gD (2 ^ r) M.m M.e)
def zp (r : Nat) (p : aq) : aq := (2 ^ r * p.1, 2 ^ r * p.2)
def ei (r : Nat) (l : aq × aq) : bV := (zp r l.1, zp r l.2)
def z8 (r : Nat) (p q x : aq) : Bool := qw (2 ^ r * p.1) (2 ^ r * p.2) (2 ^ r * q.1) (2 ^ r * q.2) r x
def fw (p q : aq) (l : List aq) : List aq := rS (decide (q.1 < p.1)) (decide (q.2 < p.2)) (fun _ => true) l
def mO (r : Nat) (l m : aq × aq) : Option aq := if (fl (ei r l) (ei r m)).k = 1 ∧ oW (ei r l) (ei r m) = false then some (iU r (fl (ei r l) (ei r m))) else none
def uZ (r : Nat) (a b : bV) : Option aq := if (fl a b).k = 1 then some (iU r (fl a b)) else none
def mx (E : List bV) (r R : Nat) : bN aq where
 DT := z8 r
 dj := fw
 cut := mO r
 n := E.length
 P i := k1 r (E.getD i jY).1
 Q i := k1 r (E.getD i jY).2
 lA i j := uZ r (E.getD i jY) (E.getD j jY)
 R := R
 hk x := e4 r x.1 x.2 = true
def gd (p : aq) : Bool := decide (-134217728 ≤ p.1) && decide (p.1 < 134217728) && decide (-134217728 ≤ p.2) && decide (p.2 < 134217728)
def fK (E : List bV) : Bool := E.all fun e => gd e.1 && gd e.2
theorem s8 {p : aq} : gd p = true ↔ ((-134217728 ≤ p.1 ∧ p.1 < 134217728) ∧ -134217728 ≤ p.2 ∧ p.2 < 134217728) := by
 unfold gd; simp only [eh, cL]; omega
theorem rA {E : List bV} (h : fK E = true) (i : Nat) : gd (E.getD i jY).1 = true ∧ gd (E.getD i jY).2 = true := by
 rw [rG];cases he : E[i]? with
 | none => exact ⟨by decide, by decide⟩
 | some e =>
  have := cB.1 h e (dL he);exact Bool.and_eq_true_iff.1 this
theorem DA (v : Int) (r : Nat) : cI v r = gD (2 ^ r) v 1 := by
 unfold cI gD; rw [Int.mul_one]
theorem Rr {S X W vw bn : Int} (hS : 0 < S) (e9 : 0 < W) (zW : 0 < bn) (h : X * bn ≤ vw * W) : gD S X W ≤ gD S vw bn := by
 obtain ⟨a1, a2⟩ := Fe hS e9 X;obtain ⟨b1, b2⟩ := Fe hS zW vw;generalize gD S X W = g at *;generalize gD S vw bn = jD at *;refine Int.not_lt.1 fun bh => ?_;have h1 : S * (jD + 1) ≤ S * g := qA bh (by omega);rw [Int.mul_add, Int.mul_one] at h1;generalize S * g = G at *;generalize S * jD = xa at *;have c1 : (2 * xa + S) * W ≤ (2 * G - S) * W := qB (by omega) (by omega);have c2 : (2 * xa + S) * W ≤ 2 * X := by omega
 have lg : (2 * xa + S) * W * bn ≤ 2 * X * bn := qB c2 (by omega);have GR : 2 * vw * W < (2 * xa + S) * bn * W := Int.mul_lt_mul_of_pos_right b2 e9;have aG : (2 * xa + S) * W * bn = (2 * xa + S) * bn * W := by rw [lD, kf W, ← lD]
 have aM : 2 * X * bn = 2 * (X * bn) := lD ..;have cD : 2 * vw * W = 2 * (vw * W) := lD ..;omega
theorem BO {m lo hi x : Int} (h1 : wi m lo = true) (h2 : wi m hi = true) (ao : lo ≤ x) (aH : x ≤ hi) : wi m x = true := by
 unfold wi at *; simp only [eh, cL] at *; omega
theorem XE {r : Nat} (al : r ≤ 28) : wi (134217728 / 2 ^ r) (cI (-134217728) r) = true ∧ wi (134217728 / 2 ^ r) (cI 134217727 r) = true := by
 have : r = 0 ∨ r = 1 ∨ r = 2 ∨ r = 3 ∨ r = 4 ∨ r = 5 ∨ r = 6 ∨ r = 7 ∨ r = 8 ∨ r = 9 ∨ r = 10 ∨ r = 11 ∨ r = 12 ∨ r = 13 ∨ r = 14 ∨ r = 15 ∨ r = 16 ∨ r = 17 ∨ r = 18 ∨ r = 19 ∨ r = 20 ∨ r = 21 ∨ r = 22 ∨ r = 23 ∨ r = 24 ∨ r = 25 ∨ r = 26 ∨ r = 27 ∨ r = 28 := by omega
 rcases this with rfl | rfl | rfl | rfl | rfl | rfl | rfl | rfl | rfl | rfl | rfl | rfl | rfl | rfl | rfl | rfl | rfl | rfl | rfl | rfl | rfl | rfl | rfl | rfl | rfl | rfl | rfl | rfl | rfl <;> exact ⟨by decide, by decide⟩
theorem Ff {r : Nat} (al : r ≤ 28) {X W : Int} (e9 : 0 < W) (h1 : -134217728 * W ≤ X) (h2 : X ≤ 134217727 * W) : wi (134217728 / 2 ^ r) (gD (2 ^ r) X W) = true := by
 have hS : (0 : Int) < 2 ^ r := jM (by decide);have g := XE al;rw [DA, DA] at g;exact BO g.1 g.2 (Rr hS (by decide) e9 (by omega)) (Rr hS e9 (by decide) (by omega))
theorem ES {r : Nat} (al : r ≤ 28) {p : aq} (h : gd p = true) : e4 r (k1 r p).1 (k1 r p).2 = true := by
 have h := s8.1 h;unfold e4 k1;rw [DA, DA, Ff al (by decide) (by omega) (by omega), Ff al (by decide) (by omega) (by omega)]; rfl
theorem I5 {a b : bV} (h : (fl a b).k = 1) : ∃ X Y W bn, fl a b = jr X W Y bn := by
 unfold fl hL at h ⊢
 split at h
 ·rename_i hw;rw [if_pos hw];unfold uH inl at h ⊢
  split at h
  ·rename_i mV;rw [if_pos mV];unfold wu at h ⊢
   split at h
   ·rename_i he;rw [if_pos he]; exact ⟨_, _, _, _, rfl⟩
   ·simp [tJ] at h
  ·simp [ig] at h
 ·rename_i hw;rw [if_neg hw];unfold nb uN at h ⊢
  split at h
  ·rename_i aw;rw [if_pos aw]; exact ⟨_, _, _, _, rfl⟩
  ·simp [ig] at h
theorem W6 {a b : bV} (h : (fl a b).k = 1) : oW a b = true ↔ (a.1 = b.1 ∨ a.1 = b.2 ∨ a.2 = b.1 ∨ a.2 = b.2) := by
 have e : ∀ p q : aq, ed p.1 p.2 q.1 q.2 = true ↔ p = q := fun p q => by rw [sx, Prod.ext_iff]
 unfold oW He;rw [if_pos h];simp only [rK, e, or_assoc]
theorem VX {r : Nat} {p q : aq} : zp r p = zp r q ↔ p = q := by
 have hS : (2 : Int) ^ r ≠ 0 := by have : (0 : Int) < 2 ^ r := jM (by decide); omega
 unfold zp;rw [Prod.ext_iff, Prod.ext_iff];exact ⟨fun ⟨h1, h2⟩ => ⟨Int.eq_of_mul_eq_mul_left hS h1, Int.eq_of_mul_eq_mul_left hS h2⟩, fun ⟨h1, h2⟩ => ⟨by rw [h1], by rw [h2]⟩⟩
theorem xE {r : Nat} {l m : aq × aq} (h : (fl (ei r l) (ei r m)).k = 1) : oW (ei r l) (ei r m) = true ↔ vu l m := by
 rw [W6 h]; unfold ei vu; simp only [VX]
theorem JP {r : Nat} {a b : bV} {X Y W bn : Int} (e : fl a b = jr X W Y bn) : bn = W ∧ 0 < W ∧ iU r (fl a b) = (gD (2 ^ r) X W, gD (2 ^ r) Y W) ∧ Ci (2 ^ r) X Y W (iU r (fl a b)) := by
 obtain ⟨h1, h2, _⟩ := EH e;have hS : (0 : Int) < 2 ^ r := jM (by decide);have aM : iU r (fl a b) = (gD (2 ^ r) X W, gD (2 ^ r) Y W) := by rw [e]; unfold iU jr; rw [h1]
 exact ⟨h1, h2, aM, by rw [aM]; exact aaD hS h2⟩
theorem rc {r : Nat} {p : aq} (h : e4 r p.1 p.2 = true) : cG (2 ^ r * p.1) (2 ^ r * p.2) = true := by
 have h := (Ei r _ _).1 h;unfold cG; simp only [eh, cL]; omega
theorem afO (E : List bV) {r : Nat} (al : r ≤ 28) (R : Nat) : y5 (2 ^ r) (mx E r R) where
 pos := jM (by decide)
 Zv p q x h := by
  have h : qw _ _ _ _ _ _ = true := h;unfold qw at h;rw [H8 al, AY] at h;exact h.2.2
 NW p q x hp an aa h := by
  show qw _ _ _ _ _ _ = true;unfold qw;have aa : e4 r x.1 x.2 = true := aa;have kY := (Ei r _ _).1 aa;have akl := JQ al;rw [H8 al, AY, Jh];refine ⟨aa, ⟨rc hp, rc an, ?_, ?_, rfl⟩, h⟩
  ·rw [C1]; omega
  ·rw [C1]; omega
 Mn l m x h := by
  have h : mO r l m = some x := h;unfold mO at h
  split at h
  ·rename_i ae;cases h;obtain ⟨X, Y, W, bn, e⟩ := I5 ae.1;refine ⟨fun hs => ?_, X, Y, W, bn, e, (JP e).2.2.2⟩;have := (xE ae.1).2 hs;rw [ae.2] at this; cases this
  ·cases h
 Wd l m _ _ _ _ h ae := by
  have h : mO r l m = none := h;unfold mO at h
  split at h
  ·cases h
  ·rename_i aD;refine (xE ae).1 ?_;cases he : oW (ei r l) (ei r m) with
   | true => rfl
   | false => exact absurd ⟨ae, he⟩ aD
def wO (r : Nat) (V : List aq) (D : List Int) : Prop :=
 V ≠ [] ∧ V.length = D.length + 1 ∧ (∀ v ∈ V, e4 r v.1 v.2 = true) ∧ iv (· ≠ ·) V ∧ (iv (fun p q => p.1 ≤ q.1) V ∨ iv (fun p q => q.1 ≤ p.1) V) ∧ (iv (fun p q => p.2 ≤ q.2) V ∨ iv (fun p q => q.2 ≤ p.2) V)
theorem GW {R T : aq → aq → Prop} : ∀ {l : List aq}, iv R l → iv T l → iv (fun p q => R p q ∧ T p q) l
 | [], _, _ => trivial
 | [_], _, _ => trivial
 | p :: q :: W, h, ar => ⟨⟨h.1, ar.1⟩, GW (l := q :: W) h.2 ar.2⟩
theorem Me {R : aq → aq → Prop} (aF : ∀ a b c, R a b → R b c → R a c) : ∀ {l : List aq}, iv R l → l.Pairwise R
 | [], _ => .nil
 | [_], _ => by simp
 | p :: q :: W, h => by
  have bW := Me aF (l := q :: W) h.2;refine jv.2 ⟨fun x aa => ?_, bW⟩;rcases gS.1 aa with rfl | aa
  ·exact h.1
  ·exact aF _ _ _ h.1 ((jv.1 bW).1 x aa)
theorem CX {R T : aq → aq → Prop} (h1 : ∀ a b c, R a b → R b c → R a c) (h2 : ∀ a b c, T a b → T b c → T a c) (aI : ∀ a b, R a b → R b a → T a b → T b a → a = b) {l : List aq} (al : iv R l) (aF : iv T l) (aD : iv (· ≠ ·) l) : l.Nodup := by
 have := Me (R := fun p q => (R p q ∧ T p q) ∧ p ≠ q) (fun a b c x y => ⟨⟨h1 _ _ _ x.1.1 y.1.1, h2 _ _ _ x.1.2 y.1.2⟩, fun e => by subst e; exact x.2 (aI _ _ x.1.1 y.1.1 x.1.2 y.1.2)⟩) (GW (GW al aF) aD);exact this.imp fun h => h.2
theorem wO.nodup {r : Nat} {V : List aq} {D : List Int} (h : wO r V D) : V.Nodup := by
 obtain ⟨_, _, _, aD, aa, ag⟩ := h;rcases aa with aa | aa <;> rcases ag with ag | ag
 ·exact CX (R := fun p q : aq => p.1 ≤ q.1) (T := fun p q : aq => p.2 ≤ q.2) (fun a b c => Int.le_trans) (fun a b c => Int.le_trans) (fun a b h1 h2 ao aH => Prod.ext (Int.le_antisymm h1 h2) (Int.le_antisymm ao aH)) aa ag aD
 ·exact CX (R := fun p q : aq => p.1 ≤ q.1) (T := fun p q : aq => q.2 ≤ p.2) (fun a b c => Int.le_trans) (fun a b c h ar => Int.le_trans ar h) (fun a b h1 h2 ao aH => Prod.ext (Int.le_antisymm h1 h2) (Int.le_antisymm aH ao)) aa ag aD
 ·exact CX (R := fun p q : aq => q.1 ≤ p.1) (T := fun p q : aq => p.2 ≤ q.2) (fun a b c h ar => Int.le_trans ar h) (fun a b c => Int.le_trans) (fun a b h1 h2 ao aH => Prod.ext (Int.le_antisymm h2 h1) (Int.le_antisymm ao aH)) aa ag aD
 ·exact CX (R := fun p q : aq => q.1 ≤ p.1) (T := fun p q : aq => q.2 ≤ p.2) (fun a b c h ar => Int.le_trans ar h) (fun a b c h ar => Int.le_trans ar h) (fun a b h1 h2 ao aH => Prod.ext (Int.le_antisymm h2 h1) (Int.le_antisymm aH ao)) aa ag aD
theorem Ds (r : Nat) (a b : Int) : decide ((2 : Int) ^ r * a < 2 ^ r * b) = decide (a < b) := by
 have hS : (0 : Int) < 2 ^ r := jM (by decide);rw [decide_eq_decide];exact ⟨fun h => Int.lt_of_mul_lt_mul_left h (by omega), fun h => Int.mul_lt_mul_of_pos_left h hS⟩
theorem MB {fx fy : Bool} {p q : aq} : ∀ (l out : List aq), (∀ x ∈ l, x ≠ p ∧ x ≠ q) → (out ++ l).Nodup → l.foldl (p8 p q) out = out ++ l
 | [], out, _, _ => by simp
 | x :: l, out, h, hd => by
  have aa := h x (k2 ..);have e : p8 p q out x = out ++ [x] := if_pos ⟨aa.1, aa.2, fun he => (List.nodup_append.1 hd).2.2 x (List.mem_of_getLast? he) x (k2 ..) rfl⟩;rw [List.foldl_cons, e, MB (fx := fx) (fy := fy) l (out ++ [x]) (fun y ag => h y (oA _ ag)) (by simpa using hd), iV]; rfl
theorem agC {fx fy : Bool} {f g : aq → Bool} {l : List aq} (h : ∀ x ∈ l, f x = g x) : rS fx fy f l = rS fx fy g l := by
 unfold rS
 have key : ∀ (l out : List aq), (∀ x ∈ l, f x = g x) → l.foldl (fun out q => if f q then mv fx fy q out else out) out = l.foldl (fun out q => if g q then mv fx fy q out else out) out := by
  intro l
  induction l with
  | nil => intro out _; rfl
  | cons x l bW =>
   intro out h;rw [List.foldl_cons, List.foldl_cons, h x (k2 ..)];exact bW _ fun y ag => h y (oA _ ag)
 exact key l [] h
theorem xO {E : List bV} {r R : Nat} {p q x : aq} : fF (mx E r R) p q x = true ↔ x ≠ p ∧ x ≠ q ∧ z8 r p q x = true := by
 unfold fF; simp only [eh, cL, and_assoc]; exact Iff.rfl
theorem pB (p q : aq) (fs : List aq) : (fw p q fs).Perm fs := by
 have := FJ (decide (q.1 < p.1)) (decide (q.2 < p.2)) (fun _ => true) fs;rwa [List.filter_eq_self.2 (fun _ _ => rfl)] at this
theorem Kr {E : List bV} {r R : Nat} {p q : aq} {fs : List aq} (aD : fs.Nodup) (h : ∀ x ∈ fs, fF (mx E r R) p q x = true) : fw p q fs = sn r fs p q := by
 unfold sn MA;rw [Ds, Ds, ← agC (f := fun _ => true) (g := qw (2 ^ r * p.1) (2 ^ r * p.2) (2 ^ r * q.1) (2 ^ r * q.2) r) (fun x aa => ((xO.1 (h x aa)).2.2).symm)];have hp := pB p q fs;show fw p q fs = (fw p q fs).foldl (p8 p q) [];rw [MB (fx := false) (fy := false) (fw p q fs) [] (fun x aa => ⟨(xO.1 (h x (hp.mem_iff.1 aa))).1, (xO.1 (h x (hp.mem_iff.1 aa))).2.1⟩) (by simpa using hp.nodup_iff.2 aD)];rfl
theorem Md {R : aq → aq → Prop} : ∀ {A B : List aq} {q : aq}, iv R (A ++ q :: B) → iv R (A ++ [q]) ∧ iv R (q :: B)
 | [], _, _, h => ⟨trivial, h⟩
 | [a], _, _, h => ⟨⟨h.1, trivial⟩, h.2⟩
 | a :: b :: A, B, q, h => by
  have bW := Md (A := b :: A) h.2;exact ⟨⟨h.1, bW.1⟩, bW.2⟩
theorem ag6 {V : List aq} {j : Nat} {p q : aq} (hp : V[j]? = some p) (an : V[j + 1]? = some q) : ∃ A B, V = A ++ p :: q :: B ∧ A.length = j ∧ ∀ l, cz V j l = A ++ p :: (l ++ q :: B) := by
 obtain ⟨h1, aG⟩ := bP.1 hp;obtain ⟨h2, aM⟩ := bP.1 an;have hd := WS hp an;refine ⟨V.take j, V.drop (j + 2), by rw [← hd, k3], by rw [eu]; omega, fun l => ?_⟩;unfold cz;rw [nO h1, aG, nL h2, aM];simp
theorem zq {R : aq → aq → Prop} {V l : List aq} {j : Nat} {p q : aq} (hp : V[j]? = some p) (an : V[j + 1]? = some q) (h : iv R V) (ap : R p q → iv R (p :: (l ++ [q]))) : iv R (cz V j l) := by
 obtain ⟨A, B, e, _, G8⟩ := ag6 hp an;rw [G8];rw [e] at h;obtain ⟨h1, h2⟩ := Md h;refine GX h1 ?_;have ao := ap h2.1;have := GX (A := p :: l) (q := q) (W := B) ao h2.2;exact this
theorem wO.cut {E : List bV} {r R : Nat} (al : r ≤ 28) {V : List aq} {D : List Int} (h : wO r V D) {j : Nat} {p q : aq} {fs : List aq} (hp : V[j]? = some p) (an : V[j + 1]? = some q) (aD : fs.Nodup) (ax : ∀ x ∈ fs, fF (mx E r R) p q x = true) : wO r (cz V j (fw p q fs)) (dq D j fs.length) := by
 obtain ⟨h1, h2, ao, aH, fQ, j0⟩ := h;have hS : (0 : Int) < 2 ^ r := jM (by decide);have af := (bP.1 an).1;rw [Kr aD ax];have ms := CK al fs p q;have hlen : (sn r fs p q).length = fs.length := by rw [← Kr aD ax]; exact (pB p q fs).length_eq
 refine ⟨fun aJ => ?_, ?_, fun v hv => ?_, ?_, ?_, ?_⟩
 ·have := congrArg List.length aJ;rw [xB, List.length_nil] at this; omega
 ·rw [xB, G2 (by omega), hlen]; omega
 ·rcases Mq hv with hv | hv
  ·exact ao v hv
  ·exact (ms.2.1 v hv).2.1
 ·exact zq hp an aH fun iy => Vj al fs p q iy
 ·refine fQ.imp (fun h => zq hp an h fun iy => CL al fs p q iy (fun x aa => ?_) (fun x y u w hu hw sQ => ?_)) (fun h => zq hp an h fun iy => CL al fs p q iy (fun x aa => ?_) (fun x y u w hu hw sQ => ?_))
  ·obtain ⟨u, hu⟩ := aa; exact (yj hS hu.1.1 hu.1.2 hu.2.1).1 iy
  ·exact EL hS hu.2.1 hw.2.1 sQ iy
  ·obtain ⟨u, hu⟩ := aa; exact ((yj hS hu.1.1 hu.1.2 hu.2.1).2 iy).symm
  ·exact EK hS hu.2.1 hw.2.1 sQ iy
 ·refine j0.imp (fun h => zq hp an h fun iy => CL al fs p q iy (fun x aa => ?_) (fun x y u w hu hw sQ => ?_)) (fun h => zq hp an h fun iy => CL al fs p q iy (fun x aa => ?_) (fun x y u w hu hw sQ => ?_))
  ·obtain ⟨u, hu⟩ := aa; exact (yj hS hu.1.1 hu.1.2 hu.2.2).1 iy
  ·exact EL hS hu.2.2 hw.2.2 sQ iy
  ·obtain ⟨u, hu⟩ := aa; exact ((yj hS hu.1.1 hu.1.2 hu.2.2).2 iy).symm
  ·exact EK hS hu.2.2 hw.2.2 sQ iy
def tb (r : Nat) (e : bV) (d : Int) (t : Rat) (x : aq) : Prop := yo e.1.1 e.1.2 e.2.1 e.2.2 (2 ^ r) (br d * br (2 ^ r)) t x
theorem ac4 {r : Nat} {e : bV} {d d' : Int} (h : d ≤ d') {t : Rat} {x : aq} (aa : tb r e d t x) : tb r e d' t x := by
 refine ac6 ?_ aa;have hS : (0 : Rat) < br (2 ^ r) := qJ (jM (by decide));exact Rat.mul_le_mul_of_nonneg_right (rM.2 h) (Rat.le_of_lt hS)
theorem Mg {r : Nat} {e : bV} {p q : aq} {d : Int} {t1 t2 : Rat} (HB : t1 ≤ t2) (HD : t2 ≤ 1) (hp : tb r e d t1 p) (an : tb r e d t2 q) : ∀ (l : List aq) (kJ : Rat), 0 ≤ kJ → kJ ≤ 1 → (∀ x ∈ l, ∀ u, qX (2 ^ r) p q u x → kJ ≤ u) → (∀ x ∈ l, ∃ u, qX (2 ^ r) p q u x) → jd (decide ((2 : Int) ^ r * q.1 < 2 ^ r * p.1)) (decide ((2 : Int) ^ r * q.2 < 2 ^ r * p.2)) l → CZ (tb r e) (d + 1) t2 (t1 + kJ * (t2 - t1)) l
 | [], kJ, aJ, h1, _, _, _ => by
  show t1 + kJ * (t2 - t1) ≤ t2;have := kG (show 0 ≤ 1 - kJ by grind) (show 0 ≤ t2 - t1 by grind);grind
 | x :: l, kJ, aJ, h1, hu, hm, aI => by
  have hS : (0 : Int) < 2 ^ r := jM (by decide);obtain ⟨u, x8⟩ := hm x (k2 ..);have ak := jv.1 aI;have h2 := hu x (k2 ..) u x8;have bC := kG (show 0 ≤ u - kJ by grind) (show 0 ≤ t2 - t1 by grind);have cd := kG (show 0 ≤ 1 - u by have := x8.1.2; grind) (show 0 ≤ t2 - t1 by grind)
  have aa : tb r e (d + 1) (t1 + u * (t2 - t1)) x := by
   have := ac5 hp an x8;unfold tb;rw [show br (d + 1) = br d + 1 by simp [br, tl]];exact this
  exact ⟨t1 + u * (t2 - t1), by grind, by grind, aa, Mg HB HD hp an l u x8.1.1 x8.1.2 (fun y ag w hw => PK hS x8 hw (ak.1 y ag)) (fun y ag => hm y (oA _ ag)) ak.2⟩
def yq (E : List bV) (r : Nat) (i : Nat) (c : List aq × List Int) : Prop := wO r c.1 c.2 ∧ ss (tb r (E.getD i jY)) 0 c.1 c.2
theorem EX {r : Nat} (a b : Int) : ta (br a) (br b) (2 * (br (2 ^ r) * br (cI a r))) (br 1 * br (2 ^ r)) 0 ∧ ta (br b) (br a) (2 * (br (2 ^ r) * br (cI a r))) (br 1 * br (2 ^ r)) 1 := by
 have fp : (0 : Int) < 2 ^ r := jM (by decide);obtain ⟨g0, g1⟩ : 2 * (cI a r * 2 ^ r) ≤ 2 * a + 2 ^ r ∧ 2 * a + 2 ^ r < 2 * (cI a r * 2 ^ r) + 2 * 2 ^ r := Yc fp;have db := rM.2 g0;have q1 := J1.2 g1;have z : br 1 = 1 := by simp [br]
 rw [z];simp only [br, tl, Rat.intCast_mul] at db q1 ⊢;generalize ((2 ^ r : Int) : Rat) = S at *;generalize ((cI a r : Int) : Rat) = g at *;generalize ((a : Int) : Rat) = a' at *;generalize ((b : Int) : Rat) = bR at *;have aM : ((2 : Int) : Rat) = 2 := by simp
 rw [aM] at db q1;refine ⟨⟨?_, ?_⟩, ?_, ?_⟩ <;> grind
theorem V4 {r : Nat} (e : bV) : ss (tb r e) 0 (fr (k1 r e.1) (k1 r e.2)).1 (fr (k1 r e.1) (k1 r e.2)).2 :=
 V3 ⟨(EX e.1.1 e.2.1).1, (EX e.1.2 e.2.2).1⟩ ⟨(EX e.2.1 e.1.1).2, (EX e.2.2 e.1.2).2⟩
theorem acT {r : Nat} {p q : aq} (hp : e4 r p.1 p.2 = true) (an : e4 r q.1 q.2 = true) : wO r (fr p q).1 (fr p q).2 := by
 unfold fr
 split
 ·exact ⟨by simp, rfl, fun v hv => by rw [js.1 hv]; exact hp, trivial, .inl trivial, .inl trivial⟩
 ·rename_i ca;refine ⟨by simp, rfl, fun v hv => ?_, ⟨ca, trivial⟩, ?_, ?_⟩
  ·simp only [gS, rH, or_false] at hv;rcases hv with rfl | rfl
   ·exact hp
   ·exact an
  ·rcases Int.le_total p.1 q.1 with h | h
   ·exact .inl ⟨h, trivial⟩
   ·exact .inr ⟨h, trivial⟩
  ·rcases Int.le_total p.2 q.2 with h | h
   ·exact .inl ⟨h, trivial⟩
   ·exact .inr ⟨h, trivial⟩
theorem L1 {X W a b n d : Int} (e9 : 0 < W) (hd : 0 < d) (aD : 0 ≤ n ∧ n ≤ d) (e : X * d = W * (a * (d - n) + b * n)) {lo hi : Int} (aI : lo ≤ a ∧ a ≤ hi) (ab : lo ≤ b ∧ b ≤ hi) : lo * W ≤ X ∧ X ≤ hi * W := by
 have a1 := il (show 0 ≤ a - lo by omega) (show 0 ≤ d - n by omega);have a2 := il (show 0 ≤ hi - a by omega) (show 0 ≤ d - n by omega);have b1 := il (show 0 ≤ b - lo by omega) aD.1;have b2 := il (show 0 ≤ hi - b by omega) aD.1;have s1 : lo * d ≤ a * (d - n) + b * n := by grind
 have s2 : a * (d - n) + b * n ≤ hi * d := by grind
 have t1 := qA s1 (qF e9);have t2 := qA s2 (qF e9);rw [← e] at t1 t2;refine ⟨Int.le_of_mul_le_mul_right ?_ hd, Int.le_of_mul_le_mul_right ?_ hd⟩
 ·rw [show lo * W * d = W * (lo * d) by grind]; exact t1
 ·rw [show hi * W * d = W * (hi * d) by grind]; exact t2
theorem Re {r : Nat} (al : r ≤ 28) {a b : bV} (h1 : gd a.1 = true) (h2 : gd a.2 = true) {x : aq} (h : uZ r a b = some x) : e4 r x.1 x.2 = true := by
 unfold uZ at h
 split at h
 ·rename_i ae;cases h;obtain ⟨X, Y, W, bn, e⟩ := I5 ae;obtain ⟨q1, q2, cr, _⟩ := JP (r := r) e;obtain ⟨_, _, ⟨n, d, g1, g2, g3, g4⟩, _⟩ := EH e;have cH := s8.1 h1;have cC := s8.1 h2;obtain ⟨c1, c2⟩ := L1 q2 g1 g2 g3 (lo := -134217728) (hi := 134217727) (by omega) (by omega);obtain ⟨lg, GR⟩ := L1 q2 g1 g2 g4 (lo := -134217728) (hi := 134217727) (by omega) (by omega);rw [cr];unfold e4;rw [Ff al q2 c1 c2, Ff al q2 lg GR]; rfl
 ·cases h
theorem Mt {r : Nat} {l m : aq × aq} (h1 : e4 r l.1.1 l.1.2 = true) (h2 : e4 r l.2.1 l.2.2 = true) {x : aq} (h : mO r l m = some x) : e4 r x.1 x.2 = true := by
 have hS : (0 : Int) < 2 ^ r := jM (by decide);unfold mO at h
 split at h
 ·rename_i ae;cases h;obtain ⟨X, Y, W, bn, e⟩ := I5 ae.1;obtain ⟨q1, q2, cr, eE⟩ := JP (r := r) e;obtain ⟨_, _, ⟨n, d, g1, g2, g3, g4⟩, _⟩ := EH e;generalize iU r (fl (ei r l) (ei r m)) = x at *;obtain ⟨⟨i1, i2⟩, i3, i4⟩ := eE;have v1 := Rs hS q2 g1 g2 g3 i1 i2;have v2 := Rs hS q2 g1 g2 g4 i3 i4;unfold e4 at h1 h2 ⊢;rw [eh] at h1 h2 ⊢;refine ⟨?_, ?_⟩
  ·rcases Int.le_total l.1.1 l.2.1 with h | h
   ·exact BO h1.1 h2.1 (v1.1 h).1 (v1.1 h).2
   ·exact BO h2.1 h1.1 (v1.2 h).1 (v1.2 h).2
  ·rcases Int.le_total l.1.2 l.2.2 with h | h
   ·exact BO h1.2 h2.2 (v2.1 h).1 (v2.1 h).2
   ·exact BO h2.2 h1.2 (v2.2 h).1 (v2.2 h).2
 ·cases h
theorem afE {E : List bV} {r R : Nat} (al : r ≤ 28) (j1 : fK E = true) : gT (mx E r R) (yq E r) where
 nodup i c h := h.1.nodup
 new i hi := ⟨acT (ES al (rA j1 i).1) (ES al (rA j1 i).2), V4 _⟩
 split i c j p q fs h hlen hp an aD _ ax := by
  refine ⟨h.1.cut al hp an aD ax, ?_⟩;have D5 := pB p q fs;have e : fs.length = (fw p q fs).length := D5.length_eq.symm;show ss _ _ (cz c.1 j (fw p q fs)) (dq c.2 j fs.length);rw [e];refine Mh (fun d t x aa => ac4 (by omega) aa) (fun d t1 t2 HB HD h1 h2 => ?_) c.1 c.2 j 0 hlen hp an h.2;have ms := CK al fs p q;rw [Kr aD ax];have := Mg HB HD h1 h2 (sn r fs p q) 0 Rat.le_refl (by decide) (fun x aa u hu => hu.1.1) (fun x aa => (ms.2.1 x aa).2.2) ms.1;rwa [show t1 + 0 * (t2 - t1) = t1 by grind] at this
 dj := pB
 zL i _ := ⟨ES al (rA j1 i).1, ES al (rA j1 i).2⟩
 Hz i j x _ _ h := Re al (rA j1 i).1 (rA j1 i).2 h
 Nn p q dA bT x h1 h2 _ _ h := Mt (l := (p, q)) (m := (dA, bT)) h1 h2 h
 cut hot p q dA bT x ax _ _ h1 h2 ao aH cM fQ h := (afO E al R).Wi hot p q dA bT x ax h1 h2 ao aH cM fQ h
variable {α : Type} [DecidableEq α]
theorem Be : ∀ {l m : List α}, l.Nodup → m.Nodup → (∀ x, x ∈ l ↔ x ∈ m) → l.Perm m
 | [], m, _, _, h => by
  have : m = [] := List.eq_nil_iff_forall_not_mem.2 fun x aa => by cases (h x).2 aa
  rw [this]
 | a :: l, m, h1, h2, h => by
  have ak := List.nodup_cons.1 h1;have aI := (h a).1 (k2 ..);refine List.Perm.trans (List.Perm.cons a (Be ak.2 (h2.erase a) fun x => ?_)) (List.perm_cons_erase aI).symm
  constructor
  ·intro aa;have ca : x ≠ a := fun e => ak.1 (by rw [← e]; exact aa);exact (List.mem_erase_of_ne ca).2 ((h x).1 (oA _ aa))
  ·intro aa
   have ca : x ≠ a := fun e => by
    subst e;exact (List.Nodup.not_mem_erase h2) aa
   rcases gS.1 ((h x).2 ((List.mem_erase_of_ne ca).1 aa)) with ar | ar
   ·exact absurd ar ca
   ·exact ar
inductive gx (o : bN α) (H : List α) : List α → List Int → List α → List Int → Prop
 | one (v : α) : gx o H [v] [] [v] []
 | nE {p q : α} {d : Int} {V nY : List α} {D lK : List Int} : nv o H p q → gx o H (q :: V) D nY lK → gx o H (p :: q :: V) (d :: D) (p :: nY) (d :: lK)
 | split {p q : α} {d : Int} {V nY fs : List α} {D lK : List Int} : fs ≠ [] → fs.Perm (H.filter (fF o p q)) → gx o H (p :: (o.dj p q fs ++ q :: V)) (List.replicate (fs.length + 1) (d + 1) ++ D) nY lK → gx o H (p :: q :: V) (d :: D) nY lK
theorem Se {o : bN α} {H fs : List α} {p q : α} (h : nv o H p q) (hp : fs.Perm (H.filter (fF o p q))) : fs = [] := by
 have : H.filter (fF o p q) = [] := List.filter_eq_nil_iff.2 fun x aa => by rw [h x aa]; decide
 rw [this] at hp;exact hp.eq_nil
theorem gx.n5 {o : bN α} {H : List α} (hs : ∀ (p q : α) (fs vS : List α), fs.Nodup → fs.Perm vS → o.dj p q fs = o.dj p q vS) (cA : H.Nodup) : ∀ {V : List α} {D : List Int} {A : List α} {B : List Int}, gx o H V D A B → ∀ {dW : List α} {l9 : List Int}, gx o H V D dW l9 → A = dW ∧ B = l9 := by
 intro V D A B h
 induction h with
 | one v =>
  intro dW l9 ar;cases ar;exact ⟨rfl, rfl⟩
 | nE ae _ bW =>
  intro dW l9 ar;cases ar with
  | nE _ h2 =>
   obtain ⟨aG, aM⟩ := bW h2;rw [aG, aM]; exact ⟨rfl, rfl⟩
  | split ca hp _ => exact absurd (Se ae hp) ca
 | @split p q d V nY fs D lK ca hp h1 bW =>
  intro dW l9 ar;cases ar with
  | nE ae _ => exact absurd (Se ae hp) ca
  | @split _ _ _ _ _ Nf _ _ D3 ZR h2 =>
   have D5 : fs.Perm Nf := hp.trans ZR.symm;have aD : fs.Nodup := (hp.nodup_iff).2 (cA.filter _);rw [← hs p q fs Nf aD D5, ← D5.length_eq] at h2;exact bW h2
theorem gx.perm {o : bN α} {H cn : List α} (cA : H.Perm cn) {V : List α} {D : List Int} {A : List α} {B : List Int} (h : gx o H V D A B) : gx o cn V D A B := by
 induction h with
 | one v => exact .one v
 | nE ae _ bW => exact .nE (fun x aa => ae x (cA.mem_iff.2 aa)) bW
 | split ca hp _ bW => exact .split ca (hp.trans (cA.filter _)) bW
theorem C4 {A B : List α} {j : Nat} {l : List α} : cz (A ++ B) (j + A.length) l = A ++ cz B j l := by
 unfold cz;rw [show j + A.length + 1 = A.length + (j + 1) by omega, List.take_length_add_append, List.drop_length_add_append];simp
theorem C3 {A B : List Int} {j n : Nat} : dq (A ++ B) (j + A.length) n = A ++ dq B j n := by
 unfold dq;rw [show j + A.length + 1 = A.length + (j + 1) by omega, show j + A.length = A.length + j by omega, List.take_length_add_append, List.drop_length_add_append]
 have : (A ++ B).getD (A.length + j) 0 = B.getD j 0 := by
  rw [rG, rG, gf (by omega)];congr 2; omega
 rw [this];simp
theorem gx.back {o : bN α} {H : List α} (ap : ∀ (p q : α) (fs : List α), (o.dj p q fs).length = fs.length) {p q : α} {fs : List α} (ca : fs ≠ []) (hp : fs.Perm (H.filter (fF o p q))) : ∀ {W : List α} {E : List Int} {A : List α} {B : List Int}, gx o H W E A B → ∀ (V : List α) (D : List Int) (j : Nat), W = cz V j (o.dj p q fs) → E = dq D j fs.length → V.length = D.length + 1 → V[j]? = some p → V[j + 1]? = some q → gx o H V D A B := by
 intro W E A B h
 have O9 : ∀ {V : List α} {D : List Int} {A : List α} {B : List Int} {d : Int}, gx o H (cz (p :: q :: V) 0 (o.dj p q fs)) (dq (d :: D) 0 fs.length) A B → gx o H (p :: q :: V) (d :: D) A B := fun {V D A B d} h => by
  refine .split ca hp ?_;have aG : cz (p :: q :: V) 0 (o.dj p q fs) = p :: (o.dj p q fs ++ q :: V) := by unfold cz; simp
  have aM : dq (d :: D) 0 fs.length = List.replicate (fs.length + 1) (d + 1) ++ D := by unfold dq; simp
  rw [aG, aM] at h;exact h
 induction h with
 | one v =>
  intro V D j aG aM hlen h1 h2;have := congrArg List.length aG;rw [xB] at this;have af := (bP.1 h2).1;simp at this;omega
 | @nE p1 q1 d1 se Lf B8 KN ae h1 bW =>
  intro V D j aG aM hlen j6 fJ
  match V, D, j, hlen, j6, fJ, aG, aM with
  | dA :: bT :: V, d' :: D, 0, hlen, j6, fJ, aG, aM =>
   simp only [oB, gE] at j6;simp only [rI, oB, gE] at fJ;subst j6; subst fJ;refine O9 ?_;rw [← aG, ← aM];exact .nE ae h1
  | dA :: bT :: V, d' :: D, j + 1, hlen, j6, fJ, aG, aM =>
   have f1 : cz (dA :: bT :: V) (j + 1) (o.dj p q fs) = dA :: cz (bT :: V) j (o.dj p q fs) := C4 (A := [dA]);have f2 : dq (d' :: D) (j + 1) fs.length = d' :: dq D j fs.length := C3 (A := [d']);rw [f1] at aG; rw [f2] at aM;have g1 : p1 = dA := (rL aG).1;have g2 : q1 :: se = cz (bT :: V) j (o.dj p q fs) := (rL aG).2;have g3 : d1 = d' := (rL aM).1;have g4 : B8 = dq D j fs.length := (rL aM).2
   have g5 : q1 = bT := by
    have : cz (bT :: V) j (o.dj p q fs) = bT :: (V.take j ++ (o.dj p q fs) ++ V.drop j) := by unfold cz; simp
    rw [this] at g2;exact (rL g2).1
   subst g1; subst g3; subst g5;refine .nE ae (bW (q1 :: V) D j g2 g4 (by simp at hlen ⊢; omega) j6 fJ)
  | [_], _, j, hlen, j6, fJ, aG, aM => simp at fJ
  | [], _, j, hlen, j6, fJ, aG, aM => simp at j6
  | _ :: _ :: _, [], j, hlen, j6, fJ, aG, aM => simp at hlen
 | @split p1 q1 d1 se Lf mP B8 KN N3 Od h1 bW =>
  intro V D j aG aM hlen j6 fJ
  match V, D, j, hlen, j6, fJ, aG, aM with
  | dA :: bT :: V, d' :: D, 0, hlen, j6, fJ, aG, aM =>
   simp only [oB, gE] at j6;simp only [rI, oB, gE] at fJ;subst j6; subst fJ;refine O9 ?_;rw [← aG, ← aM];exact .split N3 Od h1
  | dA :: bT :: V, d' :: D, j + 1, hlen, j6, fJ, aG, aM =>
   have f1 : cz (dA :: bT :: V) (j + 1) (o.dj p q fs) = dA :: cz (bT :: V) j (o.dj p q fs) := C4 (A := [dA]);have f2 : dq (d' :: D) (j + 1) fs.length = d' :: dq D j fs.length := C3 (A := [d']);rw [f1] at aG; rw [f2] at aM;have g1 : p1 = dA := (rL aG).1;have g2 : q1 :: se = cz (bT :: V) j (o.dj p q fs) := (rL aG).2;have g3 : d1 = d' := (rL aM).1;have g4 : B8 = dq D j fs.length := (rL aM).2
   have g5 : q1 = bT := by
    have : cz (bT :: V) j (o.dj p q fs) = bT :: (V.take j ++ (o.dj p q fs) ++ V.drop j) := by unfold cz; simp
    rw [this] at g2;exact (rL g2).1
   subst g1; subst g3; subst g5;refine .split N3 Od (bW (p1 :: (o.dj p1 q1 mP ++ q1 :: V)) (List.replicate (mP.length + 1) (d1 + 1) ++ D) (j + (mP.length + 1)) ?_ ?_ ?_ ?_ ?_)
   ·have := C4 (A := p1 :: o.dj p1 q1 mP) (B := q1 :: V) (j := j) (l := o.dj p q fs);rw [lB, ap] at this;show p1 :: (o.dj p1 q1 mP ++ q1 :: se) = _;rw [g2];exact this.symm
   ·have := C3 (A := List.replicate (mP.length + 1) (d1 + 1)) (B := D) (j := j) (n := fs.length);rw [List.length_replicate] at this;rw [g4]; exact this.symm
   ·simp [ap] at hlen ⊢; omega
   ·show (p1 :: (o.dj p1 q1 mP ++ q1 :: V))[j + mP.length + 1]? = some p;rw [rI, gf (by rw [ap]; omega), ap, show j + mP.length - mP.length = j by omega];exact j6
   ·show (p1 :: (o.dj p1 q1 mP ++ q1 :: V))[j + mP.length + 1 + 1]? = some q;rw [rI, gf (by rw [ap]; omega), ap, show j + mP.length + 1 - mP.length = j + 1 by omega];exact fJ
  | [_], _, j, hlen, j6, fJ, aG, aM => simp at fJ
  | [], _, j, hlen, j6, fJ, aG, aM => simp at j6
  | _ :: _ :: _, [], j, hlen, j6, fJ, aG, aM => simp at hlen
theorem gx.self {o : bN α} {H : List α} : ∀ (V : List α) (D : List Int), V.length = D.length + 1 → (∀ l ∈ gB V, nv o H l.1 l.2) → gx o H V D V D
 | [], D, h, _ => by simp at h
 | [v], [], _, _ => .one v
 | [_], _ :: _, h, _ => by simp at h
 | _ :: _ :: _, [], h, _ => by simp at h
 | p :: q :: V, d :: D, h, hs => .nE (hs (p, q) (k2 ..)) (gx.self (q :: V) D (by simp at h ⊢; omega) fun l ap => hs l (oA _ ap))
theorem gx.len {o : bN α} {H : List α} (ap : ∀ (p q : α) (fs : List α), (o.dj p q fs).length = fs.length) {V : List α} {D : List Int} {A : List α} {B : List Int} (h : gx o H V D A B) : V.length = D.length + 1 := by
 induction h with
 | one v => rfl
 | nE _ _ bW => simp at bW ⊢; omega
 | split _ _ _ bW => simp [ap] at bW ⊢; omega
theorem gx.snoc {o : bN α} {H : List α} {p : α} {d : Int} {V : List α} {D : List Int} {A : List α} {B : List Int} (h : gx o H V D A B) : (∀ q, V.getLast? = some q → nv o H q p) → gx o H (V ++ [p]) (D ++ [d]) (A ++ [p]) (B ++ [d]) := by
 induction h with
 | one v => exact fun hs => .nE (hs v rfl) (.one p)
 | nE ae _ bW => exact fun hs => .nE ae (bW fun q an => hs q (by rw [List.getLast?_cons_cons]; exact an))
 | @split p1 q1 d1 se Lf mP B8 KN ca hp _ bW =>
  intro hs
  have := bW fun q an => hs q (by
   rw [List.getLast?_cons_cons];rw [← List.cons_append, List.getLast?_append] at an;cases aW : (q1 :: se).getLast? with
   | none => simp at aW
   | some z => rw [aW] at an; exact an)
  refine .split ca hp ?_;simpa using this
structure xf (o cR : bN α) : Prop where
 n : cR.n = o.n
 R : cR.R = o.R
 P : ∀ i, cR.P i = o.Q i
 Q : ∀ i, cR.Q i = o.P i
 lA : ∀ i j, cR.lA i j = o.lA i j
 Hy : ∀ p q x, fF cR q p x = fF o p q x
 dj : ∀ p q fs, fs.Nodup → (∀ x ∈ fs, fF o p q x = true) → cR.dj q p fs = (o.dj p q fs).reverse
 cut : ∀ p q dA bT, cR.cut (q, p) (bT, dA) = o.cut (p, q) (dA, bT)
theorem gx.A1 {o cR : bN α} (hm : xf o cR) {H : List α} (cA : H.Nodup) (ap : ∀ (p q : α) (fs : List α), (o.dj p q fs).length = fs.length) (fb : ∀ (p q : α) (fs : List α), (cR.dj p q fs).length = fs.length) {V : List α} {D : List Int} {A : List α} {B : List Int} (h : gx o H V D A B) : gx cR H V.reverse D.reverse A.reverse B.reverse := by
 induction h with
 | one v => exact .one v
 | @nE p q d V nY D lK ae _ bW =>
  rw [show (p :: q :: V).reverse = (q :: V).reverse ++ [p] by simp, show (d :: D).reverse = D.reverse ++ [d] by simp, show (p :: nY).reverse = nY.reverse ++ [p] by simp, show (d :: lK).reverse = lK.reverse ++ [d] by simp];refine gx.snoc bW fun z a6 => ?_;rw [List.getLast?_reverse] at a6;cases a6;intro x aa;rw [hm.Hy]; exact ae x aa
 | @split p q d V nY fs D lK ca hp h1 bW =>
  have H6 : fs.Nodup := (hp.nodup_iff).2 (cA.filter _);have hlen := h1.len ap;have hlen : V.length = D.length := by simp [ap] at hlen; omega
  have e : H.filter (fF cR q p) = H.filter (fF o p q) := List.filter_congr fun x _ => by rw [hm.Hy]
  have G7 : (p :: q :: V).reverse = V.reverse ++ [q, p] := by simp
  have WV : (d :: D).reverse = D.reverse ++ [d] := by simp
  refine gx.back fb (p := q) (q := p) (fs := fs) ca (by rw [e]; exact hp) bW (p :: q :: V).reverse (d :: D).reverse V.length ?_ ?_ ?_ ?_ ?_
  ·rw [G7];have := C4 (A := V.reverse) (B := [q, p]) (j := 0) (l := cR.dj q p fs);rw [qI, ju] at this;rw [this, hm.dj p q fs H6 fun x aa => (tg.1 (hp.mem_iff.1 aa)).2];unfold cz;simp
  ·rw [WV];have := C3 (A := D.reverse) (B := [d]) (j := 0) (n := fs.length);rw [qI, ju, ← hlen] at this;rw [this];unfold dq;simp
  ·simp; omega
  ·rw [G7, gf (by simp)]; simp
  ·rw [G7, gf (by simp)]; simp
end Go.Proofs.YtpochbhajmbfdaaGreat.bt
namespace Go.Proofs.YtpochbhajmbfdaaGreat.bt
variable {α : Type} [DecidableEq α]
structure nr (o : bN α) : Prop where
 len : ∀ (p q : α) (fs : List α), (o.dj p q fs).length = fs.length
 n5 : ∀ (p q : α) (fs vS : List α), fs.Nodup → fs.Perm vS → o.dj p q fs = o.dj p q vS
 sym : ∀ l m, o.cut l m = o.cut m l
abbrev kL (α : Type) := List (List α × List Int)
abbrev gL (α : Type) := Option (List α × kL α)
def iG (o : bN α) (ch : kL α) (I J : Nat) (x : α) : Prop := ∃ (a b : Nat) (l m : α × α), (aQ ch)[a]? = some l ∧ (aQ ch)[b]? = some m ∧ a < b ∧ ¬ (a < I ∨ (a = I ∧ b < J)) ∧ o.cut l m = some x
def Cut (o : bN α) (ch : kL α) (x : α) : Prop := ∃ (a b : Nat) (l m : α × α), (aQ ch)[a]? = some l ∧ (aQ ch)[b]? = some m ∧ a < b ∧ o.cut l m = some x
theorem zr {o : bN α} {ch : kL α} {x : α} : iG o ch 0 1 x ↔ Cut o ch x := by
 constructor
 ·rintro ⟨a, b, l, m, h1, h2, ao, _, cM⟩; exact ⟨a, b, l, m, h1, h2, ao, cM⟩
 ·rintro ⟨a, b, l, m, h1, h2, ao, cM⟩; exact ⟨a, b, l, m, h1, h2, ao, by omega, cM⟩
theorem Mu {o : bN α} {ch : kL α} {x : α} : Cut o ch x ↔ ¬ (aQ ch).Pairwise (fun l m => o.cut l m ≠ some x) := by
 rw [List.pairwise_iff_getElem]
 constructor
 ·rintro ⟨a, b, l, m, h1, h2, ao, cM⟩ h;obtain ⟨g1, bC⟩ := bP.1 h1;obtain ⟨g2, cd⟩ := bP.1 h2;exact h a b g1 g2 ao (by rw [bC, cd]; exact cM)
 ·intro h;refine Classical.byContradiction fun aD => h fun a b aI ab ln e => aD ⟨a, b, _, _, cj aI, cj ab, ln, e⟩
def s4 (c : List α × List Int) : List α × List Int := (c.1.reverse, c.2.reverse)
theorem Pp : ∀ (A : List α) (q p : α), gB (A ++ [q, p]) = gB (A ++ [q]) ++ [(q, p)]
 | [], _, _ => rfl
 | [a], _, _ => rfl
 | a :: b :: A, q, p => by
  have := Pp (b :: A) q p;show (a, b) :: gB (b :: A ++ [q, p]) = (a, b) :: (gB (b :: A ++ [q]) ++ [(q, p)]);rw [this]
theorem Po : ∀ V : List α, gB V.reverse = ((gB V).map fun l => (l.2, l.1)).reverse
 | [] => rfl
 | [_] => rfl
 | p :: q :: V => by
  have bW := Po (q :: V);rw [show (p :: q :: V).reverse = V.reverse ++ [q, p] by simp, Pp, ← List.reverse_cons, bW];show _ = (((p, q) :: gB (q :: V)).map fun l => (l.2, l.1)).reverse;simp
theorem Pm : ∀ ch : kL α, (aQ (ch.map s4)).Perm ((aQ ch).map fun l => (l.2, l.1))
 | [] => .refl _
 | c :: ch => by
  rw [k5, yf, yf, List.map_append];refine List.Perm.append ?_ (Pm ch);show (gB c.1.reverse).Perm _;rw [Po];exact List.reverse_perm _
theorem vJ {o cR : bN α} (hm : xf o cR) (hs : nr o) (gA : nr cR) {ch : kL α} {x : α} : Cut cR (ch.map s4) x ↔ Cut o ch x := by
 rw [Mu, Mu, (Pm ch).pairwise_iff (fun {a b} h => by rw [gA.sym]; exact h), List.pairwise_map]
 have : (fun a b : α × α => cR.cut (a.2, a.1) (b.2, b.1) ≠ some x) = fun l m => o.cut l m ≠ some x := by
  funext a b;rw [hm.cut]
 rw [this]
structure kq (o : bN α) (H : List α) (ch ch' : kL α) : Prop where
 len : ch.length = ch'.length
 gq : ∀ (i : Nat) (c c' : List α × List Int), ch[i]? = some c → ch'[i]? = some c' → gx o H c.1 c.2 c'.1 c'.2
theorem kq.A1 {o cR : bN α} (hm : xf o cR) (hs : nr o) (gA : nr cR) {H cn : List α} (cA : H.Perm cn) (aD : H.Nodup) {ch ch' : kL α} (h : kq o H ch ch') : kq cR cn (ch.map s4) (ch'.map s4) := by
 refine ⟨by simp [h.len], fun i c c' ak nA => ?_⟩;rw [eG] at ak nA;cases e : ch[i]? with
 | none => rw [e] at ak; cases ak
 | some d =>
  cases bu : ch'[i]? with
  | none => rw [bu] at nA; cases nA
  | some d' =>
   rw [e] at ak; rw [bu] at nA;cases ak; cases nA;exact ((h.gq i d d' e bu).A1 hm aD hs.len gA.len).perm cA
theorem kq.n5 {o : bN α} (hs : nr o) {H : List α} (aD : H.Nodup) {ch a b : kL α} (h : kq o H ch a) (ar : kq o H ch b) : a = b := by
 refine List.ext_getElem? fun i => ?_;cases e : ch[i]? with
 | none =>
  have := List.getElem?_eq_none_iff.1 e;rw [List.getElem?_eq_none_iff.2 (by rw [← h.len]; exact this), List.getElem?_eq_none_iff.2 (by rw [← ar.len]; exact this)]
 | some c =>
  have hi := (bP.1 e).1;have h1 : a[i]? = some (a[i]'(by rw [← h.len]; exact hi)) := cj _;have h2 : b[i]? = some (b[i]'(by rw [← ar.len]; exact hi)) := cj _;obtain ⟨aG, aM⟩ := (h.gq i c _ e h1).n5 hs.n5 aD (ar.gq i c _ e h2);rw [h1, h2, Prod.ext aG aM]
inductive iF (o : bN α) : List α → kL α → gL α → Prop
 | over {H L : List α} {ch ch' : kL α} : kq o H ch ch' → L.Nodup → (∀ x ∈ L, x ∈ H ∨ Cut o ch' x) → o.R < L.length → iF o H ch none
 | done {H : List α} {ch ch' : kL α} : kq o H ch ch' → (∀ x, ¬ Cut o ch' x) → iF o H ch (some (H, ch'))
 | more {H cn : List α} {ch ch' : kL α} {r : gL α} (x : α) : kq o H ch ch' → Cut o ch' x → cn.Nodup → cn.length ≤ o.R → (∀ x, x ∈ cn ↔ x ∈ H ∨ Cut o ch' x) → iF o cn ch' r → iF o H ch r
def Cq : gL α → gL α → Prop
 | none, none => True
 | some a, some b => (∀ x, x ∈ a.1 ↔ x ∈ b.1) ∧ a.1.Nodup ∧ b.1.Nodup ∧ b.2 = a.2.map s4
 | _, _ => False
theorem Vu {o cR : bN α} (hm : xf o cR) (hs : nr o) (gA : nr cR) {H : List α} {ch : kL α} {r : gL α} (h : iF o H ch r) : ∀ {bZ : List α} {tT : kL α} {cJ : gL α}, H.Nodup → bZ.Nodup → H.length ≤ o.R → (∀ x, x ∈ H ↔ x ∈ bZ) → tT = ch.map s4 → iF cR bZ tT cJ → Cq r cJ := by
 induction h with
 | @over H L ch ch' aI gY ha bh =>
  intro bZ tT cJ fT fC ay jm e h2;subst e;have hp := Be fT fC jm;have rh := aI.A1 hm hs gA hp fT;have um : bZ.length ≤ o.R := by rw [← hp.length_eq]; exact ay
  cases h2 with
  | over _ _ _ _ => trivial
  | done hV fY =>
   have := kq.n5 gA fC rh hV;subst this;have := s9 gY (m := H) fun x aa => (ha x aa).resolve_right fun ak => fY x ((vJ hm hs gA).2 ak);omega
  | @more _ cn _ _ _ x hV aa qn fb Ea _ =>
   have := kq.n5 gA fC rh hV;subst this;have := s9 gY (m := cn) fun x aa => (Ea x).2 ((ha x aa).imp (fun h => (jm x).1 h) fun h => (vJ hm hs gA).2 h);have := hm.R;omega
 | @done H ch ch' aI fY =>
  intro bZ tT cJ fT fC ay jm e h2;subst e;have hp := Be fT fC jm;have rh := aI.A1 hm hs gA hp fT;have um : bZ.length ≤ o.R := by rw [← hp.length_eq]; exact ay
  cases h2 with
  | over hV gY ha bh =>
   have := kq.n5 gA fC rh hV;subst this;have := s9 gY (m := bZ) fun x aa => (ha x aa).resolve_right fun ak => fY x ((vJ hm hs gA).1 ak);have := hm.R;omega
  | done hV _ =>
   have := kq.n5 gA fC rh hV;exact ⟨jm, fT, fC, this.symm⟩
  | more x hV aa _ _ _ _ =>
   have := kq.n5 gA fC rh hV;subst this;exact absurd ((vJ hm hs gA).1 aa) (fY x)
 | @more H cn ch ch' r x aI aa qn fb Ea vU bW =>
  intro bZ tT cJ fT fC ay jm e h2;subst e;have hp := Be fT fC jm;have rh := aI.A1 hm hs gA hp fT;cases h2 with
  | over hV gY ha bh =>
   have := kq.n5 gA fC rh hV;subst this;have := s9 gY (m := cn) fun y ag => (Ea y).2 ((ha y ag).imp (fun h => (jm y).2 h) fun h => (vJ hm hs gA).1 h);have := hm.R;omega
  | done hV fY =>
   have := kq.n5 gA fC rh hV;subst this;exact absurd ((vJ hm hs gA).2 aa) (fY x)
  | @more _ r7 _ _ _ y hV ag Ag mT Z7 YV =>
   have := kq.n5 gA fC rh hV;subst this;exact bW qn Ag fb (fun z => by rw [Ea, Z7, jm z, vJ hm hs gA]) rfl YV
def Fin (R : Nat) (H : List α) (F : α → Prop) (k : List α → gL α → Prop) (r : gL α) : Prop :=
 (r = none ∧ ∃ L : List α, L.Nodup ∧ (∀ x ∈ L, x ∈ H ∨ F x) ∧ R < L.length) ∨ (∃ cn : List α, cn.Nodup ∧ cn.length ≤ R ∧ (∀ x, x ∈ cn ↔ x ∈ H ∨ F x) ∧ k cn r)
theorem Fin.imp {R : Nat} {H bZ : List α} {F kn : α → Prop} {k cd : List α → gL α → Prop} {r : gL α} (h : Fin R H F k r) (hs : ∀ x, (x ∈ H ∨ F x) ↔ (x ∈ bZ ∨ kn x)) (ae : ∀ cn r, k cn r → cd cn r) : Fin R bZ kn cd r := by
 rcases h with ⟨h1, L, h2, ao, aH⟩ | ⟨cn, h1, h2, ao, aH⟩
 ·exact .inl ⟨h1, L, h2, fun x aa => (hs x).1 (ao x aa), aH⟩
 ·exact .inr ⟨cn, h1, h2, fun x => (ao x).trans (hs x), ae _ _ aH⟩
theorem Fin.now {R : Nat} {H : List α} {F : α → Prop} {k : List α → gL α → Prop} {r : gL α} (aD : H.Nodup) (ap : H.length ≤ R) (hF : ∀ x, F x → x ∈ H) (ae : k H r) : Fin R H F k r :=
 .inr ⟨H, aD, ap, fun x => ⟨.inl, fun h => h.elim id (hF x)⟩, ae⟩
theorem XG {R : Nat} {H bZ : List α} {F kn : α → Prop} {k cd : List α → gL α → Prop} {r cJ : gL α} (hs : ∀ x, (x ∈ H ∨ F x) ↔ (x ∈ bZ ∨ kn x)) (ae : ∀ cn r7 r cJ, cn.Nodup → r7.Nodup → cn.length ≤ R → (∀ x, x ∈ cn ↔ x ∈ r7) → k cn r → cd r7 cJ → Cq r cJ) (h : Fin R H F k r) (h2 : Fin R bZ kn cd cJ) : Cq r cJ := by
 rcases h with ⟨e, L, ao, aH, cM⟩ | ⟨cn, ao, aH, cM, fQ⟩
 ·rcases h2 with ⟨aM, _⟩ | ⟨r7, g3, g4, g5, g6⟩
  ·rw [e, aM]; trivial
  ·have := s9 ao (m := r7) fun x aa => (g5 x).2 ((hs x).1 (aH x aa));omega
 ·rcases h2 with ⟨aM, L, g3, g4, g5⟩ | ⟨r7, g3, g4, g5, g6⟩
  ·have := s9 g3 (m := cn) fun x aa => (cM x).2 ((hs x).2 (g4 x aa));omega
  ·exact ae cn r7 r cJ ao g3 aH (fun x => by rw [cM, g5, hs]) fQ g6
end Go.Proofs.YtpochbhajmbfdaaGreat.bt
namespace Go.Proofs.YtpochbhajmbfdaaGreat.bt
variable {α : Type} [DecidableEq α]
def qV (o : bN α) (I : Nat) (x : α) : Prop := ∃ i, I ≤ i ∧ i < o.n ∧ (x = o.P i ∨ x = o.Q i)
def pN (o : bN α) (I J : Nat) (x : α) : Prop := ∃ i j, i < j ∧ j < o.n ∧ ¬ (i < I ∨ (i = I ∧ j < J)) ∧ o.lA i j = some x
def news (o : bN α) : kL α := (List.range o.n).map fun k => fr (o.P k) (o.Q k)
def gy (o : bN α) (s : aN α) (r : gL α) : Prop :=
  match s.ph with
  | 0 => Fin o.R s.hot (fun x => qV o s.I x ∨ pN o 0 1 x) (fun cn r => iF o cn (news o) r) r
  | 1 => Fin o.R s.hot (pN o s.I s.J) (fun cn r => iF o cn (news o) r) r
  | 2 => iF o s.hot s.ch r
  | 3 => Fin o.R s.hot (iG o s.ch s.I s.J) (fun cn r => ((s.dirty = true ∨ ∃ x, iG o s.ch s.I s.J x) → iF o cn s.ch r) ∧ (¬ (s.dirty = true ∨ ∃ x, iG o s.ch s.I s.J x) → r = some (s.hot, s.ch))) r
  | 4 => r = some (s.hot, s.ch)
  | _ => r = none
theorem Fp {o : bN α} {s : aN α} {r : gL α} (h : s.ph = 0) : gy o s r = Fin o.R s.hot (fun x => qV o s.I x ∨ pN o 0 1 x) (fun cn r => iF o cn (news o) r) r := by simp only [gy, h]
theorem J3 {o : bN α} {s : aN α} {r : gL α} (h : s.ph = 1) : gy o s r = Fin o.R s.hot (pN o s.I s.J) (fun cn r => iF o cn (news o) r) r := by simp only [gy, h]
theorem Fq {o : bN α} {s : aN α} {r : gL α} (h : s.ph = 2) : gy o s r = iF o s.hot s.ch r := by simp only [gy, h]
theorem J4 {o : bN α} {s : aN α} {r : gL α} (h : s.ph = 3) : gy o s r = Fin o.R s.hot (iG o s.ch s.I s.J) (fun cn r => ((s.dirty = true ∨ ∃ x, iG o s.ch s.I s.J x) → iF o cn s.ch r) ∧ (¬ (s.dirty = true ∨ ∃ x, iG o s.ch s.I s.J x) → r = some (s.hot, s.ch))) r := by simp only [gy, h]
theorem afi {o : bN α} {ok : Nat → List α × List Int → Prop} {s : aN α} (ap : kp o ok s) (aI : w7 o s) : kq o s.hot s.ch s.ch := ⟨rfl, fun i c c' h ar => by
  rw [h] at ar;cases ar;exact gx.self _ _ (ap.gq i c h).len fun l fb => aI l (List.mem_flatMap.2 ⟨c, dL h, fb⟩)⟩
theorem Kh {o : bN α} {ok : Nat → List α × List Int → Prop} (ae : gT o ok) {s : aN α} {r : gL α} (ab : gK o s) (ap : kp o ok s) (hb : s.ph = 2) (hd : s.dirty = false) (aI : yS o s.hot s.ch s.I s.J) (h : gy o (lF s) r) : iF o s.hot s.ch r := by
  unfold lF at h;cases hs : tv (s.ch.drop s.I) s.I s.J with
  | some sW =>
    rw [hs] at h;have h : gy o ({ s with I := sW.1, J := sW.2 } : aN α) r := h;rw [Fq (s := { s with I := sW.1, J := sW.2 }) hb] at h;exact h
  | none =>
    rw [hs] at h
    have di : w7 o s := LK aI fun i d l hi fb => by
      by_cases c3 : i < s.I
      · exact .inl c3
      · have := Kf _ _ _ hs (i - s.I) d l (by rw [gF, show s.I + (i - s.I) = i by omega]; exact hi) fb
        omega
    have D9 := afi ap di;have h : gy o (if (aQ s.ch).length < 2 then eI s 4 0 0 else eI s 3 0 1) r := h
    split at h
    · rename_i h2
      have h : r = some (s.hot, s.ch) := h;subst h;refine .done D9 fun x aa => ?_;obtain ⟨a, b, l, m, ao, aH, cM, _⟩ := aa;have := (bP.1 aH).1;omega
    · rw [J4 (s := eI s 3 0 1) rfl] at h
      rcases h with ⟨e, L, h1, h2, ao⟩ | ⟨cn, h1, h2, ao, aH, cM⟩
      · rw [e]
        exact .over D9 h1 (fun x aa => (h2 x aa).imp id zr.1) ao
      · by_cases aa : ∃ x, iG o s.ch 0 1 x
        · obtain ⟨x, aa⟩ := aa
          exact .more x D9 (zr.1 aa) h1 h2 (fun y => (ao y).trans ⟨fun h => h.imp id zr.1, fun h => h.imp id zr.2⟩) (aH (.inr ⟨x, aa⟩))
        · have : r = some (s.hot, s.ch) := cM fun aW => aW.elim (fun e => by
            have e : s.dirty = true := e;rw [hd] at e; cases e) aa
          rw [this];exact .done D9 fun x ak => aa ⟨x, zr.2 ak⟩
theorem abF {o : bN α} {ok : Nat → List α × List Int → Prop} (ae : gT o ok) {s : aN α} (hw : xi o s o.n) : kp o ok (eI { s with ch := news o } 2 0 0) := by
  refine ⟨by show (news o).length = o.n; unfold news; simp, fun i c hi => ?_⟩;have hi : ((List.range o.n).map fun k => fr (o.P k) (o.Q k))[i]? = some c := hi;have ha : i < o.n := by have := (bP.1 hi).1; simpa using this
  rw [eG, wL ha] at hi;have hi : fr (o.P i) (o.Q i) = c := mD hi;have ax := ae.new i ha;subst hi;refine ⟨ax, ?_, ?_, ?_, fun v hv => ?_, fun d hd => ?_⟩
  · unfold fr; split <;> rfl
  · unfold fr; split <;> rfl
  · unfold fr
    split
    · rename_i e; rw [e]; rfl
    · rfl
  · show v ∈ s.hot
    unfold fr at hv
    split at hv
    · rw [js.1 hv]; exact (hw i ha).1
    · rcases gS.1 hv with rfl | hv
      · exact (hw i ha).1
      · rw [js.1 hv]; exact (hw i ha).2
  · unfold fr at hd ⊢
    split at hd
    · cases hd
    · rename_i e
      rw [if_neg e];rw [js.1 hd];exact ⟨nM 1, nM 1⟩
theorem Pf {o : bN α} {ok : Nat → List α × List Int → Prop} (ae : gT o ok) {s : aN α} {r : gL α} (ab : gK o s) (hd : s.dirty = false) (hw : xi o s o.n) (h : gy o (kZ o s) r) : iF o s.hot (news o) r :=
  Kh (s := eI { s with ch := news o } 2 0 0) ae ⟨ab.nd, ab.room, ab.fW⟩ (abF ae hw) rfl hd (fun i c j p q _ _ _ fI => by
    have : i < 0 ∨ (i = 0 ∧ j < 0) := fI;omega) h
theorem DQ (o : bN α) {s : aN α} (ab : gK o s) (q : α) (an : o.hk q) : (dt o s q = eI s 5 0 0 ∧ s.hot.length = o.R ∧ q ∉ s.hot) ∨
    ∃ hot', dt o s q = { s with hot := hot' } ∧ gK o ({ s with hot := hot' } : aN α) ∧ (∀ x, x ∈ hot' ↔ (x ∈ s.hot ∨ x = q)) := by
  have := ab.room;unfold dt
  by_cases h : q ∈ s.hot
  · rw [if_pos h]
    exact .inr ⟨s.hot, rfl, ab, fun x => ⟨.inl, fun aW => aW.elim id fun e => by rw [e]; exact h⟩⟩
  · rw [if_neg h]
    by_cases h2 : s.hot.length < o.R
    · rw [if_pos h2]
      refine .inr ⟨s.hot ++ [q], rfl, ⟨?_, ?_, fun x aa => (kD.1 aa).elim (ab.fW x) fun h => by rw [js.1 h]; exact an⟩, fun x => by simp⟩
      · show (s.hot ++ [q]).Nodup
        refine List.nodup_append.2 ⟨ab.nd, by simp, fun a aI b cV => ?_⟩;rw [js] at cV;subst cV;exact fun e => h (by rw [← e]; exact aI)
      · show (s.hot ++ [q]).length ≤ o.R
        rw [cX, List.length_singleton]; omega
    · rw [if_neg h2]
      exact .inl ⟨rfl, by omega, h⟩
theorem Dr {o : bN α} {s : aN α} {q : α} {F : α → Prop} {k : List α → gL α → Prop} {r : gL α} (ab : gK o s) (ap : s.hot.length = o.R) (an : q ∉ s.hot) (hF : F q) (al : r = none) : Fin o.R s.hot F k r :=
  .inl ⟨al, s.hot ++ [q], List.nodup_append.2 ⟨ab.nd, by simp, fun a aI b cV => by
    rw [js] at cV;subst cV;exact fun e => an (by rw [← e]; exact aI)⟩, fun x aa => by
    rcases kD.1 aa with h | h
    · exact .inl h
    · rw [js.1 h]; exact .inr hF, by rw [cX, List.length_singleton]; omega⟩
theorem De {o : bN α} {I : Nat} (bp : I < o.n) {x : α} : qV o I x ↔ (x = o.P I ∨ x = o.Q I) ∨ qV o (I + 1) x := by
  constructor
  · rintro ⟨i, h1, h2, ao⟩
    by_cases h : i = I
    · subst h; exact .inl ao
    · exact .inr ⟨i, by omega, h2, ao⟩
  · rintro (h | ⟨i, h1, h2, ao⟩)
    · exact ⟨I, eb _, bp, h⟩
    · exact ⟨i, by omega, h2, ao⟩
theorem Xc {o : bN α} {ok : Nat → List α × List Int → Prop} (ae : gT o ok) {s : aN α} {r : gL α} (ab : gK o s) (h : Gf o s) (al : gy o (qb o s) r) : gy o s r := by
  have bp := h.I;rw [Fp h.ph];unfold qb at al;rcases DQ o ab (o.P s.I) (ae.zL _ bp).1 with ⟨aG, f1, g1⟩ | ⟨h1, aG, b1, m1⟩
  · rw [aG, if_pos (show (eI s 5 0 0).ph = 5 from rfl)] at al
    exact Dr ab f1 g1 (.inl ((De bp).2 (.inl (.inl rfl)))) al
  · rw [aG, if_neg (show ({ s with hot := h1 } : aN α).ph ≠ 5 by show s.ph ≠ 5; rw [h.ph]; decide)] at al
    rcases DQ o b1 (o.Q s.I) (ae.zL _ bp).2 with ⟨aM, f2, g2⟩ | ⟨h2, aM, b2, m2⟩
    · rw [aM, if_pos (show (eI ({ s with hot := h1 } : aN α) 5 0 0).ph = 5 from rfl)] at al
      have : Fin o.R h1 (fun x => qV o s.I x ∨ pN o 0 1 x) (fun cn r => iF o cn (news o) r) r := Dr b1 f2 g2 (.inl ((De bp).2 (.inl (.inr rfl)))) al;refine this.imp (fun x => ?_) fun _ _ h => h;rw [m1]
      constructor
      · rintro ((ar | ar) | ar)
        · exact .inl ar
        · exact .inr (.inl ((De bp).2 (.inl (.inl ar))))
        · exact .inr ar
      · rintro (ar | ar)
        · exact .inl (.inl ar)
        · exact .inr ar
    · have m2 : ∀ x, x ∈ h2 ↔ (x ∈ h1 ∨ x = o.Q s.I) := m2
      rw [aM, if_neg (show ({ s with hot := h2 } : aN α).ph ≠ 5 by show s.ph ≠ 5; rw [h.ph]; decide)] at al
      have jm : ∀ x, x ∈ h2 ∨ qV o (s.I + 1) x ↔ x ∈ s.hot ∨ qV o s.I x := fun x => by
        rw [m2, m1, De bp]
        constructor
        · rintro (((ar | ar) | ar) | ar)
          · exact .inl ar
          · exact .inr (.inl (.inl ar))
          · exact .inr (.inl (.inr ar))
          · exact .inr (.inr ar)
        · rintro (ar | ((ar | ar) | ar))
          · exact .inl (.inl (.inl ar))
          · exact .inl (.inl (.inr ar))
          · exact .inl (.inr ar)
          · exact .inr ar
      split at al
      · rename_i bh
        rw [Fp (s := { s with hot := h2, I := s.I + 1 }) h.ph] at al;refine al.imp (fun x => ?_) fun _ _ h => h;show (x ∈ h2 ∨ qV o (s.I + 1) x ∨ pN o 0 1 x) ↔ _;rw [← or_assoc, jm, or_assoc]
      · rename_i ix
        have aD : o.n = s.I + 1 := by omega
        have fY : ∀ x, ¬ qV o (s.I + 1) x := fun x => by rintro ⟨i, g1, g2, _⟩; omega
        have hw : ∀ i, i < o.n → o.P i ∈ h2 ∧ o.Q i ∈ h2 := fun i hi => by
          have aW : ∀ x, (x ∈ s.hot ∨ qV o s.I x) → x ∈ h2 := fun x aa => ((jm x).2 aa).resolve_right (fY x)
          by_cases cp : i < s.I
          · exact ⟨aW _ (.inl (h.tD i cp).1), aW _ (.inl (h.tD i cp).2)⟩
          · exact ⟨aW _ (.inr ⟨i, by omega, hi, .inl rfl⟩), aW _ (.inr ⟨i, by omega, hi, .inr rfl⟩)⟩
        split at al
        · rename_i Yn
          have := Pf ae (s := ({ s with hot := h2 } : aN α)) ⟨b2.nd, b2.room, b2.fW⟩ h.dirty hw al;refine (Fin.now (F := fun _ => False) b2.nd b2.room (fun x aa => aa.elim) this).imp (fun x => ?_) fun _ _ h => h;show (x ∈ h2 ∨ False) ↔ _;rw [← or_assoc, ← jm]
          constructor
          · rintro (ar | ar)
            · exact .inl (.inl ar)
            · exact ar.elim
          · rintro ((ar | ar) | ⟨i, j, g1, g2, _⟩)
            · exact .inl ar
            · exact absurd ar (fY x)
            · omega
        · rw [J3 (s := eI { s with hot := h2 } 1 0 1) rfl] at al
          refine al.imp (fun x => ?_) fun _ _ h => h;show (x ∈ h2 ∨ pN o 0 1 x) ↔ _;rw [← or_assoc, ← jm]
          constructor
          · rintro (ar | ar)
            · exact .inl (.inl ar)
            · exact .inr ar
          · rintro ((ar | ar) | ar)
            · exact .inl ar
            · exact absurd ar (fY x)
            · exact .inr ar
theorem EY {I J L a b : Nat} (gX : I < J) (fA : J < L) (ln : a < b) (ab : b < L) : ¬ (a < I ∨ (a = I ∧ b < J)) ↔ (a = I ∧ b = J) ∨ ¬ (a < (bB L I J).1 ∨ (a = (bB L I J).1 ∧ b < (bB L I J).2)) := by
  unfold bB
  split
  · show _ ↔ _ ∨ ¬ (a < I + 1 ∨ (a = I + 1 ∧ b < I + 2))
    omega
  · show _ ↔ _ ∨ ¬ (a < I ∨ (a = I ∧ b < J + 1))
    omega
theorem Qr {I J L a b : Nat} (gX : I < J) (fA : J < L) (h : ¬ (bB L I J).2 < L) (ln : a < b) (ab : b < L) : ¬ ¬ (a < (bB L I J).1 ∨ (a = (bB L I J).1 ∧ b < (bB L I J).2)) := by
  unfold bB at h ⊢
  split at h
  · rename_i ak
    have h : ¬ I + 2 < L := h;rw [if_pos ak];show ¬ ¬ (a < I + 1 ∨ (a = I + 1 ∧ b < I + 2));omega
  · have h : ¬ J + 1 < L := h
    omega
theorem JS {o : bN α} {I J : Nat} (gX : I < J) (fA : J < o.n) {x : α} : pN o I J x ↔ o.lA I J = some x ∨ pN o (bB o.n I J).1 (bB o.n I J).2 x := by
  constructor
  · rintro ⟨i, j, h1, h2, ao, aH⟩
    rcases (EY gX fA h1 h2).1 ao with ⟨rfl, rfl⟩ | h
    · exact .inl aH
    · exact .inr ⟨i, j, h1, h2, h, aH⟩
  · rintro (h | ⟨i, j, h1, h2, ao, aH⟩)
    · exact ⟨I, J, gX, fA, by omega, h⟩
    · exact ⟨i, j, h1, h2, (EY gX fA h1 h2).2 (.inr ao), aH⟩
theorem aeG {o : bN α} {ok : Nat → List α × List Int → Prop} (ae : gT o ok) {s : aN α} {r : gL α} (ab : gK o s) (h : Inv1 o s) (al : gy o (qy o s) r) : gy o s r := by
  have gX := h.vi;have fA := h.J;rw [J3 h.ph]
  have main : ∀ h2, gK o ({ s with hot := h2 } : aN α) → (∀ x, x ∈ h2 ↔ (x ∈ s.hot ∨ o.lA s.I s.J = some x)) → gy o (if ({ s with hot := h2 } : aN α).ph = 5 then ({ s with hot := h2 } : aN α) else if (bB o.n s.I s.J).2 < o.n then { ({ s with hot := h2 } : aN α) with I := (bB o.n s.I s.J).1, J := (bB o.n s.I s.J).2 } else kZ o ({ s with hot := h2 } : aN α)) r → Fin o.R s.hot (pN o s.I s.J) (fun cn r => iF o cn (news o) r) r := fun h2 b2 m2 al => by
    rw [if_neg (show ({ s with hot := h2 } : aN α).ph ≠ 5 by show s.ph ≠ 5; rw [h.ph]; decide)] at al
    split at al
    · rename_i bh
      rw [J3 (s := { ({ s with hot := h2 } : aN α) with I := (bB o.n s.I s.J).1, J := (bB o.n s.I s.J).2 }) h.ph] at al;refine al.imp (fun x => ?_) fun _ _ h => h;show (x ∈ h2 ∨ pN o (bB o.n s.I s.J).1 (bB o.n s.I s.J).2 x) ↔ _;rw [m2, or_assoc, ← JS gX fA]
    · rename_i ix
      have := Pf ae (s := ({ s with hot := h2 } : aN α)) ⟨b2.nd, b2.room, b2.fW⟩ h.dirty (fun i hi => ⟨(m2 _).2 (.inl (h.tD i hi).1), (m2 _).2 (.inl (h.tD i hi).2)⟩) al;refine (Fin.now (F := fun _ => False) b2.nd b2.room (fun x aa => aa.elim) this).imp (fun x => ?_) fun _ _ h => h;show (x ∈ h2 ∨ False) ↔ _;rw [m2, JS gX fA]
      constructor
      · rintro ((ar | ar) | ar)
        · exact .inl ar
        · exact .inr (.inl ar)
        · exact ar.elim
      · rintro (ar | (ar | ⟨i, j, g1, g2, g3, _⟩))
        · exact .inl (.inl ar)
        · exact .inl (.inr ar)
        · exact absurd g3 (Qr gX fA ix g1 g2)
  unfold qy at al;cases hp : o.lA s.I s.J with
  | none =>
    rw [hp] at al;exact main s.hot ab (fun x => by rw [hp]; simp) al
  | some x =>
    rw [hp, show kv o s (some x) = dt o s x from rfl] at al;rcases DQ o ab x (ae.Hz _ _ x gX fA hp) with ⟨aG, f1, g1⟩ | ⟨h2, aG, b2, m2⟩
    · rw [aG, if_pos (show (eI s 5 0 0).ph = 5 from rfl)] at al
      exact Dr ab f1 g1 ((JS gX fA).2 (.inl hp)) al
    · rw [aG] at al
      exact main h2 b2 (fun y => by rw [m2, hp]; simp only [gE]; exact ⟨fun h => h.imp id Eq.symm, fun h => h.imp id Eq.symm⟩) al
theorem iF.of {o : bN α} {H : List α} {ch tT : kL α} (al : ∀ ch', kq o H tT ch' → kq o H ch ch') {r : gL α} (h : iF o H tT r) : iF o H ch r := by
  cases h with
  | over h1 h2 ao aH => exact .over (al _ h1) h2 ao aH
  | done h1 h2 => exact .done (al _ h1) h2
  | more x h1 h2 ao aH cM fQ => exact .more x (al _ h1) h2 ao aH cM fQ
theorem afI {o : bN α} {ok : Nat → List α × List Int → Prop} (ae : gT o ok) (hs : nr o) {s : aN α} {r : gL α} (ab : gK o s) (h : Inv2 o ok s) (al : gy o (tr o s) r) : gy o s r := by
  obtain ⟨c, p, q, ak, hp, an, aw⟩ := h.link;have ee := h.T;have aa : s.hot[s.T]? = some s.hot[s.T] := cj ee;generalize s.hot[s.T] = x at aa;have vV := h.laid.gq s.I c ak;have bp : s.I < s.ch.length := (bP.1 ak).1
  have H4 : jZ o p q x s.fnd = (s.hot.take (s.T + 1)).filter (fF o p q) := by
    unfold jZ;rw [Hl aa, aw]
  rw [Fq h.ph];unfold tr at al;rw [ak] at al;have al : gy o (match c.1[s.J]?, c.1[s.J + 1]?, s.hot[s.T]? with | some p, some q, some x => pe o s c p q (jZ o p q x s.fnd) | _, _, _ => s) r := al;rw [hp, an, aa] at al;have al : gy o (pe o s c p q (jZ o p q x s.fnd)) r := al;rw [H4] at al;unfold pe at al
  by_cases bh : s.T + 1 < s.hot.length
  · rw [if_pos bh, Fq (s := { s with fnd := _, T := s.T + 1 }) h.ph] at al
    exact al
  · rw [if_neg bh] at al
    rw [show s.T + 1 = s.hot.length by omega, List.take_length] at al
    by_cases he : s.hot.filter (fF o p q) = []
    · rw [if_pos he] at al
      have jn : nv o s.hot p q := fun y ag => by
        cases ax : fF o p q y with
        | false => rfl
        | true => have := tg.2 ⟨ag, ax⟩; rw [he] at this; cases this
      refine Kh (s := { s with T := 0, fnd := [], J := s.J + 1 }) ae ⟨ab.nd, ab.room, ab.fW⟩ ⟨h.laid.len, h.laid.gq⟩ h.ph h.dirty ?_ al;intro i d j dA bT hi mW og fI;have fI : i < s.I ∨ (i = s.I ∧ j < s.J + 1) := fI
      by_cases Ii : i = s.I ∧ j = s.J
      · obtain ⟨rfl, rfl⟩ := Ii
        have e : some c = some d := by rw [← ak]; exact hi
        cases e;have e : some p = some dA := by rw [← hp]; exact mW
        cases e;have e : some q = some bT := by rw [← an]; exact og
        cases e;exact jn
      · exact h.zc i d j dA bT hi mW og (by omega)
    · rw [if_neg he, Fq (s := { s with T := 0, fnd := [], ch := _ }) h.ph] at al
      refine iF.of (fun ch' aI => ?_) al;have ap : (s.ch.set s.I (cz c.1 s.J (o.dj p q (s.hot.filter (fF o p q))), dq c.2 s.J (s.hot.filter (fF o p q)).length)).length = ch'.length := aI.len;refine ⟨by rw [← ap, List.length_set], fun i d d' hi c3 => ?_⟩
      by_cases gi : i = s.I
      · subst gi
        rw [ak] at hi;cases hi;have := aI.gq s.I _ d' (by rw [List.getElem?_set_self bp]) c3;exact gx.back hs.len he (.refl _) this c.1 c.2 s.J rfl rfl vV.len hp an
      · exact aI.gq i d d' (by rw [List.getElem?_set_ne (Ne.symm gi)]; exact hi) c3
theorem Wh {o : bN α} {ch : kL α} {I J : Nat} {a b : α × α} (gX : I < J) (fA : J < (aQ ch).length) (aI : (aQ ch)[I]? = some a) (ab : (aQ ch)[J]? = some b) {x : α} : iG o ch I J x ↔ o.cut a b = some x ∨ iG o ch (bB (aQ ch).length I J).1 (bB (aQ ch).length I J).2 x := by
  constructor
  · rintro ⟨i, j, l, m, g1, g2, h1, ao, aH⟩
    rcases (EY gX fA h1 (bP.1 g2).1).1 ao with ⟨rfl, rfl⟩ | h
    · rw [aI] at g1; rw [ab] at g2
      cases g1; cases g2;exact .inl aH
    · exact .inr ⟨i, j, l, m, g1, g2, h1, h, aH⟩
  · rintro (h | ⟨i, j, l, m, g1, g2, h1, ao, aH⟩)
    · exact ⟨I, J, a, b, aI, ab, gX, by omega, h⟩
    · exact ⟨i, j, l, m, g1, g2, h1, (EY gX fA h1 (bP.1 g2).1).2 (.inr ao), aH⟩
theorem aco {o : bN α} {ok : Nat → List α × List Int → Prop} (ae : gT o ok) {s : aN α} {r : gL α} (ab : gK o s) (h : Cj o ok s) (al : gy o (pf o s) r) : gy o s r := by
  have gX := h.vi;have fA := h.J;have aI : (aQ s.ch)[s.I]? = some (aQ s.ch)[s.I] := cj (by omega);have cV : (aQ s.ch)[s.J]? = some (aQ s.ch)[s.J] := cj fA;generalize (aQ s.ch)[s.I] = a at aI;generalize (aQ s.ch)[s.J] = b at cV;have fq : ∀ x, iG o s.ch s.I s.J x ↔ o.cut a b = some x ∨ iG o s.ch (bB (aQ s.ch).length s.I s.J).1 (bB (aQ s.ch).length s.I s.J).2 x := fun x => Wh gX fA aI cV
  have fY : ¬ (bB (aQ s.ch).length s.I s.J).2 < (aQ s.ch).length → ∀ x, ¬ iG o s.ch (bB (aQ s.ch).length s.I s.J).1 (bB (aQ s.ch).length s.I s.J).2 x := fun ix x => by
    rintro ⟨i, j, l, m, g1, g2, h1, ao, aH⟩;exact Qr gX fA ix h1 (bP.1 g2).1 ao
  rw [J4 h.ph];unfold pf at al;rw [aI, cV] at al;have al : gy o (if (dE o s (o.cut a b)).ph = 5 then dE o s (o.cut a b) else if (bB (aQ s.ch).length s.I s.J).2 < (aQ s.ch).length then { dE o s (o.cut a b) with I := (bB (aQ s.ch).length s.I s.J).1, J := (bB (aQ s.ch).length s.I s.J).2 } else l6 (dE o s (o.cut a b))) r := al
 
  have main : ∀ (h2 : List α) (d : Bool), gK o ({ s with hot := h2, dirty := d } : aN α) → (∀ x, x ∈ h2 ↔ (x ∈ s.hot ∨ o.cut a b = some x)) → (d = true ↔ (s.dirty = true ∨ ∃ x, o.cut a b = some x)) → (d = false → h2 = s.hot) → gy o (if ({ s with hot := h2, dirty := d } : aN α).ph = 5 then ({ s with hot := h2, dirty := d } : aN α) else if (bB (aQ s.ch).length s.I s.J).2 < (aQ s.ch).length then { ({ s with hot := h2, dirty := d } : aN α) with I := (bB (aQ s.ch).length s.I s.J).1, J := (bB (aQ s.ch).length s.I s.J).2 } else l6 ({ s with hot := h2, dirty := d } : aN α)) r →
      Fin o.R s.hot (iG o s.ch s.I s.J) (fun cn r => ((s.dirty = true ∨ ∃ x, iG o s.ch s.I s.J x) → iF o cn s.ch r) ∧ (¬ (s.dirty = true ∨ ∃ x, iG o s.ch s.I s.J x) → r = some (s.hot, s.ch))) r := fun h2 d b2 m2 hd sJ al => by
    rw [if_neg (show ({ s with hot := h2, dirty := d } : aN α).ph ≠ 5 by show s.ph ≠ 5; rw [h.ph]; decide)] at al
    split at al
    · rename_i bh
      rw [J4 (s := { ({ s with hot := h2, dirty := d } : aN α) with I := (bB (aQ s.ch).length s.I s.J).1, J := (bB (aQ s.ch).length s.I s.J).2 }) h.ph] at al;have al : Fin o.R h2 (iG o s.ch (bB (aQ s.ch).length s.I s.J).1 (bB (aQ s.ch).length s.I s.J).2) (fun cn r => ((d = true ∨ ∃ x, iG o s.ch (bB (aQ s.ch).length s.I s.J).1 (bB (aQ s.ch).length s.I s.J).2 x) → iF o cn s.ch r) ∧ (¬ (d = true ∨ ∃ x, iG o s.ch (bB (aQ s.ch).length s.I s.J).1 (bB (aQ s.ch).length s.I s.J).2 x) → r = some (h2, s.ch))) r := al
      have xU : (d = true ∨ ∃ x, iG o s.ch (bB (aQ s.ch).length s.I s.J).1 (bB (aQ s.ch).length s.I s.J).2 x) ↔ (s.dirty = true ∨ ∃ x, iG o s.ch s.I s.J x) := by
        rw [hd]
        constructor
        · rintro ((ar | ⟨x, ar⟩) | ⟨x, ar⟩)
          · exact .inl ar
          · exact .inr ⟨x, (fq x).2 (.inl ar)⟩
          · exact .inr ⟨x, (fq x).2 (.inr ar)⟩
        · rintro (ar | ⟨x, ar⟩)
          · exact .inl (.inl ar)
          · rcases (fq x).1 ar with ar | ar
            · exact .inl (.inr ⟨x, ar⟩)
            · exact .inr ⟨x, ar⟩
      refine al.imp (fun x => ?_) fun cn r aW => ⟨fun ak => aW.1 (xU.2 ak), fun ak => ?_⟩
      · rw [m2, or_assoc, ← fq]
      · have aD : ¬ (d = true ∨ ∃ x, iG o s.ch (bB (aQ s.ch).length s.I s.J).1 (bB (aQ s.ch).length s.I s.J).2 x) := fun ar => ak (xU.1 ar)
        have H2 : d = false := by cases d with | false => rfl | true => exact absurd (.inl rfl) aD
        rw [← sJ H2];exact aW.2 aD
    · rename_i ix
      have jm : ∀ x, x ∈ h2 ↔ (x ∈ s.hot ∨ iG o s.ch s.I s.J x) := fun x => by
        rw [m2, fq]
        constructor
        · rintro (ar | ar)
          · exact .inl ar
          · exact .inr (.inl ar)
        · rintro (ar | ar | ar)
          · exact .inl ar
          · exact .inr ar
          · exact absurd ar (fY ix x)
      have xU : d = true ↔ (s.dirty = true ∨ ∃ x, iG o s.ch s.I s.J x) := by
        rw [hd]
        constructor
        · rintro (ar | ⟨x, ar⟩)
          · exact .inl ar
          · exact .inr ⟨x, (fq x).2 (.inl ar)⟩
        · rintro (ar | ⟨x, ar⟩)
          · exact .inl ar
          · exact .inr ⟨x, ((fq x).1 ar).resolve_right (fY ix x)⟩
      unfold l6 at al;cases rj : d with
      | true =>
        subst rj;rw [if_pos rfl] at al
        have := Kh (s := eI ({ s with hot := h2, dirty := false } : aN α) 2 0 0) ae ⟨b2.nd, b2.room, b2.fW⟩ (h.laid.mono rfl fun x aa => (m2 x).2 (.inl aa)) rfl rfl (fun i c j p q _ _ _ fI => by
          have : i < 0 ∨ (i = 0 ∧ j < 0) := fI;omega) al
        exact .inr ⟨h2, b2.nd, b2.room, jm, fun _ => this, fun ak => absurd (xU.1 rfl) ak⟩
      | false =>
        subst rj;rw [if_neg (show ¬ (({ s with hot := h2, dirty := false } : aN α).dirty = true) by show ¬ (false = true); decide)] at al;have al : r = some (h2, s.ch) := al;have e := sJ rfl;refine .inr ⟨h2, b2.nd, b2.room, jm, fun ak => absurd (xU.2 ak) (by decide), fun _ => by rw [← e]; exact al⟩
  cases hcut : o.cut a b with
  | none =>
    rw [hcut] at al;have es : ({ s with hot := s.hot, dirty := s.dirty } : aN α) = s := rfl;exact main s.hot s.dirty ab (fun x => by rw [hcut]; simp) (by rw [hcut]; simp) (fun _ => rfl) al
  | some x =>
    rw [hcut] at al;have dl : dE o s (some x) = if (dt o s x).ph = 5 then dt o s x else { dt o s x with dirty := true } := rfl
    rw [dl] at al;rcases DQ o ab x (Ms ae ab h.laid aI cV hcut) with ⟨aG, f1, g1⟩ | ⟨h2, aG, b2, m2⟩
    · rw [aG, if_pos (show (eI s 5 0 0).ph = 5 from rfl), if_pos (show (eI s 5 0 0).ph = 5 from rfl)] at al
      exact Dr ab f1 g1 ((fq x).2 (.inl hcut)) al
    · rw [aG, if_neg (show ({ s with hot := h2 } : aN α).ph ≠ 5 by show s.ph ≠ 5; rw [h.ph]; decide)] at al
      exact main h2 true ⟨b2.nd, b2.room, b2.fW⟩ (fun y => by rw [m2, hcut]; simp only [gE]; exact ⟨fun h => h.imp id Eq.symm, fun h => h.imp id Eq.symm⟩) (by rw [hcut]; simp) (fun e => by cases e) al
theorem agK {o : bN α} {ok : Nat → List α × List Int → Prop} (ae : gT o ok) (hs : nr o) {s : aN α} {r : gL α} (h : hB o ok s) (al : gy o (dV o s) r) : gy o s r := by
  obtain ⟨ab, aJ | h1 | h2 | ao | aH | cM⟩ := h
  · have e : dV o s = qb o s := by simp only [dV, aJ.ph]
    rw [e] at al; exact Xc ae ab aJ al
  · have e : dV o s = qy o s := by simp only [dV, h1.ph]
    rw [e] at al; exact aeG ae ab h1 al
  · have e : dV o s = tr o s := by simp only [dV, h2.ph]
    rw [e] at al; exact afI ae hs ab h2 al
  · have e : dV o s = pf o s := by simp only [dV, ao.ph]
    rw [e] at al; exact aco ae ab ao al
  · have e : dV o s = s := by simp only [dV, aH.ph]
    rw [e] at al; exact al
  · have e : dV o s = s := by simp only [dV, cM.ph]
    rw [e] at al; exact al
theorem IW {o : bN α} {ok : Nat → List α × List Int → Prop} (ae : gT o ok) (hs : nr o) {r : gL α} : ∀ (n : Nat) {s : aN α}, hB o ok s → gy o (iQ o n s) r → gy o s r
  | 0, _, _, h => h
  | n + 1, s, hi, h => agK ae hs hi (IW ae hs n (wW ae hi).1 h)
def yC (s : aN α) : gL α := if s.ph = 4 then some (s.hot, s.ch) else none
theorem RD {o : bN α} {ok : Nat → List α × List Int → Prop} {s : aN α} (h : hB o ok s) (aH : 4 ≤ s.ph) : gy o s (yC s) := by
  obtain ⟨ab, ar | ar | ar | ar | ar | ar⟩ := h
  · have := ar.ph; omega
  · have := ar.ph; omega
  · have := ar.ph; omega
  · have := ar.ph; omega
  · simp only [gy, yC, ar.ph, if_pos]
  · simp only [gy, yC, ar.ph]; rfl
theorem af0 {o cR : bN α} {ok dz : Nat → List α × List Int → Prop} (ae : gT o ok) (en : gT cR dz) (hs : nr o) (gA : nr cR) (hm : xf o cR) (aD : 0 < o.n) {m aK : Nat} (aH : 4 ≤ (iQ o m (eY o)).ph) (xQ : 4 ≤ (iQ cR aK (eY cR)).ph) : Cq (yC (iQ o m (eY o))) (yC (iQ cR aK (eY cR))) := by
  have cN := IW ae hs m (pk o ok) (RD (yc ae m (pk o ok)).1 aH);have cJ := IW en gA aK (pk cR dz) (RD (yc en aK (pk cR dz)).1 xQ);rw [Fp (by simp [eY]; omega)] at cN;rw [Fp (by simp [eY, hm.n]; omega), hm.R] at cJ;refine XG (fun x => ?_) (fun cn r7 r cJ fT fC l1 jm b1 b2 => Vu hm hs gA b1 fT fC l1 jm ?_ b2) cN cJ
  · refine or_congr Iff.rfl (or_congr ?_ ?_)
    · constructor
      · rintro ⟨i, h1, h2, ao⟩
        exact ⟨i, h1, by rw [hm.n]; exact h2, by rw [hm.P, hm.Q]; exact ao.symm⟩
      · rintro ⟨i, h1, h2, ao⟩
        exact ⟨i, h1, by rw [← hm.n]; exact h2, by rw [hm.P, hm.Q] at ao; exact ao.symm⟩
    · constructor
      · rintro ⟨i, j, h1, h2, ao, aH⟩
        exact ⟨i, j, h1, by rw [hm.n]; exact h2, ao, by rw [hm.lA]; exact aH⟩
      · rintro ⟨i, j, h1, h2, ao, aH⟩
        exact ⟨i, j, h1, by rw [← hm.n]; exact h2, ao, by rw [← hm.lA]; exact aH⟩
  · unfold news
    rw [hm.n, List.map_map];refine oD fun k _ => ?_;show fr (cR.P k) (cR.Q k) = s4 (fr (o.P k) (o.Q k));rw [hm.P, hm.Q];unfold fr s4
    by_cases e : o.P k = o.Q k
    · rw [if_pos e, if_pos e.symm, e]; rfl
    · rw [if_neg e, if_neg (fun h => e h.symm)]; rfl
end Go.Proofs.YtpochbhajmbfdaaGreat.bt
namespace Go.Proofs.YtpochbhajmbfdaaGreat.bt
variable {α : Type} [DecidableEq α]
theorem OV (o : bN α) : ∀ (m n : Nat) (s : aN α), iQ o (m + n) s = iQ o n (iQ o m s)
 | 0, n, s => by rw [ju]; rfl
 | m + 1, n, s => by
  rw [show m + 1 + n = (m + n) + 1 by omega];exact OV o m n (dV o s)
def eT (o : bN α) : Nat → aN α → Nat × aN α
 | 0, s => (0, s)
 | n + 1, s => if 4 ≤ s.ph then (0, s) else ((eT o n (dV o s)).1 + 1, (eT o n (dV o s)).2)
theorem afU {o : bN α} {s : aN α} (h : 4 ≤ s.ph) : ∀ n, eT o n s = (0, s)
 | 0 => rfl
 | n + 1 => if_pos h
theorem FA {o : bN α} : ∀ (n : Nat) (s : aN α), (eT o n s).2 = iQ o (eT o n s).1 s ∧ (eT o n s).1 ≤ n ∧ ((eT o n s).1 < n → 4 ≤ (eT o n s).2.ph)
 | 0, s => ⟨rfl, eb _, fun h => absurd h (by show ¬ 0 < 0; omega)⟩
 | n + 1, s => by
  obtain ⟨h1, h2, ao⟩ := FA n (dV o s);unfold eT
  by_cases h : 4 ≤ s.ph
  ·rw [if_pos h]; exact ⟨rfl, eF _, fun _ => h⟩
  ·rw [if_neg h]; exact ⟨h1, by show _ + 1 ≤ n + 1; omega, fun aW => ao (by have : (eT o n (dV o s)).1 + 1 < n + 1 := aW; omega)⟩
end Go.Proofs.YtpochbhajmbfdaaGreat.bt
namespace Go.Proofs.YtpochbhajmbfdaaGreat.bt
theorem PV (a b : bV) : fl a b = fl b a := by unfold fl; rw [ack]
def qO (e : bV) : bV := (e.2, e.1)
theorem PW (a b : bV) : fl (qO a) (qO b) = fl a b := by unfold fl qO; rw [Jj, Jk]
theorem RU {E : List bV} {r R : Nat} : nr (mx E r R) where
 len p q fs := (pB p q fs).length_eq
 n5 p q fs vS aD hp := CJ (BD _ _ _ aD) (BD _ _ _ (hp.nodup_iff.1 aD)) ((pB p q fs).trans (hp.trans (pB p q vS).symm))
 sym l m := by
  show mO r l m = mO r m l;unfold mO;rw [PV (ei r m)]
  by_cases ae : (fl (ei r l) (ei r m)).k = 1
  ·have en : (fl (ei r m) (ei r l)).k = 1 := by rw [PV]; exact ae
   have e : oW (ei r l) (ei r m) = oW (ei r m) (ei r l) := by
    rw [mC, xE ae, xE en];unfold vu;exact ⟨fun h => by rcases h with h | h | h | h <;> simp [h], fun h => by rcases h with h | h | h | h <;> simp [h]⟩
   rw [e]
  ·rw [if_neg (fun h => ae h.1), if_neg (fun h => ae h.1)]
theorem getD_map {β : Type} {f : β → β} {z : β} (a6 : f z = z) (l : List β) (i : Nat) : (l.map f).getD i z = f (l.getD i z) := by
 rw [rG, rG, eG];cases l[i]? with
 | none => exact a6.symm
 | some x => rfl
theorem Nq {E : List bV} {r R : Nat} (al : r ≤ 28) {p q x : aq} (h : fF (mx E r R) p q x = true) : ((p.1 ≤ q.1 → p.1 ≤ x.1 ∧ x.1 ≤ q.1) ∧ (q.1 ≤ p.1 → q.1 ≤ x.1 ∧ x.1 ≤ p.1)) ∧ (p.2 ≤ q.2 → p.2 ≤ x.2 ∧ x.2 ≤ q.2) ∧ (q.2 ≤ p.2 → q.2 ≤ x.2 ∧ x.2 ≤ p.2) := by
 obtain ⟨_, u, hu⟩ := PI al (xO.1 h).2.2;have hS : (0 : Int) < 2 ^ r := jM (by decide);exact ⟨yj hS hu.1.1 hu.1.2 hu.2.1, yj hS hu.1.1 hu.1.2 hu.2.2⟩
theorem Zw (r : Nat) (p q x : aq) : z8 r q p x = z8 r p q x := by
 unfold z8 qw; exact Zt
theorem afD {E : List bV} {r R : Nat} (al : r ≤ 28) : xf (mx E r R) (mx (E.map qO) r R) where
 n := jK ..
 R := rfl
 P i := by
  show k1 r ((E.map qO).getD i jY).1 = _;rw [getD_map rfl]; rfl
 Q i := by
  show k1 r ((E.map qO).getD i jY).2 = _;rw [getD_map rfl]; rfl
 lA i j := by
  show uZ r ((E.map qO).getD i jY) ((E.map qO).getD j jY) = _;rw [getD_map rfl, getD_map rfl];show _ = uZ r (E.getD i jY) (E.getD j jY);unfold uZ; rw [PW]
 Hy p q x := by
  have h1 := @xO (E.map qO) r R q p x;have h2 := @xO E r R p q x;rw [Zw] at h1;rw [mC, h1, h2];exact ⟨fun ⟨a, b, c⟩ => ⟨b, a, c⟩, fun ⟨a, b, c⟩ => ⟨b, a, c⟩⟩
 dj p q fs aD ax := by
  show fw q p fs = (fw p q fs).reverse;have a1 : jd (decide (p.1 < q.1)) (decide (p.2 < q.2)) (fw q p fs) := BD _ _ _ aD;have a2 : jd (decide (q.1 < p.1)) (decide (q.2 < p.2)) (fw p q fs) := BD _ _ _ aD;refine CJ a1 ?_ ((pB q p fs).trans ((pB p q fs).symm.trans (List.reverse_perm _).symm));unfold jd;rw [List.pairwise_reverse];refine a2.imp_of_mem fun {x y} aa ag h => ?_;have DB := Nq al (ax x ((pB p q fs).mem_iff.1 aa));have DC := Nq al (ax y ((pB p q fs).mem_iff.1 ag));rw [xk] at h ⊢;simp only [cL] at h ⊢;rcases Int.lt_trichotomy p.1 q.1 with c | c | c
  ·rw [if_neg (by omega : ¬ q.1 < p.1)] at h;rw [if_pos c];rcases h with h | ⟨h, ar⟩
   ·exact .inl h
   ·right;refine ⟨h.symm, ?_⟩;rcases Int.lt_trichotomy p.2 q.2 with d | d | d
    ·rw [if_neg (by omega : ¬ q.2 < p.2)] at ar;rw [if_pos d]; exact ar
    ·have := DB.2.1 (by omega); have := DC.2.1 (by omega);rw [if_neg (by omega : ¬ q.2 < p.2)] at ar; omega
    ·rw [if_pos d] at ar;rw [if_neg (by omega : ¬ p.2 < q.2)]; exact ar
  ·have bC := DB.1.1 (by omega); have cd := DC.1.1 (by omega);have e : x.1 = y.1 := by omega
   right;refine ⟨e.symm, ?_⟩
   have ar : if q.2 < p.2 then y.2 < x.2 else x.2 < y.2 := by
    rcases h with h | h
    ·rw [if_neg (by omega : ¬ q.1 < p.1)] at h; omega
    ·exact h.2
   rcases Int.lt_trichotomy p.2 q.2 with d | d | d
   ·rw [if_neg (by omega : ¬ q.2 < p.2)] at ar;rw [if_pos d]; exact ar
   ·have := DB.2.1 (by omega); have := DC.2.1 (by omega);rw [if_neg (by omega : ¬ q.2 < p.2)] at ar; omega
   ·rw [if_pos d] at ar;rw [if_neg (by omega : ¬ p.2 < q.2)]; exact ar
  ·rw [if_pos c] at h;rw [if_neg (by omega : ¬ p.1 < q.1)];rcases h with h | ⟨h, ar⟩
   ·exact .inl h
   ·right;refine ⟨h.symm, ?_⟩;rcases Int.lt_trichotomy p.2 q.2 with d | d | d
    ·rw [if_neg (by omega : ¬ q.2 < p.2)] at ar;rw [if_pos d]; exact ar
    ·have := DB.2.1 (by omega); have := DC.2.1 (by omega);rw [if_neg (by omega : ¬ q.2 < p.2)] at ar; omega
    ·rw [if_pos d] at ar;rw [if_neg (by omega : ¬ p.2 < q.2)]; exact ar
 cut p q dA bT := by
  show mO r (q, p) (bT, dA) = mO r (p, q) (dA, bT);unfold mO;have e : fl (ei r (q, p)) (ei r (bT, dA)) = fl (ei r (p, q)) (ei r (dA, bT)) := PW (ei r (p, q)) (ei r (dA, bT));rw [e]
  by_cases ae : (fl (ei r (p, q)) (ei r (dA, bT))).k = 1
  ·have en : (fl (ei r (q, p)) (ei r (bT, dA))).k = 1 := by rw [e]; exact ae
   have aM : oW (ei r (q, p)) (ei r (bT, dA)) = oW (ei r (p, q)) (ei r (dA, bT)) := by
    rw [mC, xE ae, xE en];unfold vu;exact ⟨fun h => by rcases h with h | h | h | h <;> simp at h <;> simp [h], fun h => by rcases h with h | h | h | h <;> simp at h <;> simp [h]⟩
   rw [aM]
  ·rw [if_neg (fun h => ae h.1), if_neg (fun h => ae h.1)]
end Go.Proofs.YtpochbhajmbfdaaGreat.bt
namespace Go.Proofs.YtpochbhajmbfdaaGreat
open Go.RowKit
section
variable {P : Program} {bq : e8} {b0 A : Nat → Prop} {R : aL} {s s' : aE} {a a' : Act} {w w' : World} {ad bg : Nat → Nat}
theorem eJ.V8 (ay : eJ bq b0 R s a w A ad) (i : Nat) (r : bS) (hi : R i = some r) (b4 : 0 < r.sz) : ∃ dW, eJ bq b0 (fun j => if j = i then none else R j) s a w dW ad ∧ gV (s.free dW ad) ad w (.p (cx r.sz r.n r.aZ)) r.v := by
 obtain ⟨o5, cW, ax⟩ := ay.rows i r hi;obtain ⟨xs, aB, ap⟩ := o5.row b4;have zP : ∀ b, s.free A ad b → b < w.heap.size → s.free (fun b => A b ∨ r.v.ownBlock = some b) ad b ∧ w.heap[b]? = w.heap[b]? := fun b ab _ => ⟨⟨.inl ab.1, ab.2⟩, rfl⟩;have HN : Rel (n8 bq s ad w) (fun b => A b ∨ r.v.ownBlock = some b) s ad a w := ay.rel.zh (fun b ab _ => ⟨.inl ab, rfl⟩) (fun k cs ae => ⟨rfl, fun aw => aw.2 k cs ae rfl⟩) (km.refl _) (fun b ab => .inl (ay.rel.up b ab)) (xS _ _ _)
 have um : eJ bq b0 (fun j => if j = i then none else R j) s a w (fun b => A b ∨ r.v.ownBlock = some b) ad := by
  refine ⟨ay.up, ?_, HN, ay.pg, ay.below, fun j q af => ?_, fun j k q bT af ae lq => ?_, fun j q g af => ?_, ay.ku⟩
  ·rintro b (ab | ab)
   ·exact ay.sub b ab
   ·exact (ay.hot i r b hi (.inl ab)).2
  ·have gQ : j ≠ i := fun e => by rw [if_pos e] at af; cases af
   rw [if_neg gQ] at af;obtain ⟨lU, BJ, BK⟩ := ay.rows j q af;refine ⟨lU.kept BJ (fun _ _ => rfl) (eb _) zP, BJ, fun g eM => ⟨?_, (BK g eM).2⟩⟩;rintro (ab | ab)
   ·exact (BK g eM).1 ab
   ·exact ay.apart i j r q hi af (Ne.symm gQ) g (.inl ab) eM
  ·have gQ : j ≠ i := fun e => by rw [if_pos e] at af; cases af
   have kW : k ≠ i := fun e => by rw [if_pos e] at ae; cases ae
   rw [if_neg gQ] at af;rw [if_neg kW] at ae;exact ay.apart j k q bT af ae lq
  ·have gQ : j ≠ i := fun e => by rw [if_pos e] at af; cases af
   rw [if_neg gQ] at af;exact ay.hot j q g af
 refine ⟨fun b => A b ∨ r.v.ownBlock = some b, um, ?_⟩
 ·have oc := ap.1;obtain ⟨lr, aD | ⟨g, cap, cur, kU, ri, vY, eX, j3, eL, om⟩⟩ := id aB
  ·obtain ⟨aG, aM⟩ := aD;have : r.aZ = [] := mE (by rw [oc, lr, aM]; simp);rw [aG];exact ⟨⟨none, 0, by rw [aM], by omega, by rw [this, aM]; simp, fun h => absurd h (by omega)⟩, fun b ⟨c', a', q, aD, ab⟩ => by cases q⟩
  ·have uu := aB.cells (g := g) (by rw [kU]; rfl);rw [kU];have re : lb w ⟨g, 0, none⟩ r.aZ xs := ⟨(k4.1 vY).1, ap.xA cW fun b _ _ => ⟨trivial, rfl⟩, uu, cW⟩;refine ⟨⟨some ⟨g, 0, none⟩, cap, rfl, eX, by rw [oc]; exact lr, fun aD => ⟨⟨g, 0, none⟩, xs, rfl, re⟩⟩, ?_⟩;rintro b ⟨c', a', q, aD, aw⟩;cases q;rcases aw with rfl | ⟨j, y, v, ag, hv, gP⟩
   ·exact ⟨.inr rfl, (ax g (.inl (by rw [kU]; rfl))).2⟩
   ·have bh : j < xs.length := by rw [← oc]; exact (bP.1 ag).1
    have h2 := uu j _ (cj bh);rw [hv] at h2;cases h2;have ao := ap.2 j y _ ag (cj bh);cases y with
    | c u => cases gP
    | own k o => cases gP
    | p S => have := ao.2 b gP; exact ⟨.inl this.1, this.2⟩
theorem FC (i k off : Nat) {c : Code} {Q : Exit → aL → aE → Prop} {cs : List AC} (r : bS) (hi : R i = some r) (ae : s.mem k = some cs) (ak : cs[off]? = some (.c r.v)) (h : fO P c Q (fun j => if j = i then none else R j) (s.ep k (cs.set off (.p (cx r.sz r.n r.aZ))))) (b4 : 0 < r.sz := by first | decide | exact jL _) : fO P c Q R s := by
 rintro ok bq b0 a w ⟨A, ad, ay⟩;obtain ⟨dW, sE, w2⟩ := ay.V8 i r hi b4
 have YC := sE.next (sE.rel.afo (ds := cs.set off (.p (cx r.sz r.n r.aZ))) ae fun vs hv => ⟨by rw [List.length_set]; exact hv.1, fun j x u aa hu => by
  rw [List.getElem?_set] at aa
  by_cases e : off = j
  ·subst e;rw [if_pos rfl] at aa
   split at aa
   ·cases aa;obtain ⟨rfl, _⟩ := hv.2 off _ u ak hu;exact w2
   ·cases aa
  ·rw [if_neg e] at aa;exact hv.2 j x u aa hu⟩)
 refine h (ok.ep fun x aa j af => ?_) bq b0 a w ⟨dW, ad, YC⟩;rcases List.mem_or_eq_of_mem_set aa with aa | rfl
 ·exact ok.dG k cs x j ae aa af
 ·cases af
end
section
variable {P : Program} {s : aE} {ops : Array Oper} {K : aE → Prop} {rest : List Oper} {ty : Nat} {pos : String} {after : Array Edge} {guard : Option (Nat × Bool)} {d : Nat}
end
theorem afN {xs aZ : List AC} (ap : xs.length = aZ.length) (h : ∀ (i : Nat) x y, xs[i]? = some x → aZ[i]? = some y → x = y ∨ (x = .c (.slice none 0 0) ∧ ∃ z, y = .p (cx z 0 []))) (U : Nat → Prop) (ad : Nat → Nat) (W : World) (vs : List Value) (hv : b3 U ad W xs vs) : b3 U ad W aZ vs := by
 refine ⟨by rw [← ap]; exact hv.1, fun i y v ag hu => ?_⟩;have hi : i < xs.length := by rw [ap]; exact (bP.1 ag).1
 have aa := cj hi;have h1 := hv.2 i _ v aa hu;rcases h i _ y aa ag with e | ⟨e, z, rfl⟩
 ·rw [← e]; exact h1
 ·rw [e] at h1;exact Qd z U ad W v h1
theorem Lu {xs aZ : List AC} (ap : xs.length = aZ.length) (h : ∀ (i : Nat) x y, xs[i]? = some x → aZ[i]? = some y → x = y ∨ (x = .c (.slice none 0 0) ∧ ∃ z, y = .p (cx z 0 []))) : ai.bo (.w (.agg xs)) (.w (.agg aZ)) := fun U ad W v hv => by
 obtain ⟨vs, rfl, fb⟩ := hv;exact ⟨vs, rfl, afN ap h U ad W vs fb⟩
section
variable {U : Nat → Prop} {W : World} {x y : AC} {xs aZ : List AC}
end
structure Ug where
 l : Nat
 U : Nat → Prop
 hj : World
 h7 : Nat → Prop
 J : Nat → (Nat → Prop) → World → Prop
 ahA : (Nat → Prop) → World → Prop
 xs : List (List ai)
section
variable {P : Program} {X : Ug} {x y c : Code} {Q : Exit → Option Nat → aE → Prop} {g jD : Option Nat} {s s' : aE} {a a' : Act} {w w' w2 : World} {A : Nat → Prop} {ad bg : Nat → Nat} {C : Nat → Prop}
end
def S2 (pH : Bool → Prop) : ff where
 holds w v := ∃ b, v = .bool b ∧ pH b
 lS w v b := False
 frame w w' v := fun h aw => ⟨h, fun b ab => ab⟩
 iT w v b := fun h aw => aw.elim
 cell w v := by rintro ⟨b, rfl, _⟩; rfl
abbrev BL (pH : Bool → Prop) : ai := .w (.one (.p (S2 pH)))
section
variable {P : Program} {ops : Array Oper} {K : aE → Prop} {rest : List Oper} {s : aE} {d ty : Nat} {pos : String} {after : Array Edge} {guard : Option (Nat × Bool)}
theorem Yg {op : BinOp} {t : TypeId} {x y : Operand} {a : Option Addr} {n c : Nat} {v : Value} : eqGuard op t x y (.slice a n c) v = pure () := by cases op <;> rfl
theorem GA {t dY sz n e bytes : Nat} {x : Operand} {xs : List AC} [T : nu P t e sz bytes] (hw : want ops ⟨some d, .binOp .eql t x (.const (.slice none 0 0)) dY, ty, pos, after, guard⟩ s = some true) (aa : s.look x = some (cT sz n xs)) (hd : Nat.blt d s.n = true) (h : bj P ops K rest (s.put (some d) (BL fun b => b = true → n = 0))) : bj P ops K (⟨some d, .binOp .eql t x (.const (.slice none 0 0)) dY, ty, pos, after, guard⟩ :: rest) s := by
 obtain ⟨_, _, hu, _⟩ := rP T.h;refine gp (av := BL fun b => b = true → n = 0) hw ⟨fun _ _ h => (by cases h), fun z a6 => ?_, fun U ad W env he => ?_, fun j af => absurd af (lY _ j)⟩ hd h
 ·simp [Op.operands] at a6;rcases a6 with rfl | rfl
  ·exact ⟨_, aa⟩
  ·exact ⟨_, rfl⟩
 ·obtain ⟨⟨A, c, hv, _, _, ej⟩, _⟩ := he x (by simp [Op.operands]) _ aa;have aM : env (.const (.slice none 0 0)) = .slice none 0 0 := (he (.const (.slice none 0 0)) (by simp [Op.operands]) _ rfl).1;refine ⟨.bool A.isNone, ?_, ⟨_, rfl, fun ab => ?_⟩, fun b ab => ab.elim⟩
  ·simp only [execOp, hv, aM, Yg, Sem.run_bind, Sem.run_pure, Result.andThen_ok, Lib.run_eql_slice_nil W t e A n c 0 0 hu]
  ·refine Classical.byContradiction fun aD => ?_;obtain ⟨a, _, e, _⟩ := ej (by omega);rw [e] at ab; cases ab
end
section
variable {P : Program} {c : Code} {s : aE}
theorem Rel.Sn {B : e8} {A : Nat → Prop} {ad : Nat → Nat} {a : Act} {w : World} {d : Nat} {pH : Bool → Prop} (h : Rel B A s ad a w) (hd : s.tmps d = some (BL pH)) : ∃ b, pH b ∧ Rel B A (s.put (some d) (bG b)) ad a w := by
 obtain ⟨v, h1, ⟨b, rfl, ab⟩, _⟩ := h.hA d _ hd;refine ⟨b, ab, h.RG hd fun u hu _ => ?_⟩;rw [h1] at hu;cases hu;exact ⟨rfl, rfl⟩
theorem Vm (d : Nat) {Q : Exit → aE → Prop} {pH : Bool → Prop} (hd : s.tmps d = some (BL pH)) (h : ∀ b, pH b → fN P c Q (s.put (some d) (bG b))) : fN P c Q s := by
 intro ok B A ad a w ay;obtain ⟨b, ab, cE⟩ := ay.Sn hd;exact h b ab (ok.put fun j af => absurd af (jq _ j)) B A ad a w cE
theorem R1 (d : Nat) {Q : Exit → aL → aE → Prop} {R : aL} {pH : Bool → Prop} (hd : s.tmps d = some (BL pH)) (h : ∀ b, pH b → fO P c Q R (s.put (some d) (bG b))) : fO P c Q R s := by
 intro ok bq b0 a w ⟨A, ad, ay⟩;obtain ⟨b, ab, cE⟩ := ay.rel.Sn hd;exact h b ab (ok.put fun j af => absurd af (jq _ j)) bq b0 a w ⟨A, ad, ay.next cE⟩
end
def AC.wK : AC → Bool
 | .p _ => false
 | _ => true
def nJ (m : Mem) (R : aL) : Prop := (∀ k cs, m k = some cs → cs.all AC.wK = true) ∧ ∀ i r, R i = some r → 0 < r.sz ∧ r.aZ.all AC.wK = true
theorem b3.plain {U cK : Nat → Prop} {ad : Nat → Nat} {W bn : World} {xs : List AC} {vs : List Value} (h : b3 U ad W xs vs) (hp : xs.all AC.wK = true) : b3 cK ad bn xs vs := by
 refine ⟨h.1, fun i x v aa hv => ?_⟩;have h1 := h.2 i x v aa hv;have h2 := cB.1 hp x (dL aa);cases x with
 | c u => exact h1
 | own k o => exact h1
 | p S => cases h2
theorem bS.ok.plain {U cK : Nat → Prop} {ad : Nat → Nat} {W : World} {r : bS} (h : r.ok U ad W) (hs : 0 < r.sz) (hp : r.aZ.all AC.wK = true) : r.ok cK ad W := by
 obtain ⟨xs, h1, h2⟩ := h.row hs;exact .inl ⟨hs, xs, h1, h2.plain hp⟩
abbrev nK (b off : Nat) : Value := .pointer (some ⟨b, off, none⟩)
abbrev eg (b : Nat) : Value := nK b 0
abbrev uR : Nat → Prop := fun _ => False
theorem fe.lt {U : Nat → Prop} {ad : Nat → Nat} {W : World} {m : Mem} {R : aL} (h : fe U ad W m R) {b : Nat} (ab : ew ad m R b) : b < W.heap.size := by
 rcases ab with ⟨k, cs, ae, rfl⟩ | ⟨i, r, hi, ax⟩
 ·obtain ⟨vs, ty, h1, _⟩ := h.dG k cs ae;exact (k4.1 h1).1
 ·exact (h.rows i r hi).1.lt ax
def lH (ad : Nat → Nat) (m : Mem) (R : aL) (k : Nat) : ff where
 holds w v := v = eg (ad k) ∧ fe uR ad w m R ∧ nJ m R
 lS w v b := ew ad m R b
 frame := by
  rintro w w' v ⟨rfl, h, hp⟩ aw;refine ⟨⟨rfl, ⟨fun j cs af => ?_, h.gb, h.inj, fun i r hi => ?_, h.apart⟩, hp⟩, fun b ab => ab⟩
  ·obtain ⟨vs, ty, h1, h2, ao⟩ := h.dG j cs af;exact ⟨vs, ty, by rw [aw _ (.inl ⟨j, cs, af, rfl⟩)]; exact h1, h2.plain (hp.1 j cs af), ao⟩
  ·obtain ⟨h1, h2, ao⟩ := h.rows i r hi;obtain ⟨xs, g1, g2⟩ := h1.row (hp.2 i r hi).1;exact ⟨.inl ⟨(hp.2 i r hi).1, xs, QL g1 fun g q => aw g (.inr ⟨i, r, hi, .inl q⟩), g2.plain (hp.2 i r hi).2⟩, h2, ao⟩
 iT := fun w v b ⟨_, h, _⟩ ab => h.lt ab
 cell := fun w v ⟨e, _⟩ => by rw [e]; rfl
def E0 (ad : Nat → Nat) (m : Mem) (R : aL) (k : Nat) : bS := ⟨0, 0, eg (ad k), 0, [.p (lH ad m R k)]⟩
theorem Qt {ad : Nat → Nat} {m : Mem} {R : aL} {k : Nat} {W : World} (h : fe uR ad W m R) (hp : nJ m R) {b : Nat} : (E0 ad m R k).own b ↔ ew ad m R b := by
 constructor
 ·rintro (h1 | ⟨_, S, w, h1, h2, ao⟩)
  ·cases h1
  ·cases h1; exact ao
 ·exact fun h1 => .inr ⟨rfl, lH ad m R k, W, rfl, ⟨rfl, h, hp⟩, h1⟩
theorem Qu {ad : Nat → Nat} {m : Mem} {R : aL} {k : Nat} {b : Nat} (h : (E0 ad m R k).own b) : ew ad m R b := by
 rcases h with h1 | ⟨_, S, w, h1, h2, ao⟩
 ·cases h1
 ·cases h1; exact ao
theorem adl {U : Nat → Prop} {ad bg : Nat → Nat} {m : Mem} {R : aL} {k : Nat} {W : World} (h : fe uR ad W m R) (hp : nJ m R) : (E0 ad m R k).ok U bg W :=
 .inr ⟨rfl, rfl, rfl, ⟨_, rfl, rfl, h, hp⟩, fun b ab => h.lt (Qu ab)⟩
theorem adk {U : Nat → Prop} {ad bg : Nat → Nat} {m : Mem} {R : aL} {k : Nat} {W : World} (h : (E0 ad m R k).ok U bg W) : fe uR ad W m R ∧ nJ m R := by
 rcases h with ⟨h1, _⟩ | ⟨_, _, _, ⟨S, hS, aW⟩, _⟩
 ·cases h1
 ·cases hS; exact aW.2
theorem fe.sub {U : Nat → Prop} {ad : Nat → Nat} {W : World} {m m1 : Mem} {R bl : aL} (h : fe U ad W m R) (hm : ∀ k cs, m1 k = some cs → m k = some cs) (al : bL bl R) (gb : ∀ k cs x j, m1 k = some cs → x ∈ cs → x.owns j → ∃ au, m1 j = some au) : fe U ad W m1 bl := by
 refine ⟨fun k cs ae => h.dG k cs (hm k cs ae), gb, fun k k' cs au ae en => h.inj k k' cs au (hm k cs ae) (hm k' au en), fun i r hi => ?_, fun i j r q hi af => h.apart i j r q (al i r hi) (al j q af)⟩;obtain ⟨h1, h2, ao⟩ := h.rows i r (al i r hi);exact ⟨h1, h2, fun g ax => ⟨(ao g ax).1, fun k cs ae => (ao g ax).2 k cs (hm k cs ae)⟩⟩
theorem fe.none {U : Nat → Prop} {ad : Nat → Nat} {W : World} {m : Mem} {R : aL} (h : fe U ad W m R) (hp : nJ m R) : fe uR ad W m R := by
 refine ⟨fun k cs ae => ?_, h.gb, h.inj, fun i r hi => ?_, h.apart⟩
 ·obtain ⟨vs, ty, h1, h2, _⟩ := h.dG k cs ae;exact ⟨vs, ty, h1, h2.plain (hp.1 k cs ae), id⟩
 ·obtain ⟨h1, h2, ao⟩ := h.rows i r hi;exact ⟨h1.plain (hp.2 i r hi).1 (hp.2 i r hi).2, h2, fun g ax => ⟨id, (ao g ax).2⟩⟩
theorem fe.more {U : Nat → Prop} {ad : Nat → Nat} {W : World} {m : Mem} {R : aL} (h : fe uR ad W m R) (hp : nJ m R) (dJ : ∀ b, ew ad m R b → ¬ U b) : fe U ad W m R := by
 refine ⟨fun k cs ae => ?_, h.gb, h.inj, fun i r hi => ?_, h.apart⟩
 ·obtain ⟨vs, ty, h1, h2, _⟩ := h.dG k cs ae;exact ⟨vs, ty, h1, h2.plain (hp.1 k cs ae), dJ _ (.inl ⟨k, cs, ae, rfl⟩)⟩
 ·obtain ⟨h1, h2, ao⟩ := h.rows i r hi;exact ⟨h1.plain (hp.2 i r hi).1 (hp.2 i r hi).2, h2, fun g ax => ⟨dJ g (.inr ⟨i, r, hi, ax⟩), (ao g ax).2⟩⟩
theorem fe.ac3 {U : Nat → Prop} {ad : Nat → Nat} {W : World} {m : Mem} {R : aL} (h : fe U ad W m R) {b : Nat} (ab : ew ad m R b) : ¬ U b := by
 rcases ab with ⟨k, cs, ae, rfl⟩ | ⟨i, r, hi, ax⟩
 ·exact (h.dG k cs ae).choose_spec.choose_spec.2.2
 ·exact ((h.rows i r hi).2.2 b ax).1
abbrev iB (p : Value) (S : ff) : bS := ⟨0, 0, p, 0, [.p S]⟩
def y8 (P : Program) (f : FuncId) (args : List ai) (p : Value) (S : ff) (post : ai → ff → Prop) : Prop := ∀ i, dk P f args cm (bH i (iB p S)) fun v aK aC => ∃ dp, aK = cm ∧ aC = bH i (iB p dp) ∧ post v dp
def Gt (P : Program) (f : FuncId) (args : List ai) (post : Value → ff → Prop) : Prop := ∀ i, dk P f args cm gw fun v aK aC => ∃ p S, aK = cm ∧ aC = bH i (iB p S) ∧ v = aU p ∧ post p S
theorem Ro {U : Nat → Prop} {ad : Nat → Nat} {W : World} {k off : Nat} {v : Value} (h : v = nK (ad k) off) : dn U ad W (.w (.one (.own k off))) v := by subst h; rfl
theorem ks.closed {U : Nat → Prop} {ad bg : Nat → Nat} {W : World} {args : List ai} {vs : List Value} (ak : args.all ai.bd = true) (h : ks U ad W args vs) : ks U bg W args vs :=
 ⟨h.1, fun i x v aa hv => (h.2 i x v aa hv).map (fun b ab _ => ⟨ab, rfl⟩) fun j af => absurd af (ai.dI (cB.1 ak x (dL aa)) j)⟩
theorem E1 {ad : Nat → Nat} {m : Mem} {R : aL} {k : Nat} {b : Nat} (h : (iB (eg (ad k)) (lH ad m R k)).own b) : ew ad m R b := Qu h
theorem agW {P : Program} {f : FuncId} {args : List ai} {ad : Nat → Nat} {m : Mem} {R : aL} {k off : Nat} {Post : ai → Mem → aL → Prop} {Post2 : ai → Mem → aL → Prop} (ae : ∃ cs, m k = some cs) (et : args.all ai.bd = true) (ak : dk P f (.w (.one (.own k off)) :: args) m R Post) (i : Nat)
  (hp : ∀ r m1 bl e1 oP hj v, Post r m1 bl → e1 k = ad k → fe oP e1 hj m1 bl → dn oP e1 hj r v → ∃ cJ eZ, Post2 cJ cm eZ ∧ cJ.bd = true ∧ dn oP e1 hj cJ v ∧ fe oP e1 hj cm eZ ∧ (∃ q, eZ i = some q) ∧ ∀ b, ew e1 cm eZ b → ew e1 m1 bl b) : dk P f (aU (nK (ad k) off) :: args) cm (bH i (iB (eg (ad k)) (lH ad m R k))) Post2 := by
 refine ⟨fun U ahz W vs cA ez dX => ?_⟩;have hi : bH i (iB (eg (ad k)) (lH ad m R k)) i = some (iB (eg (ad k)) (lH ad m R k)) := by unfold bH; exact cw _ _ _
 obtain ⟨dK, _, we⟩ := cA.rows i _ hi;obtain ⟨aW, o6⟩ := adk dK
 have fq : ∀ b, ew ahz cm (bH i (iB (eg (ad k)) (lH ad m R k))) b ↔ ew ad m R b := fun b => by
  constructor
  ·rintro (⟨j, cs, af, _⟩ | ⟨j, q, af, ax⟩)
   ·cases af
   ·obtain ⟨rfl, rfl⟩ := gg af; exact E1 ax
  ·exact fun h => .inr ⟨i, _, hi, (Qt aW o6).2 h⟩
 have dJ : ∀ b, ew ad m R b → ¬ U b := fun b ab => (we b ((Qt aW o6).2 ab)).1;obtain ⟨hlen, hv⟩ := dX
 match vs, hlen with
 | v0 :: vs, hlen =>
  have sR : v0 = nK (ad k) off := (hv 0 _ v0 rfl rfl).1;have An : ks U ad W args vs := ks.closed et ⟨by simpa using hlen, fun j x v aa cg => hv (j + 1) x v aa cg⟩;refine (ak.call U ad W (v0 :: vs) (aW.more o6 dJ) (fun x aa j af => ?_) ⟨hlen, fun j x v aa cg => ?_⟩).mono ?_
  ·rcases gS.1 aa with rfl | aa
   ·obtain ⟨y, ag, af⟩ := af;simp [bK.cells] at ag;subst ag;cases af;exact ae
   ·exact absurd af (ai.dI (cB.1 et x aa) j)
  ·match j with
   | 0 => cases aa; cases cg; exact Ro sR
   | j + 1 => exact An.2 j x v aa cg
  ·rintro e bn ⟨v, r, m1, bl, e1, oP, rfl, j7, DD, qs, jl, bC, cd, cH, cC, ab⟩;have jH : e1 k = ad k := by obtain ⟨cs, h⟩ := ae; exact (bC k cs h).1
   obtain ⟨cJ, eZ, q1, q2, cr, eE, lZ, Bh⟩ := hp r m1 bl e1 oP bn v j7 jH DD qs;refine ⟨v, cJ, cm, eZ, e1, oP, rfl, q1, eE, cr, fun j af => absurd af (ai.dI q2 j), fun k cs ae => (by cases ae), fun j q af => ?_, fun b ab => ?_, fun b ab => ?_, ⟨ab.os, ab.tape, ab.output, ab.size, fun b aw => ab.block b ⟨aw.1, fun H7 => aw.2 ((fq b).2 H7)⟩⟩⟩
   ·obtain ⟨rfl, rfl⟩ := gg af;exact lZ
   ·rcases cH b ab with q | q | q
    ·exact .inl q
    ·exact .inr (.inl q)
    ·exact .inr (.inr ((fq b).2 q))
   ·rcases cC b (Bh b ab) with q | q
    ·exact .inl ((fq b).2 q)
    ·exact .inr q
theorem Qv {U : Nat → Prop} {ad bg : Nat → Nat} {W : World} {m m1 : Mem} {R bl : aL} {k : Nat} (h : fe U ad W m R) (hm : ∀ k cs, m1 k = some cs → m k = some cs) (al : bL bl R) (gb : ∀ k cs x j, m1 k = some cs → x ∈ cs → x.owns j → ∃ au, m1 j = some au) (hp : nJ m1 bl) :
  (iB (eg (ad k)) (lH ad m1 bl k)).ok U bg W ∧ (∀ y ∈ (iB (eg (ad k)) (lH ad m1 bl k)).aZ, y.bd = true) ∧ ∀ g, (iB (eg (ad k)) (lH ad m1 bl k)).own g → ¬ U g ∧ ∀ j cs, cm j = some cs → bg j ≠ g :=
 ⟨adl ((h.sub hm al gb).none hp) hp, fun y ag => by simp at ag; subst ag; rfl, fun g ax => ⟨(h.sub hm al gb).ac3 (E1 ax), fun j cs af => (by cases af)⟩⟩
theorem Sp {P : Program} {f : FuncId} {args : List ai} {ad : Nat → Nat} {m : Mem} {R : aL} {k off : Nat} {Post : ai → Mem → aL → Prop} {post : ai → ff → Prop} (ae : ∃ cs, m k = some cs) (et : args.all ai.bd = true) (ak : dk P f (.w (.one (.own k off)) :: args) m R Post)
  (hp : ∀ v m1 bl, Post v m1 bl → v.bd = true ∧ nJ m1 bl ∧ ∀ e1, e1 k = ad k → post v (lH e1 m1 bl k)) : y8 P f (aU (nK (ad k) off) :: args) (eg (ad k)) (lH ad m R k) post := by
 intro i;refine agW ae et ak i fun r m1 bl e1 oP hj v j7 jH cA qs => ?_;obtain ⟨c1, c2, lg⟩ := hp _ _ _ j7;have ab := Qv (bg := e1) (k := k) cA (fun _ _ h => h) (bL.refl _) cA.gb c2;refine ⟨r, bH i (iB (eg (ad k)) (lH e1 m1 bl k)), ⟨_, rfl, rfl, lg e1 jH⟩, c1, qs, ⟨fun k cs ae => (by cases ae), fun k cs x j ae => (by cases ae), fun k k' cs au ae => (by cases ae), fun j q af => ?_, fun j e0 q bT af kw ca => ?_⟩, ⟨_, by unfold bH; exact cw _ _ _⟩, ?_⟩
 ·obtain ⟨rfl, rfl⟩ := gg af;rw [← jH]; exact ab
 ·obtain ⟨rfl, _⟩ := gg af;obtain ⟨rfl, _⟩ := gg kw;exact absurd rfl ca
 ·rintro b (⟨j, cs, af, _⟩ | ⟨j, q, af, ax⟩)
  ·cases af
  ·obtain ⟨rfl, rfl⟩ := gg af;rw [← jH] at ax;exact E1 ax
theorem agV {P : Program} {f : FuncId} {args : List ai} {Post : ai → Mem → aL → Prop} {post : Value → ff → Prop} (ak : dk P f args cm gw Post)
  (hp : ∀ v m1 bl, Post v m1 bl → ∃ k, v = .w (.one (.own k 0)) ∧ nJ m1 bl ∧ ∀ e1, post (eg (e1 k)) (lH e1 m1 bl k)) : Gt P f args post := by
 intro i;refine ⟨fun U ad W vs cA ez dX => (ak.call U ad W vs cA ez dX).mono ?_⟩;rintro e bn ⟨v, r, m1, bl, e1, oP, rfl, j7, DD, qs, jl, bC, cd, cH, cC, ab⟩;obtain ⟨k, rfl, c2, lg⟩ := hp _ _ _ j7;have YT := Qv (bg := e1) (k := k) DD (fun _ _ h => h) (bL.refl _) DD.gb c2;have hv : v = eg (e1 k) := qs;refine ⟨v, aU (eg (e1 k)), cm, bH i (iB (eg (e1 k)) (lH e1 m1 bl k)), e1, oP, rfl, ⟨_, _, rfl, rfl, rfl, lg e1⟩, ⟨fun k cs ae => (by cases ae), fun k cs x j ae => (by cases ae), fun k k' cs au ae => (by cases ae), fun j q af => ?_, fun j e0 q bT af kw ca => ?_⟩, ⟨hv, rfl⟩, fun j af => absurd af (jq _ j), fun k cs ae => (by cases ae), fun j q af => (by cases af), cH, fun b ab => ?_, ab⟩
 ·obtain ⟨rfl, rfl⟩ := gg af;exact YT
 ·obtain ⟨rfl, _⟩ := gg af;obtain ⟨rfl, _⟩ := gg kw;exact absurd rfl ca
 ·rcases ab with ⟨j, cs, af, _⟩ | ⟨j, q, af, ax⟩
  ·cases af
  ·obtain ⟨rfl, rfl⟩ := gg af;exact cC b (E1 ax)
section
variable {P : Program} {R : aL} {s : aE} {ops : Array Oper} {dr : Option (List Nat)} {ty : Nat} {pos : String} {after : Array Edge} {guard : Option (Nat × Bool)} {K : aL → aE → Prop} {rest : List Oper}
theorem Aw (i : Nat) {dst : Option Nat} {f : FuncId} {g : Operand} {aS : Array TypeId} {l : List Operand} {args : List ai} {p : Value} {S : ff} {post : ai → ff → Prop} [E : Enters P f] (hw : want ops ⟨dst, .call ⟨.value g, l.toArray, aS⟩, ty, pos, after, guard⟩ s = some true) (hm : dE dr ⟨dst, .call ⟨.value g, l.toArray, aS⟩, ty, pos, after, guard⟩ = true)
  (ax : s.look g = some (aU (.func (.func f) #[] #[]))) (aI : l.map s.look = args.map some) (hp : y8 P f args p S post) (hi : R i = some (iB p S)) (et : args.all ai.bd = true) (hd : li dst s.n = true)
  (h : ∀ v dp, post v dp → cQ P ops dr K rest (bJ R i (iB p dp)) (s.put dst v)) : cQ P ops dr K (⟨dst, .call ⟨.value g, l.toArray, aS⟩, ty, pos, after, guard⟩ :: rest) R s := by
 refine wk hw hm ax aI (hp i) (fun x aa j af => absurd af (ai.dI (cB.1 et x aa) j)) (fun k' au ar => by cases ar) (fun fS ba ar => ?_) (fun k' au x j ar aa af => by cases ar) hd ?_
 ·obtain ⟨rfl, rfl⟩ := gg ar; exact hi
 ·rintro v aK aC ⟨dp, rfl, rfl, an⟩;refine ⟨fun k' c ar => (by cases ar), ?_⟩;rw [show b9 (bH i (iB p dp)) R = bJ R i (iB p dp) from wJ R i _, uY];exact h v dp an
theorem On (i : Nat) {dst : Option Nat} {f : FuncId} {g : Operand} {aS : Array TypeId} {l : List Operand} {args : List ai} {post : Value → ff → Prop} [E : Enters P f] (hw : want ops ⟨dst, .call ⟨.value g, l.toArray, aS⟩, ty, pos, after, guard⟩ s = some true) (hm : dE dr ⟨dst, .call ⟨.value g, l.toArray, aS⟩, ty, pos, after, guard⟩ = true)
  (ax : s.look g = some (aU (.func (.func f) #[] #[]))) (aI : l.map s.look = args.map some) (hp : Gt P f args post) (et : args.all ai.bd = true) (hd : li dst s.n = true)
  (h : ∀ p S, post p S → cQ P ops dr K rest (bJ R i (iB p S)) (s.put dst (aU p))) : cQ P ops dr K (⟨dst, .call ⟨.value g, l.toArray, aS⟩, ty, pos, after, guard⟩ :: rest) R s := by
 refine wk hw hm ax aI (hp i) (fun x aa j af => absurd af (ai.dI (cB.1 et x aa) j)) (fun k' au ar => by cases ar) (fun fS ba ar => by cases ar) (fun k' au x j ar aa af => by cases ar) hd ?_;rintro v aK aC ⟨p, S, rfl, rfl, rfl, an⟩;refine ⟨fun k' c ar => (by cases ar), ?_⟩;rw [show b9 (bH i (iB p S)) R = bJ R i (iB p S) from wJ R i _, uY];exact h p S an
end
section
variable {P : Program} {s : aE} {ops : Array Oper} {K : aE → Prop} {rest : List Oper} {ty : Nat} {pos : String} {after : Array Edge} {guard : Option (Nat × Bool)} {d : Nat}
theorem tO {x : Operand} {b off : Nat} (hw : want ops ⟨some d, .nilCheck x, ty, pos, after, guard⟩ s = some true) (aa : s.look x = some (aU (nK b off))) (hd : Nat.blt d s.n = true) (h : bj P ops K rest (s.put (some d) (aU (nK b off)))) : bj P ops K (⟨some d, .nilCheck x, ty, pos, after, guard⟩ :: rest) s := by
 refine gp hw ⟨fun _ _ h => (by cases h), fun y ag => ?_, fun U ad W env he => ?_, fun j af => absurd af (jq _ j)⟩ hd h
 ·simp [Op.operands] at ag;subst ag;exact ⟨_, aa⟩
 ·have hv : env x = nK b off := (he x (by simp [Op.operands]) _ aa).1;exact ⟨_, by simp only [execOp, hv]; rfl, rfl, rfl⟩
theorem tM {x : Operand} {qN i b off iw : Nat} [F : nm P qN i iw] (hw : want ops ⟨some d, .fieldAddr qN x i, ty, pos, after, guard⟩ s = some true) (aa : s.look x = some (aU (nK b off))) (hd : Nat.blt d s.n = true) (h : bj P ops K rest (s.put (some d) (aU (nK b (off + iw))))) : bj P ops K (⟨some d, .fieldAddr qN x i, ty, pos, after, guard⟩ :: rest) s := by
 refine gp (av := aU (nK b (off + iw))) hw ⟨fun _ _ h => (by cases h), fun y ag => ?_, fun U ad W env he => ?_, fun j af => absurd af (jq _ j)⟩ hd h
 ·simp [Op.operands] at ag;subst ag;exact ⟨_, aa⟩
 ·have hp : env x = .pointer (some ⟨b, off, none⟩) := (he x (by simp [Op.operands]) _ aa).1;have hF := F.h;unfold ug at hF
  split at hF
  ·rename_i fs hu;cases aw : fs[i]? with
   | none => rw [aw] at hF; cases hF
   | some f =>
    rw [aw] at hF;simp only [kE] at hF;cases hi : P.info? f.type with
    | none => rw [hi] at hF; cases hF
    | some t =>
     rw [hi] at hF;simp only [kE] at hF
     split at hF
     ·cases hF
     ·rename_i ca;cases hF;refine ⟨.pointer (some ⟨b, off + f.offset, none⟩), ?_, rfl, rfl⟩;have kT : (⟨b, off, none⟩ : Addr).add f.offset = ⟨b, off + f.offset, none⟩ := by unfold Addr.add; split <;> simp_all
      simp only [execOp, Instr.fieldAt, hp, Instr.sureAddr, Sem.run_bind, Sem.run_pure, Result.andThen_ok, run_underlying hu, aw, fieldPlace, h5 hi, if_neg ca, kT]
  ·cases hF
theorem afW (n : Nat) {t e : TypeId} (hu : P.underlying t = some (.pointer e)) (a : Addr) (W : World) : (Op.equalIn (n + 1) t (.pointer (some a)) (.pointer none)).run P W = .ok false W := by
 simp [Op.equalIn, run_underlying hu]
theorem afX {t e : TypeId} (hu : P.underlying t = some (.pointer e)) (a : Addr) (W : World) : (Op.equal t (.pointer (some a)) (.pointer none)).run P W = .ok false W := afW 9999 hu a W
theorem afV {t e : TypeId} (hu : P.underlying t = some (.pointer e)) (a : Addr) (W : World) : (binOp .eql t (.pointer (some a)) (.pointer none)).run P W = .ok (.bool false) W := by
 simp only [binOp];simp [afX hu]
theorem Yf {op : BinOp} {t : TypeId} {x y : Operand} {a : Option Addr} {v : Value} : eqGuard op t x y (.pointer a) v = pure () := by cases op <;> rfl
def ON (P : Program) (t : TypeId) : Bool := match P.underlying t with
 | some (.pointer _) => true
 | _ => false
end
section
variable {P : Program} {s : aE} {ops : Array Oper} {K : aE → Prop} {rest : List Oper} {ty : Nat} {pos : String} {after : Array Edge} {guard : Option (Nat × Bool)} {d : Nat}
end
theorem ff.same {A B : ff} (h1 : A.holds = B.holds) (h2 : A.lS = B.lS) : A = B := by
 cases A; cases B; cases h1; cases h2; rfl
theorem AC.RC {bM : Nat → Nat} (x : AC) : (x.bc bM).wK = x.wK := by cases x <;> rfl
theorem aeT {bM cb iE : Nat → Nat} (fR : ∀ j, bM (bM j) = j) (ga : ∀ j, cb (iE j) = j) {m : Mem} {R : aL} : nJ (m.bc bM) (R.bc cb) ↔ nJ m R := by
 constructor
 ·rintro ⟨h1, h2⟩;refine ⟨fun k cs ae => ?_, fun i r hi => h2 (iE i) r (by unfold aL.bc; rw [ga]; exact hi)⟩;have := h1 _ _ (Mem.rN fR ae);rw [List.all_map] at this;rw [cB] at this ⊢;exact fun x aa => (AC.RC x).symm.trans (this x aa)
 ·rintro ⟨h1, h2⟩;refine ⟨fun k cs ae => ?_, fun i r hi => h2 (cb i) r hi⟩;obtain ⟨ds, hd, rfl⟩ := Mem.rO ae;have := h1 _ _ hd;rw [List.all_map];rw [cB] at this ⊢;exact fun x aa => (AC.RC x).trans (this x aa)
theorem agX {bM cb iE : Nat → Nat} (fR : ∀ j, bM (bM j) = j) (ga : ∀ j, cb (iE j) = j) (wq : ∀ j, iE (cb j) = j) {ad : Nat → Nat} {m : Mem} {R : aL} {k : Nat} : lH ad (m.bc bM) (R.bc cb) (bM k) = lH (fun j => ad (bM j)) m R k := by
 refine ff.same ?_ ?_
 ·funext w v;show (v = eg (ad (bM k)) ∧ fe uR ad w (m.bc bM) (R.bc cb) ∧ nJ (m.bc bM) (R.bc cb)) = (v = eg (ad (bM k)) ∧ fe uR (fun j => ad (bM j)) w m R ∧ nJ m R);rw [propext (aeT fR ga), propext (fe.bc fR ga wq)]
 ·funext w v b;exact propext (ew.bc fR ga)
theorem eW {P : Program} {fn : Func} {l : List ResultVar} {xs : List bK} {R R0 bl : aL} {s : aE} {cs au : List AC} {Post : ai → Mem → aL → Prop} (al : fn.results = l.toArray) (h : l.map (iZ P s) = xs.map some) (ae : s.mem 1000 = some au) (ay : bL bl R) (ak : au.all AC.bd = true) (aa : (packed xs).bd = true) (aJ : ∀ i r, R0 i = some r → ∃ ba, bl i = some ba)
  (hp : Post (packed xs) (cO 1000 au) bl) : uw P fn (cO 1000 cs) R0 Post R s := by
 refine ⟨xs, packed xs, cO 1000 au, bl, by rw [al]; exact h, .refl _, hp, fun k c h => ?_, ay, fun j af => absurd af (ai.dI aa j), fun k c x j h aa af => ?_, fun k c h => ?_, aJ⟩
 ·obtain ⟨rfl, rfl⟩ := h3 h; exact ae
 ·obtain ⟨rfl, rfl⟩ := h3 h; exact absurd af (AC.dI (cB.1 ak x aa) j)
 ·obtain ⟨rfl, rfl⟩ := h3 h; exact ⟨au, by unfold cO; exact cw _ _ _⟩
theorem DS (k : Nat) {P : Program} {fn : Func} {l : List ResultVar} {xs : List bK} {R bl : aL} {s : aE} {au : List AC} {Post : ai → Mem → aL → Prop} (al : fn.results = l.toArray) (h : l.map (iZ P s) = xs.map some) (ae : s.mem k = some au) (ay : bL bl R) (ak : au.all AC.bd = true) (aa : (packed xs).ys k = true)
  (hp : Post (packed xs) (cO k au) bl) : uw P fn cm gw Post R s := by
 refine ⟨xs, packed xs, cO k au, bl, by rw [al]; exact h, .refl _, hp, fun k c h => ?_, ay, fun j af => ?_, fun k c x j h Az af => ?_, fun k c h => (by cases h), fun i r h => (by cases h)⟩
 ·obtain ⟨rfl, rfl⟩ := h3 h; exact ae
 ·rw [ai.ady aa af]; exact ⟨au, by unfold cO; exact cw _ _ _⟩
 ·obtain ⟨rfl, rfl⟩ := h3 h; exact absurd af (AC.dI (cB.1 ak x Az) j)
section
variable {P : Program} {R : aL} {s : aE} {ops : Array Oper} {dr : Option (List Nat)} {ty : Nat} {pos : String} {after : Array Edge} {guard : Option (Nat × Bool)} {K : aL → aE → Prop} {rest : List Oper}
end
def pI (P : Program) (f : FuncId) (args : List ai) (post : ai → bS → Prop) : Prop :=
 ∀ i, dk P f args cm gw fun v aK aC => ∃ q, aK = cm ∧ aC = bH i q ∧ 0 < q.sz ∧ post v q
theorem Gx {P : Program} {f : FuncId} {args : List ai} {post : ai → bS → Prop} (aI : args.all ai.bd = true) (hp : ∀ v q, post v q → v.bd = true)
  (h : dk P f args cm gw fun v aK aC => ∃ q, aK = cm ∧ aC = bH 0 q ∧ 0 < q.sz ∧ post v q) : pI P f args post := by
 intro i;have h1 := h.bc (bM := fun j => j) (cb := swp 0 i) (iE := swp 0 i) (fun _ => rfl) (nk _ _) (nk _ _);rw [Ry aI, show Mem.bc (fun j => j) cm = cm from rfl, show aL.bc (swp 0 i) gw = gw from rfl] at h1;refine ⟨fun U ad W vs cA ez dX => (h1.call U ad W vs cA ez dX).mono ?_⟩;rintro e bn ⟨v1, cN, aK, aC, bg, cK, db, ⟨cJ, m2, eZ, ⟨q, rfl, rfl, a6, an⟩, rfl, rfl, rfl⟩, mB⟩;rw [show Mem.bc (fun j => j) cm = cm from rfl, Bp, u6 (hp _ _ an)] at mB;exact ⟨v1, cJ, cm, bH i q, bg, cK, db, ⟨q, rfl, rfl, a6, an⟩, mB⟩
theorem z6 {P : Program} {fn : Func} {l : List ResultVar} {xs : List bK} {R : aL} {s : aE} {q : bS} {post : ai → bS → Prop} (al : fn.results = l.toArray) (h : l.map (iZ P s) = xs.map some) (hi : R 0 = some q) (aa : (packed xs).bd = true) (Am : 0 < q.sz)
  (hp : post (packed xs) q) : uw P fn cm gw (fun v aK aC => ∃ q, aK = cm ∧ aC = bH 0 q ∧ 0 < q.sz ∧ post v q) R s := by
 refine ⟨xs, packed xs, cm, bH 0 q, by rw [al]; exact h, .refl _, ⟨q, rfl, rfl, Am, hp⟩, fun k c h => (by cases h), fun i r h => ?_, fun j af => absurd af (ai.dI aa j), fun k c x j h => (by cases h), fun k c h => (by cases h), fun i r h => (by cases h)⟩;obtain ⟨rfl, rfl⟩ := gg h; exact hi
section
variable {P : Program} {R : aL} {s : aE} {ops : Array Oper} {dr : Option (List Nat)} {ty : Nat} {pos : String} {after : Array Edge} {guard : Option (Nat × Bool)} {K : aL → aE → Prop} {rest : List Oper}
end
section
variable {P : Program} {U lL : Nat → Prop} {ad : Nat → Nat} {w : World}
theorem bS.ok.So {r : bS} (h : r.ok U ad w) (hs : 0 < r.sz) (BQ : List AC) (ag : ∀ xs, b3 U ad w r.aZ xs → b3 lL ad w BQ xs) (ak : ∀ y ∈ BQ, y.bd = true) (dJ : ∀ b, r.own b → lL b) : gV lL ad w (.p (cx r.sz r.n BQ)) r.v := by
 obtain ⟨xs, aB, Ih⟩ := h.row hs;have ap := ag xs Ih;have oc := ap.1;obtain ⟨lr, aD | ⟨g, cap, cur, kU, ri, vY, eX, j3, eL, om⟩⟩ := id aB
 ·obtain ⟨aG, aM⟩ := aD;have : BQ = [] := mE (by rw [oc, lr, aM]; simp);rw [aG];exact ⟨⟨none, 0, by rw [aM], by omega, by rw [this, aM]; simp, fun h => absurd h (by omega)⟩, fun b ⟨c', a', q, aD, ab⟩ => by cases q⟩
 ·have uu := aB.cells (g := g) (by rw [kU]; rfl);have ZJ : r.own g := .inl (by rw [kU]; rfl);rw [kU];have re : lb w ⟨g, 0, none⟩ BQ xs := ⟨(k4.1 vY).1, ap.xA ak fun b _ _ => ⟨trivial, rfl⟩, uu, ak⟩;refine ⟨⟨some ⟨g, 0, none⟩, cap, rfl, eX, by rw [oc]; exact lr, fun aD => ⟨⟨g, 0, none⟩, xs, rfl, re⟩⟩, ?_⟩;rintro b ⟨c', a', q, aD, aw⟩;cases q;rcases aw with rfl | ⟨j, y, v, ag, hv, gP⟩
  ·exact dJ g ZJ
  ·have bh : j < xs.length := by rw [← oc]; exact (bP.1 ag).1
   have h2 := uu j _ (cj bh);rw [hv] at h2;cases h2;have ao := ap.2 j y _ ag (cj bh);cases y with
   | c u => cases gP
   | own k o => cases gP
   | p S => exact ao.2 b gP
def Cb (r : ai) : Prop := ∀ (U cK : Nat → Prop) (ad bg : Nat → Nat) (W bn : World) v, dn U ad W r v → dn cK bg bn r v
def ve (aZ : List AC) : Prop := ∀ (U cK : Nat → Prop) (ad bg : Nat → Nat) (W bn : World) xs, b3 U ad W aZ xs → b3 cK bg bn aZ xs
theorem ve.of {aZ : List AC} (h : ∀ y ∈ aZ, ∃ v, y = .c v) : ve aZ := fun U cK ad bg W bn xs aa => ⟨aa.1, fun i y v ag hv => by
 have h1 := aa.2 i y v ag hv;obtain ⟨u, rfl⟩ := h y (dL ag);exact h1⟩
theorem Cb.one {v : Value} : Cb (aU v) := fun U cK ad bg W bn u h => h
theorem YZ {f : FuncId} {args sk : List ai} {R0 : aL} {Post : ai → Mem → aL → Prop} (hp : dk P f sk cm gw Post) (ak : sk.all ai.bd = true)
  (hv : ∀ U ad W vs, fe U ad W cm R0 → ks U ad W args vs → ks (fun b => U b ∨ ew ad cm R0 b) ad W sk vs)
  (j7 : ∀ r aK bl, Post r aK bl → aK = cm ∧ Cb r ∧ r.bd = true ∧ ∀ i q, bl i = some q → 0 < q.sz ∧ ve q.aZ) :
  dk P f args cm R0 fun r aK aC => ∃ bl, Post r cm bl ∧ aK = cm ∧ aC = b9 bl R0 := by
 refine ⟨fun U ad W vs cA ez dX => ?_⟩;have Yv : fe (fun b => U b ∨ ew ad cm R0 b) ad W cm gw := ⟨fun k cs ae => (by cases ae), fun k cs x j ae => (by cases ae), fun k k' cs au ae => (by cases ae), fun i q hi => (by cases hi), fun i j q bT hi => (by cases hi)⟩;have bh : ∀ i q g, R0 i = some q → q.own g → g < W.heap.size := fun i q g hi ax => (cA.rows i q hi).1.lt ax;refine (hp.call _ ad W vs Yv (fun x aa j af => absurd af (ai.dI (cB.1 ak x aa) j)) (hv U ad W vs cA dX)).mono ?_;rintro e bn ⟨v, r, aK, bl, bg, cK, rfl, h1, h2, ao, aH, cM, fQ, j0, qg, jh⟩;obtain ⟨rfl, aw, oh, Z0⟩ := j7 r aK bl h1
 have Ax : ∀ b, b < W.heap.size → bn.heap[b]? = W.heap[b]? := fun b ab => jh.block b ⟨ab, by
  rintro (⟨k, cs, ae, _⟩ | ⟨i, q, hi, _⟩)
  ·cases ae
  ·cases hi⟩
 have qo : ∀ i q g, bl i = some q → q.own g → W.heap.size ≤ g := fun i q g hi ax => (qg g (.inr ⟨i, q, hi, ax⟩)).elim (fun h => by
  rcases h with ⟨k, cs, ae, _⟩ | ⟨i, q, hi, _⟩
  ·cases ae
  ·cases hi) id
 refine ⟨v, r, cm, b9 bl R0, bg, fun b => U b ∧ b < W.heap.size, rfl, ⟨bl, h1, rfl, rfl⟩, ⟨fun k cs ae => (by cases ae), fun k cs x j ae => (by cases ae), fun k k' cs au ae => (by cases ae), fun i q hi => ?_, fun i j q bT hi af fI g ax eM => ?_⟩, aw _ _ _ _ _ _ v ao, fun j af => absurd af (ai.dI oh j), fun k cs ae => (by cases ae), fun i q hi => ?_, fun b ab => .inl ab.1, fun b ab => ?_, ⟨jh.os, jh.tape, jh.output, jh.size, fun b ab => Ax b ab.1⟩⟩
 ·rcases kd hi with hi | ⟨_, hi⟩
  ·obtain ⟨q1, q2, cr⟩ := h2.rows i q hi;obtain ⟨kk, z2⟩ := Z0 i q hi;obtain ⟨xs, aB, ap⟩ := q1.row kk;exact ⟨.inl ⟨kk, xs, aB, z2 _ _ _ _ _ _ xs ap⟩, q2, fun g ax => ⟨fun hu => by have := qo i q g hi ax; have := hu.2; omega, fun k cs ae => by cases ae⟩⟩
  ·obtain ⟨q1, q2, cr⟩ := cA.rows i q hi;exact ⟨q1.kept q2 (fun g ax => Ax g (bh i q g hi ax)) jh.size fun b ab ap => ⟨⟨ab, ap⟩, Ax b ap⟩, q2, fun g ax => ⟨fun hu => (cr g ax).1 hu.1, fun k cs ae => by cases ae⟩⟩
 ·rcases kd hi with hi | ⟨_, hi⟩ <;> rcases kd af with af | ⟨_, af⟩
  ·exact h2.apart i j q bT hi af fI g ax eM
  ·have := qo i q g hi ax; have := bh j bT g af eM; omega
  ·have := qo j bT g af eM; have := bh i q g hi ax; omega
  ·exact cA.apart i j q bT hi af fI g ax eM
 ·cases an : bl i with
  | some x => exact ⟨x, h4 an⟩
  | none => exact ⟨q, by rw [hN an]; exact hi⟩
 ·rcases ab with ⟨k, cs, ae, _⟩ | ⟨i, q, hi, ax⟩
  ·cases ae
  ·rcases kd hi with hi | ⟨_, hi⟩
   ·exact .inr (qo i q b hi ax)
   ·exact .inl (.inr ⟨i, q, hi, ax⟩)
end
section
variable {P : Program} {R : aL} {s : aE} {ops : Array Oper} {dr : Option (List Nat)} {ty : Nat} {pos : String} {after : Array Edge} {guard : Option (Nat × Bool)} {K : aL → aE → Prop} {rest : List Oper}
theorem Oi {dst : Option Nat} {f : FuncId} {g : Operand} {aS : Array TypeId} {l : List Operand} {args : List ai} {R0 : aL} {Post : ai → Mem → aL → Prop} [E : Enters P f] (hw : want ops ⟨dst, .call ⟨.value g, l.toArray, aS⟩, ty, pos, after, guard⟩ s = some true) (hm : dE dr ⟨dst, .call ⟨.value g, l.toArray, aS⟩, ty, pos, after, guard⟩ = true)
  (ax : s.look g = some (aU (.func (.func f) #[] #[]))) (aI : l.map s.look = args.map some) (hp : dk P f args cm R0 Post) (al : bL R0 R) (et : args.all ai.bd = true) (hd : li dst s.n = true)
  (h : ∀ r aK aC, Post r aK aC → aK = cm ∧ cQ P ops dr K rest (b9 aC R) (s.put dst r)) : cQ P ops dr K (⟨dst, .call ⟨.value g, l.toArray, aS⟩, ty, pos, after, guard⟩ :: rest) R s := by
 refine wk hw hm ax aI hp (fun x aa j af => absurd af (ai.dI (cB.1 et x aa) j)) (fun k' au ar => by cases ar) al (fun k' au x j ar aa af => by cases ar) hd ?_;rintro r aK aC an;obtain ⟨rfl, ar⟩ := h r aK aC an;refine ⟨fun k' au ar => (by cases ar), ?_⟩;have dl : s.over cm = s := rfl;rw [dl]; exact ar
end
def jg (g e : Nat) (cs : List AC) : bS := ⟨e, cs.length, .slice (some ⟨g, 0, none⟩) 1 1, 1, cs⟩
theorem vF {g e : Nat} {cs : List AC} (a6 : 0 < cs.length) {b : Nat} : (jg g e cs).own b ↔ b = g := by
 constructor
 ·intro h;have h := bS.pq h (by exact a6);have : (some g : Option Nat) = some b := h;exact (mD this).symm
 ·rintro rfl; exact .inl rfl
theorem LY {U : Nat → Prop} {ad : Nat → Nat} {W : World} {g e : Nat} {cs : List AC} (a6 : 0 < cs.length) : (jg g e cs).ok U ad W ↔ ∃ vs : List Value, W.heap[g]? = some (.cells vs.toArray e (0, 0)) ∧ b3 U ad W cs vs := by
 constructor
 ·intro h;obtain ⟨xs, ⟨ap, aW⟩, al⟩ := h.row a6;rcases aW with ⟨aJ, _⟩ | ⟨jD, cap, cur, hv, _, vY, _, _, ak, hZ⟩
  ·cases aJ
  ·cases hv;have ak : cur.size = 1 * cs.length := ak;have hZ : cur.toList.take (1 * cs.length) = xs := hZ;have aG : cur.toList = xs := by rw [← hZ]; exact (hQ (by rw [Array.length_toList]; omega)).symm
   refine ⟨xs, ?_, al⟩;rw [← aG, Array.toArray_toList];exact vY
 ·rintro ⟨vs, h1, h2⟩;have ap := h2.1;refine .inl ⟨a6, vs, ⟨by show vs.length = 1 * cs.length; omega, .inr ⟨g, 1, vs.toArray, rfl, eF _, h1, eb _, by unfold maxLen; decide, by show vs.length = 1 * cs.length; omega, ?_⟩⟩, h2⟩;show vs.take (1 * cs.length) = vs;exact hQ (by omega)
theorem ur {ad : Nat → Nat} {k g e i : Nat} {cs : List AC} {R : aL} (a6 : 0 < cs.length) (hi : R i = none) (ae : ad k = g) {b : Nat} {bg : Nat → Nat} : ew ad (cO k cs) R b ↔ ew bg cm (bJ R i (jg g e cs)) b := by
 constructor
 ·rintro (⟨k', au, h1, h2⟩ | ⟨j, r, h1, h2⟩)
  ·obtain ⟨rfl, rfl⟩ := h3 h1;exact .inr ⟨i, _, cw _ _ _, (vF a6).2 (h2.symm.trans ae)⟩
  ·have : j ≠ i := fun e => by subst e; rw [hi] at h1; cases h1
   exact .inr ⟨j, r, by rw [cl _ _ this]; exact h1, h2⟩
 ·rintro (⟨k', au, h1, h2⟩ | ⟨j, r, h1, h2⟩)
  ·cases h1
  ·by_cases lQ : j = i
   ·subst lQ;rw [cw] at h1;cases h1;exact .inl ⟨k, cs, by unfold cO; exact cw _ _ _, ae.trans ((vF a6).1 h2).symm⟩
   ·rw [cl _ _ lQ] at h1;exact .inr ⟨j, r, h1, h2⟩
theorem NO {U : Nat → Prop} {ad bg : Nat → Nat} {W : World} {k g e i : Nat} {cs : List AC} {R : aL} (a6 : 0 < cs.length) (ak : cs.all AC.bd = true) (hi : R i = none) (ae : ad k = g) (h : fe U bg W cm (bJ R i (jg g e cs))) : fe U ad W (cO k cs) R := by
 have ca : ∀ {j r}, R j = some r → j ≠ i := fun {j r} h1 e => by subst e; rw [hi] at h1; cases h1
 obtain ⟨h1, h2, ao⟩ := h.rows i _ (cw _ _ _);obtain ⟨vs, aT, w2⟩ := (LY a6).1 h1;have cW := cB.1 ak;refine ⟨fun k' au en => ?_, fun k' au x j en aa af => ?_, fun bC cd c1 c2 h1 h2 _ => ?_, fun j r af => ?_, fun j e0 r q af kw D2 => ?_⟩
 ·obtain ⟨rfl, rfl⟩ := h3 en;exact ⟨vs, e, by rw [ae]; exact aT, w2.map (fun b ab _ => ⟨ab, rfl⟩) fun j x aa af => absurd af (AC.dI (cW x aa) j), by rw [ae]; exact (ao g ((vF a6).2 rfl)).1⟩
 ·obtain ⟨rfl, rfl⟩ := h3 en;exact absurd af (AC.dI (cW x aa) j)
 ·exact (h3 h1).1.trans (h3 h2).1.symm
 ·obtain ⟨q1, q2, cr⟩ := h.rows j r (by rw [cl _ _ (ca af)]; exact af);refine ⟨q1.kept q2 (fun _ _ => rfl) (eb _) (fun b ab _ => ⟨ab, rfl⟩), q2, fun b ab => ⟨(cr b ab).1, fun k' au en e => ?_⟩⟩;obtain ⟨rfl, rfl⟩ := h3 en;exact h.apart i j _ r (cw _ _ _) (by rw [cl _ _ (ca af)]; exact af) (Ne.symm (ca af)) b ((vF a6).2 (e.symm.trans ae)) ab
 ·exact h.apart j e0 r q (by rw [cl _ _ (ca af)]; exact af) (by rw [cl _ _ (ca kw)]; exact kw) D2
theorem LX {U : Nat → Prop} {ad bg : Nat → Nat} {W : World} {k i : Nat} {cs : List AC} {R : aL} (a6 : 0 < cs.length) (ak : cs.all AC.bd = true) (hi : R i = none) (h : fe U ad W (cO k cs) R) : ∃ e, fe U bg W cm (bJ R i (jg (ad k) e cs)) := by
 have ca : ∀ {j r}, R j = some r → j ≠ i := fun {j r} h1 e => by subst e; rw [hi] at h1; cases h1
 have o4 : cO k cs k = some cs := by unfold cO; exact cw _ _ _
 obtain ⟨vs, e, aT, w2, w3⟩ := h.dG k cs o4;have cW := cB.1 ak
 have FB : ∀ {j q}, bJ R i (jg (ad k) e cs) j = some q → (j = i ∧ q = jg (ad k) e cs) ∨ (j ≠ i ∧ R j = some q) := fun {j q} af => by
  by_cases lQ : j = i
  ·subst lQ; rw [cw] at af; cases af; exact .inl ⟨rfl, rfl⟩
  ·rw [cl _ _ lQ] at af; exact .inr ⟨lQ, af⟩
 refine ⟨e, fun k' au en => (by cases en), fun k' au x j en => (by cases en), fun bC cd c1 c2 h1 => (by cases h1), fun j q af => ?_, fun j e0 q bT af kw D2 b ab cV => ?_⟩
 ·rcases FB af with ⟨rfl, rfl⟩ | ⟨_, x0⟩
  ·refine ⟨(LY a6).2 ⟨vs, aT, w2.map (fun b ab _ => ⟨ab, rfl⟩) fun j x aa af => absurd af (AC.dI (cW x aa) j)⟩, cW, fun b ab => ⟨?_, fun k' au en => (by cases en)⟩⟩;rw [(vF a6).1 ab]; exact w3
  ·obtain ⟨q1, q2, cr⟩ := h.rows j q x0;exact ⟨q1.kept q2 (fun _ _ => rfl) (eb _) (fun b ab _ => ⟨ab, rfl⟩), q2, fun b ab => ⟨(cr b ab).1, fun k' au en => (by cases en)⟩⟩
 ·rcases FB af with ⟨rfl, rfl⟩ | ⟨_, x0⟩
  ·rcases FB kw with ⟨rfl, rfl⟩ | ⟨_, Ic⟩
   ·exact D2 rfl
   ·rw [(vF a6).1 ab] at cV;exact ((h.rows e0 bT Ic).2.2 _ cV).2 k cs o4 rfl
  ·rcases FB kw with ⟨rfl, rfl⟩ | ⟨_, Ic⟩
   ·rw [(vF a6).1 cV] at ab;exact ((h.rows j q x0).2.2 _ ab).2 k cs o4 rfl
   ·exact h.apart j e0 q bT x0 Ic D2 b ab cV
theorem dk.ag1 {P : Program} {f : FuncId} {args : List ai} {k : Nat} {cs : List AC} {R0 : aL} {Post : ai → Mem → aL → Prop} (i : Nat) (g e : Nat) (h : dk P f (.w (.one (.own k 0)) :: args) (cO k cs) R0 Post) (et : args.all ai.bd = true) (eL : cs.all AC.bd = true) (a6 : 0 < cs.length) (hi : R0 i = none)
  (hp : ∀ v aK aC, Post v aK aC → v.bd = true ∧ aC i = none ∧ ∃ au, aK = cO k au ∧ au.all AC.bd = true ∧ 0 < au.length) :
  dk P f (aU (eg g) :: args) cm (bJ R0 i (jg g e cs)) fun v aK aC => ∃ au bl bu, Post v (cO k au) bl ∧ aK = cm ∧ aC = bJ bl i (jg g bu au) := by
 refine ⟨fun U ad W vs cA ez dX => ?_⟩
 let e1 : Nat → Nat := fun j => if j = k then g else ad j
 have rp : e1 k = g := if_pos rfl;have Gb := NO (ad := e1) a6 eL hi rp cA;obtain ⟨hlen, hv⟩ := dX
 match vs, hlen with
 | v0 :: vs, hlen =>
  have sR : v0 = eg g := (hv 0 _ v0 rfl rfl).1;have An : ks U e1 W args vs := ks.closed et ⟨by simpa using hlen, fun j x v aa cg => hv (j + 1) x v aa cg⟩;refine (h.call U e1 W (v0 :: vs) Gb (fun x aa j af => ?_) ⟨by simpa using hlen, fun j x v aa cg => ?_⟩).mono ?_
  ·rcases gS.1 aa with rfl | aa
   ·obtain ⟨y, ag, af⟩ := af;simp [bK.cells] at ag;subst ag;cases af;exact ⟨cs, by unfold cO; exact cw _ _ _⟩
   ·exact absurd af (ai.dI (cB.1 et x aa) j)
  ·match j with
   | 0 => cases aa; cases cg; exact Ro (off := 0) (sR.trans (by rw [rp]))
   | j + 1 => exact An.2 j x v aa cg
  ·rintro dl bn ⟨v, r, aK, aC, bg, cK, rfl, j7, mQ, qs, jl, bC, cd, cH, cC, ab⟩;obtain ⟨c1, aD, au, rfl, c2, lg⟩ := hp _ _ _ j7;have en : bg k = g := (bC k cs (by unfold cO; exact cw _ _ _)).1.trans rp;obtain ⟨bu, Cd⟩ := LX (bg := bg) lg c2 aD mQ;rw [en] at Cd;refine ⟨v, r, cm, bJ aC i (jg g bu au), bg, cK, rfl, ⟨au, aC, bu, j7, rfl, rfl⟩, Cd, qs, fun j af => absurd af (ai.dI c1 j), fun hK lO aJ => (by cases aJ), fun j iD af => ?_, fun b cV => ?_, fun b cV => ?_, ⟨ab.os, ab.tape, ab.output, ab.size, fun b aw => ab.block b ⟨aw.1, fun aW => aw.2 ((ur a6 hi rp).1 aW)⟩⟩⟩
   ·by_cases lQ : j = i
    ·subst lQ; exact ⟨_, cw _ _ _⟩
    ·rw [cl _ _ lQ] at af;obtain ⟨q, an⟩ := cd j iD af;exact ⟨q, by rw [cl _ _ lQ]; exact an⟩
   ·rcases cH b cV with q | q | q
    ·exact .inl q
    ·exact .inr (.inl q)
    ·exact .inr (.inr ((ur a6 hi rp).1 q))
   ·rcases cC b ((ur lg aD en).2 cV) with q | q
    ·exact .inl ((ur a6 hi rp).1 q)
    ·exact .inr q
theorem dk.ag0 {P : Program} {f : FuncId} {args : List ai} {k : Nat} {cs : List AC} {R0 : aL} {Post : ai → Mem → aL → Prop} (i : Nat) (h : ∀ g e, dk P f (aU (eg g) :: args) cm (bJ R0 i (jg g e cs)) fun v aK aC => ∃ au bl bu, Post v (cO k au) bl ∧ aK = cm ∧ aC = bJ bl i (jg g bu au))
  (et : args.all ai.bd = true) (eL : cs.all AC.bd = true) (a6 : 0 < cs.length) (hi : R0 i = none) (hp : ∀ v au aC, Post v (cO k au) aC → v.bd = true ∧ aC i = none ∧ au.all AC.bd = true ∧ 0 < au.length) :
  dk P f (.w (.one (.own k 0)) :: args) (cO k cs) R0 Post := by
 refine ⟨fun U ad W vs cA ez dX => ?_⟩;obtain ⟨e, Gb⟩ := LX (bg := ad) a6 eL hi cA;obtain ⟨hlen, hv⟩ := dX
 match vs, hlen with
 | v0 :: vs, hlen =>
  have sR : v0 = eg (ad k) := hv 0 _ v0 rfl rfl;have An : ks U ad W args vs := ks.closed et ⟨by simpa using hlen, fun j x v aa cg => hv (j + 1) x v aa cg⟩;refine ((h (ad k) e).call U ad W (v0 :: vs) Gb (fun x aa j af => ?_) ⟨by simpa using hlen, fun j x v aa cg => ?_⟩).mono ?_
  ·rcases gS.1 aa with rfl | aa
   ·exact absurd af (jq _ j)
   ·exact absurd af (ai.dI (cB.1 et x aa) j)
  ·match j with
   | 0 => cases aa; cases cg; exact ⟨sR, by rfl⟩
   | j + 1 => exact An.2 j x v aa cg
  ·rintro dl bn ⟨v, r, aK, aC, bg, cK, rfl, ⟨au, bl, bu, j7, rfl, rfl⟩, mQ, qs, jl, bC, cd, cH, cC, ab⟩;obtain ⟨c1, aD, c2, lg⟩ := hp _ _ _ j7
   let BS : Nat → Nat := fun j => if j = k then ad k else bg j
   have x1 : BS k = ad k := if_pos rfl;have Cd := NO (ad := BS) lg c2 aD x1 mQ;refine ⟨v, r, cO k au, bl, BS, cK, rfl, j7, Cd, ?_, fun j af => absurd af (ai.dI c1 j), fun hK lO aJ => ?_, fun j iD af => ?_, fun b cV => ?_, fun b cV => ?_, ⟨ab.os, ab.tape, ab.output, ab.size, fun b aw => ab.block b ⟨aw.1, fun aW => aw.2 ((ur a6 hi rfl).2 aW)⟩⟩⟩
   ·exact qs.map (fun b ab _ => ⟨ab, rfl⟩) fun j af => absurd af (ai.dI c1 j)
   ·obtain ⟨rfl, rfl⟩ := h3 aJ;exact ⟨x1, au, by unfold cO; exact cw _ _ _⟩
   ·have kw : j ≠ i := fun e => by subst e; rw [hi] at af; cases af
    obtain ⟨q, an⟩ := cd j iD (by rw [cl _ _ kw]; exact af);rw [cl _ _ kw] at an;exact ⟨q, an⟩
   ·rcases cH b cV with q | q | q
    ·exact .inl q
    ·exact .inr (.inl q)
    ·exact .inr (.inr ((ur a6 hi rfl).2 q))
   ·rcases cC b ((ur lg aD x1).1 cV) with q | q
    ·exact .inl ((ur a6 hi rfl).2 q)
    ·exact .inr q
abbrev oH (V : List aq) (D : List Int) : ai := .w (.agg [.p (cx 2 V.length (b8 V)), .p (cx 1 D.length (cy D))])
abbrev wA (V : List aq) (D : List Int) : List AC := [.p (cx 2 V.length (b8 V)), .p (cx 1 D.length (cy D))]
abbrev CR (b : Bool) : AC := .p (Gi [.c (.bool (!b))])
abbrev w1 (l d : Bool) : ai := .w (.one (.p (pK (.func 184) [CR l, CR d])))
theorem adC {a1 a2 b1 b2 : Int} : aY Tryz.prog 127 [bi a1 a2, bi b1 b2] (w1 (decide (b1 < a1)) (decide (b2 < a2))) := by
 have aG : decide (b1 ≥ a1) = !decide (b1 < a1) := by by_cases h : b1 < a1 <;> simp [h] <;> omega
 have aM : decide (b2 ≥ a2) = !decide (b2 < a2) := by by_cases h : b2 < a2 <;> simp [h] <;> omega
 refine aeJ (f := 127) Tryz.func127 rfl rfl rfl rfl ?_;refine LS (GJ ?_);(repeat first | (with_reducible apply az); exact rfl | (with_reducible first | apply bI | apply bO | apply aA));refine LS (GJ ?_);(repeat first | (with_reducible apply az); exact rfl | (with_reducible apply iJ); kernel_rfl | (with_reducible apply iL); kernel_rfl; kernel_rfl; exact rfl | with_reducible apply bI);refine LR 5 _ rfl rfl ?_;refine LR 6 _ rfl rfl ?_;refine GJ ?_;(repeat first | (with_reducible apply az); exact rfl | refine U2 (xs := [_, _]) (cs := [_, _]) rfl rfl rfl rfl ?_ | (with_reducible first | apply bQ | apply bI | apply bO | apply aA | apply cf))
 ((refine bY rfl (bD rfl bf) ?_))
 exact ai.bo.of_eq (by rw [aG, aM]; rfl)
theorem ad6 {x y z w : Int} {l d r : Bool} (al : zd x y z w l d = r) : aY Tryz.prog 184 [bi x y, bi z w, .w (.one (CR l)), .w (.one (CR d))] (bG r) := by
 have cs : (¬ x = z ∧ z < x ∧ r = l) ∨ (¬ x = z ∧ ¬ z < x ∧ r = !l) ∨ (x = z ∧ ¬ y = w ∧ w < y ∧ r = d) ∨ (x = z ∧ ¬ y = w ∧ ¬ w < y ∧ r = !d) ∨ (x = z ∧ y = w ∧ r = false) := by
  rw [← al]; unfold zd
  by_cases h1 : x < z <;> by_cases h2 : z < x <;> by_cases ao : y < w <;> by_cases aH : w < y <;> simp [h1, h2, ao, aH] <;> omega
 clear al;rcases cs with ⟨h1, h2, rfl⟩ | ⟨h1, h2, rfl⟩ | ⟨h1, ao, h2, rfl⟩ | ⟨h1, ao, h2, rfl⟩ | ⟨h1, ao, rfl⟩
 all_goals
  refine cq (f := 184) Tryz.func184 rfl rfl rfl rfl ?_;(repeat first | (with_reducible apply az); exact rfl | (with_reducible apply mh); (iterate 5 exact rfl) | (with_reducible apply UM); (iterate 4 exact rfl); kernel_rfl | (with_reducible apply dO (c := true)); exact rfl; exact rfl; ((simp only [hG]; (omega))) | (with_reducible apply dO (c := false)); exact rfl; exact rfl; ((simp only [hG]; (omega))) | (with_reducible first | apply bQ | apply bI | apply bO | apply aA | apply cf | apply e3 | apply fV) | (with_reducible apply gO); exact rfl; ((simp only [hG]; (omega))) | (with_reducible apply ia); exact rfl; ((simp only [hG]; (omega))))
  ((refine bY rfl (bD rfl bf) ?_))
  first
  | exact ai.bo.refl _
  | exact ai.bo.of_eq (by rw [b5 (show ¬ x < z by omega), Bool.false_beq, Bool.not_not]; rfl)
  | exact ai.bo.of_eq (by rw [bF (show x < z by omega), Bool.true_beq]; rfl)
  | exact ai.bo.of_eq (by rw [b5 (show ¬ y < w by omega), Bool.false_beq, Bool.not_not]; rfl)
  | exact ai.bo.of_eq (by rw [bF (show y < w by omega), Bool.true_beq]; rfl)
section
variable {P : Program} {s : aE} {ops : Array Oper} {K : aE → Prop} {rest : List Oper} {ty : Nat} {pos : String} {after : Array Edge} {guard : Option (Nat × Bool)} {d : Nat}
theorem Va {de dY : Nat} {x y : Operand} {a b : Int} (hw : want ops ⟨some d, .binOp .quo de x y dY, ty, pos, after, guard⟩ s = some true) (aa : s.look x = some (aU (.int .i64 a))) (ag : s.look y = some (aU (.int .i64 b))) (aJ : 0 ≤ a) (h1 : 0 < b) (h2 : a ≤ 9223372036854775807) (hd : Nat.blt d s.n = true) (h : bj P ops K rest (s.put (some d) (aU (.int .i64 (a / b))))) : bj P ops K (⟨some d, .binOp .quo de x y dY, ty, pos, after, guard⟩ :: rest) s := by
 refine q4 hw aa ag (fun W => ?_) rfl hd h;have ab : b ≠ 0 := by omega
 have e : a.tdiv b = a / b := Int.tdiv_eq_ediv_of_nonneg aJ
 have aM : IntKind.i64.wrap (a / b) = a / b := cZ (by
  have := qE aJ (show 0 ≤ b by omega);have := Int.ediv_le_self b aJ;omega)
 simp [binOp, Op.intDiv, ab, e, aM]
end
end Go.Proofs.YtpochbhajmbfdaaGreat
