/-
  My own texts, without what this claim does not need. My own text.
-/
import Derived.Lib.SliceRun
import Derived.Laws.BytesArg
import Derived.Test.YtbcecodakfejaaaGreatSKeepsK10
set_option maxRecDepth 100000
set_option maxHeartbeats 64000000
set_option linter.unusedVariables false
set_option linter.unusedSimpArgs false
set_option linter.unusedSectionVars false
open Go.Proofs.Tryz renaming prog → ag
namespace Go.Proofs.YtbcecodakfejaaaGreat
open Go.RowKit
theorem Cz {x A : Int} (h1 : -134217728 ≤ x) (h2 : x ≤ 134217728) (h3 : -144115188075855872 ≤ A) (aD : A ≤ 144115188075855872) : -19342813113834066795298816 ≤ x * A ∧ x * A ≤ 19342813113834066795298816 := by
 have := Eo h1 h2 h3 aD;omega
theorem R5 {l h A B n d : Int} (b7 : A ≠ B) (pw : -134217728 ≤ l) (l1 : l ≤ 134217728) (aA : -134217728 ≤ h) (h1 : h ≤ 134217728) (bq : -144115188075855872 ≤ A) (gZ : A ≤ 144115188075855872) (a8 : -144115188075855872 ≤ B) (mP : B ≤ 144115188075855872) (aw : ix (h * A - l * B) (A - B) = n) (hd : hI (A - B) = d) : au ag 128 [ax l, ax h, ax A, ax B] (fv n d) := by
 have b1 := Cz aA h1 bq gZ;have b2 := Cz pw l1 a8 mP;have vw := R4 (n := h) (m := A) (by omega) (by omega) (by omega) (by omega);have y3 := R4 (n := l) (m := B) (by omega) (by omega) (by omega) (by omega);have f1 : fits (h * A) = true := by unfold fits; rw [cg]; omega
 have f2 : fits (l * B) = true := by unfold fits; rw [cg]; omega
 have f3 : fits (h * A - l * B) = true := by unfold fits; rw [cg]; omega
 have f4 : fits (A - B) = true := by unfold fits; rw [cg]; omega
 have Vi := R3 f1 f2;have Vj := uU (n := A - B) (by omega) (by omega);simp only [wf, f3, if_true] at Vi
 have Vk : au ag 151 [gv (h * A - l * B), gv (A - B)] (.cz [CX n d, .one (.c (.bool true))]) := by
  by_cases q : A - B < 0
  ·unfold ix at aw;unfold hI at hd;rw [if_pos q] at aw hd;have g1 : fits (-(h * A - l * B)) = true := by unfold fits; rw [cg]; omega
   have g2 : fits (-(A - B)) = true := by unfold fits; rw [cg]; omega
   exact aeN f3 f4 q (s := true) (by rw [g1, g2]; rfl) (by rw [if_pos rfl, aw]) (by rw [if_pos rfl, hd])
  ·unfold ix at aw;unfold hI at hd;rw [if_neg q] at aw hd;have := aeO f3 f4 (by omega);rw [aw, hd] at this;rw [aw, hd];exact this
 obtain ⟨D, eN⟩ : ∃ D, A - B = D := ⟨_, rfl⟩;have w1 : IntKind.i64.wrap (A - B) = D := by rw [← eN]; exact k9 (by omega)
 rw [eN] at Vj Vk;clear f1 f2 f3 f4 b1 b2 aw hd eN bq gZ a8 mP b7;generalize h * A - l * B = X at *;generalize h * A = Y at *;generalize l * B = Z at *;refine bd (f := 128) Tryz.func128 rfl rfl rfl rfl ?_;(refine bS ?_)
 ((refine aW rfl (cD rfl rfl rfl aJ) ?_))
 exact ah.aK.refl _
instance akW : BX ag 150 0 0 false 1 := ⟨by kernel_rfl⟩
abbrev ai8 (k n d m e p1 p2 q1 q2 : Int) : ah := .w (.agg [.c (.int .i64 k), .c (.int .i64 (cn n)), .c (.int .u64 (dQ n)), .c (.int .i64 (cn d)), .c (.int .u64 (dQ d)), .c (.int .i64 (cn m)), .c (.int .u64 (dQ m)), .c (.int .i64 (cn e)), .c (.int .u64 (dQ e)), .c (.int .i64 p1), .c (.int .i64 p2), .c (.int .i64 q1), .c (.int .i64 q2)])
abbrev oT (M : fp) : ah := ai8 M.k M.n M.d M.m M.e M.p1 M.p2 M.q1 M.q2
theorem abw {s1 s2 bJ bK t1 t2 t3 t4 f1 f2 g1 g2 b4 ck iG ob : Int} {p q : Bool} {M : fp}
  (re : au ag 145 [aE s1 s2, aE t1 t2] (.cz [.agg [.c (.int .i64 b4), .c (.int .i64 ck)], .agg [.c (.int .i64 f1), .c (.int .i64 f2)]]))
  (sr : au ag 145 [aE bJ bK, aE t3 t4] (.cz [.agg [.c (.int .i64 g1), .c (.int .i64 g2)], .agg [.c (.int .i64 iG), .c (.int .i64 ob)]]))
  (H1 : au ag 147 [jL s1 s2 bJ bK, aE f1 f2] (a7 p)) (dd : au ag 147 [jL t1 t2 t3 t4, aE f1 f2] (a7 q))
  (mR : au ag 148 [ax f1] (fv f1 1)) (sn : au ag 148 [ax f2] (fv f2 1))
  (fT : (if (p && q) = true then s8 f1 f2 g1 g2 else fH) = M) : au ag 126 [jL s1 s2 bJ bK, jL t1 t2 t3 t4] (oT M) := by
 unfold s8 at fT;have hp : (f1 = g1 ∧ f2 = g2) ↔ bZ f1 f2 g1 g2 = true := iJ.symm
 have cs : (p = false ∧ M = fH) ∨ (p = true ∧ q = false ∧ M = fH) ∨ (p = true ∧ q = true ∧ bZ f1 f2 g1 g2 = true ∧ M = hJ f1 1 f2 1) ∨ (p = true ∧ q = true ∧ bZ f1 f2 g1 g2 = false ∧ M = o5 f1 f2 g1 g2) := by
  rw [← fT];cases ak : bZ f1 f2 g1 g2 <;> rw [ak] at hp <;> cases p <;> cases q <;> simp [hp]
 clear fT hp;refine bd (f := 126) Tryz.func126 rfl rfl rfl rfl ?_;(refine bS ?_);clear re sr;rcases cs with ⟨rfl, rfl⟩ | ⟨rfl, rfl, rfl⟩ | ⟨rfl, rfl, h, rfl⟩ | ⟨rfl, rfl, h, rfl⟩
 all_goals
  (refine bS ?_)
  ((refine aW rfl (cD rfl rfl rfl aJ) ?_))
  first | exact ah.aK.refl _ | exact ah.aK.of_eq (by simp only [fH, xS, x8]; rfl) | exact ah.aK.of_eq (by simp only [o5, xS, x8]; rfl)
theorem J9 {a1 a2 b1 b2 : Int} (h : bu a1 a2 = true) (k : bu b1 b2 = true) : bu (dy a1 a2 b1 b2) (dj a1 a2 b1 b2) = true := by
 rcases jW a1 a2 b1 b2 with ⟨_, _, h3, aD, _⟩ | ⟨_, _, h3, aD, _⟩ <;> rw [h3, aD] <;> assumption
theorem SM {a1 a2 b1 b2 : Int} (h : bu a1 a2 = true) (k : bu b1 b2 = true) : bu (dF a1 a2 b1 b2) (dk a1 a2 b1 b2) = true := by
 rcases jW a1 a2 b1 b2 with ⟨h3, aD, _⟩ | ⟨h3, aD, _⟩ <;> rw [h3, aD] <;> assumption
theorem afx {s1 s2 bJ bK t1 t2 t3 t4 : Int} (h1 : bu s1 s2 = true) (h2 : bu bJ bK = true) (h3 : bu t1 t2 = true) (aD : bu t3 t4 = true) : au ag 126 [jL s1 s2 bJ bK, jL t1 t2 t3 t4] (oT (inl s1 s2 bJ bK t1 t2 t3 t4)) := by
 have ap := J9 h1 h3;have ab := kv.1 ap;refine abw JU JU (RF (jk h1) (jk h2) (jk ap)) (RF (jk h3) (jk aD) (jk ap)) (RA (by omega) (by omega)) (RA (by omega) (by omega)) ?_;unfold inl;exact wo (by rw [c6, cg, cg])
theorem afc {a1 a2 b1 b2 c1 c2 d1 d2 : Int} (h : (bu a1 a2 && bu b1 b2 && bu c1 c2 && bu d1 d2) = false) : au ag 93 [aE a1 a2, aE b1 b2, aE c1 c2, aE d1 d2] (oT fH) := by
 have bf := pE (x := a1) (y := a2) rfl;have ev := pE (x := b1) (y := b2) rfl;have fR := pE (x := c1) (y := c2) rfl;have lT := pE (x := d1) (y := d2) rfl
 have cs : bu a1 a2 = false ∨ (bu a1 a2 = true ∧ bu b1 b2 = false) ∨ (bu a1 a2 = true ∧ bu b1 b2 = true ∧ bu c1 c2 = false) ∨ (bu a1 a2 = true ∧ bu b1 b2 = true ∧ bu c1 c2 = true ∧ bu d1 d2 = false) := by
  generalize bu a1 a2 = bV at *;generalize bu b1 b2 = cC at *;generalize bu c1 c2 = eY at *;generalize bu d1 d2 = iU at *;cases bV <;> cases cC <;> cases eY <;> cases iU <;> simp_all
 clear h;rcases cs with h1 | ⟨h1, h2⟩ | ⟨h1, h2, h3⟩ | ⟨h1, h2, h3, aD⟩ <;> simp only [*] at bf ev fR lT
 all_goals
  refine bd (f := 93) Tryz.func93 rfl rfl rfl rfl ?_;(refine bS ?_)
  ((refine aW rfl (cD rfl rfl rfl aJ) ?_))
  exact ah.aK.of_eq (by simp only [fH, xS, x8]; rfl)
theorem Xt {a1 a2 b1 b2 c1 c2 d1 d2 s1 s2 bJ bK t1 t2 t3 t4 A B C D n d m e : Int} {x y : Bool} {I M : fp}
  (bf : au ag 123 [aE a1 a2] (a7 true)) (ev : au ag 123 [aE b1 b2] (a7 true)) (fR : au ag 123 [aE c1 c2] (a7 true)) (lT : au ag 123 [aE d1 d2] (a7 true))
  (mP : au ag 124 [aE a1 a2, aE b1 b2] (jL s1 s2 bJ bK)) (sj : au ag 124 [aE c1 c2, aE d1 d2] (jL t1 t2 t3 t4))
  (gy : au ag 125 [jL s1 s2 bJ bK, aE t1 t2] (ax A)) (fA : au ag 125 [jL s1 s2 bJ bK, aE t3 t4] (ax B))
  (su : au ag 125 [jL t1 t2 t3 t4, aE s1 s2] (ax C)) (y1 : au ag 125 [jL t1 t2 t3 t4, aE bJ bK] (ax D))
  (B5 : au ag 127 [ax A, ax B] (a7 x)) (B6 : au ag 127 [ax C, ax D] (a7 y))
  (L : au ag 126 [jL s1 s2 bJ bK, jL t1 t2 t3 t4] (oT I))
  (ri : A ≠ B → au ag 128 [ax t1, ax t3, ax A, ax B] (fv n d)) (rj : A ≠ B → au ag 128 [ax t2, ax t4, ax A, ax B] (fv m e))
  (fT : (if A = B then I else if (x || y) = true then fH else hJ n d m e) = M) : au ag 93 [aE a1 a2, aE b1 b2, aE c1 c2, aE d1 d2] (oT M) := by
 have cs : (A = B ∧ M = I) ∨ (¬ A = B ∧ x = true ∧ M = fH) ∨ (¬ A = B ∧ x = false ∧ y = true ∧ M = fH) ∨ (¬ A = B ∧ x = false ∧ y = false ∧ M = hJ n d m e) := by
  rw [← fT]
  by_cases h : A = B
  ·simp [h]
  ·cases x <;> cases y <;> simp [h]
 clear fT;refine bd (f := 93) Tryz.func93 rfl rfl rfl rfl ?_;(refine bS ?_);clear bf ev fR lT mP sj gy fA;rcases cs with ⟨h, rfl⟩ | ⟨h, rfl, rfl⟩ | ⟨h, rfl, rfl, rfl⟩ | ⟨h, rfl, rfl, rfl⟩
 ·clear ri rj;(refine bS ?_)
  ((refine aW rfl (cD rfl rfl rfl aJ) ?_))
  exact ah.aK.refl _
 ·clear ri rj;(refine bS ?_)
  ((refine aW rfl (cD rfl rfl rfl aJ) ?_))
  exact ah.aK.of_eq (by simp only [fH, xS, x8]; rfl)
 ·clear ri rj;(refine bS ?_)
  ((refine aW rfl (cD rfl rfl rfl aJ) ?_))
  exact ah.aK.of_eq (by simp only [fH, xS, x8]; rfl)
 ·have Vq := ri h;have Vr := rj h;clear ri rj;(refine bS ?_)
  ((refine aW rfl (cD rfl rfl rfl aJ) ?_))
  exact ah.aK.refl _
theorem En {x y : Int} (h1 : -268435456 ≤ x) (h2 : x ≤ 268435456) (h3 : -268435456 ≤ y) (aD : y ≤ 268435456) : -72057594037927936 ≤ x * y ∧ x * y ≤ 72057594037927936 := by
 have := Eo h1 h2 h3 aD;omega
theorem M2 {o1 o2 a1 a2 b1 b2 : Int} (h1 : bu o1 o2 = true) (h2 : bu a1 a2 = true) (h3 : bu b1 b2 = true) : -144115188075855872 ≤ bW o1 o2 a1 a2 b1 b2 ∧ bW o1 o2 a1 a2 b1 b2 ≤ 144115188075855872 := by
 rw [kv] at h1 h2 h3;have m1 := En (x := a1 - o1) (y := b2 - o2) (by omega) (by omega) (by omega) (by omega);have m2 := En (x := a2 - o2) (y := b1 - o1) (by omega) (by omega) (by omega) (by omega);unfold bW;omega
def lC (a1 a2 b1 b2 c1 c2 d1 d2 : Int) : fp := if (bu a1 a2 && bu b1 b2 && bu c1 c2 && bu d1 d2) = true then gU a1 a2 b1 b2 c1 c2 d1 d2 else fH
theorem afd {a1 a2 b1 b2 c1 c2 d1 d2 : Int} (aF : bu a1 a2 = true) (ab : bu b1 b2 = true) (aj : bu c1 c2 = true) (hd : bu d1 d2 = true) : au ag 93 [aE a1 a2, aE b1 b2, aE c1 c2, aE d1 d2] (oT (gU a1 a2 b1 b2 c1 c2 d1 d2)) := by
 have bf := pE aF;have ev := pE ab;have fR := pE aj;have lT := pE hd;have mP := EO (a1 := a1) (a2 := a2) (b1 := b1) (b2 := b2);have sj := EO (a1 := c1) (a2 := c2) (b1 := d1) (b2 := d2);have q1 := SM aF ab;have q2 := J9 aF ab;have bB := SM aj hd;have cS := J9 aj hd;have l1 := uF a1 a2 b1 b2;have l2 := uF c1 c2 d1 d2;rw [← Ql];generalize dF a1 a2 b1 b2 = s1 at *;generalize dk a1 a2 b1 b2 = s2 at *;generalize dy a1 a2 b1 b2 = bJ at *;generalize dj a1 a2 b1 b2 = bK at *;generalize dF c1 c2 d1 d2 = t1 at *;generalize dk c1 c2 d1 d2 = t2 at *;generalize dy c1 c2 d1 d2 = t3 at *;generalize dj c1 c2 d1 d2 = t4 at *;have ba := M2 q1 q2 bB;have bo := M2 q1 q2 cS;have i3 := kv.1 bB;have i4 := kv.1 cS
 refine Xt bf ev fR lT mP sj (EN (jk q1) (jk q2) (jk bB)) (EN (jk q1) (jk q2) (jk cS)) (EN (jk bB) (jk cS) (jk q1)) (EN (jk bB) (jk cS) (jk q2)) (RW rfl) (RW rfl) (afx q1 q2 bB cS)
  (fun b7 => R5 b7 i3.1.1 i3.1.2 i4.1.1 i4.1.2 ba.1 ba.2 bo.1 bo.2 rfl rfl) (fun b7 => R5 b7 i3.2.1 i3.2.2 i4.2.1 i4.2.2 ba.1 ba.2 bo.1 bo.2 rfl rfl) ?_
 rw [← ac6 l1 l2];unfold Jp
 by_cases h : bW s1 s2 bJ bK t1 t2 = bW s1 s2 bJ bK t3 t4
 ·rw [if_pos h, if_pos h]
 ·rw [if_neg h, if_neg h];exact wo (by rw [oJ, cg, cg])
theorem JR {a1 a2 b1 b2 c1 c2 d1 d2 : Int} : au ag 93 [aE a1 a2, aE b1 b2, aE c1 c2, aE d1 d2] (oT (lC a1 a2 b1 b2 c1 c2 d1 d2)) := by
 unfold lC
 by_cases h : (bu a1 a2 && bu b1 b2 && bu c1 c2 && bu d1 d2) = true
 ·rw [if_pos h];simp only [c6] at h;exact afd h.1.1.1 h.1.1.2 h.1.2 h.2
 ·rw [if_neg h];exact afc (by simpa using h)
def tZ (M : fp) (a1 a2 b1 b2 c1 c2 d1 d2 : Int) : Bool :=
 if M.k = 1 then bZ a1 a2 c1 c2 || bZ a1 a2 d1 d2 || bZ b1 b2 c1 c2 || bZ b1 b2 d1 d2
 else if M.k = 2 then ua (dF a1 a2 b1 b2) (dk a1 a2 b1 b2) (dy a1 a2 b1 b2) (dj a1 a2 b1 b2) (dF c1 c2 d1 d2) (dk c1 c2 d1 d2) (dy c1 c2 d1 d2) (dj c1 c2 d1 d2)
 else true
theorem Xa {a1 a2 b1 b2 c1 c2 d1 d2 s1 s2 bJ bK t1 t2 t3 t4 : Int} {M : fp} {r : Bool} (aS : au ag 93 [aE a1 a2, aE b1 b2, aE c1 c2, aE d1 d2] (oT M))
  (mP : au ag 124 [aE a1 a2, aE b1 b2] (jL s1 s2 bJ bK)) (sj : au ag 124 [aE c1 c2, aE d1 d2] (jL t1 t2 t3 t4))
  (al : (if M.k = 1 then bZ a1 a2 c1 c2 || bZ a1 a2 d1 d2 || bZ b1 b2 c1 c2 || bZ b1 b2 d1 d2 else if M.k = 2 then ua s1 s2 bJ bK t1 t2 t3 t4 else true) = r) : au ag 138 [aE a1 a2, aE b1 b2, aE c1 c2, aE d1 d2] (a7 r) := by
 obtain ⟨k, n, d, m, e, p1, p2, q1, q2⟩ := M;simp only at al aS
 have cs : (k = 1 ∧ bZ a1 a2 c1 c2 = true ∧ r = true) ∨ (k = 1 ∧ bZ a1 a2 c1 c2 = false ∧ bZ a1 a2 d1 d2 = true ∧ r = true) ∨ (k = 1 ∧ bZ a1 a2 c1 c2 = false ∧ bZ a1 a2 d1 d2 = false ∧ bZ b1 b2 c1 c2 = true ∧ r = true) ∨ (k = 1 ∧ bZ a1 a2 c1 c2 = false ∧ bZ a1 a2 d1 d2 = false ∧ bZ b1 b2 c1 c2 = false ∧ r = bZ b1 b2 d1 d2) ∨ (¬ k = 1 ∧ k = 2 ∧ r = ua s1 s2 bJ bK t1 t2 t3 t4) ∨ (¬ k = 1 ∧ ¬ k = 2 ∧ r = true) := by
  rw [← al]
  by_cases h1 : k = 1
  ·rw [if_pos h1];cases bZ a1 a2 c1 c2 <;> cases bZ a1 a2 d1 d2 <;> cases bZ b1 b2 c1 c2 <;> simp [h1]
  ·rw [if_neg h1]
   by_cases h2 : k = 2
   ·rw [if_pos h2]; simp [h2]
   ·rw [if_neg h2]; simp [h1, h2]
 clear al;refine bd (f := 138) Tryz.func138 rfl rfl rfl rfl ?_;(refine bS ?_);clear aS;rcases cs with ⟨h1, h2, rfl⟩ | ⟨h1, h2, h3, rfl⟩ | ⟨h1, h2, h3, aD, rfl⟩ | ⟨h1, h2, h3, aD, rfl⟩ | ⟨h1, h2, rfl⟩ | ⟨h1, h2, rfl⟩
 all_goals
  (repeat first | refine dv ?_ | refine e7 ?_ | (with_reducible apply bP (c := true)); rfl; rfl; (assumption) | (with_reducible apply bP (c := false)); rfl; rfl; (assumption))
  ((refine aW rfl (aY rfl aJ) ?_))
  first | exact ah.aK.refl _ | exact ah.aK.of_eq (by rw [h2]; rfl) | exact ah.aK.of_eq (by rw [h3]; rfl) | exact ah.aK.of_eq (by rw [aD]; rfl)
theorem afb {a1 a2 b1 b2 c1 c2 d1 d2 : Int} : au ag 138 [aE a1 a2, aE b1 b2, aE c1 c2, aE d1 d2] (a7 (tZ (lC a1 a2 b1 b2 c1 c2 d1 d2) a1 a2 b1 b2 c1 c2 d1 d2)) :=
 Xa JR EO EO rfl
end Go.Proofs.YtbcecodakfejaaaGreat
namespace Go.Proofs.YtbcecodakfejaaaGreat.br
abbrev bO := ao × ao
def ep (r : Nat) (p : ao) : ao := (cx p.1 r, cx p.2 r)
abbrev dm : bO := ((0, 0), (0, 0))
def gC (a b : bO) : fp := gU a.1.1 a.1.2 a.2.1 a.2.2 b.1.1 b.1.2 b.2.1 b.2.2
def qm (a b : bO) : Bool := tZ (gC a b) a.1.1 a.1.2 a.2.1 a.2.2 b.1.1 b.1.2 b.2.1 b.2.2
def iS (r : Nat) (M : fp) : ao := (gE (2 ^ r) M.n M.d, gE (2 ^ r) M.m M.e)
def oq (r : Nat) (p : ao) : ao := (2 ^ r * p.1, 2 ^ r * p.2)
def gz (r : Nat) (l : ao × ao) : bO := (oq r l.1, oq r l.2)
def Ic (r : Nat) (p q x : ao) : Bool := qH (2 ^ r * p.1) (2 ^ r * p.2) (2 ^ r * q.1) (2 ^ r * q.2) r x
def fP (p q : ao) (l : List ao) : List ao := sb (decide (q.1 < p.1)) (decide (q.2 < p.2)) (fun _ => true) l
def qj (r : Nat) (l m : ao × ao) : Option ao := if (gC (gz r l) (gz r m)).k = 1 ∧ qm (gz r l) (gz r m) = false then some (iS r (gC (gz r l) (gz r m))) else none
def wN (r : Nat) (a b : bO) : Option ao := if (gC a b).k = 1 then some (iS r (gC a b)) else none
def pB (E : List bO) (r R : Nat) : cw ao where
 qy := Ic r
 gb := fP
 cut := qj r
 n := E.length
 P i := ep r (E.getD i dm).1
 Q i := ep r (E.getD i dm).2
 iy i j := wN r (E.getD i dm) (E.getD j dm)
 R := R
 gP x := eA r x.1 x.2 = true
def gD (p : ao) : Bool := decide (-134217728 ≤ p.1) && decide (p.1 < 134217728) && decide (-134217728 ≤ p.2) && decide (p.2 < 134217728)
def gJ (E : List bO) : Bool := E.all fun e => gD e.1 && gD e.2
theorem qK {p : ao} : gD p = true ↔ ((-134217728 ≤ p.1 ∧ p.1 < 134217728) ∧ -134217728 ≤ p.2 ∧ p.2 < 134217728) := by
 unfold gD; simp only [c6, cg]; omega
theorem qJ {E : List bO} (h : gJ E = true) (i : Nat) : gD (E.getD i dm).1 = true ∧ gD (E.getD i dm).2 = true := by
 rw [gF];cases he : E[i]? with
 | none => exact ⟨by decide, by decide⟩
 | some e =>
  have := cB.1 h e (dc he);exact Bool.and_eq_true_iff.1 this
theorem C9 (v : Int) (r : Nat) : cx v r = gE (2 ^ r) v 1 := by
 unfold cx gE; rw [Int.mul_one]
theorem SA {S X W vx bk : Int} (hS : 0 < S) (dT : 0 < W) (zG : 0 < bk) (h : X * bk ≤ vx * W) : gE S X W ≤ gE S vx bk := by
 obtain ⟨a1, a2⟩ := E8 hS dT X;obtain ⟨b1, b2⟩ := E8 hS zG vx;generalize gE S X W = g at *;generalize gE S vx bk = jP at *;refine Int.not_lt.1 fun bb => ?_;have h1 : S * (jP + 1) ≤ S * g := pO bb (by omega);rw [Int.mul_add, Int.mul_one] at h1;generalize S * g = G at *;generalize S * jP = w6 at *;have c1 : (2 * w6 + S) * W ≤ (2 * G - S) * W := lK (by omega) (by omega);have c2 : (2 * w6 + S) * W ≤ 2 * X := by omega
 have jA : (2 * w6 + S) * W * bk ≤ 2 * X * bk := lK c2 (by omega);have rv : 2 * vx * W < (2 * w6 + S) * bk * W := Int.mul_lt_mul_of_pos_right b2 dT;have aG : (2 * w6 + S) * W * bk = (2 * w6 + S) * bk * W := by rw [j5, gq W, ← j5]
 have aO : 2 * X * bk = 2 * (X * bk) := j5 ..;have cl : 2 * vx * W = 2 * (vx * W) := j5 ..;omega
theorem BJ {m lo hi x : Int} (h1 : wi m lo = true) (h2 : wi m hi = true) (h3 : lo ≤ x) (aD : x ≤ hi) : wi m x = true := by
 unfold wi at *; simp only [c6, cg] at *; omega
theorem YB {r : Nat} (al : r ≤ 28) : wi (134217728 / 2 ^ r) (cx (-134217728) r) = true ∧ wi (134217728 / 2 ^ r) (cx 134217727 r) = true := by
 have : r = 0 ∨ r = 1 ∨ r = 2 ∨ r = 3 ∨ r = 4 ∨ r = 5 ∨ r = 6 ∨ r = 7 ∨ r = 8 ∨ r = 9 ∨ r = 10 ∨ r = 11 ∨ r = 12 ∨ r = 13 ∨ r = 14 ∨ r = 15 ∨ r = 16 ∨ r = 17 ∨ r = 18 ∨ r = 19 ∨ r = 20 ∨ r = 21 ∨ r = 22 ∨ r = 23 ∨ r = 24 ∨ r = 25 ∨ r = 26 ∨ r = 27 ∨ r = 28 := by omega
 rcases this with rfl | rfl | rfl | rfl | rfl | rfl | rfl | rfl | rfl | rfl | rfl | rfl | rfl | rfl | rfl | rfl | rfl | rfl | rfl | rfl | rfl | rfl | rfl | rfl | rfl | rfl | rfl | rfl | rfl <;> exact ⟨by decide, by decide⟩
theorem E9 {r : Nat} (al : r ≤ 28) {X W : Int} (dT : 0 < W) (h1 : -134217728 * W ≤ X) (h2 : X ≤ 134217727 * W) : wi (134217728 / 2 ^ r) (gE (2 ^ r) X W) = true := by
 have hS : (0 : Int) < 2 ^ r := hL (by decide);have g := YB al;rw [C9, C9] at g;exact BJ g.1 g.2 (SA hS (by decide) dT (by omega)) (SA hS dT (by decide) (by omega))
theorem yd {r : Nat} (al : r ≤ 28) {p : ao} (h : gD p = true) : eA r (ep r p).1 (ep r p).2 = true := by
 have h := qK.1 h;unfold eA ep;rw [C9, C9, E9 al (by decide) (by omega) (by omega), E9 al (by decide) (by omega) (by omega)]; rfl
theorem D3 {a b : bO} (h : (gC a b).k = 1) : ∃ X Y W bk, gC a b = hJ X W Y bk := by
 unfold gC gU at h ⊢
 split at h
 ·rename_i hw;rw [if_pos hw];unfold uD inl at h ⊢
  split at h
  ·rename_i z6;rw [if_pos z6];unfold s8 at h ⊢
   split at h
   ·rename_i he;rw [if_pos he]; exact ⟨_, _, _, _, rfl⟩
   ·simp [o5] at h
  ·simp [fH] at h
 ·rename_i hw;rw [if_neg hw];unfold mb tg at h ⊢
  split at h
  ·rename_i ap;rw [if_pos ap]; exact ⟨_, _, _, _, rfl⟩
  ·simp [fH] at h
theorem Hh {a b : bO} (h : (gC a b).k = 1) : qm a b = true ↔ (a.1 = b.1 ∨ a.1 = b.2 ∨ a.2 = b.1 ∨ a.2 = b.2) := by
 have e : ∀ p q : ao, bZ p.1 p.2 q.1 q.2 = true ↔ p = q := fun p q => by rw [iJ, Prod.ext_iff]
 unfold qm tZ;rw [if_pos h];simp only [oJ, e, or_assoc]
theorem Xk {r : Nat} {p q : ao} : oq r p = oq r q ↔ p = q := by
 have hS : (2 : Int) ^ r ≠ 0 := by have : (0 : Int) < 2 ^ r := hL (by decide); omega
 unfold oq;rw [Prod.ext_iff, Prod.ext_iff];exact ⟨fun ⟨h1, h2⟩ => ⟨Int.eq_of_mul_eq_mul_left hS h1, Int.eq_of_mul_eq_mul_left hS h2⟩, fun ⟨h1, h2⟩ => ⟨by rw [h1], by rw [h2]⟩⟩
theorem Nz {r : Nat} {l m : ao × ao} (h : (gC (gz r l) (gz r m)).k = 1) : qm (gz r l) (gz r m) = true ↔ y2 l m := by
 rw [Hh h]; unfold gz y2; simp only [Xk]
theorem E6 {r : Nat} {a b : bO} {X Y W bk : Int} (e : gC a b = hJ X W Y bk) : bk = W ∧ 0 < W ∧ iS r (gC a b) = (gE (2 ^ r) X W, gE (2 ^ r) Y W) ∧ vo (2 ^ r) X Y W (iS r (gC a b)) := by
 obtain ⟨h1, h2, _⟩ := AR e;have hS : (0 : Int) < 2 ^ r := hL (by decide);have aO : iS r (gC a b) = (gE (2 ^ r) X W, gE (2 ^ r) Y W) := by rw [e]; unfold iS hJ; rw [h1]
 exact ⟨h1, h2, aO, by rw [aO]; exact aby hS h2⟩
theorem rF {r : Nat} {p : ao} (h : eA r p.1 p.2 = true) : bu (2 ^ r * p.1) (2 ^ r * p.2) = true := by
 have h := (Ay r _ _).1 h;unfold bu; simp only [c6, cg]; omega
theorem ahs (E : List bO) {r : Nat} (al : r ≤ 28) (R : Nat) : yZ (2 ^ r) (pB E r R) where
 pos := hL (by decide)
 aai p q x h := by
  have h : qH _ _ _ _ _ _ = true := h;unfold qH at h;rw [zS al, Jo] at h;exact h.2.2
 OP p q x hp ak aa h := by
  show qH _ _ _ _ _ _ = true;unfold qH;have aa : eA r x.1 x.2 = true := aa;have kk := (Ay r _ _).1 aa;have aew := A6 al;rw [zS al, Jo, Qg];refine ⟨aa, ⟨rF hp, rF ak, ?_, ?_, rfl⟩, h⟩
  ·rw [xt]; omega
  ·rw [xt]; omega
 M4 l m x h := by
  have h : qj r l m = some x := h;unfold qj at h
  split at h
  ·rename_i af;cases h;obtain ⟨X, Y, W, bk, e⟩ := D3 af.1;refine ⟨fun hs => ?_, X, Y, W, bk, e, (E6 e).2.2.2⟩;have := (Nz af.1).2 hs;rw [af.2] at this; cases this
  ·cases h
 XD l m _ _ _ _ h af := by
  have h : qj r l m = none := h;unfold qj at h
  split at h
  ·cases h
  ·rename_i aw;refine (Nz af).1 ?_;cases he : qm (gz r l) (gz r m) with
   | true => rfl
   | false => exact absurd ⟨af, he⟩ aw
def wP (r : Nat) (V : List ao) (D : List Int) : Prop :=
 V ≠ [] ∧ V.length = D.length + 1 ∧ (∀ v ∈ V, eA r v.1 v.2 = true) ∧ iI (· ≠ ·) V ∧ (iI (fun p q => p.1 ≤ q.1) V ∨ iI (fun p q => q.1 ≤ p.1) V) ∧ (iI (fun p q => p.2 ≤ q.2) V ∨ iI (fun p q => q.2 ≤ p.2) V)
theorem GY {R T : ao → ao → Prop} : ∀ {l : List ao}, iI R l → iI T l → iI (fun p q => R p q ∧ T p q) l
 | [], _, _ => trivial
 | [_], _, _ => trivial
 | p :: q :: W, h, aM => ⟨⟨h.1, aM.1⟩, GY (l := q :: W) h.2 aM.2⟩
theorem MU {R : ao → ao → Prop} (aB : ∀ a b c, R a b → R b c → R a c) : ∀ {l : List ao}, iI R l → l.Pairwise R
 | [], _ => .nil
 | [_], _ => by simp
 | p :: q :: W, h => by
  have b9 := MU aB (l := q :: W) h.2;refine jK.2 ⟨fun x aa => ?_, b9⟩;rcases fl.1 aa with rfl | aa
  ·exact h.1
  ·exact aB _ _ _ h.1 ((jK.1 b9).1 x aa)
theorem CF {R T : ao → ao → Prop} (h1 : ∀ a b c, R a b → R b c → R a c) (h2 : ∀ a b c, T a b → T b c → T a c) (aF : ∀ a b, R a b → R b a → T a b → T b a → a = b) {l : List ao} (al : iI R l) (aB : iI T l) (aw : iI (· ≠ ·) l) : l.Nodup := by
 have := MU (R := fun p q => (R p q ∧ T p q) ∧ p ≠ q) (fun a b c x y => ⟨⟨h1 _ _ _ x.1.1 y.1.1, h2 _ _ _ x.1.2 y.1.2⟩, fun e => by subst e; exact x.2 (aF _ _ x.1.1 y.1.1 x.1.2 y.1.2)⟩) (GY (GY al aB) aw);exact this.imp fun h => h.2
theorem wP.nodup {r : Nat} {V : List ao} {D : List Int} (h : wP r V D) : V.Nodup := by
 obtain ⟨_, _, _, aw, aa, ai⟩ := h;rcases aa with aa | aa <;> rcases ai with ai | ai
 ·exact CF (R := fun p q : ao => p.1 ≤ q.1) (T := fun p q : ao => p.2 ≤ q.2) (fun a b c => Int.le_trans) (fun a b c => Int.le_trans) (fun a b h1 h2 h3 aD => ku (r5 h1 h2) (r5 h3 aD)) aa ai aw
 ·exact CF (R := fun p q : ao => p.1 ≤ q.1) (T := fun p q : ao => q.2 ≤ p.2) (fun a b c => Int.le_trans) (fun a b c h aM => Int.le_trans aM h) (fun a b h1 h2 h3 aD => ku (r5 h1 h2) (r5 aD h3)) aa ai aw
 ·exact CF (R := fun p q : ao => q.1 ≤ p.1) (T := fun p q : ao => p.2 ≤ q.2) (fun a b c h aM => Int.le_trans aM h) (fun a b c => Int.le_trans) (fun a b h1 h2 h3 aD => ku (r5 h2 h1) (r5 h3 aD)) aa ai aw
 ·exact CF (R := fun p q : ao => q.1 ≤ p.1) (T := fun p q : ao => q.2 ≤ p.2) (fun a b c h aM => Int.le_trans aM h) (fun a b c h aM => Int.le_trans aM h) (fun a b h1 h2 h3 aD => ku (r5 h2 h1) (r5 aD h3)) aa ai aw
theorem CZ (r : Nat) (a b : Int) : decide ((2 : Int) ^ r * a < 2 ^ r * b) = decide (a < b) := by
 have hS : (0 : Int) < 2 ^ r := hL (by decide);rw [decide_eq_decide];exact ⟨fun h => Int.lt_of_mul_lt_mul_left h (by omega), fun h => Int.mul_lt_mul_of_pos_left h hS⟩
theorem Nf {fx fy : Bool} {p q : ao} : ∀ (l out : List ao), (∀ x ∈ l, x ≠ p ∧ x ≠ q) → (out ++ l).Nodup → l.foldl (qk p q) out = out ++ l
 | [], out, _, _ => by simp
 | x :: l, out, h, hd => by
  have aa := h x (lI ..);have e : qk p q out x = out ++ [x] := if_pos ⟨aa.1, aa.2, fun he => (List.nodup_append.1 hd).2.2 x (List.mem_of_getLast? he) x (lI ..) rfl⟩;rw [pN, e, Nf (fx := fx) (fy := fy) l (out ++ [x]) (fun y ai => h y (pJ _ ai)) (by simpa using hd), hK]; rfl
theorem aiq {fx fy : Bool} {f g : ao → Bool} {l : List ao} (h : ∀ x ∈ l, f x = g x) : sb fx fy f l = sb fx fy g l := by
 unfold sb
 have key : ∀ (l out : List ao), (∀ x ∈ l, f x = g x) → l.foldl (fun out q => if f q then mC fx fy q out else out) out = l.foldl (fun out q => if g q then mC fx fy q out else out) out := by
  intro l
  induction l with
  | nil => intro out _; rfl
  | cons x l b9 =>
   intro out h;rw [pN, pN, h x (lI ..)];exact b9 _ fun y ai => h y (pJ _ ai)
 exact key l [] h
theorem C5 {E : List bO} {r R : Nat} {p q x : ao} : hB (pB E r R) p q x = true ↔ x ≠ p ∧ x ≠ q ∧ Ic r p q x = true := by
 unfold hB; simp only [c6, cg, and_assoc]; exact Iff.rfl
theorem Bw (p q : ao) (bi : List ao) : (fP p q bi).Perm bi := by
 have := FF (decide (q.1 < p.1)) (decide (q.2 < p.2)) (fun _ => true) bi;rwa [List.filter_eq_self.2 (fun _ _ => rfl)] at this
theorem KE {E : List bO} {r R : Nat} {p q : ao} {bi : List ao} (aw : bi.Nodup) (h : ∀ x ∈ bi, hB (pB E r R) p q x = true) : fP p q bi = sB r bi p q := by
 unfold sB Nd;rw [CZ, CZ, ← aiq (f := fun _ => true) (g := qH (2 ^ r * p.1) (2 ^ r * p.2) (2 ^ r * q.1) (2 ^ r * q.2) r) (fun x aa => ((C5.1 (h x aa)).2.2).symm)];have hp := Bw p q bi;show fP p q bi = (fP p q bi).foldl (qk p q) [];rw [Nf (fx := false) (fy := false) (fP p q bi) [] (fun x aa => ⟨(C5.1 (h x (hp.mem_iff.1 aa))).1, (C5.1 (h x (hp.mem_iff.1 aa))).2.1⟩) (by simpa using hp.nodup_iff.2 aw)];rfl
theorem MT {R : ao → ao → Prop} : ∀ {A B : List ao} {q : ao}, iI R (A ++ q :: B) → iI R (A ++ [q]) ∧ iI R (q :: B)
 | [], _, _, h => ⟨trivial, h⟩
 | [a], _, _, h => ⟨⟨h.1, trivial⟩, h.2⟩
 | a :: b :: A, B, q, h => by
  have b9 := MT (A := b :: A) h.2;exact ⟨⟨h.1, b9.1⟩, b9.2⟩
theorem aiY {V : List ao} {j : Nat} {p q : ao} (hp : V[j]? = some p) (ak : V[j + 1]? = some q) : ∃ A B, V = A ++ p :: q :: B ∧ A.length = j ∧ ∀ l, b5 V j l = A ++ p :: (l ++ q :: B) := by
 obtain ⟨h1, aG⟩ := bL.1 hp;obtain ⟨h2, aO⟩ := bL.1 ak;have hd := XX hp ak;refine ⟨V.take j, V.drop (j + 2), by rw [← hd, kr], by rw [ei]; omega, fun l => ?_⟩;unfold b5;rw [mM h1, aG, nm h2, aO];simp
theorem zi {R : ao → ao → Prop} {V l : List ao} {j : Nat} {p q : ao} (hp : V[j]? = some p) (ak : V[j + 1]? = some q) (h : iI R V) (hl : R p q → iI R (p :: (l ++ [q]))) : iI R (b5 V j l) := by
 obtain ⟨A, B, e, _, rB⟩ := aiY hp ak;rw [rB];rw [e] at h;obtain ⟨h1, h2⟩ := MT h;refine GZ h1 ?_;have h3 := hl h2.1;have := GZ (A := p :: l) (q := q) (W := B) h3 h2.2;exact this
theorem wP.cut {E : List bO} {r R : Nat} (al : r ≤ 28) {V : List ao} {D : List Int} (h : wP r V D) {j : Nat} {p q : ao} {bi : List ao} (hp : V[j]? = some p) (ak : V[j + 1]? = some q) (aw : bi.Nodup) (an : ∀ x ∈ bi, hB (pB E r R) p q x = true) : wP r (b5 V j (fP p q bi)) (eB D j bi.length) := by
 obtain ⟨h1, h2, h3, aD, fs, kb⟩ := h;have hS : (0 : Int) < 2 ^ r := hL (by decide);have ae := (bL.1 ak).1;rw [KE aw an];have mz := Cs al bi p q;have hlen : (sB r bi p q).length = bi.length := by rw [← KE aw an]; exact (Bw p q bi).length_eq
 refine ⟨fun aA => ?_, ?_, fun v hv => ?_, ?_, ?_, ?_⟩
 ·have := congrArg List.length aA;rw [zj, List.length_nil] at this; omega
 ·rw [zj, G6 (by omega), hlen]; omega
 ·rcases M9 hv with hv | hv
  ·exact h3 v hv
  ·exact (mz.2.1 v hv).2.1
 ·exact zi hp ak aD fun iN => WO al bi p q iN
 ·refine fs.imp (fun h => zi hp ak h fun iN => Cu al bi p q iN (fun x aa => ?_) (fun x y u w hu hw s4 => ?_)) (fun h => zi hp ak h fun iN => Cu al bi p q iN (fun x aa => ?_) (fun x y u w hu hw s4 => ?_))
  ·obtain ⟨u, hu⟩ := aa; exact (Ek hS hu.1.1 hu.1.2 hu.2.1).1 iN
  ·exact Em hS hu.2.1 hw.2.1 s4 iN
  ·obtain ⟨u, hu⟩ := aa; exact ((Ek hS hu.1.1 hu.1.2 hu.2.1).2 iN).symm
  ·exact El hS hu.2.1 hw.2.1 s4 iN
 ·refine kb.imp (fun h => zi hp ak h fun iN => Cu al bi p q iN (fun x aa => ?_) (fun x y u w hu hw s4 => ?_)) (fun h => zi hp ak h fun iN => Cu al bi p q iN (fun x aa => ?_) (fun x y u w hu hw s4 => ?_))
  ·obtain ⟨u, hu⟩ := aa; exact (Ek hS hu.1.1 hu.1.2 hu.2.2).1 iN
  ·exact Em hS hu.2.2 hw.2.2 s4 iN
  ·obtain ⟨u, hu⟩ := aa; exact ((Ek hS hu.1.1 hu.1.2 hu.2.2).2 iN).symm
  ·exact El hS hu.2.2 hw.2.2 s4 iN
def tk (r : Nat) (e : bO) (d : Int) (t : Rat) (x : ao) : Prop := yf e.1.1 e.1.2 e.2.1 e.2.2 (2 ^ r) (bn d * bn (2 ^ r)) t x
theorem adZ {r : Nat} {e : bO} {d d' : Int} (h : d ≤ d') {t : Rat} {x : ao} (aa : tk r e d t x) : tk r e d' t x := by
 refine ad1 ?_ aa;have hS : (0 : Rat) < bn (2 ^ r) := qU (hL (by decide));exact Rat.mul_le_mul_of_nonneg_right (r6.2 h) (Rat.le_of_lt hS)
theorem MW {r : Nat} {e : bO} {p q : ao} {d : Int} {t1 t2 : Rat} (zy : t1 ≤ t2) (HC : t2 ≤ 1) (hp : tk r e d t1 p) (ak : tk r e d t2 q) : ∀ (l : List ao) (kY : Rat), 0 ≤ kY → kY ≤ 1 → (∀ x ∈ l, ∀ u, rb (2 ^ r) p q u x → kY ≤ u) → (∀ x ∈ l, ∃ u, rb (2 ^ r) p q u x) → kB (decide ((2 : Int) ^ r * q.1 < 2 ^ r * p.1)) (decide ((2 : Int) ^ r * q.2 < 2 ^ r * p.2)) l → CH (tk r e) (d + 1) t2 (t1 + kY * (t2 - t1)) l
 | [], kY, aA, h1, _, _, _ => by
  show t1 + kY * (t2 - t1) ≤ t2;have := kV (show 0 ≤ 1 - kY by grind) (show 0 ≤ t2 - t1 by grind);grind
 | x :: l, kY, aA, h1, hu, hm, aF => by
  have hS : (0 : Int) < 2 ^ r := hL (by decide);obtain ⟨u, x0⟩ := hm x (lI ..);have aj := jK.1 aF;have h2 := hu x (lI ..) u x0;have ba := kV (show 0 ≤ u - kY by grind) (show 0 ≤ t2 - t1 by grind);have bo := kV (show 0 ≤ 1 - u by have := x0.1.2; grind) (show 0 ≤ t2 - t1 by grind)
  have aa : tk r e (d + 1) (t1 + u * (t2 - t1)) x := by
   have := ad0 hp ak x0;unfold tk;rw [show bn (d + 1) = bn d + 1 by simp [bn, tv]];exact this
  exact ⟨t1 + u * (t2 - t1), by grind, by grind, aa, MW zy HC hp ak l u x0.1.1 x0.1.2 (fun y ai w hw => Qr hS x0 hw (aj.1 y ai)) (fun y ai => hm y (pJ _ ai)) aj.2⟩
def EJ (E : List bO) (r : Nat) (i : Nat) (c : List ao × List Int) : Prop := wP r c.1 c.2 ∧ sH (tk r (E.getD i dm)) 0 c.1 c.2
theorem ED {r : Nat} (a b : Int) : tj (bn a) (bn b) (2 * (bn (2 ^ r) * bn (cx a r))) (bn 1 * bn (2 ^ r)) 0 ∧ tj (bn b) (bn a) (2 * (bn (2 ^ r) * bn (cx a r))) (bn 1 * bn (2 ^ r)) 1 := by
 have en : (0 : Int) < 2 ^ r := hL (by decide);obtain ⟨g0, g1⟩ : 2 * (cx a r * 2 ^ r) ≤ 2 * a + 2 ^ r ∧ 2 * a + 2 ^ r < 2 * (cx a r * 2 ^ r) + 2 * 2 ^ r := YY en;have q0 := r6.2 g0;have q1 := Ka.2 g1;have z : bn 1 = 1 := by simp [bn]
 rw [z];simp only [bn, tv, Rat.intCast_mul] at q0 q1 ⊢;generalize ((2 ^ r : Int) : Rat) = S at *;generalize ((cx a r : Int) : Rat) = g at *;generalize ((a : Int) : Rat) = a' at *;generalize ((b : Int) : Rat) = bE at *;have aO : ((2 : Int) : Rat) = 2 := by simp
 rw [aO] at q0 q1;refine ⟨⟨?_, ?_⟩, ?_, ?_⟩ <;> grind
theorem Xr {r : Nat} (e : bO) : sH (tk r e) 0 (fj (ep r e.1) (ep r e.2)).1 (fj (ep r e.1) (ep r e.2)).2 :=
 Xq ⟨(ED e.1.1 e.2.1).1, (ED e.1.2 e.2.2).1⟩ ⟨(ED e.2.1 e.1.1).2, (ED e.2.2 e.1.2).2⟩
theorem adS {r : Nat} {p q : ao} (hp : eA r p.1 p.2 = true) (ak : eA r q.1 q.2 = true) : wP r (fj p q).1 (fj p q).2 := by
 unfold fj
 split
 ·exact ⟨by simp, rfl, fun v hv => by rw [hx.1 hv]; exact hp, trivial, .inl trivial, .inl trivial⟩
 ·rename_i b7;refine ⟨by simp, rfl, fun v hv => ?_, ⟨b7, trivial⟩, ?_, ?_⟩
  ·simp only [fl, pK, or_false] at hv;rcases hv with rfl | rfl
   ·exact hp
   ·exact ak
  ·rcases Int.le_total p.1 q.1 with h | h
   ·exact .inl ⟨h, trivial⟩
   ·exact .inr ⟨h, trivial⟩
  ·rcases Int.le_total p.2 q.2 with h | h
   ·exact .inl ⟨h, trivial⟩
   ·exact .inr ⟨h, trivial⟩
theorem Mw {X W a b n d : Int} (dT : 0 < W) (hd : 0 < d) (aw : 0 ≤ n ∧ n ≤ d) (e : X * d = W * (a * (d - n) + b * n)) {lo hi : Int} (aF : lo ≤ a ∧ a ≤ hi) (ab : lo ≤ b ∧ b ≤ hi) : lo * W ≤ X ∧ X ≤ hi * W := by
 have a1 := ga (show 0 ≤ a - lo by omega) (show 0 ≤ d - n by omega);have a2 := ga (show 0 ≤ hi - a by omega) (show 0 ≤ d - n by omega);have b1 := ga (show 0 ≤ b - lo by omega) aw.1;have b2 := ga (show 0 ≤ hi - b by omega) aw.1;have s1 : lo * d ≤ a * (d - n) + b * n := by grind
 have s2 : a * (d - n) + b * n ≤ hi * d := by grind
 have t1 := pO s1 (lf dT);have t2 := pO s2 (lf dT);rw [← e] at t1 t2;refine ⟨Int.le_of_mul_le_mul_right ?_ hd, Int.le_of_mul_le_mul_right ?_ hd⟩
 ·rw [show lo * W * d = W * (lo * d) by grind]; exact t1
 ·rw [show hi * W * d = W * (hi * d) by grind]; exact t2
theorem Si {r : Nat} (al : r ≤ 28) {a b : bO} (h1 : gD a.1 = true) (h2 : gD a.2 = true) {x : ao} (h : wN r a b = some x) : eA r x.1 x.2 = true := by
 unfold wN at h
 split at h
 ·rename_i af;cases h;obtain ⟨X, Y, W, bk, e⟩ := D3 af;obtain ⟨q1, q2, bB, _⟩ := E6 (r := r) e;obtain ⟨_, _, ⟨n, d, g1, g2, g3, g4⟩, _⟩ := AR e;have bY := qK.1 h1;have b0 := qK.1 h2;obtain ⟨c1, c2⟩ := Mw q2 g1 g2 g3 (lo := -134217728) (hi := 134217727) (by omega) (by omega);obtain ⟨jA, rv⟩ := Mw q2 g1 g2 g4 (lo := -134217728) (hi := 134217727) (by omega) (by omega);rw [bB];unfold eA;rw [E9 al q2 c1 c2, E9 al q2 jA rv]; rfl
 ·cases h
theorem Nb {r : Nat} {l m : ao × ao} (h1 : eA r l.1.1 l.1.2 = true) (h2 : eA r l.2.1 l.2.2 = true) {x : ao} (h : qj r l m = some x) : eA r x.1 x.2 = true := by
 have hS : (0 : Int) < 2 ^ r := hL (by decide);unfold qj at h
 split at h
 ·rename_i af;cases h;obtain ⟨X, Y, W, bk, e⟩ := D3 af.1;obtain ⟨q1, q2, bB, cS⟩ := E6 (r := r) e;obtain ⟨_, _, ⟨n, d, g1, g2, g3, g4⟩, _⟩ := AR e;generalize iS r (gC (gz r l) (gz r m)) = x at *;obtain ⟨⟨i1, i2⟩, i3, i4⟩ := cS;have v1 := SC hS q2 g1 g2 g3 i1 i2;have v2 := SC hS q2 g1 g2 g4 i3 i4;unfold eA at h1 h2 ⊢;rw [c6] at h1 h2 ⊢;refine ⟨?_, ?_⟩
  ·rcases Int.le_total l.1.1 l.2.1 with h | h
   ·exact BJ h1.1 h2.1 (v1.1 h).1 (v1.1 h).2
   ·exact BJ h2.1 h1.1 (v1.2 h).1 (v1.2 h).2
  ·rcases Int.le_total l.1.2 l.2.2 with h | h
   ·exact BJ h1.2 h2.2 (v2.1 h).1 (v2.1 h).2
   ·exact BJ h2.2 h1.2 (v2.2 h).1 (v2.2 h).2
 ·cases h
theorem ahg {E : List bO} {r R : Nat} (al : r ≤ 28) (fa : gJ E = true) : jw (pB E r R) (EJ E r) where
 nodup i c h := h.1.nodup
 new i hi := ⟨adS (yd al (qJ fa i).1) (yd al (qJ fa i).2), Xr _⟩
 split i c j p q bi h hlen hp ak aw _ an := by
  refine ⟨h.1.cut al hp ak aw an, ?_⟩;have aaL := Bw p q bi;have e : bi.length = (fP p q bi).length := aaL.length_eq.symm;show sH _ _ (b5 c.1 j (fP p q bi)) (eB c.2 j bi.length);rw [e];refine MX (fun d t x aa => adZ (by omega) aa) (fun d t1 t2 zy HC h1 h2 => ?_) c.1 c.2 j 0 hlen hp ak h.2;have mz := Cs al bi p q;rw [KE aw an];have := MW zy HC h1 h2 (sB r bi p q) 0 Rat.le_refl (by decide) (fun x aa u hu => hu.1.1) (fun x aa => (mz.2.1 x aa).2.2) mz.1;rwa [show t1 + 0 * (t2 - t1) = t1 by grind] at this
 gb := Bw
 ug i _ := ⟨yd al (qJ fa i).1, yd al (qJ fa i).2⟩
 C8 i j x _ _ h := Si al (qJ fa i).1 (qJ fa i).2 h
 C4 p q e1 cf x h1 h2 _ _ h := Nb (l := (p, q)) (m := (e1, cf)) h1 h2 h
 cut hot p q e1 cf x an _ _ h1 h2 h3 aD cU fs h := (ahs E al R).XG hot p q e1 cf x an h1 h2 h3 aD cU fs h
variable {α : Type} [DecidableEq α]
abbrev F4 (α : Type) := List (List α × List Int)
end Go.Proofs.YtbcecodakfejaaaGreat.br
namespace Go.Proofs.YtbcecodakfejaaaGreat.br
variable {α : Type} [DecidableEq α]
def news (o : cw α) : F4 α := (List.range o.n).map fun k => fj (o.P k) (o.Q k)
theorem ZW (o : cw α) {s : aT α} (ab : iX o s) (q : α) (ak : o.gP q) : (cI o s q = et s 5 0 0 ∧ s.hot.length = o.R ∧ q ∉ s.hot) ∨
  ∃ hot', cI o s q = { s with hot := hot' } ∧ iX o ({ s with hot := hot' } : aT α) ∧ (∀ x, x ∈ hot' ↔ (x ∈ s.hot ∨ x = q)) := by
 have := ab.room;unfold cI
 by_cases h : q ∈ s.hot
 ·rw [if_pos h];exact .inr ⟨s.hot, rfl, ab, fun x => ⟨.inl, fun aR => aR.elim id fun e => by rw [e]; exact h⟩⟩
 ·rw [if_neg h]
  by_cases h2 : s.hot.length < o.R
  ·rw [if_pos h2];refine .inr ⟨s.hot ++ [q], rfl, ⟨?_, ?_, fun x aa => (h0.1 aa).elim (ab.hg x) fun h => by rw [hx.1 h]; exact ak⟩, fun x => by simp⟩
   ·show (s.hot ++ [q]).Nodup;refine List.nodup_append.2 ⟨ab.nd, by simp, fun a aF b cL => ?_⟩;rw [hx] at cL;subst cL;exact fun e => h (by rw [← e]; exact aF)
   ·show (s.hot ++ [q]).length ≤ o.R;rw [cO, List.length_singleton]; omega
  ·rw [if_neg h2];exact .inl ⟨rfl, by omega, h⟩
end Go.Proofs.YtbcecodakfejaaaGreat.br
namespace Go.Proofs.YtbcecodakfejaaaGreat.br
variable {α : Type} [DecidableEq α]
theorem PL (o : cw α) : ∀ (m n : Nat) (s : aT α), la o (m + n) s = la o n (la o m s)
 | 0, n, s => by rw [j3]; rfl
 | m + 1, n, s => by
  rw [show m + 1 + n = (m + n) + 1 by omega];exact PL o m n (cJ o s)
def eQ (o : cw α) : Nat → aT α → Nat × aT α
 | 0, s => (0, s)
 | n + 1, s => if 4 ≤ s.ph then (0, s) else ((eQ o n (cJ o s)).1 + 1, (eQ o n (cJ o s)).2)
theorem ahA {o : cw α} {s : aT α} (h : 4 ≤ s.ph) : ∀ n, eQ o n s = (0, s)
 | 0 => rfl
 | n + 1 => if_pos h
theorem Fv {o : cw α} : ∀ (n : Nat) (s : aT α), (eQ o n s).2 = la o (eQ o n s).1 s ∧ (eQ o n s).1 ≤ n ∧ ((eQ o n s).1 < n → 4 ≤ (eQ o n s).2.ph)
 | 0, s => ⟨rfl, dI _, fun h => absurd h (by show ¬ 0 < 0; omega)⟩
 | n + 1, s => by
  obtain ⟨h1, h2, h3⟩ := Fv n (cJ o s);unfold eQ
  by_cases h : 4 ≤ s.ph
  ·rw [if_pos h]; exact ⟨rfl, dJ _, fun _ => h⟩
  ·rw [if_neg h]; exact ⟨h1, by show _ + 1 ≤ n + 1; omega, fun aR => h3 (by have : (eQ o n (cJ o s)).1 + 1 < n + 1 := aR; omega)⟩
def cN (f : α → α) (s : aT α) : aT α := { s with hot := s.hot.map f, fnd := s.fnd.map f, ch := s.ch.map fun c => (c.1.map f, c.2) }
structure Ce (o bU : cw α) (f : α → α) (G : α → Prop) : Prop where
 inj : ∀ x y, f x = f y → x = y
 n : bU.n = o.n
 R : bU.R = o.R
 P : ∀ i, i < o.n → bU.P i = f (o.P i)
 Q : ∀ i, i < o.n → bU.Q i = f (o.Q i)
 iy : ∀ i j, i < j → j < o.n → bU.iy i j = (o.iy i j).map f
 qy : ∀ p q x, G p → G q → G x → bU.qy (f p) (f q) (f x) = o.qy p q x
 gb : ∀ p q bi, bU.gb (f p) (f q) (bi.map f) = (o.gb p q bi).map f
 cut : ∀ p q e1 cf, G p → G q → G e1 → G cf → bU.cut (f p, f q) (f e1, f cf) = (o.cut (p, q) (e1, cf)).map f
 ug : ∀ i, i < o.n → G (o.P i) ∧ G (o.Q i)
 C8 : ∀ i j x, i < j → j < o.n → o.iy i j = some x → G x
 C4 : ∀ p q e1 cf x, G p → G q → G e1 → G cf → o.cut (p, q) (e1, cf) = some x → G x
theorem Qq {f : α → α} (ap : ∀ x y, f x = f y → x = y) {l : List α} {x : α} : f x ∈ l.map f ↔ x ∈ l :=
 ⟨fun h => by obtain ⟨y, ai, e⟩ := gV.1 h; rw [← ap _ _ e]; exact ai, fun h => gV.2 ⟨x, h, rfl⟩⟩
theorem ado (f : α → α) (s : aT α) (a b c : Nat) : et (cN f s) a b c = cN f (et s a b c) := rfl
theorem Du {o bU : cw α} {f : α → α} {G : α → Prop} (hm : Ce o bU f G) (s : aT α) (q : α) : cI bU (cN f s) (f q) = cN f (cI o s q) := by
 unfold cI
 by_cases h : q ∈ s.hot
 ·rw [if_pos h, if_pos (show f q ∈ (cN f s).hot from (Qq hm.inj).2 h)]
 ·rw [if_neg h, if_neg (show ¬ f q ∈ (cN f s).hot from fun aR => h ((Qq hm.inj).1 aR))];show (if (s.hot.map f).length < bU.R then _ else _) = _;rw [iD, hm.R]
  split
  ·show ({ cN f s with hot := s.hot.map f ++ [f q] } : aT α) = _;unfold cN;simp
  ·rfl
theorem Qa (f : α → α) : ∀ V : List α, iw (V.map f) = (iw V).map fun l => (f l.1, f l.2)
 | [] => rfl
 | [_] => rfl
 | p :: q :: V => by
  have := Qa f (q :: V);show (f p, f q) :: iw ((q :: V).map f) = _;rw [this]; rfl
theorem Jl (f : α → α) : ∀ ch : F4 α, aP (ch.map fun c => (c.1.map f, c.2)) = (aP ch).map fun l => (f l.1, f l.2)
 | [] => rfl
 | c :: ch => by
  rw [jJ, x7, x7, Jl f ch, qR, Qa]
theorem Tn (f : α → α) : ∀ (cs : F4 α) (i j : Nat), n8 (cs.map fun c => (c.1.map f, c.2)) i j = n8 cs i j
 | [], _, _ => rfl
 | c :: cs, i, j => by
  unfold n8;rw [jJ];show (if j + 1 < (c.1.map f).length then _ else n8 (cs.map fun c => (c.1.map f, c.2)) (i + 1) 0) = _;rw [iD, Tn f cs]
theorem Kt (f : α → α) (s : aT α) : jm (cN f s) = cN f (jm s) := by
 unfold jm;show (match n8 ((s.ch.map fun c : List α × List Int => (c.1.map f, c.2)).drop s.I) s.I s.J with | some uC => ({ cN f s with I := uC.1, J := uC.2 } : aT α) | none => if (aP (s.ch.map fun c : List α × List Int => (c.1.map f, c.2))).length < 2 then et (cN f s) 4 0 0 else et (cN f s) 3 0 1) = _;rw [← List.map_drop, Tn, Jl, iD];cases n8 (s.ch.drop s.I) s.I s.J with
 | some uC => rfl
 | none =>
  show (if (aP s.ch).length < 2 then et (cN f s) 4 0 0 else et (cN f s) 3 0 1) = cN f (if (aP s.ch).length < 2 then et s 4 0 0 else et s 3 0 1)
  split <;> rfl
theorem ahV (f : α → α) (s : aT α) : jn (cN f s) = cN f (jn s) := by
 unfold jn;show (if s.dirty = true then jm (cN f (et { s with dirty := false } 2 0 0)) else cN f (et s 4 0 0)) = _;rw [Kt]
 split <;> rfl
theorem adQ {f : α → α} (ap : ∀ x y, f x = f y → x = y) (p q : α) : fj (f p) (f q) = ((fj p q).1.map f, (fj p q).2) := by
 unfold fj
 by_cases h : p = q
 ·rw [if_pos h, if_pos (by rw [h])]; rfl
 ·rw [if_neg h, if_neg (fun e => h (ap _ _ e))]; rfl
theorem P1 {o bU : cw α} {f : α → α} {G : α → Prop} (hm : Ce o bU f G) (s : aT α) : kO bU (cN f s) = cN f (kO o s) := by
 unfold kO;rw [← Kt];congr 1;unfold cN et;simp only [aT.mk.injEq, true_and, List.map_nil, and_true];rw [hm.n, List.map_map];refine np fun k af => ?_;show fj (bU.P k) (bU.Q k) = _;rw [hm.P k (pL.1 af), hm.Q k (pL.1 af), adQ hm.inj]; rfl
theorem YW {o bU : cw α} {f : α → α} {G : α → Prop} (hm : Ce o bU f G) {p q x : α} (hp : G p) (ak : G q) (aa : G x) : hB bU (f p) (f q) (f x) = hB o p q x := by
 unfold hB;rw [hm.qy p q x hp ak aa]
 have e : ∀ y, (decide (f x ≠ f y)) = decide (x ≠ y) := fun y => by
  by_cases h : x = y
  ·rw [h]; simp
  ·rw [cd h, cd (show f x ≠ f y from fun e => h (hm.inj _ _ e))]
 rw [e, e]
theorem XL (f : α → α) (V : List α) (j : Nat) (l : List α) : b5 (V.map f) j (l.map f) = (b5 V j l).map f := by
 unfold b5;rw [qR, qR, List.map_take, List.map_drop]
def pY (G : α → Prop) (s : aT α) : Prop := ∀ x ∈ s.hot, G x
theorem Dt {o : cw α} {G : α → Prop} {s : aT α} {q : α} (h : pY G s) (ak : G q) : pY G (cI o s q) := by
 unfold cI
 split
 ·exact h
 ·split
  ·intro x aa;rcases h0.1 aa with aa | aa
   ·exact h x aa
   ·rw [hx.1 aa]; exact ak
  ·exact h
theorem Fz {G : α → Prop} {s : aT α} (h : pY G s) : pY G (jm s) := by
 unfold jm
 split
 ·exact h
 ·split
  ·exact h
  ·exact h
theorem alx {o bU : cw α} {f : α → α} {G : α → Prop} {ok : Nat → List α × List Int → Prop} (hm : Ce o bU f G) (af : jw o ok) {s : aT α} (hi : ha o ok s) (an : pY G s) : cJ bU (cN f s) = cN f (cJ o s) ∧ pY G (cJ o s) := by
 obtain ⟨ab, aA | h1 | h2 | h3 | aD | cU⟩ := hi
 ·have e : cJ o s = ou o s := by simp only [cJ, aA.ph]
  have bm : cJ bU (cN f s) = ou bU (cN f s) := by simp only [cJ, show (cN f s).ph = 0 from aA.ph]
  have g1 := Dt (o := o) an (hm.ug s.I aA.I).1;have g2 := Dt (o := o) g1 (hm.ug s.I aA.I).2;rw [e, bm];unfold ou;rw [show (cN f s).I = s.I from rfl, hm.P _ aA.I, hm.Q _ aA.I, hm.n, Du hm, Du hm, P1 hm, ado];generalize cI o (cI o s (o.P s.I)) (o.Q s.I) = t2 at g2 ⊢;generalize cI o s (o.P s.I) = t1 at g1 ⊢;show (if t1.ph = 5 then cN f t1 else if t2.ph = 5 then cN f t2 else _) = cN f (if t1.ph = 5 then t1 else if t2.ph = 5 then t2 else _) ∧ pY G (if t1.ph = 5 then t1 else if t2.ph = 5 then t2 else _)
  split
  ·exact ⟨rfl, g1⟩
  ·split
   ·exact ⟨rfl, g2⟩
   ·split
    ·exact ⟨rfl, g2⟩
    ·split
     ·exact ⟨rfl, Fz g2⟩
     ·exact ⟨rfl, g2⟩
 ·have e : cJ o s = oF o s := by simp only [cJ, h1.ph]
  have bm : cJ bU (cN f s) = oF bU (cN f s) := by simp only [cJ, show (cN f s).ph = 1 from h1.ph]
  rw [e, bm];unfold oF
  have key : ir bU (cN f s) (bU.iy (cN f s).I (cN f s).J) = cN f (ir o s (o.iy s.I s.J)) ∧ pY G (ir o s (o.iy s.I s.J)) := by
   show ir bU (cN f s) (bU.iy s.I s.J) = _ ∧ _;rw [hm.iy _ _ h1.ra h1.J];cases hp : o.iy s.I s.J with
   | none => exact ⟨rfl, an⟩
   | some x => exact ⟨Du hm s x, Dt an (hm.C8 _ _ x h1.ra h1.J hp)⟩
  rw [key.1, hm.n, P1 hm];have g := key.2;generalize ir o s (o.iy s.I s.J) = t at g ⊢;show (if t.ph = 5 then cN f t else if (bT o.n s.I s.J).2 < o.n then _ else _) = cN f (if t.ph = 5 then t else if (bT o.n s.I s.J).2 < o.n then _ else _) ∧ _
  split
  ·exact ⟨rfl, g⟩
  ·split
   ·exact ⟨rfl, g⟩
   ·exact ⟨rfl, Fz g⟩
 ·have e : cJ o s = n7 o s := by simp only [cJ, h2.ph]
  have bm : cJ bU (cN f s) = n7 bU (cN f s) := by simp only [cJ, show (cN f s).ph = 2 from h2.ph]
  obtain ⟨c, p, q, aj, hp, ak, ap⟩ := h2.link;have cH := h2.T;have aa : s.hot[s.T]? = some s.hot[s.T] := bN cH;have zw : G s.hot[s.T] := an _ (List.getElem_mem cH);generalize s.hot[s.T] = x at aa zw;have qt := h2.laid.ie s.I c aj;have Od : G p := an _ (qt.hot _ (dc hp));have YX : G q := an _ (qt.hot _ (dc ak))
  have rK : (cN f s).ch[(cN f s).I]? = some (c.1.map f, c.2) := by
   show (s.ch.map fun c => (c.1.map f, c.2))[s.I]? = _;rw [dL, aj]; rfl
  have nP : (c.1.map f)[s.J]? = some (f p) := by rw [dL, hp]; rfl
  have nc : (c.1.map f)[s.J + 1]? = some (f q) := by rw [dL, ak]; rfl
  have kk : (s.hot.map f)[s.T]? = some (f x) := by rw [dL, aa]; rfl
  have a1 : n7 o s = ma o s c p q (hf o p q x s.fnd) := by
   unfold n7;rw [aj];show (match c.1[s.J]?, c.1[s.J + 1]?, s.hot[s.T]? with | some p, some q, some x => ma o s c p q (hf o p q x s.fnd) | _, _, _ => s) = _;rw [hp, ak, aa]
  have a2 : n7 bU (cN f s) = ma bU (cN f s) (c.1.map f, c.2) (f p) (f q) (hf bU (f p) (f q) (f x) (s.fnd.map f)) := by
   unfold n7;rw [rK];show (match (c.1.map f)[s.J]?, (c.1.map f)[s.J + 1]?, (s.hot.map f)[s.T]? with | some p, some q, some x => ma bU (cN f s) (c.1.map f, c.2) p q (hf bU p q x (s.fnd.map f)) | _, _, _ => cN f s) = _;rw [nP, nc, kk]
  have a3 : hf bU (f p) (f q) (f x) (s.fnd.map f) = (hf o p q x s.fnd).map f := by
   unfold hf;rw [YW hm Od YX zw]
   split
   ·rw [qR]; rfl
   ·rfl
  rw [e, bm, a1, a2, a3];generalize hf o p q x s.fnd = bi;unfold ma;show (if s.T + 1 < (s.hot.map f).length then _ else if bi.map f = [] then _ else _) = _ ∧ _;rw [iD]
  split
  ·exact ⟨rfl, an⟩
  ·by_cases xR : bi = []
   ·rw [if_pos xR, if_pos (by rw [xR]; rfl)];exact ⟨Kt f { s with T := 0, fnd := [], J := s.J + 1 }, Fz (s := { s with T := 0, fnd := [], J := s.J + 1 }) an⟩
   ·rw [if_neg xR, if_neg (fun h => xR (List.map_eq_nil_iff.1 h))];refine ⟨?_, an⟩;unfold cN;simp only [aT.mk.injEq, true_and, List.map_nil];rw [hm.gb, XL, iD, List.map_set]
 ·have e : cJ o s = nX o s := by simp only [cJ, h3.ph]
  have bm : cJ bU (cN f s) = nX bU (cN f s) := by simp only [cJ, show (cN f s).ph = 3 from h3.ph]
  have ox := h3.ra;have im := h3.J;have aF : (aP s.ch)[s.I]? = some (aP s.ch)[s.I] := bN (by omega);have cL : (aP s.ch)[s.J]? = some (aP s.ch)[s.J] := bN im;generalize (aP s.ch)[s.I] = a at aF;generalize (aP s.ch)[s.J] = b at cL
  have key : ∀ l, l ∈ aP s.ch → G l.1 ∧ G l.2 := fun l hl => by
   obtain ⟨i, c, j, hi, h1, h2⟩ := AP hl;have qt := h3.laid.ie i c hi;exact ⟨an _ (qt.hot _ (dc h1)), an _ (qt.hot _ (dc h2))⟩
  obtain ⟨N6, N7⟩ := key a (dc aF);obtain ⟨N8, N9⟩ := key b (dc cL);have hl : aP (cN f s).ch = (aP s.ch).map fun l => (f l.1, f l.2) := Jl f s.ch
  have Zs : (aP (cN f s).ch)[(cN f s).I]? = some (f a.1, f a.2) := by
   rw [hl]; show ((aP s.ch).map fun l => (f l.1, f l.2))[s.I]? = _;rw [dL, aF]; rfl
  have di : (aP (cN f s).ch)[(cN f s).J]? = some (f b.1, f b.2) := by
   rw [hl]; show ((aP s.ch).map fun l => (f l.1, f l.2))[s.J]? = _;rw [dL, cL]; rfl
  have l5 : (aP (cN f s).ch).length = (aP s.ch).length := by rw [hl, iD]
  have aj := hm.cut a.1 a.2 b.1 b.2 N6 N7 N8 N9
  have aR : cY bU (cN f s) (bU.cut (f a.1, f a.2) (f b.1, f b.2)) = cN f (cY o s (o.cut a b)) ∧ pY G (cY o s (o.cut a b)) := by
   rw [aj];show cY bU (cN f s) ((o.cut a b).map f) = _ ∧ _;cases hcut : o.cut a b with
   | none => exact ⟨rfl, an⟩
   | some x =>
    have g := Dt (o := o) an (hm.C4 a.1 a.2 b.1 b.2 x N6 N7 N8 N9 hcut);show (if (cI bU (cN f s) (f x)).ph = 5 then cI bU (cN f s) (f x) else { cI bU (cN f s) (f x) with dirty := true }) = cN f (if (cI o s x).ph = 5 then cI o s x else { cI o s x with dirty := true }) ∧ pY G (if (cI o s x).ph = 5 then cI o s x else { cI o s x with dirty := true });rw [Du hm];generalize cI o s x = t at g ⊢;show (if t.ph = 5 then cN f t else { cN f t with dirty := true }) = _ ∧ _
    split
    ·exact ⟨rfl, g⟩
    ·exact ⟨rfl, g⟩
  rw [e, bm];unfold nX;rw [aF, cL, Zs, di, l5];show (if (cY bU (cN f s) (bU.cut (f a.1, f a.2) (f b.1, f b.2))).ph = 5 then cY bU (cN f s) (bU.cut (f a.1, f a.2) (f b.1, f b.2)) else if (bT (aP s.ch).length s.I s.J).2 < (aP s.ch).length then { cY bU (cN f s) (bU.cut (f a.1, f a.2) (f b.1, f b.2)) with I := (bT (aP s.ch).length s.I s.J).1, J := (bT (aP s.ch).length s.I s.J).2 } else jn (cY bU (cN f s) (bU.cut (f a.1, f a.2) (f b.1, f b.2)))) = cN f (if (cY o s (o.cut a b)).ph = 5 then cY o s (o.cut a b) else if (bT (aP s.ch).length s.I s.J).2 < (aP s.ch).length then { cY o s (o.cut a b) with I := (bT (aP s.ch).length s.I s.J).1, J := (bT (aP s.ch).length s.I s.J).2 } else jn (cY o s (o.cut a b))) ∧ pY G (if (cY o s (o.cut a b)).ph = 5 then cY o s (o.cut a b) else if (bT (aP s.ch).length s.I s.J).2 < (aP s.ch).length then { cY o s (o.cut a b) with I := (bT (aP s.ch).length s.I s.J).1, J := (bT (aP s.ch).length s.I s.J).2 } else jn (cY o s (o.cut a b)));rw [aR.1, ahV];have g := aR.2;generalize cY o s (o.cut a b) = t at g ⊢;show (if t.ph = 5 then cN f t else _) = cN f (if t.ph = 5 then t else _) ∧ _
  split
  ·exact ⟨rfl, g⟩
  ·split
   ·exact ⟨rfl, g⟩
   ·refine ⟨rfl, ?_⟩;unfold jn
    split
    ·exact Fz (s := et { t with dirty := false } 2 0 0) g
    ·exact g
 ·have e : cJ o s = s := by simp only [cJ, aD.ph]
  have bm : cJ bU (cN f s) = cN f s := by simp only [cJ, show (cN f s).ph = 4 from aD.ph]
  rw [e, bm]; exact ⟨rfl, an⟩
 ·have e : cJ o s = s := by simp only [cJ, cU.ph]
  have bm : cJ bU (cN f s) = cN f s := by simp only [cJ, show (cN f s).ph = 5 from cU.ph]
  rw [e, bm]; exact ⟨rfl, an⟩
structure xb (o : cw α) : Prop where
 iy : ∀ i j x, i < j → j < o.n → o.iy i j = some x → ∃ k, k < o.n ∧ (x = o.P k ∨ x = o.Q k)
 Ob : ∀ i k x, i < o.n → k < o.n → (x = o.P k ∨ x = o.Q k) → hB o (o.P i) (o.Q i) x = false
 cut : ∀ i j, i < o.n → j < o.n → o.cut (o.P i, o.Q i) (o.P j, o.Q j) = none
 ne : ∀ i, i < o.n → o.P i ≠ o.Q i
 room : 2 * o.n ≤ o.R
structure Kept (o : cw α) (s : aT α) : Prop where
 ph : s.ph ≠ 5
 dirty : s.dirty = false
 hot : ∀ x ∈ s.hot, ∃ k, k < o.n ∧ (x = o.P k ∨ x = o.Q k)
 ch : s.ch = [] ∨ s.ch = news o
theorem Ks {o : cw α} {s : aT α} (h : Kept o s) (gT : s.ph ≠ 5) : Kept o (jm s) := by
 unfold jm
 split
 ·exact ⟨gT, h.dirty, h.hot, h.ch⟩
 ·split
  ·exact ⟨by show 4 ≠ 5; decide, h.dirty, h.hot, h.ch⟩
  ·exact ⟨by show 3 ≠ 5; decide, h.dirty, h.hot, h.ch⟩
def Hi (o : cw α) : List α := (List.range o.n).map o.P ++ (List.range o.n).map o.Q
theorem H5 {o : cw α} {ok : Nat → List α × List Int → Prop} (af : jw o ok) (hp : xb o) {s : aT α} (ab : iX o s) (h : Kept o s) {q : α} (ak : ∃ k, k < o.n ∧ (q = o.P k ∨ q = o.Q k)) : Kept o (cI o s q) ∧ (cI o s q).ph = s.ph ∧ iX o (cI o s q) := by
 have aab : o.gP q := by
  obtain ⟨k, oz, rfl | rfl⟩ := ak
  ·exact (af.ug k oz).1
  ·exact (af.ug k oz).2
 rcases ZW o ab q aab with ⟨_, f, g⟩ | ⟨h2, e, b2, m2⟩
 ·exfalso
  have aw : (s.hot ++ [q]).Nodup := List.nodup_append.2 ⟨ab.nd, by simp, fun a aF b cL => by
   rw [hx] at cL;subst cL;exact fun e => g (by rw [← e]; exact aF)⟩
  have := Ez aw (m := Hi o) fun x aa => by
   have : ∃ k, k < o.n ∧ (x = o.P k ∨ x = o.Q k) := by
    rcases h0.1 aa with aa | aa
    ·exact h.hot x aa
    ·rw [hx.1 aa]; exact ak
   obtain ⟨k, af, h1 | h1⟩ := this
   ·exact List.mem_append_left _ (gV.2 ⟨k, pL.2 af, h1.symm⟩)
   ·exact List.mem_append_right _ (gV.2 ⟨k, pL.2 af, h1.symm⟩)
  have e : (Hi o).length = o.n + o.n := by unfold Hi; simp
  rw [e, cO, List.length_singleton] at this;have := hp.room;omega
 ·rw [e];refine ⟨⟨h.ph, h.dirty, fun x aa => ?_, h.ch⟩, rfl, b2⟩;rcases (m2 x).1 aa with aa | aa
  ·exact h.hot x aa
  ·rw [aa]; exact ak
theorem QU {o : cw α} {i : Nat} {c : List α × List Int} (hp : xb o) (hi : (news o)[i]? = some c) : i < o.n ∧ c = ([o.P i, o.Q i], [1]) := by
 have hi : ((List.range o.n).map fun k => fj (o.P k) (o.Q k))[i]? = some c := hi;have gB : i < o.n := by have := (bL.1 hi).1; simpa using this
 rw [dL, uX gB] at hi;have hi : fj (o.P i) (o.Q i) = c := lc hi;unfold fj at hi;rw [if_neg (hp.ne i gB)] at hi;exact ⟨gB, hi.symm⟩
theorem aiz {o : cw α} {ok : Nat → List α × List Int → Prop} (af : jw o ok) (hp : xb o) {s : aT α} (hi : ha o ok s) (h : Kept o s) : Kept o (cJ o s) := by
 obtain ⟨ab, aA | h1 | h2 | h3 | aD | cU⟩ := hi
 ·have e : cJ o s = ou o s := by simp only [cJ, aA.ph]
  rw [e];obtain ⟨ba, p1, b1⟩ := H5 af hp ab h (q := o.P s.I) ⟨s.I, aA.I, .inl rfl⟩;obtain ⟨bo, p2, b2⟩ := H5 af hp b1 ba (q := o.Q s.I) ⟨s.I, aA.I, .inr rfl⟩;unfold ou;generalize cI o (cI o s (o.P s.I)) (o.Q s.I) = t2 at *;generalize cI o s (o.P s.I) = t1 at *;rw [if_neg ba.ph, if_neg bo.ph]
  split
  ·exact ⟨bo.ph, bo.dirty, bo.hot, bo.ch⟩
  ·split
   ·exact Ks (s := et { t2 with ch := news o } 2 0 0) ⟨by show 2 ≠ 5; decide, bo.dirty, bo.hot, .inr rfl⟩ (by show 2 ≠ 5; decide)
   ·exact ⟨by show 1 ≠ 5; decide, bo.dirty, bo.hot, bo.ch⟩
 ·have e : cJ o s = oF o s := by simp only [cJ, h1.ph]
  rw [e]
  have key : Kept o (ir o s (o.iy s.I s.J)) := by
   cases Aa : o.iy s.I s.J with
   | none => exact h
   | some x => exact (H5 af hp ab h (hp.iy _ _ x h1.ra h1.J Aa)).1
  unfold oF;generalize ir o s (o.iy s.I s.J) = t at *;rw [if_neg key.ph]
  split
  ·exact ⟨key.ph, key.dirty, key.hot, key.ch⟩
  ·exact Ks (s := et { t with ch := news o } 2 0 0) ⟨by show 2 ≠ 5; decide, key.dirty, key.hot, .inr rfl⟩ (by show 2 ≠ 5; decide)
 ·have e : cJ o s = n7 o s := by simp only [cJ, h2.ph]
  rw [e];obtain ⟨c, p, q, aj, DI, ak, ap⟩ := h2.link;have zI : s.ch = news o := h.ch.resolve_left fun e => by rw [e] at aj; simp at aj
  obtain ⟨gB, rB⟩ := QU hp (by rw [← zI]; exact aj)
  have im : s.J = 0 := by
   have := (bL.1 ak).1;rw [rB] at this;simp at this;omega
  have qn : p = o.P s.I := by rw [rB, im] at DI; simp at DI; exact DI.symm
  have Yn : q = o.Q s.I := by rw [rB, im] at ak; simp at ak; exact ak.symm
  have cH := h2.T;have aa : s.hot[s.T]? = some s.hot[s.T] := bN cH
  have jS : ∀ y ∈ s.hot, hB o p q y = false := fun y ai => by
   obtain ⟨k, af, IW⟩ := h.hot y ai;rw [qn, Yn]; exact hp.Ob s.I k y gB af IW
  have zw := jS _ (List.getElem_mem cH);generalize s.hot[s.T] = x at aa zw;have ZY : s.fnd = [] := by rw [ap]; exact List.filter_eq_nil_iff.2 fun y ai => by rw [jS y (n2 ai)]; decide
  unfold n7;rw [aj];show Kept o (match c.1[s.J]?, c.1[s.J + 1]?, s.hot[s.T]? with | some p, some q, some x => ma o s c p q (hf o p q x s.fnd) | _, _, _ => s);rw [DI, ak, aa];show Kept o (ma o s c p q (hf o p q x s.fnd));have aO : hf o p q x s.fnd = [] := by unfold hf; rw [zw, if_neg (by decide), ZY]
  rw [aO];unfold ma
  split
  ·exact ⟨h.ph, h.dirty, h.hot, h.ch⟩
  ·rw [if_pos rfl];exact Ks (s := { s with T := 0, fnd := [], J := s.J + 1 }) ⟨h.ph, h.dirty, h.hot, h.ch⟩ h.ph
 ·have e : cJ o s = nX o s := by simp only [cJ, h3.ph]
  rw [e];have ox := h3.ra;have im := h3.J;have aF : (aP s.ch)[s.I]? = some (aP s.ch)[s.I] := bN (by omega);have cL : (aP s.ch)[s.J]? = some (aP s.ch)[s.J] := bN im;generalize (aP s.ch)[s.I] = a at aF;generalize (aP s.ch)[s.J] = b at cL;have zI : s.ch = news o := h.ch.resolve_left fun e => by rw [e] at aF; simp [aP] at aF
  have key : ∀ l, l ∈ aP s.ch → ∃ i, i < o.n ∧ l = (o.P i, o.Q i) := fun l hl => by
   obtain ⟨i, c, j, hi, g1, g2⟩ := AP hl;obtain ⟨gB, rB⟩ := QU hp (by rw [← zI]; exact hi)
   have ae : j = 0 := by
    have := (bL.1 g2).1;rw [rB] at this;simp at this;omega
   subst ae;rw [rB] at g1 g2;simp at g1 g2;exact ⟨i, gB, ku g1.symm g2.symm⟩
  obtain ⟨i, hi, ih⟩ := key a (dc aF);obtain ⟨j, ae, lq⟩ := key b (dc cL);have hcut : o.cut a b = none := by rw [ih, lq]; exact hp.cut i j hi ae
  unfold nX;rw [aF, cL];show Kept o (if (cY o s (o.cut a b)).ph = 5 then cY o s (o.cut a b) else if (bT (aP s.ch).length s.I s.J).2 < (aP s.ch).length then { cY o s (o.cut a b) with I := (bT (aP s.ch).length s.I s.J).1, J := (bT (aP s.ch).length s.I s.J).2 } else jn (cY o s (o.cut a b)));rw [hcut];show Kept o (if s.ph = 5 then s else if (bT (aP s.ch).length s.I s.J).2 < (aP s.ch).length then { s with I := (bT (aP s.ch).length s.I s.J).1, J := (bT (aP s.ch).length s.I s.J).2 } else jn s);rw [if_neg h.ph]
  split
  ·exact ⟨h.ph, h.dirty, h.hot, h.ch⟩
  ·unfold jn;rw [if_neg (by rw [h.dirty]; decide)];exact ⟨by show 4 ≠ 5; decide, h.dirty, h.hot, h.ch⟩
 ·have e : cJ o s = s := by simp only [cJ, aD.ph]
  rw [e]; exact h
 ·have e : cJ o s = s := by simp only [cJ, cU.ph]
  rw [e]; exact h
theorem PM {o : cw α} {ok : Nat → List α × List Int → Prop} (af : jw o ok) (hp : xb o) : ∀ (n : Nat) {s : aT α}, ha o ok s → Kept o s → Kept o (la o n s)
 | 0, _, _, h => h
 | n + 1, _, hi, h => PM af hp n (wS af hi).1 (aiz af hp hi h)
theorem acq {o : cw α} {ok : Nat → List α × List Int → Prop} {s : aT α} (aw : 0 < o.n) (hi : ha o ok s) (h : Kept o s) (aD : 4 ≤ s.ph) : s.ph = 4 ∧ s.ch = news o := by
 obtain ⟨ab, aM | aM | aM | aM | aM | aM⟩ := hi
 ·have := aM.ph; omega
 ·have := aM.ph; omega
 ·have := aM.ph; omega
 ·have := aM.ph; omega
 ·refine ⟨aM.ph, h.ch.resolve_left fun e => ?_⟩;have := aM.laid.len;rw [e] at this;simp at this;omega
 ·exact absurd aM.ph h.ph
end Go.Proofs.YtbcecodakfejaaaGreat.br
namespace Go.Proofs.YtbcecodakfejaaaGreat.br
structure Gh (E : List bO) (r : Nat) : Prop where
 xn : ∀ i, i < E.length → oq r (ep r (E.getD i dm).1) = (E.getD i dm).1 ∧ oq r (ep r (E.getD i dm).2) = (E.getD i dm).2 ∧ ep r (E.getD i dm).1 ≠ ep r (E.getD i dm).2
 qy : ∀ i j x, i < E.length → j < E.length → (x = ep r (E.getD j dm).1 ∨ x = ep r (E.getD j dm).2) → x ≠ ep r (E.getD i dm).1 → x ≠ ep r (E.getD i dm).2 → mx (E.getD i dm).1.1 (E.getD i dm).1.2 (E.getD i dm).2.1 (E.getD i dm).2.2 x.1 x.2 r = false
 ends : ∀ i j, i < E.length → j < E.length → i ≠ j → qm (E.getD i dm) (E.getD j dm) = true
theorem ahf {E : List bO} {r R : Nat} (al : r ≤ 28) (aq : 2 * E.length ≤ R) (h : Gh E r) : xb (pB E r R) where
 iy i j x e0 ae hp := by
  have ae : j < E.length := ae;have hp : wN r (E.getD i dm) (E.getD j dm) = some x := hp;unfold wN at hp
  split at hp
  ·rename_i af;cases hp;obtain ⟨X, Y, W, bk, e⟩ := D3 af;obtain ⟨q1, q2, bB, cS⟩ := E6 (r := r) e;obtain ⟨_, _, _, _, z6⟩ := AR e;have hS : (0 : Int) < 2 ^ r := hL (by decide);have he := (Hh af).1 (h.ends i j (by omega) ae (by omega));obtain ⟨c1, c2, _⟩ := h.xn i (by omega)
   have key : ∀ p : ao, (p = (E.getD i dm).1 ∨ p = (E.getD i dm).2) → (p = (E.getD j dm).1 ∨ p = (E.getD j dm).2) → iS r (gC (E.getD i dm) (E.getD j dm)) = ep r p := fun p h1 h2 => by
    have aj : oq r (ep r p) = p := by rcases h1 with rfl | rfl <;> assumption
    have o1 : c3 p.1 p.2 (E.getD i dm).1.1 (E.getD i dm).1.2 (E.getD i dm).2.1 (E.getD i dm).2.2 := by rcases h1 with rfl | rfl <;> refine ⟨by unfold bW; grind, ?_⟩ <;> unfold pu fG fF <;> refine ⟨?_, ?_, ?_, ?_⟩ <;> split <;> omega
    have o2 : c3 p.1 p.2 (E.getD j dm).1.1 (E.getD j dm).1.2 (E.getD j dm).2.1 (E.getD j dm).2.2 := by rcases h2 with rfl | rfl <;> refine ⟨by unfold bW; grind, ?_⟩ <;> unfold pu fG fF <;> refine ⟨?_, ?_, ?_, ?_⟩ <;> split <;> omega
    obtain ⟨b4, ck⟩ := z6 p.1 p.2 o1 o2;refine abx hS q2 cS ?_;have d1 : 2 ^ r * (ep r p).1 = p.1 := congrArg Prod.fst aj;have d2 : 2 ^ r * (ep r p).2 = p.2 := congrArg Prod.snd aj;unfold vo;rw [d1, d2, b4, ck];generalize (2 : Int) ^ r = S at *;have va := Int.mul_pos hS q2;have aG : (2 * p.1 - S) * W = 2 * (p.1 * W) - S * W := by grind
    have aO : (2 * p.1 + S) * W = 2 * (p.1 * W) + S * W := by grind
    have cl : (2 * p.2 - S) * W = 2 * (p.2 * W) - S * W := by grind
    have ey : (2 * p.2 + S) * W = 2 * (p.2 * W) + S * W := by grind
    rw [aG, aO, cl, ey];omega
   refine ⟨i, show i < E.length by omega, ?_⟩;rcases he with he | he | he | he
   ·exact .inl (key _ (.inl rfl) (.inl he))
   ·exact .inl (key _ (.inl rfl) (.inr he))
   ·exact .inr (key _ (.inr rfl) (.inl he))
   ·exact .inr (key _ (.inr rfl) (.inr he))
  ·cases hp
 Ob i k x hi af aa := by
  cases an : hB (pB E r R) (ep r (E.getD i dm).1) (ep r (E.getD i dm).2) x with
  | false => exact an
  | true =>
   obtain ⟨g1, g2, g3⟩ := C5.1 an;obtain ⟨c1, c2, _⟩ := h.xn i hi;have := h.qy i k x hi af aa g1 g2;unfold Ic qH at g3;unfold oq at c1 c2;rw [show 2 ^ r * (ep r (E.getD i dm).1).1 = (E.getD i dm).1.1 from congrArg Prod.fst c1, show 2 ^ r * (ep r (E.getD i dm).1).2 = (E.getD i dm).1.2 from congrArg Prod.snd c1, show 2 ^ r * (ep r (E.getD i dm).2).1 = (E.getD i dm).2.1 from congrArg Prod.fst c2, show 2 ^ r * (ep r (E.getD i dm).2).2 = (E.getD i dm).2.2 from congrArg Prod.snd c2, this] at g3;cases g3
 cut i j hi ae := by
  show qj r (ep r (E.getD i dm).1, ep r (E.getD i dm).2) (ep r (E.getD j dm).1, ep r (E.getD j dm).2) = none;obtain ⟨c1, c2, _⟩ := h.xn i hi;obtain ⟨d1, d2, _⟩ := h.xn j ae;unfold qj gz;simp only [c1, c2, d1, d2];rw [if_neg];rintro ⟨af, he⟩
  by_cases e0 : i = j
  ·subst e0;rw [(Hh af).2 (.inl rfl)] at he;cases he
  ·have := h.ends i j hi ae e0;rw [show ((E.getD i dm).1, (E.getD i dm).2) = E.getD i dm from rfl, show ((E.getD j dm).1, (E.getD j dm).2) = E.getD j dm from rfl, this] at he;cases he
 ne i hi := (h.xn i hi).2.2
 room := aq
end Go.Proofs.YtbcecodakfejaaaGreat.br
namespace Go.Proofs.YtbcecodakfejaaaGreat
open Go.RowKit
section
variable {P : Program} {a8 : eL} {bq A : Nat → Prop} {R : aI} {s s' : aC} {a a' : Act} {w w' : World} {ad aX : Nat → Nat}
theorem eD.Xv (aq : eD a8 bq R s a w A ad) (i : Nat) (r : bG) (hi : R i = some r) (bH : 0 < r.sz) : ∃ ea, eD a8 bq (fun j => if j = i then none else R j) s a w ea ad ∧ gx (s.free ea ad) ad w (.p (cM r.sz r.n r.aU)) r.v := by
 obtain ⟨pn, c4, an⟩ := aq.rows i r hi;obtain ⟨xs, az, hl⟩ := pn.row bH;have vL : ∀ b, s.free A ad b → b < w.heap.size → s.free (fun b => A b ∨ r.v.ownBlock = some b) ad b ∧ w.heap[b]? = w.heap[b]? := fun b ab _ => ⟨⟨.inl ab.1, ab.2⟩, rfl⟩;have vN : Rel (lv a8 s ad w) (fun b => A b ∨ r.v.ownBlock = some b) s ad a w := aq.rel.vz (fun b ab _ => ⟨.inl ab, rfl⟩) (fun k cs af => ⟨rfl, fun ap => ap.2 k cs af rfl⟩) (jr.refl _) (fun b ab => .inl (aq.rel.up b ab)) (vQ _ _ _)
 have rJ : eD a8 bq (fun j => if j = i then none else R j) s a w (fun b => A b ∨ r.v.ownBlock = some b) ad := by
  refine ⟨aq.up, ?_, vN, aq.px, aq.below, fun j q ae => ?_, fun j k q cf ae af k7 => ?_, fun j q g ae => ?_, aq.j8⟩
  ·rintro b (ab | ab)
   ·exact aq.sub b ab
   ·exact (aq.hot i r b hi (.inl ab)).2
  ·have gm : j ≠ i := fun e => by rw [if_pos e] at ae; cases ae
   rw [if_neg gm] at ae;obtain ⟨l4, BC, BD⟩ := aq.rows j q ae;refine ⟨l4.kept BC (fun _ _ => rfl) (dI _) vL, BC, fun g ec => ⟨?_, (BD g ec).2⟩⟩;rintro (ab | ab)
   ·exact (BD g ec).1 ab
   ·exact aq.apart i j r q hi ae (Ne.symm gm) g (.inl ab) ec
  ·have gm : j ≠ i := fun e => by rw [if_pos e] at ae; cases ae
   have k8 : k ≠ i := fun e => by rw [if_pos e] at af; cases af
   rw [if_neg gm] at ae;rw [if_neg k8] at af;exact aq.apart j k q cf ae af k7
  ·have gm : j ≠ i := fun e => by rw [if_pos e] at ae; cases ae
   rw [if_neg gm] at ae;exact aq.hot j q g ae
 refine ⟨fun b => A b ∨ r.v.ownBlock = some b, rJ, ?_⟩
 ·have l5 := hl.1;obtain ⟨kf, aw | ⟨g, cap, cur, jd, nJ, rN, ez, jb, eb, mA⟩⟩ := id az
  ·obtain ⟨aG, aO⟩ := aw;have : r.aU = [] := ks (by rw [l5, kf, aO]; simp);rw [aG];exact ⟨⟨none, 0, by rw [aO], by omega, by rw [this, aO]; simp, fun h => absurd h (by omega)⟩, fun b ⟨c', a', q, aw, ab⟩ => by cases q⟩
  ·have ul := az.cells (g := g) (by rw [jd]; rfl);rw [jd];have rG : lh w ⟨g, 0, none⟩ r.aU xs := ⟨(j2.1 rN).1, hl.xr c4 fun b _ _ => ⟨trivial, rfl⟩, ul, c4⟩;refine ⟨⟨some ⟨g, 0, none⟩, cap, rfl, ez, by rw [l5]; exact kf, fun aw => ⟨⟨g, 0, none⟩, xs, rfl, rG⟩⟩, ?_⟩;rintro b ⟨c', a', q, aw, ap⟩;cases q;rcases ap with rfl | ⟨j, y, v, ai, hv, gl⟩
   ·exact ⟨.inr rfl, (an g (.inl (by rw [jd]; rfl))).2⟩
   ·have bb : j < xs.length := by rw [← l5]; exact (bL.1 ai).1
    have h2 := ul j _ (bN bb);rw [hv] at h2;cases h2;have h3 := hl.2 j y _ ai (bN bb);cases y with
    | c u => cases gl
    | own k o => cases gl
    | p S => have := h3.2 b gl; exact ⟨.inl this.1, this.2⟩
theorem Tj (i k off : Nat) {c : Code} {Q : Exit → aI → aC → Prop} {cs : List AC} (r : bG) (hi : R i = some r) (af : s.mem k = some cs) (aj : cs[off]? = some (.c r.v)) (h : fu P c Q (fun j => if j = i then none else R j) (s.ej k (cs.set off (.p (cM r.sz r.n r.aU))))) (bH : 0 < r.sz := by first | decide | exact j4 _) : fu P c Q R s := by
 rintro ok a8 bq a w ⟨A, ad, aq⟩;obtain ⟨ea, Dh, w2⟩ := aq.Xv i r hi bH
 have Zl := Dh.next (Dh.rel.ag2 (ds := cs.set off (.p (cM r.sz r.n r.aU))) af fun vs hv => ⟨by rw [List.length_set]; exact hv.1, fun j x u aa hu => by
  rw [List.getElem?_set] at aa
  by_cases e : off = j
  ·subst e;rw [if_pos rfl] at aa
   split at aa
   ·cases aa;obtain ⟨rfl, _⟩ := hv.2 off _ u aj hu;exact w2
   ·cases aa
  ·rw [if_neg e] at aa;exact hv.2 j x u aa hu⟩)
 refine h (ok.ej fun x aa j ae => ?_) a8 bq a w ⟨ea, ad, Zl⟩;rcases List.mem_or_eq_of_mem_set aa with aa | rfl
 ·exact ok.dz k cs x j af aa ae
 ·cases ae
end
section
variable {P : Program} {s : aC} {ops : Array Oper} {K : aC → Prop} {rest : List Oper} {ty : Nat} {pos : String} {after : Array Edge} {guard : Option (Nat × Bool)} {d : Nat}
end
theorem ahq {xs aU : List AC} (hl : xs.length = aU.length) (h : ∀ (i : Nat) x y, xs[i]? = some x → aU[i]? = some y → x = y ∨ (x = .c (.slice none 0 0) ∧ ∃ z, y = .p (cM z 0 []))) (U : Nat → Prop) (ad : Nat → Nat) (W : World) (vs : List Value) (hv : bM U ad W xs vs) : bM U ad W aU vs := by
 refine ⟨by rw [← hl]; exact hv.1, fun i y v ai hu => ?_⟩;have hi : i < xs.length := by rw [hl]; exact (bL.1 ai).1
 have aa := bN hi;have h1 := hv.2 i _ v aa hu;rcases h i _ y aa ai with e | ⟨e, z, rfl⟩
 ·rw [← e]; exact h1
 ·rw [e] at h1;exact QV z U ad W v h1
theorem LH {xs aU : List AC} (hl : xs.length = aU.length) (h : ∀ (i : Nat) x y, xs[i]? = some x → aU[i]? = some y → x = y ∨ (x = .c (.slice none 0 0) ∧ ∃ z, y = .p (cM z 0 []))) : ah.aK (.w (.agg xs)) (.w (.agg aU)) := fun U ad W v hv => by
 obtain ⟨vs, rfl, e6⟩ := hv;exact ⟨vs, rfl, ahq hl h U ad W vs e6⟩
section
variable {U : Nat → Prop} {W : World} {x y : AC} {xs aU : List AC}
end
structure Vp where
 l : Nat
 U : Nat → Prop
 ic : World
 mm : Nat → Prop
 J : Nat → (Nat → Prop) → World → Prop
 ajv : (Nat → Prop) → World → Prop
 xs : List (List ah)
section
variable {P : Program} {X : Vp} {x y c : Code} {Q : Exit → Option Nat → aC → Prop} {g jP : Option Nat} {s s' : aC} {a a' : Act} {w w' w2 : World} {A : Nat → Prop} {ad aX : Nat → Nat} {C : Nat → Prop}
end
def Ub (pV : Bool → Prop) : e4 where
 holds w v := ∃ b, v = .bool b ∧ pV b
 lu w v b := False
 frame w w' v := fun h ap => ⟨h, fun b ab => ab⟩
 iR w v b := fun h ap => ap.elim
 cell w v := by rintro ⟨b, rfl, _⟩; rfl
abbrev BE (pV : Bool → Prop) : ah := .w (.one (.p (Ub pV)))
section
variable {P : Program} {ops : Array Oper} {K : aC → Prop} {rest : List Oper} {s : aC} {d ty : Nat} {pos : String} {after : Array Edge} {guard : Option (Nat × Bool)}
theorem Y2 {op : BinOp} {t : TypeId} {x y : Operand} {a : Option Addr} {n c : Nat} {v : Value} : eqGuard op t x y (.slice a n c) v = pure () := by cases op <;> rfl
theorem V1 {t ed sz n e bytes : Nat} {x : Operand} {xs : List AC} [T : lm P t e sz bytes] (hw : want ops ⟨some d, .binOp .eql t x (.const (.slice none 0 0)) ed, ty, pos, after, guard⟩ s = some true) (aa : s.look x = some (cK sz n xs)) (hd : Nat.blt d s.n = true) (h : bg P ops K rest (s.put (some d) (BE fun b => b = true → n = 0))) : bg P ops K (⟨some d, .binOp .eql t x (.const (.slice none 0 0)) ed, ty, pos, after, guard⟩ :: rest) s := by
 obtain ⟨_, _, hu, _⟩ := qW T.h;refine gi (av := BE fun b => b = true → n = 0) hw ⟨fun _ _ h => (by cases h), fun z aN => ?_, fun U ad W env he => ?_, fun j ae => absurd ae (lF _ j)⟩ hd h
 ·simp [Op.operands] at aN;rcases aN with rfl | rfl
  ·exact ⟨_, aa⟩
  ·exact ⟨_, rfl⟩
 ·obtain ⟨⟨A, c, hv, _, _, dn⟩, _⟩ := he x (by simp [Op.operands]) _ aa;have aO : env (.const (.slice none 0 0)) = .slice none 0 0 := (he (.const (.slice none 0 0)) (by simp [Op.operands]) _ rfl).1;refine ⟨.bool A.isNone, ?_, ⟨_, rfl, fun ab => ?_⟩, fun b ab => ab.elim⟩
  ·simp only [execOp, hv, aO, Y2, Sem.run_bind, Sem.run_pure, Result.andThen_ok, Lib.run_eql_slice_nil W t e A n c 0 0 hu]
  ·refine Classical.byContradiction fun aw => ?_;obtain ⟨a, _, e, _⟩ := dn (by omega);rw [e] at ab; cases ab
end
section
variable {P : Program} {c : Code} {s : aC}
theorem Rel.TI {B : eL} {A : Nat → Prop} {ad : Nat → Nat} {a : Act} {w : World} {d : Nat} {pV : Bool → Prop} (h : Rel B A s ad a w) (hd : s.tmps d = some (BE pV)) : ∃ b, pV b ∧ Rel B A (s.put (some d) (a7 b)) ad a w := by
 obtain ⟨v, h1, ⟨b, rfl, ab⟩, _⟩ := h.hz d _ hd;refine ⟨b, ab, h.Kc hd fun u hu _ => ?_⟩;rw [h1] at hu;cases hu;exact ⟨rfl, rfl⟩
theorem WY (d : Nat) {Q : Exit → aC → Prop} {pV : Bool → Prop} (hd : s.tmps d = some (BE pV)) (h : ∀ b, pV b → fg P c Q (s.put (some d) (a7 b))) : fg P c Q s := by
 intro ok B A ad a w aq;obtain ⟨b, ab, b6⟩ := aq.TI hd;exact h b ab (ok.put fun j ae => absurd ae (jf _ j)) B A ad a w b6
theorem Tm (d : Nat) {Q : Exit → aI → aC → Prop} {R : aI} {pV : Bool → Prop} (hd : s.tmps d = some (BE pV)) (h : ∀ b, pV b → fu P c Q R (s.put (some d) (a7 b))) : fu P c Q R s := by
 intro ok a8 bq a w ⟨A, ad, aq⟩;obtain ⟨b, ab, b6⟩ := aq.rel.TI hd;exact h b ab (ok.put fun j ae => absurd ae (jf _ j)) a8 bq a w ⟨A, ad, aq.next b6⟩
end
def AC.wL : AC → Bool
 | .p _ => false
 | _ => true
def n0 (m : Mem) (R : aI) : Prop := (∀ k cs, m k = some cs → cs.all AC.wL = true) ∧ ∀ i r, R i = some r → 0 < r.sz ∧ r.aU.all AC.wL = true
theorem bM.plain {U cR : Nat → Prop} {ad : Nat → Nat} {W bk : World} {xs : List AC} {vs : List Value} (h : bM U ad W xs vs) (hp : xs.all AC.wL = true) : bM cR ad bk xs vs := by
 refine ⟨h.1, fun i x v aa hv => ?_⟩;have h1 := h.2 i x v aa hv;have h2 := cB.1 hp x (dc aa);cases x with
 | c u => exact h1
 | own k o => exact h1
 | p S => cases h2
theorem bG.ok.plain {U cR : Nat → Prop} {ad : Nat → Nat} {W : World} {r : bG} (h : r.ok U ad W) (hs : 0 < r.sz) (hp : r.aU.all AC.wL = true) : r.ok cR ad W := by
 obtain ⟨xs, h1, h2⟩ := h.row hs;exact .inl ⟨hs, xs, h1, h2.plain hp⟩
abbrev n1 (b off : Nat) : Value := .pointer (some ⟨b, off, none⟩)
abbrev eh (b : Nat) : Value := n1 b 0
abbrev uL : Nat → Prop := fun _ => False
theorem e9.lt {U : Nat → Prop} {ad : Nat → Nat} {W : World} {m : Mem} {R : aI} (h : e9 U ad W m R) {b : Nat} (ab : er ad m R b) : b < W.heap.size := by
 rcases ab with ⟨k, cs, af, rfl⟩ | ⟨i, r, hi, an⟩
 ·obtain ⟨vs, ty, h1, _⟩ := h.dz k cs af;exact (j2.1 h1).1
 ·exact (h.rows i r hi).1.lt an
def lM (ad : Nat → Nat) (m : Mem) (R : aI) (k : Nat) : e4 where
 holds w v := v = eh (ad k) ∧ e9 uL ad w m R ∧ n0 m R
 lu w v b := er ad m R b
 frame := by
  rintro w w' v ⟨rfl, h, hp⟩ ap;refine ⟨⟨rfl, ⟨fun j cs ae => ?_, h.fN, h.inj, fun i r hi => ?_, h.apart⟩, hp⟩, fun b ab => ab⟩
  ·obtain ⟨vs, ty, h1, h2, h3⟩ := h.dz j cs ae;exact ⟨vs, ty, by rw [ap _ (.inl ⟨j, cs, ae, rfl⟩)]; exact h1, h2.plain (hp.1 j cs ae), h3⟩
  ·obtain ⟨h1, h2, h3⟩ := h.rows i r hi;obtain ⟨xs, g1, g2⟩ := h1.row (hp.2 i r hi).1;exact ⟨.inl ⟨(hp.2 i r hi).1, xs, JP g1 fun g q => ap g (.inr ⟨i, r, hi, .inl q⟩), g2.plain (hp.2 i r hi).2⟩, h2, h3⟩
 iR := fun w v b ⟨_, h, _⟩ ab => h.lt ab
 cell := fun w v ⟨e, _⟩ => by rw [e]; rfl
def EG (ad : Nat → Nat) (m : Mem) (R : aI) (k : Nat) : bG := ⟨0, 0, eh (ad k), 0, [.p (lM ad m R k)]⟩
theorem Rb {ad : Nat → Nat} {m : Mem} {R : aI} {k : Nat} {W : World} (h : e9 uL ad W m R) (hp : n0 m R) {b : Nat} : (EG ad m R k).own b ↔ er ad m R b := by
 constructor
 ·rintro (h1 | ⟨_, S, w, h1, h2, h3⟩)
  ·cases h1
  ·cases h1; exact h3
 ·exact fun h1 => .inr ⟨rfl, lM ad m R k, W, rfl, ⟨rfl, h, hp⟩, h1⟩
theorem Rc {ad : Nat → Nat} {m : Mem} {R : aI} {k : Nat} {b : Nat} (h : (EG ad m R k).own b) : er ad m R b := by
 rcases h with h1 | ⟨_, S, w, h1, h2, h3⟩
 ·cases h1
 ·cases h1; exact h3
theorem aeb {U : Nat → Prop} {ad aX : Nat → Nat} {m : Mem} {R : aI} {k : Nat} {W : World} (h : e9 uL ad W m R) (hp : n0 m R) : (EG ad m R k).ok U aX W :=
 .inr ⟨rfl, rfl, rfl, ⟨_, rfl, rfl, h, hp⟩, fun b ab => h.lt (Rc ab)⟩
theorem aea {U : Nat → Prop} {ad aX : Nat → Nat} {m : Mem} {R : aI} {k : Nat} {W : World} (h : (EG ad m R k).ok U aX W) : e9 uL ad W m R ∧ n0 m R := by
 rcases h with ⟨h1, _⟩ | ⟨_, _, _, ⟨S, hS, aR⟩, _⟩
 ·cases h1
 ·cases hS; exact aR.2
theorem e9.sub {U : Nat → Prop} {ad : Nat → Nat} {W : World} {m m1 : Mem} {R bf : aI} (h : e9 U ad W m R) (hm : ∀ k cs, m1 k = some cs → m k = some cs) (al : bx bf R) (fN : ∀ k cs x j, m1 k = some cs → x ∈ cs → x.owns j → ∃ ar, m1 j = some ar) : e9 U ad W m1 bf := by
 refine ⟨fun k cs af => h.dz k cs (hm k cs af), fN, fun k k' cs ar af eP => h.inj k k' cs ar (hm k cs af) (hm k' ar eP), fun i r hi => ?_, fun i j r q hi ae => h.apart i j r q (al i r hi) (al j q ae)⟩;obtain ⟨h1, h2, h3⟩ := h.rows i r (al i r hi);exact ⟨h1, h2, fun g an => ⟨(h3 g an).1, fun k cs af => (h3 g an).2 k cs (hm k cs af)⟩⟩
theorem e9.none {U : Nat → Prop} {ad : Nat → Nat} {W : World} {m : Mem} {R : aI} (h : e9 U ad W m R) (hp : n0 m R) : e9 uL ad W m R := by
 refine ⟨fun k cs af => ?_, h.fN, h.inj, fun i r hi => ?_, h.apart⟩
 ·obtain ⟨vs, ty, h1, h2, _⟩ := h.dz k cs af;exact ⟨vs, ty, h1, h2.plain (hp.1 k cs af), id⟩
 ·obtain ⟨h1, h2, h3⟩ := h.rows i r hi;exact ⟨h1.plain (hp.2 i r hi).1 (hp.2 i r hi).2, h2, fun g an => ⟨id, (h3 g an).2⟩⟩
theorem e9.more {U : Nat → Prop} {ad : Nat → Nat} {W : World} {m : Mem} {R : aI} (h : e9 uL ad W m R) (hp : n0 m R) (dx : ∀ b, er ad m R b → ¬ U b) : e9 U ad W m R := by
 refine ⟨fun k cs af => ?_, h.fN, h.inj, fun i r hi => ?_, h.apart⟩
 ·obtain ⟨vs, ty, h1, h2, _⟩ := h.dz k cs af;exact ⟨vs, ty, h1, h2.plain (hp.1 k cs af), dx _ (.inl ⟨k, cs, af, rfl⟩)⟩
 ·obtain ⟨h1, h2, h3⟩ := h.rows i r hi;exact ⟨h1.plain (hp.2 i r hi).1 (hp.2 i r hi).2, h2, fun g an => ⟨dx g (.inr ⟨i, r, hi, an⟩), (h3 g an).2⟩⟩
theorem e9.adX {U : Nat → Prop} {ad : Nat → Nat} {W : World} {m : Mem} {R : aI} (h : e9 U ad W m R) {b : Nat} (ab : er ad m R b) : ¬ U b := by
 rcases ab with ⟨k, cs, af, rfl⟩ | ⟨i, r, hi, an⟩
 ·exact (h.dz k cs af).choose_spec.choose_spec.2.2
 ·exact ((h.rows i r hi).2.2 b an).1
abbrev jH (p : Value) (S : e4) : bG := ⟨0, 0, p, 0, [.p S]⟩
def y5 (P : Program) (f : FuncId) (args : List ah) (p : Value) (S : e4) (post : ah → e4 → Prop) : Prop := ∀ i, du P f args cj (bC i (jH p S)) fun v aH ay => ∃ dw, aH = cj ∧ ay = bC i (jH p dw) ∧ post v dw
def Gv (P : Program) (f : FuncId) (args : List ah) (post : Value → e4 → Prop) : Prop := ∀ i, du P f args cj eU fun v aH ay => ∃ p S, aH = cj ∧ ay = bC i (jH p S) ∧ v = aQ p ∧ post p S
theorem St {U : Nat → Prop} {ad : Nat → Nat} {W : World} {k off : Nat} {v : Value} (h : v = n1 (ad k) off) : de U ad W (.w (.one (.own k off))) v := by subst h; rfl
theorem kD.closed {U : Nat → Prop} {ad aX : Nat → Nat} {W : World} {args : List ah} {vs : List Value} (aj : args.all ah.aZ = true) (h : kD U ad W args vs) : kD U aX W args vs :=
 ⟨h.1, fun i x v aa hv => (h.2 i x v aa hv).map (fun b ab _ => ⟨ab, rfl⟩) fun j ae => absurd ae (ah.dC (cB.1 aj x (dc aa)) j)⟩
theorem EH {ad : Nat → Nat} {m : Mem} {R : aI} {k : Nat} {b : Nat} (h : (jH (eh (ad k)) (lM ad m R k)).own b) : er ad m R b := Rc h
theorem aiN {P : Program} {f : FuncId} {args : List ah} {ad : Nat → Nat} {m : Mem} {R : aI} {k off : Nat} {Post : ah → Mem → aI → Prop} {Post2 : ah → Mem → aI → Prop} (af : ∃ cs, m k = some cs) (eo : args.all ah.aZ = true) (aj : du P f (.w (.one (.own k off)) :: args) m R Post) (i : Nat)
  (hp : ∀ r m1 bf eK o4 ic v, Post r m1 bf → eK k = ad k → e9 o4 eK ic m1 bf → de o4 eK ic r v → ∃ cC ev, Post2 cC cj ev ∧ cC.aZ = true ∧ de o4 eK ic cC v ∧ e9 o4 eK ic cj ev ∧ (∃ q, ev i = some q) ∧ ∀ b, er eK cj ev b → er eK m1 bf b) : du P f (aQ (n1 (ad k) off) :: args) cj (bC i (jH (eh (ad k)) (lM ad m R k))) Post2 := by
 refine ⟨fun U ajp W vs cq cy cW => ?_⟩;have hi : bC i (jH (eh (ad k)) (lM ad m R k)) i = some (jH (eh (ad k)) (lM ad m R k)) := by unfold bC; exact cF _ _ _
 obtain ⟨c9, _, vY⟩ := cq.rows i _ hi;obtain ⟨aR, rQ⟩ := aea c9
 have gQ : ∀ b, er ajp cj (bC i (jH (eh (ad k)) (lM ad m R k))) b ↔ er ad m R b := fun b => by
  constructor
  ·rintro (⟨j, cs, ae, _⟩ | ⟨j, q, ae, an⟩)
   ·cases ae
   ·obtain ⟨rfl, rfl⟩ := fO ae; exact EH an
  ·exact fun h => .inr ⟨i, _, hi, (Rb aR rQ).2 h⟩
 have dx : ∀ b, er ad m R b → ¬ U b := fun b ab => (vY b ((Rb aR rQ).2 ab)).1;obtain ⟨hlen, hv⟩ := cW
 match vs, hlen with
 | v0 :: vs, hlen =>
  have pp : v0 = n1 (ad k) off := (hv 0 _ v0 rfl rfl).1;have wb : kD U ad W args vs := kD.closed eo ⟨by simpa using hlen, fun j x v aa b8 => hv (j + 1) x v aa b8⟩;refine (aj.call U ad W (v0 :: vs) (aR.more rQ dx) (fun x aa j ae => ?_) ⟨hlen, fun j x v aa b8 => ?_⟩).mono ?_
  ·rcases fl.1 aa with rfl | aa
   ·obtain ⟨y, ai, ae⟩ := ae;simp [bA.cells] at ai;subst ai;cases ae;exact af
   ·exact absurd ae (ah.dC (cB.1 eo x aa) j)
  ·match j with
   | 0 => cases aa; cases b8; exact St pp
   | j + 1 => exact wb.2 j x v aa b8
  ·rintro e bk ⟨v, r, m1, bf, eK, o4, rfl, kh, Dg, qD, jD, ba, bo, bY, b0, ab⟩;have jU : eK k = ad k := by obtain ⟨cs, h⟩ := af; exact (ba k cs h).1
   obtain ⟨cC, ev, q1, q2, bB, cS, lH, J6⟩ := hp r m1 bf eK o4 bk v kh jU Dg qD;refine ⟨v, cC, cj, ev, eK, o4, rfl, q1, cS, bB, fun j ae => absurd ae (ah.dC q2 j), fun k cs af => (by cases af), fun j q ae => ?_, fun b ab => ?_, fun b ab => ?_, ⟨ab.os, ab.tape, ab.output, ab.size, fun b ap => ab.block b ⟨ap.1, fun H8 => ap.2 ((gQ b).2 H8)⟩⟩⟩
   ·obtain ⟨rfl, rfl⟩ := fO ae;exact lH
   ·rcases bY b ab with q | q | q
    ·exact .inl q
    ·exact .inr (.inl q)
    ·exact .inr (.inr ((gQ b).2 q))
   ·rcases b0 b (J6 b ab) with q | q
    ·exact .inl ((gQ b).2 q)
    ·exact .inr q
theorem Rd {U : Nat → Prop} {ad aX : Nat → Nat} {W : World} {m m1 : Mem} {R bf : aI} {k : Nat} (h : e9 U ad W m R) (hm : ∀ k cs, m1 k = some cs → m k = some cs) (al : bx bf R) (fN : ∀ k cs x j, m1 k = some cs → x ∈ cs → x.owns j → ∃ ar, m1 j = some ar) (hp : n0 m1 bf) :
  (jH (eh (ad k)) (lM ad m1 bf k)).ok U aX W ∧ (∀ y ∈ (jH (eh (ad k)) (lM ad m1 bf k)).aU, y.aZ = true) ∧ ∀ g, (jH (eh (ad k)) (lM ad m1 bf k)).own g → ¬ U g ∧ ∀ j cs, cj j = some cs → aX j ≠ g :=
 ⟨aeb ((h.sub hm al fN).none hp) hp, fun y ai => by simp at ai; subst ai; rfl, fun g an => ⟨(h.sub hm al fN).adX (EH an), fun j cs ae => (by cases ae)⟩⟩
theorem TK {P : Program} {f : FuncId} {args : List ah} {ad : Nat → Nat} {m : Mem} {R : aI} {k off : Nat} {Post : ah → Mem → aI → Prop} {post : ah → e4 → Prop} (af : ∃ cs, m k = some cs) (eo : args.all ah.aZ = true) (aj : du P f (.w (.one (.own k off)) :: args) m R Post)
  (hp : ∀ v m1 bf, Post v m1 bf → v.aZ = true ∧ n0 m1 bf ∧ ∀ eK, eK k = ad k → post v (lM eK m1 bf k)) : y5 P f (aQ (n1 (ad k) off) :: args) (eh (ad k)) (lM ad m R k) post := by
 intro i;refine aiN af eo aj i fun r m1 bf eK o4 ic v kh jU cq qD => ?_;obtain ⟨c1, c2, jA⟩ := hp _ _ _ kh;have ab := Rd (aX := eK) (k := k) cq (fun _ _ h => h) (bx.refl _) cq.fN c2;refine ⟨r, bC i (jH (eh (ad k)) (lM eK m1 bf k)), ⟨_, rfl, rfl, jA eK jU⟩, c1, qD, ⟨fun k cs af => (by cases af), fun k cs x j af => (by cases af), fun k k' cs ar af => (by cases af), fun j q ae => ?_, fun j dH q cf ae iu b7 => ?_⟩, ⟨_, by unfold bC; exact cF _ _ _⟩, ?_⟩
 ·obtain ⟨rfl, rfl⟩ := fO ae;rw [← jU]; exact ab
 ·obtain ⟨rfl, _⟩ := fO ae;obtain ⟨rfl, _⟩ := fO iu;exact absurd rfl b7
 ·rintro b (⟨j, cs, ae, _⟩ | ⟨j, q, ae, an⟩)
  ·cases ae
  ·obtain ⟨rfl, rfl⟩ := fO ae;rw [← jU] at an;exact EH an
theorem aiM {P : Program} {f : FuncId} {args : List ah} {Post : ah → Mem → aI → Prop} {post : Value → e4 → Prop} (aj : du P f args cj eU Post)
  (hp : ∀ v m1 bf, Post v m1 bf → ∃ k, v = .w (.one (.own k 0)) ∧ n0 m1 bf ∧ ∀ eK, post (eh (eK k)) (lM eK m1 bf k)) : Gv P f args post := by
 intro i;refine ⟨fun U ad W vs cq cy cW => (aj.call U ad W vs cq cy cW).mono ?_⟩;rintro e bk ⟨v, r, m1, bf, eK, o4, rfl, kh, Dg, qD, jD, ba, bo, bY, b0, ab⟩;obtain ⟨k, rfl, c2, jA⟩ := hp _ _ _ kh;have ZB := Rd (aX := eK) (k := k) Dg (fun _ _ h => h) (bx.refl _) Dg.fN c2;have hv : v = eh (eK k) := qD;refine ⟨v, aQ (eh (eK k)), cj, bC i (jH (eh (eK k)) (lM eK m1 bf k)), eK, o4, rfl, ⟨_, _, rfl, rfl, rfl, jA eK⟩, ⟨fun k cs af => (by cases af), fun k cs x j af => (by cases af), fun k k' cs ar af => (by cases af), fun j q ae => ?_, fun j dH q cf ae iu b7 => ?_⟩, ⟨hv, rfl⟩, fun j ae => absurd ae (jf _ j), fun k cs af => (by cases af), fun j q ae => (by cases ae), bY, fun b ab => ?_, ab⟩
 ·obtain ⟨rfl, rfl⟩ := fO ae;exact ZB
 ·obtain ⟨rfl, _⟩ := fO ae;obtain ⟨rfl, _⟩ := fO iu;exact absurd rfl b7
 ·rcases ab with ⟨j, cs, ae, _⟩ | ⟨j, q, ae, an⟩
  ·cases ae
  ·obtain ⟨rfl, rfl⟩ := fO ae;exact b0 b (EH an)
section
variable {P : Program} {R : aI} {s : aC} {ops : Array Oper} {dr : Option (List Nat)} {ty : Nat} {pos : String} {after : Array Edge} {guard : Option (Nat × Bool)} {K : aI → aC → Prop} {rest : List Oper}
theorem Al (i : Nat) {dst : Option Nat} {f : FuncId} {g : Operand} {aL : Array TypeId} {l : List Operand} {args : List ah} {p : Value} {S : e4} {post : ah → e4 → Prop} [E : Enters P f] (hw : want ops ⟨dst, .call ⟨.value g, l.toArray, aL⟩, ty, pos, after, guard⟩ s = some true) (hm : cY dr ⟨dst, .call ⟨.value g, l.toArray, aL⟩, ty, pos, after, guard⟩ = true)
  (an : s.look g = some (aQ (.func (.func f) #[] #[]))) (aF : l.map s.look = args.map some) (hp : y5 P f args p S post) (hi : R i = some (jH p S)) (eo : args.all ah.aZ = true) (hd : lp dst s.n = true)
  (h : ∀ v dw, post v dw → cT P ops dr K rest (bI R i (jH p dw)) (s.put dst v)) : cT P ops dr K (⟨dst, .call ⟨.value g, l.toArray, aL⟩, ty, pos, after, guard⟩ :: rest) R s := by
 refine we hw hm an aF (hp i) (fun x aa j ae => absurd ae (ah.dC (cB.1 eo x aa) j)) (fun k' ar aM => by cases aM) (fun eH aV aM => ?_) (fun k' ar x j aM aa ae => by cases aM) hd ?_
 ·obtain ⟨rfl, rfl⟩ := fO aM; exact hi
 ·rintro v aH ay ⟨dw, rfl, rfl, ak⟩;refine ⟨fun k' c aM => (by cases aM), ?_⟩;rw [show bX (bC i (jH p dw)) R = bI R i (jH p dw) from wI R i _, uT];exact h v dw ak
theorem Pf (i : Nat) {dst : Option Nat} {f : FuncId} {g : Operand} {aL : Array TypeId} {l : List Operand} {args : List ah} {post : Value → e4 → Prop} [E : Enters P f] (hw : want ops ⟨dst, .call ⟨.value g, l.toArray, aL⟩, ty, pos, after, guard⟩ s = some true) (hm : cY dr ⟨dst, .call ⟨.value g, l.toArray, aL⟩, ty, pos, after, guard⟩ = true)
  (an : s.look g = some (aQ (.func (.func f) #[] #[]))) (aF : l.map s.look = args.map some) (hp : Gv P f args post) (eo : args.all ah.aZ = true) (hd : lp dst s.n = true)
  (h : ∀ p S, post p S → cT P ops dr K rest (bI R i (jH p S)) (s.put dst (aQ p))) : cT P ops dr K (⟨dst, .call ⟨.value g, l.toArray, aL⟩, ty, pos, after, guard⟩ :: rest) R s := by
 refine we hw hm an aF (hp i) (fun x aa j ae => absurd ae (ah.dC (cB.1 eo x aa) j)) (fun k' ar aM => by cases aM) (fun eH aV aM => by cases aM) (fun k' ar x j aM aa ae => by cases aM) hd ?_;rintro v aH ay ⟨p, S, rfl, rfl, rfl, ak⟩;refine ⟨fun k' c aM => (by cases aM), ?_⟩;rw [show bX (bC i (jH p S)) R = bI R i (jH p S) from wI R i _, uT];exact h p S ak
end
section
variable {P : Program} {s : aC} {ops : Array Oper} {K : aC → Prop} {rest : List Oper} {ty : Nat} {pos : String} {after : Array Edge} {guard : Option (Nat × Bool)} {d : Nat}
theorem Wv {x : Operand} {b off : Nat} (hw : want ops ⟨some d, .nilCheck x, ty, pos, after, guard⟩ s = some true) (aa : s.look x = some (aQ (n1 b off))) (hd : Nat.blt d s.n = true) (h : bg P ops K rest (s.put (some d) (aQ (n1 b off)))) : bg P ops K (⟨some d, .nilCheck x, ty, pos, after, guard⟩ :: rest) s := by
 refine gi hw ⟨fun _ _ h => (by cases h), fun y ai => ?_, fun U ad W env he => ?_, fun j ae => absurd ae (jf _ j)⟩ hd h
 ·simp [Op.operands] at ai;subst ai;exact ⟨_, aa⟩
 ·have hv : env x = n1 b off := (he x (by simp [Op.operands]) _ aa).1;exact ⟨_, by simp only [execOp, hv]; rfl, rfl, rfl⟩
theorem V8 {x : Operand} {qY i b off iK : Nat} [F : nx P qY i iK] (hw : want ops ⟨some d, .fieldAddr qY x i, ty, pos, after, guard⟩ s = some true) (aa : s.look x = some (aQ (n1 b off))) (hd : Nat.blt d s.n = true) (h : bg P ops K rest (s.put (some d) (aQ (n1 b (off + iK))))) : bg P ops K (⟨some d, .fieldAddr qY x i, ty, pos, after, guard⟩ :: rest) s := by
 refine gi (av := aQ (n1 b (off + iK))) hw ⟨fun _ _ h => (by cases h), fun y ai => ?_, fun U ad W env he => ?_, fun j ae => absurd ae (jf _ j)⟩ hd h
 ·simp [Op.operands] at ai;subst ai;exact ⟨_, aa⟩
 ·have hp : env x = .pointer (some ⟨b, off, none⟩) := (he x (by simp [Op.operands]) _ aa).1;have hF := F.h;unfold ud at hF
  split at hF
  ·rename_i bi hu;cases ap : bi[i]? with
   | none => rw [ap] at hF; cases hF
   | some f =>
    rw [ap] at hF;simp only [kU] at hF;cases hi : P.info? f.type with
    | none => rw [hi] at hF; cases hF
    | some t =>
     rw [hi] at hF;simp only [kU] at hF
     split at hF
     ·cases hF
     ·rename_i b7;cases hF;refine ⟨.pointer (some ⟨b, off + f.offset, none⟩), ?_, rfl, rfl⟩;have k6 : (⟨b, off, none⟩ : Addr).add f.offset = ⟨b, off + f.offset, none⟩ := by unfold Addr.add; split <;> simp_all
      simp only [execOp, Instr.fieldAt, hp, Instr.sureAddr, Sem.run_bind, Sem.run_pure, Result.andThen_ok, run_underlying hu, ap, fieldPlace, h5 hi, if_neg b7, k6]
  ·cases hF
theorem ahC (n : Nat) {t e : TypeId} (hu : P.underlying t = some (.pointer e)) (a : Addr) (W : World) : (Op.equalIn (n + 1) t (.pointer (some a)) (.pointer none)).run P W = .ok false W := by
 simp [Op.equalIn, run_underlying hu]
theorem ahD {t e : TypeId} (hu : P.underlying t = some (.pointer e)) (a : Addr) (W : World) : (Op.equal t (.pointer (some a)) (.pointer none)).run P W = .ok false W := ahC 9999 hu a W
theorem ahB {t e : TypeId} (hu : P.underlying t = some (.pointer e)) (a : Addr) (W : World) : (binOp .eql t (.pointer (some a)) (.pointer none)).run P W = .ok (.bool false) W := by
 simp only [binOp];simp [ahD hu]
theorem Y1 {op : BinOp} {t : TypeId} {x y : Operand} {a : Option Addr} {v : Value} : eqGuard op t x y (.pointer a) v = pure () := by cases op <;> rfl
def PD (P : Program) (t : TypeId) : Bool := match P.underlying t with
 | some (.pointer _) => true
 | _ => false
end
section
variable {P : Program} {s : aC} {ops : Array Oper} {K : aC → Prop} {rest : List Oper} {ty : Nat} {pos : String} {after : Array Edge} {guard : Option (Nat × Bool)} {d : Nat}
end
theorem e4.same {A B : e4} (h1 : A.holds = B.holds) (h2 : A.lu = B.lu) : A = B := by
 cases A; cases B; cases h1; cases h2; rfl
theorem AC.SS {bF : Nat → Nat} (x : AC) : (x.a6 bF).wL = x.wL := by cases x <;> rfl
theorem agk {bF ca iV : Nat → Nat} (fE : ∀ j, bF (bF j) = j) (fM : ∀ j, ca (iV j) = j) {m : Mem} {R : aI} : n0 (m.a6 bF) (R.a6 ca) ↔ n0 m R := by
 constructor
 ·rintro ⟨h1, h2⟩;refine ⟨fun k cs af => ?_, fun i r hi => h2 (iV i) r (by unfold aI.a6; rw [fM]; exact hi)⟩;have := h1 _ _ (Mem.r7 fE af);rw [List.all_map] at this;rw [cB] at this ⊢;exact fun x aa => (AC.SS x).symm.trans (this x aa)
 ·rintro ⟨h1, h2⟩;refine ⟨fun k cs af => ?_, fun i r hi => h2 (ca i) r hi⟩;obtain ⟨ds, hd, rfl⟩ := Mem.r8 af;have := h1 _ _ hd;rw [List.all_map];rw [cB] at this ⊢;exact fun x aa => (AC.SS x).trans (this x aa)
theorem aiO {bF ca iV : Nat → Nat} (fE : ∀ j, bF (bF j) = j) (fM : ∀ j, ca (iV j) = j) (wj : ∀ j, iV (ca j) = j) {ad : Nat → Nat} {m : Mem} {R : aI} {k : Nat} : lM ad (m.a6 bF) (R.a6 ca) (bF k) = lM (fun j => ad (bF j)) m R k := by
 refine e4.same ?_ ?_
 ·funext w v;show (v = eh (ad (bF k)) ∧ e9 uL ad w (m.a6 bF) (R.a6 ca) ∧ n0 (m.a6 bF) (R.a6 ca)) = (v = eh (ad (bF k)) ∧ e9 uL (fun j => ad (bF j)) w m R ∧ n0 m R);rw [propext (agk fE fM), propext (e9.a6 fE fM wj)]
 ·funext w v b;exact propext (er.a6 fE fM)
theorem eT {P : Program} {fn : Func} {l : List ResultVar} {xs : List bA} {R R0 bf : aI} {s : aC} {cs ar : List AC} {Post : ah → Mem → aI → Prop} (al : fn.results = l.toArray) (h : l.map (jl P s) = xs.map some) (af : s.mem 1000 = some ar) (aq : bx bf R) (aj : ar.all AC.aZ = true) (aa : (packed xs).aZ = true) (aA : ∀ i r, R0 i = some r → ∃ aV, bf i = some aV)
  (hp : Post (packed xs) (cZ 1000 ar) bf) : uo P fn (cZ 1000 cs) R0 Post R s := by
 refine ⟨xs, packed xs, cZ 1000 ar, bf, by rw [al]; exact h, .refl _, hp, fun k c h => ?_, aq, fun j ae => absurd ae (ah.dC aa j), fun k c x j h aa ae => ?_, fun k c h => ?_, aA⟩
 ·obtain ⟨rfl, rfl⟩ := hW h; exact af
 ·obtain ⟨rfl, rfl⟩ := hW h; exact absurd ae (AC.dC (cB.1 aj x aa) j)
 ·obtain ⟨rfl, rfl⟩ := hW h; exact ⟨ar, by unfold cZ; exact cF _ _ _⟩
theorem Dx (k : Nat) {P : Program} {fn : Func} {l : List ResultVar} {xs : List bA} {R bf : aI} {s : aC} {ar : List AC} {Post : ah → Mem → aI → Prop} (al : fn.results = l.toArray) (h : l.map (jl P s) = xs.map some) (af : s.mem k = some ar) (aq : bx bf R) (aj : ar.all AC.aZ = true) (aa : (packed xs).yi k = true)
  (hp : Post (packed xs) (cZ k ar) bf) : uo P fn cj eU Post R s := by
 refine ⟨xs, packed xs, cZ k ar, bf, by rw [al]; exact h, .refl _, hp, fun k c h => ?_, aq, fun j ae => ?_, fun k c x j h As ae => ?_, fun k c h => (by cases h), fun i r h => (by cases h)⟩
 ·obtain ⟨rfl, rfl⟩ := hW h; exact af
 ·rw [ah.aeu aa ae]; exact ⟨ar, by unfold cZ; exact cF _ _ _⟩
 ·obtain ⟨rfl, rfl⟩ := hW h; exact absurd ae (AC.dC (cB.1 aj x As) j)
section
variable {P : Program} {R : aI} {s : aC} {ops : Array Oper} {dr : Option (List Nat)} {ty : Nat} {pos : String} {after : Array Edge} {guard : Option (Nat × Bool)} {K : aI → aC → Prop} {rest : List Oper}
end
def pW (P : Program) (f : FuncId) (args : List ah) (post : ah → bG → Prop) : Prop :=
 ∀ i, du P f args cj eU fun v aH ay => ∃ q, aH = cj ∧ ay = bC i q ∧ 0 < q.sz ∧ post v q
theorem GD {P : Program} {f : FuncId} {args : List ah} {post : ah → bG → Prop} (aF : args.all ah.aZ = true) (hp : ∀ v q, post v q → v.aZ = true)
  (h : du P f args cj eU fun v aH ay => ∃ q, aH = cj ∧ ay = bC 0 q ∧ 0 < q.sz ∧ post v q) : pW P f args post := by
 intro i;have h1 := h.a6 (bF := fun j => j) (ca := swp 0 i) (iV := swp 0 i) (fun _ => rfl) (nv _ _) (nv _ _);rw [SO aF, show Mem.a6 (fun j => j) cj = cj from rfl, show aI.a6 (swp 0 i) eU = eU from rfl] at h1;refine ⟨fun U ad W vs cq cy cW => (h1.call U ad W vs cq cy cW).mono ?_⟩;rintro e bk ⟨v1, bV, aH, ay, aX, cR, q0, ⟨cC, m2, ev, ⟨q, rfl, rfl, aN, ak⟩, rfl, rfl, rfl⟩, mK⟩;rw [show Mem.a6 (fun j => j) cj = cj from rfl, Bh, u6 (hp _ _ ak)] at mK;exact ⟨v1, cC, cj, bC i q, aX, cR, q0, ⟨q, rfl, rfl, aN, ak⟩, mK⟩
theorem zP {P : Program} {fn : Func} {l : List ResultVar} {xs : List bA} {R : aI} {s : aC} {q : bG} {post : ah → bG → Prop} (al : fn.results = l.toArray) (h : l.map (jl P s) = xs.map some) (hi : R 0 = some q) (aa : (packed xs).aZ = true) (Ac : 0 < q.sz)
  (hp : post (packed xs) q) : uo P fn cj eU (fun v aH ay => ∃ q, aH = cj ∧ ay = bC 0 q ∧ 0 < q.sz ∧ post v q) R s := by
 refine ⟨xs, packed xs, cj, bC 0 q, by rw [al]; exact h, .refl _, ⟨q, rfl, rfl, Ac, hp⟩, fun k c h => (by cases h), fun i r h => ?_, fun j ae => absurd ae (ah.dC aa j), fun k c x j h => (by cases h), fun k c h => (by cases h), fun i r h => (by cases h)⟩;obtain ⟨rfl, rfl⟩ := fO h; exact hi
section
variable {P : Program} {R : aI} {s : aC} {ops : Array Oper} {dr : Option (List Nat)} {ty : Nat} {pos : String} {after : Array Edge} {guard : Option (Nat × Bool)} {K : aI → aC → Prop} {rest : List Oper}
end
section
variable {P : Program} {U lV : Nat → Prop} {ad : Nat → Nat} {w : World}
theorem bG.ok.TJ {r : bG} (h : r.ok U ad w) (hs : 0 < r.sz) (BL : List AC) (ai : ∀ xs, bM U ad w r.aU xs → bM lV ad w BL xs) (aj : ∀ y ∈ BL, y.aZ = true) (dx : ∀ b, r.own b → lV b) : gx lV ad w (.p (cM r.sz r.n BL)) r.v := by
 obtain ⟨xs, az, Ii⟩ := h.row hs;have hl := ai xs Ii;have l5 := hl.1;obtain ⟨kf, aw | ⟨g, cap, cur, jd, nJ, rN, ez, jb, eb, mA⟩⟩ := id az
 ·obtain ⟨aG, aO⟩ := aw;have : BL = [] := ks (by rw [l5, kf, aO]; simp);rw [aG];exact ⟨⟨none, 0, by rw [aO], by omega, by rw [this, aO]; simp, fun h => absurd h (by omega)⟩, fun b ⟨c', a', q, aw, ab⟩ => by cases q⟩
 ·have ul := az.cells (g := g) (by rw [jd]; rfl);have aaz : r.own g := .inl (by rw [jd]; rfl);rw [jd];have rG : lh w ⟨g, 0, none⟩ BL xs := ⟨(j2.1 rN).1, hl.xr aj fun b _ _ => ⟨trivial, rfl⟩, ul, aj⟩;refine ⟨⟨some ⟨g, 0, none⟩, cap, rfl, ez, by rw [l5]; exact kf, fun aw => ⟨⟨g, 0, none⟩, xs, rfl, rG⟩⟩, ?_⟩;rintro b ⟨c', a', q, aw, ap⟩;cases q;rcases ap with rfl | ⟨j, y, v, ai, hv, gl⟩
  ·exact dx g aaz
  ·have bb : j < xs.length := by rw [← l5]; exact (bL.1 ai).1
   have h2 := ul j _ (bN bb);rw [hv] at h2;cases h2;have h3 := hl.2 j y _ ai (bN bb);cases y with
   | c u => cases gl
   | own k o => cases gl
   | p S => exact h3.2 b gl
def BZ (r : ah) : Prop := ∀ (U cR : Nat → Prop) (ad aX : Nat → Nat) (W bk : World) v, de U ad W r v → de cR aX bk r v
def vi (aU : List AC) : Prop := ∀ (U cR : Nat → Prop) (ad aX : Nat → Nat) (W bk : World) xs, bM U ad W aU xs → bM cR aX bk aU xs
theorem vi.of {aU : List AC} (h : ∀ y ∈ aU, ∃ v, y = .c v) : vi aU := fun U cR ad aX W bk xs aa => ⟨aa.1, fun i y v ai hv => by
 have h1 := aa.2 i y v ai hv;obtain ⟨u, rfl⟩ := h y (dc ai);exact h1⟩
theorem BZ.one {v : Value} : BZ (aQ v) := fun U cR ad aX W bk u h => h
theorem ZG {f : FuncId} {args sA : List ah} {R0 : aI} {Post : ah → Mem → aI → Prop} (hp : du P f sA cj eU Post) (aj : sA.all ah.aZ = true)
  (hv : ∀ U ad W vs, e9 U ad W cj R0 → kD U ad W args vs → kD (fun b => U b ∨ er ad cj R0 b) ad W sA vs)
  (kh : ∀ r aH bf, Post r aH bf → aH = cj ∧ BZ r ∧ r.aZ = true ∧ ∀ i q, bf i = some q → 0 < q.sz ∧ vi q.aU) :
  du P f args cj R0 fun r aH ay => ∃ bf, Post r cj bf ∧ aH = cj ∧ ay = bX bf R0 := by
 refine ⟨fun U ad W vs cq cy cW => ?_⟩;have Ze : e9 (fun b => U b ∨ er ad cj R0 b) ad W cj eU := ⟨fun k cs af => (by cases af), fun k cs x j af => (by cases af), fun k k' cs ar af => (by cases af), fun i q hi => (by cases hi), fun i j q cf hi => (by cases hi)⟩;have bb : ∀ i q g, R0 i = some q → q.own g → g < W.heap.size := fun i q g hi an => (cq.rows i q hi).1.lt an;refine (hp.call _ ad W vs Ze (fun x aa j ae => absurd ae (ah.dC (cB.1 aj x aa) j)) (hv U ad W vs cq cW)).mono ?_;rintro e bk ⟨v, r, aH, bf, aX, cR, rfl, h1, h2, h3, aD, cU, fs, kb, qq, jB⟩;obtain ⟨rfl, ap, oB, aaS⟩ := kh r aH bf h1
 have Am : ∀ b, b < W.heap.size → bk.heap[b]? = W.heap[b]? := fun b ab => jB.block b ⟨ab, by
  rintro (⟨k, cs, af, _⟩ | ⟨i, q, hi, _⟩)
  ·cases af
  ·cases hi⟩
 have qz : ∀ i q g, bf i = some q → q.own g → W.heap.size ≤ g := fun i q g hi an => (qq g (.inr ⟨i, q, hi, an⟩)).elim (fun h => by
  rcases h with ⟨k, cs, af, _⟩ | ⟨i, q, hi, _⟩
  ·cases af
  ·cases hi) id
 refine ⟨v, r, cj, bX bf R0, aX, fun b => U b ∧ b < W.heap.size, rfl, ⟨bf, h1, rfl, rfl⟩, ⟨fun k cs af => (by cases af), fun k cs x j af => (by cases af), fun k k' cs ar af => (by cases af), fun i q hi => ?_, fun i j q cf hi ae e0 g an ec => ?_⟩, ap _ _ _ _ _ _ v h3, fun j ae => absurd ae (ah.dC oB j), fun k cs af => (by cases af), fun i q hi => ?_, fun b ab => .inl ab.1, fun b ab => ?_, ⟨jB.os, jB.tape, jB.output, jB.size, fun b ab => Am b ab.1⟩⟩
 ·rcases ko hi with hi | ⟨_, hi⟩
  ·obtain ⟨q1, q2, bB⟩ := h2.rows i q hi;obtain ⟨e2, z2⟩ := aaS i q hi;obtain ⟨xs, az, hl⟩ := q1.row e2;exact ⟨.inl ⟨e2, xs, az, z2 _ _ _ _ _ _ xs hl⟩, q2, fun g an => ⟨fun hu => by have := qz i q g hi an; have := hu.2; omega, fun k cs af => by cases af⟩⟩
  ·obtain ⟨q1, q2, bB⟩ := cq.rows i q hi;exact ⟨q1.kept q2 (fun g an => Am g (bb i q g hi an)) jB.size fun b ab hl => ⟨⟨ab, hl⟩, Am b hl⟩, q2, fun g an => ⟨fun hu => (bB g an).1 hu.1, fun k cs af => by cases af⟩⟩
 ·rcases ko hi with hi | ⟨_, hi⟩ <;> rcases ko ae with ae | ⟨_, ae⟩
  ·exact h2.apart i j q cf hi ae e0 g an ec
  ·have := qz i q g hi an; have := bb j cf g ae ec; omega
  ·have := qz j cf g ae ec; have := bb i q g hi an; omega
  ·exact cq.apart i j q cf hi ae e0 g an ec
 ·cases ak : bf i with
  | some x => exact ⟨x, hX ak⟩
  | none => exact ⟨q, by rw [hY ak]; exact hi⟩
 ·rcases ab with ⟨k, cs, af, _⟩ | ⟨i, q, hi, an⟩
  ·cases af
  ·rcases ko hi with hi | ⟨_, hi⟩
   ·exact .inr (qz i q b hi an)
   ·exact .inl (.inr ⟨i, q, hi, an⟩)
end
section
variable {P : Program} {R : aI} {s : aC} {ops : Array Oper} {dr : Option (List Nat)} {ty : Nat} {pos : String} {after : Array Edge} {guard : Option (Nat × Bool)} {K : aI → aC → Prop} {rest : List Oper}
theorem O8 {dst : Option Nat} {f : FuncId} {g : Operand} {aL : Array TypeId} {l : List Operand} {args : List ah} {R0 : aI} {Post : ah → Mem → aI → Prop} [E : Enters P f] (hw : want ops ⟨dst, .call ⟨.value g, l.toArray, aL⟩, ty, pos, after, guard⟩ s = some true) (hm : cY dr ⟨dst, .call ⟨.value g, l.toArray, aL⟩, ty, pos, after, guard⟩ = true)
  (an : s.look g = some (aQ (.func (.func f) #[] #[]))) (aF : l.map s.look = args.map some) (hp : du P f args cj R0 Post) (al : bx R0 R) (eo : args.all ah.aZ = true) (hd : lp dst s.n = true)
  (h : ∀ r aH ay, Post r aH ay → aH = cj ∧ cT P ops dr K rest (bX ay R) (s.put dst r)) : cT P ops dr K (⟨dst, .call ⟨.value g, l.toArray, aL⟩, ty, pos, after, guard⟩ :: rest) R s := by
 refine we hw hm an aF hp (fun x aa j ae => absurd ae (ah.dC (cB.1 eo x aa) j)) (fun k' ar aM => by cases aM) al (fun k' ar x j aM aa ae => by cases aM) hd ?_;rintro r aH ay ak;obtain ⟨rfl, aM⟩ := h r aH ay ak;refine ⟨fun k' ar aM => (by cases aM), ?_⟩;have dh : s.over cj = s := rfl;rw [dh]; exact aM
end
def jz (g e : Nat) (cs : List AC) : bG := ⟨e, cs.length, .slice (some ⟨g, 0, none⟩) 1 1, 1, cs⟩
theorem vB {g e : Nat} {cs : List AC} (aN : 0 < cs.length) {b : Nat} : (jz g e cs).own b ↔ b = g := by
 constructor
 ·intro h;have h := bG.pC h (by exact aN);have : (some g : Option Nat) = some b := h;exact (lc this).symm
 ·rintro rfl; exact .inl rfl
theorem Ms {U : Nat → Prop} {ad : Nat → Nat} {W : World} {g e : Nat} {cs : List AC} (aN : 0 < cs.length) : (jz g e cs).ok U ad W ↔ ∃ vs : List Value, W.heap[g]? = some (.cells vs.toArray e (0, 0)) ∧ bM U ad W cs vs := by
 constructor
 ·intro h;obtain ⟨xs, ⟨hl, aR⟩, al⟩ := h.row aN;rcases aR with ⟨aA, _⟩ | ⟨jP, cap, cur, hv, _, rN, _, _, aj, hR⟩
  ·cases aA
  ·cases hv;have aj : cur.size = 1 * cs.length := aj;have hR : cur.toList.take (1 * cs.length) = xs := hR;have aG : cur.toList = xs := by rw [← hR]; exact (h4 (by rw [Array.length_toList]; omega)).symm
   refine ⟨xs, ?_, al⟩;rw [← aG, Array.toArray_toList];exact rN
 ·rintro ⟨vs, h1, h2⟩;have hl := h2.1;refine .inl ⟨aN, vs, ⟨by show vs.length = 1 * cs.length; omega, .inr ⟨g, 1, vs.toArray, rfl, dJ _, h1, dI _, by unfold maxLen; decide, by show vs.length = 1 * cs.length; omega, ?_⟩⟩, h2⟩;show vs.take (1 * cs.length) = vs;exact h4 (by omega)
theorem uk {ad : Nat → Nat} {k g e i : Nat} {cs : List AC} {R : aI} (aN : 0 < cs.length) (hi : R i = none) (af : ad k = g) {b : Nat} {aX : Nat → Nat} : er ad (cZ k cs) R b ↔ er aX cj (bI R i (jz g e cs)) b := by
 constructor
 ·rintro (⟨k', ar, h1, h2⟩ | ⟨j, r, h1, h2⟩)
  ·obtain ⟨rfl, rfl⟩ := hW h1;exact .inr ⟨i, _, cF _ _ _, (vB aN).2 (h2.symm.trans af)⟩
  ·have : j ≠ i := fun e => by subst e; rw [hi] at h1; cases h1
   exact .inr ⟨j, r, by rw [ct _ _ this]; exact h1, h2⟩
 ·rintro (⟨k', ar, h1, h2⟩ | ⟨j, r, h1, h2⟩)
  ·cases h1
  ·by_cases ij : j = i
   ·subst ij;rw [cF] at h1;cases h1;exact .inl ⟨k, cs, by unfold cZ; exact cF _ _ _, af.trans ((vB aN).1 h2).symm⟩
   ·rw [ct _ _ ij] at h1;exact .inr ⟨j, r, h1, h2⟩
theorem OI {U : Nat → Prop} {ad aX : Nat → Nat} {W : World} {k g e i : Nat} {cs : List AC} {R : aI} (aN : 0 < cs.length) (aj : cs.all AC.aZ = true) (hi : R i = none) (af : ad k = g) (h : e9 U aX W cj (bI R i (jz g e cs))) : e9 U ad W (cZ k cs) R := by
 have b7 : ∀ {j r}, R j = some r → j ≠ i := fun {j r} h1 e => by subst e; rw [hi] at h1; cases h1
 obtain ⟨h1, h2, h3⟩ := h.rows i _ (cF _ _ _);obtain ⟨vs, w1, w2⟩ := (Ms aN).1 h1;have c4 := cB.1 aj;refine ⟨fun k' ar eP => ?_, fun k' ar x j eP aa ae => ?_, fun ba bo c1 c2 h1 h2 _ => ?_, fun j r ae => ?_, fun j dH r q ae iu pk => ?_⟩
 ·obtain ⟨rfl, rfl⟩ := hW eP;exact ⟨vs, e, by rw [af]; exact w1, w2.map (fun b ab _ => ⟨ab, rfl⟩) fun j x aa ae => absurd ae (AC.dC (c4 x aa) j), by rw [af]; exact (h3 g ((vB aN).2 rfl)).1⟩
 ·obtain ⟨rfl, rfl⟩ := hW eP;exact absurd ae (AC.dC (c4 x aa) j)
 ·exact (hW h1).1.trans (hW h2).1.symm
 ·obtain ⟨q1, q2, bB⟩ := h.rows j r (by rw [ct _ _ (b7 ae)]; exact ae);refine ⟨q1.kept q2 (fun _ _ => rfl) (dI _) (fun b ab _ => ⟨ab, rfl⟩), q2, fun b ab => ⟨(bB b ab).1, fun k' ar eP e => ?_⟩⟩;obtain ⟨rfl, rfl⟩ := hW eP;exact h.apart i j _ r (cF _ _ _) (by rw [ct _ _ (b7 ae)]; exact ae) (Ne.symm (b7 ae)) b ((vB aN).2 (e.symm.trans af)) ab
 ·exact h.apart j dH r q (by rw [ct _ _ (b7 ae)]; exact ae) (by rw [ct _ _ (b7 iu)]; exact iu) pk
theorem Mr {U : Nat → Prop} {ad aX : Nat → Nat} {W : World} {k i : Nat} {cs : List AC} {R : aI} (aN : 0 < cs.length) (aj : cs.all AC.aZ = true) (hi : R i = none) (h : e9 U ad W (cZ k cs) R) : ∃ e, e9 U aX W cj (bI R i (jz (ad k) e cs)) := by
 have b7 : ∀ {j r}, R j = some r → j ≠ i := fun {j r} h1 e => by subst e; rw [hi] at h1; cases h1
 have pi : cZ k cs k = some cs := by unfold cZ; exact cF _ _ _
 obtain ⟨vs, e, w1, w2, w3⟩ := h.dz k cs pi;have c4 := cB.1 aj
 have Fw : ∀ {j q}, bI R i (jz (ad k) e cs) j = some q → (j = i ∧ q = jz (ad k) e cs) ∨ (j ≠ i ∧ R j = some q) := fun {j q} ae => by
  by_cases ij : j = i
  ·subst ij; rw [cF] at ae; cases ae; exact .inl ⟨rfl, rfl⟩
  ·rw [ct _ _ ij] at ae; exact .inr ⟨ij, ae⟩
 refine ⟨e, fun k' ar eP => (by cases eP), fun k' ar x j eP => (by cases eP), fun ba bo c1 c2 h1 => (by cases h1), fun j q ae => ?_, fun j dH q cf ae iu pk b ab cL => ?_⟩
 ·rcases Fw ae with ⟨rfl, rfl⟩ | ⟨_, xT⟩
  ·refine ⟨(Ms aN).2 ⟨vs, w1, w2.map (fun b ab _ => ⟨ab, rfl⟩) fun j x aa ae => absurd ae (AC.dC (c4 x aa) j)⟩, c4, fun b ab => ⟨?_, fun k' ar eP => (by cases eP)⟩⟩;rw [(vB aN).1 ab]; exact w3
  ·obtain ⟨q1, q2, bB⟩ := h.rows j q xT;exact ⟨q1.kept q2 (fun _ _ => rfl) (dI _) (fun b ab _ => ⟨ab, rfl⟩), q2, fun b ab => ⟨(bB b ab).1, fun k' ar eP => (by cases eP)⟩⟩
 ·rcases Fw ae with ⟨rfl, rfl⟩ | ⟨_, xT⟩
  ·rcases Fw iu with ⟨rfl, rfl⟩ | ⟨_, Ie⟩
   ·exact pk rfl
   ·rw [(vB aN).1 ab] at cL;exact ((h.rows dH cf Ie).2.2 _ cL).2 k cs pi rfl
  ·rcases Fw iu with ⟨rfl, rfl⟩ | ⟨_, Ie⟩
   ·rw [(vB aN).1 cL] at ab;exact ((h.rows j q xT).2.2 _ ab).2 k cs pi rfl
   ·exact h.apart j dH q cf xT Ie pk b ab cL
theorem du.aiS {P : Program} {f : FuncId} {args : List ah} {k : Nat} {cs : List AC} {R0 : aI} {Post : ah → Mem → aI → Prop} (i : Nat) (g e : Nat) (h : du P f (.w (.one (.own k 0)) :: args) (cZ k cs) R0 Post) (eo : args.all ah.aZ = true) (eb : cs.all AC.aZ = true) (aN : 0 < cs.length) (hi : R0 i = none)
  (hp : ∀ v aH ay, Post v aH ay → v.aZ = true ∧ ay i = none ∧ ∃ ar, aH = cZ k ar ∧ ar.all AC.aZ = true ∧ 0 < ar.length) :
  du P f (aQ (eh g) :: args) cj (bI R0 i (jz g e cs)) fun v aH ay => ∃ ar bf bm, Post v (cZ k ar) bf ∧ aH = cj ∧ ay = bI bf i (jz g bm ar) := by
 refine ⟨fun U ad W vs cq cy cW => ?_⟩
 let eK : Nat → Nat := fun j => if j = k then g else ad j
 have oz : eK k = g := if_pos rfl;have F8 := OI (ad := eK) aN eb hi oz cq;obtain ⟨hlen, hv⟩ := cW
 match vs, hlen with
 | v0 :: vs, hlen =>
  have pp : v0 = eh g := (hv 0 _ v0 rfl rfl).1;have wb : kD U eK W args vs := kD.closed eo ⟨by simpa using hlen, fun j x v aa b8 => hv (j + 1) x v aa b8⟩;refine (h.call U eK W (v0 :: vs) F8 (fun x aa j ae => ?_) ⟨by simpa using hlen, fun j x v aa b8 => ?_⟩).mono ?_
  ·rcases fl.1 aa with rfl | aa
   ·obtain ⟨y, ai, ae⟩ := ae;simp [bA.cells] at ai;subst ai;cases ae;exact ⟨cs, by unfold cZ; exact cF _ _ _⟩
   ·exact absurd ae (ah.dC (cB.1 eo x aa) j)
  ·match j with
   | 0 => cases aa; cases b8; exact St (off := 0) (pp.trans (by rw [oz]))
   | j + 1 => exact wb.2 j x v aa b8
  ·rintro dh bk ⟨v, r, aH, ay, aX, cR, rfl, kh, iL, qD, jD, ba, bo, bY, b0, ab⟩;obtain ⟨c1, aw, ar, rfl, c2, jA⟩ := hp _ _ _ kh;have eP : aX k = g := (ba k cs (by unfold cZ; exact cF _ _ _)).1.trans oz;obtain ⟨bm, B1⟩ := Mr (aX := aX) jA c2 aw iL;rw [eP] at B1;refine ⟨v, r, cj, bI ay i (jz g bm ar), aX, cR, rfl, ⟨ar, ay, bm, kh, rfl, rfl⟩, B1, qD, fun j ae => absurd ae (ah.dC c1 j), fun eW hb aA => (by cases aA), fun j gW ae => ?_, fun b cL => ?_, fun b cL => ?_, ⟨ab.os, ab.tape, ab.output, ab.size, fun b ap => ab.block b ⟨ap.1, fun aR => ap.2 ((uk aN hi oz).1 aR)⟩⟩⟩
   ·by_cases ij : j = i
    ·subst ij; exact ⟨_, cF _ _ _⟩
    ·rw [ct _ _ ij] at ae;obtain ⟨q, ak⟩ := bo j gW ae;exact ⟨q, by rw [ct _ _ ij]; exact ak⟩
   ·rcases bY b cL with q | q | q
    ·exact .inl q
    ·exact .inr (.inl q)
    ·exact .inr (.inr ((uk aN hi oz).1 q))
   ·rcases b0 b ((uk jA aw eP).2 cL) with q | q
    ·exact .inl ((uk aN hi oz).1 q)
    ·exact .inr q
theorem du.aiR {P : Program} {f : FuncId} {args : List ah} {k : Nat} {cs : List AC} {R0 : aI} {Post : ah → Mem → aI → Prop} (i : Nat) (h : ∀ g e, du P f (aQ (eh g) :: args) cj (bI R0 i (jz g e cs)) fun v aH ay => ∃ ar bf bm, Post v (cZ k ar) bf ∧ aH = cj ∧ ay = bI bf i (jz g bm ar))
  (eo : args.all ah.aZ = true) (eb : cs.all AC.aZ = true) (aN : 0 < cs.length) (hi : R0 i = none) (hp : ∀ v ar ay, Post v (cZ k ar) ay → v.aZ = true ∧ ay i = none ∧ ar.all AC.aZ = true ∧ 0 < ar.length) :
  du P f (.w (.one (.own k 0)) :: args) (cZ k cs) R0 Post := by
 refine ⟨fun U ad W vs cq cy cW => ?_⟩;obtain ⟨e, F8⟩ := Mr (aX := ad) aN eb hi cq;obtain ⟨hlen, hv⟩ := cW
 match vs, hlen with
 | v0 :: vs, hlen =>
  have pp : v0 = eh (ad k) := hv 0 _ v0 rfl rfl;have wb : kD U ad W args vs := kD.closed eo ⟨by simpa using hlen, fun j x v aa b8 => hv (j + 1) x v aa b8⟩;refine ((h (ad k) e).call U ad W (v0 :: vs) F8 (fun x aa j ae => ?_) ⟨by simpa using hlen, fun j x v aa b8 => ?_⟩).mono ?_
  ·rcases fl.1 aa with rfl | aa
   ·exact absurd ae (jf _ j)
   ·exact absurd ae (ah.dC (cB.1 eo x aa) j)
  ·match j with
   | 0 => cases aa; cases b8; exact ⟨pp, by rfl⟩
   | j + 1 => exact wb.2 j x v aa b8
  ·rintro dh bk ⟨v, r, aH, ay, aX, cR, rfl, ⟨ar, bf, bm, kh, rfl, rfl⟩, iL, qD, jD, ba, bo, bY, b0, ab⟩;obtain ⟨c1, aw, c2, jA⟩ := hp _ _ _ kh
   let wZ : Nat → Nat := fun j => if j = k then ad k else aX j
   have Dz : wZ k = ad k := if_pos rfl;have B1 := OI (ad := wZ) jA c2 aw Dz iL;refine ⟨v, r, cZ k ar, bf, wZ, cR, rfl, kh, B1, ?_, fun j ae => absurd ae (ah.dC c1 j), fun eW hb aA => ?_, fun j gW ae => ?_, fun b cL => ?_, fun b cL => ?_, ⟨ab.os, ab.tape, ab.output, ab.size, fun b ap => ab.block b ⟨ap.1, fun aR => ap.2 ((uk aN hi rfl).2 aR)⟩⟩⟩
   ·exact qD.map (fun b ab _ => ⟨ab, rfl⟩) fun j ae => absurd ae (ah.dC c1 j)
   ·obtain ⟨rfl, rfl⟩ := hW aA;exact ⟨Dz, ar, by unfold cZ; exact cF _ _ _⟩
   ·have iu : j ≠ i := fun e => by subst e; rw [hi] at ae; cases ae
    obtain ⟨q, ak⟩ := bo j gW (by rw [ct _ _ iu]; exact ae);rw [ct _ _ iu] at ak;exact ⟨q, ak⟩
   ·rcases bY b cL with q | q | q
    ·exact .inl q
    ·exact .inr (.inl q)
    ·exact .inr (.inr ((uk aN hi rfl).2 q))
   ·rcases b0 b ((uk jA aw Dz).1 cL) with q | q
    ·exact .inl ((uk aN hi rfl).2 q)
    ·exact .inr q
abbrev oR (V : List ao) (D : List Int) : ah := .w (.agg [.p (cM 2 V.length (b3 V)), .p (cM 1 D.length (cV D))])
abbrev wv (V : List ao) (D : List Int) : List AC := [.p (cM 2 V.length (b3 V)), .p (cM 1 D.length (cV D))]
abbrev CE (b : Bool) : AC := .p (Gj [.c (.bool (!b))])
abbrev wV (l d : Bool) : ah := .w (.one (.p (pX (.func 137) [CE l, CE d])))
theorem aey {a1 a2 b1 b2 : Int} : au ag 101 [aE a1 a2, aE b1 b2] (wV (decide (b1 < a1)) (decide (b2 < a2))) := by
 have aG : decide (b1 ≥ a1) = !decide (b1 < a1) := by by_cases h : b1 < a1 <;> simp [h] <;> omega
 have aO : decide (b2 ≥ a2) = !decide (b2 < a2) := by by_cases h : b2 < a2 <;> simp [h] <;> omega
 refine af9 (f := 101) Tryz.func101 rfl rfl rfl rfl ?_;refine Ml (GQ ?_);(refine eF ?_);refine Ml (GQ ?_);(refine eF ?_);refine Mk 5 _ rfl rfl ?_;refine Mk 6 _ rfl rfl ?_;refine GQ ?_;(repeat first | refine dv ?_ | refine Wm (xs := [_, _]) (cs := [_, _]) rfl rfl rfl rfl ?_)
 ((refine aW rfl (aY rfl aJ) ?_))
 exact ah.aK.of_eq (by rw [aG, aO]; rfl)
theorem ae8 {x y z w : Int} {l d r : Bool} (al : za x y z w l d = r) : au ag 137 [aE x y, aE z w, .w (.one (CE l)), .w (.one (CE d))] (a7 r) := by
 have cs : (¬ x = z ∧ z < x ∧ r = l) ∨ (¬ x = z ∧ ¬ z < x ∧ r = !l) ∨ (x = z ∧ ¬ y = w ∧ w < y ∧ r = d) ∨ (x = z ∧ ¬ y = w ∧ ¬ w < y ∧ r = !d) ∨ (x = z ∧ y = w ∧ r = false) := by
  rw [← al]; unfold za
  by_cases h1 : x < z <;> by_cases h2 : z < x <;> by_cases h3 : y < w <;> by_cases aD : w < y <;> simp [h1, h2, h3, aD] <;> omega
 clear al;rcases cs with ⟨h1, h2, rfl⟩ | ⟨h1, h2, rfl⟩ | ⟨h1, h3, h2, rfl⟩ | ⟨h1, h3, h2, rfl⟩ | ⟨h1, h3, rfl⟩
 all_goals
  refine bd (f := 137) Tryz.func137 rfl rfl rfl rfl ?_;(repeat first | refine dv ?_ | (with_reducible apply VZ); (iterate 4 rfl); kernel_rfl | (with_reducible apply bP (c := true)); rfl; rfl; ((simp only [iY]; (omega))) | (with_reducible apply bP (c := false)); rfl; rfl; ((simp only [iY]; (omega))))
  ((refine aW rfl (aY rfl aJ) ?_))
  first
  | exact ah.aK.refl _
  | exact ah.aK.of_eq (by rw [cA (show ¬ x < z by omega), Bool.false_beq, Bool.not_not]; rfl)
  | exact ah.aK.of_eq (by rw [cd (show x < z by omega), Bool.true_beq]; rfl)
  | exact ah.aK.of_eq (by rw [cA (show ¬ y < w by omega), Bool.false_beq, Bool.not_not]; rfl)
  | exact ah.aK.of_eq (by rw [cd (show y < w by omega), Bool.true_beq]; rfl)
section
variable {P : Program} {s : aC} {ops : Array Oper} {K : aC → Prop} {rest : List Oper} {ty : Nat} {pos : String} {after : Array Edge} {guard : Option (Nat × Bool)} {d : Nat}
theorem WA {dp ed : Nat} {x y : Operand} {a b : Int} (hw : want ops ⟨some d, .binOp .quo dp x y ed, ty, pos, after, guard⟩ s = some true) (aa : s.look x = some (aQ (.int .i64 a))) (ai : s.look y = some (aQ (.int .i64 b))) (aA : 0 ≤ a) (h1 : 0 < b) (h2 : a ≤ 9223372036854775807) (hd : Nat.blt d s.n = true) (h : bg P ops K rest (s.put (some d) (aQ (.int .i64 (a / b))))) : bg P ops K (⟨some d, .binOp .quo dp x y ed, ty, pos, after, guard⟩ :: rest) s := by
 refine rq hw aa ai (fun W => ?_) rfl hd h;have ab : b ≠ 0 := by omega
 have e : a.tdiv b = a / b := Int.tdiv_eq_ediv_of_nonneg aA
 have aO : IntKind.i64.wrap (a / b) = a / b := k9 (by
  have := n6 aA (show 0 ≤ b by omega);have := Int.ediv_le_self b aA;omega)
 simp [binOp, Op.intDiv, ab, e, aO]
end
end Go.Proofs.YtbcecodakfejaaaGreat
