/-
  My own texts, without what this claim does not need. My own text.
-/
import Derived.Deep.SlicePairs
import Derived.Carry
import Derived.Test.YtbcecodakfejaaaGreatSKeepsK12
set_option maxRecDepth 100000
set_option maxHeartbeats 64000000
set_option linter.unusedVariables false
set_option linter.unusedSimpArgs false
set_option linter.unusedSectionVars false
open Go.Proofs.Tryz renaming prog → ag
namespace Go.Proofs.YtbcecodakfejaaaGreat
open Go.RowKit
abbrev Ly : List AC := [.c (.int .i64 0), .c (.bool false), .c (.slice none 0 0), .c (.bool false), .c (.slice none 0 0), .c (.bool false), .c (.slice none 0 0), .c (.bool false), .c (.slice none 0 0), .c (.int .i64 0), .c (.int .i64 0), .c (.int .i64 0), .c (.int .i64 0)]
theorem WM (p1 p2 q1 q2 : Int) : ah.aK (.w (.agg [.c (.int .i64 2), .c (.bool false), .c (.slice none 0 0), .c (.bool false), .c (.slice none 0 0), .c (.bool false), .c (.slice none 0 0), .c (.bool false), .c (.slice none 0 0), .c (.int .i64 p1), .c (.int .i64 p2), .c (.int .i64 q1), .c (.int .i64 q2)])) (se (o5 p1 p2 q1 q2)) :=
 ah.aK.agg ⟨.refl _, .refl _, tV, .refl _, tV, .refl _, tV, .refl _, tV, .refl _, .refl _, .refl _, .refl _, trivial⟩
def U3 (l : List (Int × Int)) (f : Int × Int → Bool) (a1 a2 b1 b2 c1 c2 d1 d2 : Int) (k : Nat) (t : nz) (aL : List (Nat × ah)) (bh : List (Nat × List AC)) : Prop :=
 ∃ (i : Nat) (j : Int), i ≤ l.length ∧ k = l.length - i ∧ t.n = ((l.take i).filter f).length ∧ t.xs = tm ((l.take i).filter f) ∧ j = i
  ∧ aL = [(4, fQ 4 0), (5, fQ 5 0), (6, fQ 6 0), (7, fQ 7 0), (8, fQ 8 0), (18, aQ t.v), (19, KO l), (20, ax j)]
  ∧ bh = [(4, [.c (.int .i64 a1), .c (.int .i64 a2)]), (5, [.c (.int .i64 b1), .c (.int .i64 b2)]), (6, [.c (.int .i64 c1), .c (.int .i64 c2)]), (7, [.c (.int .i64 d1), .c (.int .i64 d2)]), (8, Ly)]
def U4 (x : Int × Int) (l : List (Int × Int)) (k : Nat) (aL : List (Nat × ah)) (bh : List (Nat × List AC)) : Prop :=
 ∃ (i : Nat) (j l1 l2 h1 h2 : Int), i ≤ l.length ∧ k = l.length - i ∧ (l1, l2) = (l.take i).foldl jF x ∧ (h1, h2) = (l.take i).foldl lb x ∧ j = (i : Int) + 1
  ∧ aL = [(8, fQ 8 0), (18, KO (x :: l)), (21, fQ 21 0), (22, fQ 22 0), (23, ax j)]
  ∧ bh = [(8, Ly), (21, [.c (.int .i64 l1), .c (.int .i64 l2)]), (22, [.c (.int .i64 h1), .c (.int .i64 h2)])]
theorem adm {h1 h2 p1 p2 m1 m2 : Int} (hm : (m1, m2) = jF (h1, h2) (p1, p2)) : lb (h1, h2) (p1, p2) = if bZ m1 m2 h1 h2 = true then (p1, p2) else (h1, h2) := by
 unfold lb;rw [← hm];refine wo ?_;rw [iJ, pR]
theorem P3 {a b : Int × Int} : jF a b = if a.1 < b.1 ∨ (a.1 = b.1 ∧ a.2 < b.2) then a else b := rfl
theorem agI {a1 a2 b1 b2 c1 c2 d1 d2 p q r s t u : Int} {w : Int} {f : Int × Int → Bool}
  (bf : au ag 27 [aE a1 a2] (a7 true)) (ev : au ag 27 [aE b1 b2] (a7 true)) (fR : au ag 27 [aE c1 c2] (a7 true)) (lT : au ag 27 [aE d1 d2] (a7 true))
  (tK : au ag 78 [aE a1 a2, aE b1 b2] (.cz [.one (.c (.int .i64 p)), .one (.c (.int .i64 q)), km r])) (so : au ag 78 [aE c1 c2, aE d1 d2] (.cz [.one (.c (.int .i64 s)), .one (.c (.int .i64 t)), km u]))
  (vq : au ag 80 [ax 0] (cc 0)) (nA : au ag 80 [ax p] (cc p)) (sq : au ag 80 [ax q] (cc q)) (B9 : au ag 80 [ax s] (cc s)) (Ca : au ag 80 [ax t] (cc t))
  (sk : au ag 79 [cc p, cc q, cc s, cc t] (cc w)) (c : Int) (B4 : au ag 76 [cc w, cc 0] (ax c)) (aj : c = 0)
  (ap : ∀ p ∈ [(a1, a2), (b1, b2), (c1, c2), (d1, d2)], f p = (mF p.1 p.2 a1 a2 b1 b2 && mF p.1 p.2 c1 c2 d1 d2)) (al : ∀ p ∈ [(a1, a2), (b1, b2), (c1, c2), (d1, d2)], bu p.1 p.2 = true) :
  au ag 46 [aE a1 a2, aE b1 b2, aE c1 c2, aE d1 d2] (se (Fq ([(a1, a2), (b1, b2), (c1, c2), (d1, d2)].filter f))) := by
 have hlen : [(a1, a2), (b1, b2), (c1, c2), (d1, d2)].length = 4 := rfl;refine bd (f := 46) Tryz.func46 rfl rfl rfl rfl ?_;(repeat first | refine dv ?_ | refine ff bf ?_ | refine ff ev ?_ | refine ff fR ?_ | refine ff lT ?_ | refine ff vq ?_ | refine ff nA ?_ | refine ff sq ?_ | refine ff B9 ?_ | refine ff Ca ?_ | refine ff tK ?_ | refine ff so ?_ | refine ff B4 ?_ | refine ff sk ?_);clear bf ev fR lT tK so vq nA sq B9 Ca sk B4 aj;refine WW 38 2 ?_;refine abg 196 (U3 [(a1, a2), (b1, b2), (c1, c2), (d1, d2)] f a1 a2 b1 b2 c1 c2 d1 d2) [(a1, a2), (b1, b2), (c1, c2), (d1, d2)].length _ _ ⟨0, 0, dJ _, rfl, rfl, rfl, rfl, rfl, rfl⟩ rfl ⟨rfl, rfl, rfl, rfl, rfl, rfl, rfl, rfl, trivial⟩ ⟨rfl, rfl, rfl, rfl, rfl, trivial⟩ rfl ?_;rintro k t aL bh ⟨i, j, hi, rfl, wg, Ap, ae, rfl, rfl⟩ c9;clear c9;generalize [(a1, a2), (b1, b2), (c1, c2), (d1, d2)] = l at *
 by_cases ak : i < l.length
 ·have cf : j < 4 := by omega
  have alq : j < l.length := by omega
  have I5 : 0 ≤ j ∧ j ≤ 300 := by omega
  obtain ⟨jI, kp, g⟩ := Sr ak;have k1 := Sv ae g;have hm : (jI, kp) ∈ l := dc g;have mX := ap _ hm
  have DP : ((l.take i).filter f).length ≤ 300 := by
   have h1 := List.length_filter_le f (l.take i);have h2 : (l.take i).length ≤ i := by rw [ei]; exact Nat.min_le_left _ _
   omega
  have aO : l[i] = (jI, kp) := by rw [bN ak] at g; exact lc g
  have mY : (l.take (i + 1)).filter f = (l.take i).filter f ++ (if f (jI, kp) = true then [(jI, kp)] else []) := by
   rw [mM ak, aO, List.filter_append];congr 1;cases Z2 : f (jI, kp) <;> simp [Z2]
  have re := RP (p1 := jI) (p2 := kp) (a1 := a1) (a2 := a2) (b1 := b1) (b2 := b2);have sr := RP (p1 := jI) (p2 := kp) (a1 := c1) (a2 := c2) (b1 := d1) (b2 := d2);simp only at mX;generalize mF jI kp a1 a2 b1 b2 = bY at *;generalize mF jI kp c1 c2 d1 d2 = b0 at *
  have cs : (bY = false ∧ f (jI, kp) = false) ∨ (bY = true ∧ b0 = false ∧ f (jI, kp) = false) ∨ (bY = true ∧ b0 = true ∧ f (jI, kp) = true) := by
   rw [mX]; cases bY <;> cases b0 <;> simp
  clear mX ap al g hm;refine uA (rS ?_);(refine eF ?_);rcases cs with ⟨rfl, mX⟩ | ⟨rfl, rfl, mX⟩ | ⟨rfl, rfl, mX⟩
  ·rw [mX, if_neg (by decide), me] at mY;refine po (uA (IR (uA (rS ?_))));(repeat first | refine dv ?_ | refine ff re ?_);refine po (rS ?_);(refine eF ?_);refine HZ (po (rS ?_));(refine eF ?_);refine po ?_;exact ⟨l.length - (i + 1), _, _, by omega, ⟨i + 1, j + 1, by omega, rfl, by rw [mY]; exact wg, by rw [mY]; exact Ap, by omega, rfl, rfl⟩, rfl, ⟨rfl, rfl, rfl, rfl, rfl, rfl, rfl, rfl, trivial⟩, ⟨rfl, rfl, rfl, rfl, rfl, trivial⟩, rfl⟩
  ·rw [mX, if_neg (by decide), me] at mY;refine po (uA (IR (uA (rS ?_))));(repeat first | refine dv ?_ | refine ff re ?_ | refine ff sr ?_);refine po (rS ?_);(refine eF ?_);refine HZ (po (rS ?_));(refine eF ?_);refine po ?_;exact ⟨l.length - (i + 1), _, _, by omega, ⟨i + 1, j + 1, by omega, rfl, by rw [mY]; exact wg, by rw [mY]; exact Ap, by omega, rfl, rfl⟩, rfl, ⟨rfl, rfl, rfl, rfl, rfl, rfl, rfl, rfl, trivial⟩, ⟨rfl, rfl, rfl, rfl, rfl, trivial⟩, rfl⟩
  ·rw [mX, if_pos rfl] at mY;have aa : t.xs ++ [.int .i64 jI, .int .i64 kp] = tm ((l.take (i + 1)).filter f) := by rw [mY, Sw, Ap]; rfl
   have aw : t.n + 1 = ((l.take (i + 1)).filter f).length := by rw [mY, cO, wg]; rfl
   refine po (uA (IR (uA (rS ?_))));(repeat first | refine dv ?_ | refine ff re ?_ | refine ff sr ?_);refine po (abf (b := true) rfl (fun _ => ?_) (fun h => by cases h));refine abe (k := 6) rfl ?_;(refine eF ?_);refine ⟨(by decide : 153 < 196), rfl, 1, [.int .i64 jI, .int .i64 kp], rfl, .inl Nat.one_pos, by simp; exact ⟨rfl, rfl⟩, by rw [wg]; unfold maxLen; omega, by rw [wg]; omega, fun v' b8 => ?_⟩;(refine eF ?_);refine HZ (po (rS ?_));(refine eF ?_);refine po ?_;exact ⟨l.length - (i + 1), _, _, by omega, ⟨i + 1, j + 1, by omega, rfl, aw, aa, by omega, rfl, rfl⟩, rfl, ⟨rfl, rfl, rfl, rfl, rfl, rfl, rfl, rfl, trivial⟩, ⟨rfl, rfl, rfl, rfl, rfl, trivial⟩, rfl⟩
 ·have cf : ¬ j < 4 := by omega
  have e : i = l.length := by omega
  have aa : cK 2 t.n (t.xs.map .c) = KO (l.filter f) := by rw [wg, Ap, e, List.take_length, Sx]
  refine uA (rS ?_);(refine eF ?_);refine Pj (Pj ⟨18, rfl, ?_⟩);rw [aa];have nO : ∀ p ∈ l.filter f, bu p.1 p.2 = true := fun p hp => al p ((tp.1 hp).1);have aaq : (l.filter f).length ≤ 4 := by have := List.length_filter_le f l; omega
  generalize l.filter f = L at *;clear aa wg Ap e ak cf hi ae al ap hlen;cases L with
  | nil =>
   have aA : (([] : List (Int × Int)).length : Int) = 0 := rfl;(refine eF ?_)
   ((refine aW rfl (cD rfl rfl rfl aJ) ?_))
   exact T4
  | cons x cm =>
   have aA : ¬ ((x :: cm).length : Int) = 0 := by simp; omega
   obtain ⟨b4, ck⟩ := x;(refine eF ?_);refine sD 196 (U4 (b4, ck) cm) cm.length _ _ ⟨0, 1, b4, ck, b4, ck, dJ _, rfl, rfl, rfl, rfl, rfl, rfl⟩ rfl ⟨rfl, rfl, rfl, rfl, rfl, trivial⟩ ⟨rfl, rfl, rfl, trivial⟩ rfl ?_;rintro k aL bh ⟨i, j, l1, l2, h1, h2, hi, rfl, rO, sT, ae, rfl, rfl⟩ c9;clear c9
   by_cases ak : i < cm.length
   ·have cf : j < (((b4, ck) :: cm).length : Int) := by simp only [jj] at *; omega
    have I5 : 0 ≤ j ∧ j ≤ 300 := by simp only [jj] at *; omega
    obtain ⟨jI, kp, g⟩ := Sr ak;have k1 := Sv (l := (b4, ck) :: cm) (i := i + 1) (j := j) (by omega) (by simpa using g);have aO : cm[i] = (jI, kp) := by rw [bN ak] at g; exact lc g
    have t1 : (cm.take (i + 1)).foldl jF (b4, ck) = jF (l1, l2) (jI, kp) := by rw [mM ak, aO, List.foldl_append, ← rO]; rfl
    have t2 : (cm.take (i + 1)).foldl lb (b4, ck) = lb (h1, h2) (jI, kp) := by rw [mM ak, aO, List.foldl_append, ← sT]; rfl
    obtain ⟨⟨bV, cC⟩, al⟩ : ∃ r, r = jF (l1, l2) (jI, kp) := ⟨_, rfl⟩;obtain ⟨⟨m1, m2⟩, hm⟩ : ∃ r, r = jF (h1, h2) (jI, kp) := ⟨_, rfl⟩;have aS := EW (al.trans P3);have bD := EW (hm.trans P3);rw [adm hm] at t2;rw [← al] at t1;clear al hm rO sT g aO;cases ab : bZ m1 m2 h1 h2 with
    | true =>
     rw [ab, if_pos rfl] at t2;(repeat first | refine dv ?_ | refine ff aS ?_ | refine ff bD ?_);exact ⟨cm.length - (i + 1), _, _, by omega, ⟨i + 1, j + 1, bV, cC, jI, kp, by omega, rfl, t1.symm, t2.symm, by omega, rfl, rfl⟩, rfl, ⟨rfl, rfl, rfl, rfl, rfl, trivial⟩, ⟨rfl, rfl, rfl, trivial⟩, rfl⟩
    | false =>
     rw [ab, if_neg (by decide)] at t2;(repeat first | refine dv ?_ | refine ff aS ?_ | refine ff bD ?_);exact ⟨cm.length - (i + 1), _, _, by omega, ⟨i + 1, j + 1, bV, cC, h1, h2, by omega, rfl, t1.symm, t2.symm, by omega, rfl, rfl⟩, rfl, ⟨rfl, rfl, rfl, rfl, rfl, trivial⟩, ⟨rfl, rfl, rfl, trivial⟩, rfl⟩
   ·have cf : ¬ j < (((b4, ck) :: cm).length : Int) := by simp only [jj] at *; omega
    have e : i = cm.length := by omega
    rw [e, List.take_length] at rO sT
    have dn := RQ (x := l1) (y := l2) (by
     have := (Ho cm (b4, ck)).1;rw [← rO] at this;exact nO _ this)
    simp only [Fq];rw [← rO, ← sT];clear rO sT e ak hi ae nO;simp only;unfold s8;cases ab : bZ l1 l2 h1 h2 with
    | true =>
     rw [if_pos (iJ.1 ab)];(repeat first | refine dv ?_ | refine ff dn ?_)
     ((refine aW rfl (cD rfl rfl rfl aJ) ?_))
     exact ah.aK.refl _
    | false =>
     rw [if_neg (fun h => by rw [iJ.2 h] at ab; cases ab)];(refine eF ?_)
     ((refine aW rfl (cD rfl rfl rfl aJ) ?_))
     exact WM _ _ _ _
theorem ET {n d a b : Int} (cE : bj 150 n) (cP : bj 150 d) (a0 : -134217728 ≤ a) (a1 : a ≤ 134217728) (fD : -134217728 ≤ b) (b1 : b ≤ 134217728) : au ag 82 [gr n d, ax a, ax b] (a7 (decide (kE n d a b))) := by
 have := afT cE cP a0 a1 fD b1 rfl rfl rfl rfl
 have e : decide (kE n d a b) = (decide ((if b < a then b else a) * d ≤ n) && decide (n ≤ (if b > a then b else a) * d)) := by
  rw [kR, cg, c6, cg, cg];rfl
 rw [e];exact this
theorem RR {n d : Int} (cE : bj 900 n) (cP : bj 900 d) : au ag 81 [cc n, cc d] (gr (ix n d) (hI d)) := by
 unfold ix hI
 by_cases h : d < 0
 ·rw [if_pos h, if_pos h]; exact afU cE cP h
 ·rw [if_neg h, if_neg h]; exact afV cE cP (by omega)
theorem Pt {n : Int} : bR n 0 = 0 ↔ n = 0 := by unfold bR; split <;> (try split) <;> omega
theorem afQ {a1 a2 b1 b2 c1 c2 d1 d2 : Int} (aF : bu a1 a2 = true) (ab : bu b1 b2 = true) (aj : bu c1 c2 = true) (hd : bu d1 d2 = true) (hw : c7 a1 a2 b1 b2 c1 c2 d1 d2 ≠ 0) : au ag 46 [aE a1 a2, aE b1 b2, aE c1 c2, aE d1 d2] (se (mb a1 a2 b1 b2 c1 c2 d1 d2)) := by
 have bf := kQ aF;have ev := kQ ab;have fR := kQ aj;have lT := kQ hd;have tK := EX aF ab rfl rfl rfl;have so := EX aj hd rfl rfl rfl;have AF := kv.1 aF;have wq := kv.1 ab;have l9 := kv.1 aj;have AG := kv.1 hd;have wD : bj 5 (b2 - a2) := bj.i64 (by omega) (by omega);have nq : bj 5 (a1 - b1) := bj.i64 (by omega) (by omega);have ns : bj 5 (d2 - c2) := bj.i64 (by omega) (by omega);have wE : bj 5 (c1 - d1) := bj.i64 (by omega) (by omega);have m1 : bj 5 a1 := bj.i64 (by omega) (by omega);have m2 : bj 5 a2 := bj.i64 (by omega) (by omega);have m3 : bj 5 c1 := bj.i64 (by omega) (by omega);have m4 : bj 5 c2 := bj.i64 (by omega) (by omega);have EA : bj 20 ((b2 - a2) * a1 + (a1 - b1) * a2) := ((wD.mul m1).add (nq.mul m2)).up (by omega);have EE : bj 20 ((d2 - c2) * c1 + (c1 - d1) * c2) := ((ns.mul m3).add (wE.mul m4)).up (by omega);have sub : ∀ {k : Nat} {x y : Int}, bj k x → bj k y → bj (k + 1) (x - y) := fun h g => by have := h.add g.neg; rwa [← Int.sub_eq_add_neg] at this
 have fI : bj 20 (c7 a1 a2 b1 b2 c1 c2 d1 d2) := (sub (wD.mul wE) (nq.mul ns)).up (by omega);have qM : bj 60 (jY a1 a2 b1 b2 c1 c2 d1 d2) := (sub ((EA.mul wE).up (show 25 ≤ 30 by omega)) ((nq.mul EE).up (show 25 ≤ 30 by omega))).up (by omega);have qN : bj 60 (jZ a1 a2 b1 b2 c1 c2 d1 d2) := (sub ((wD.mul EE).up (show 25 ≤ 30 by omega)) ((EA.mul ns).up (show 25 ≤ 30 by omega))).up (by omega);have Eu : ∀ {k : Nat} {x : Int} (d : Int), bj k x → bj k (ix x d) := fun d h => by unfold ix; split; exact h.neg; exact h
 have Ev : ∀ {k : Nat} {x : Int}, bj k x → bj k (hI x) := fun h => by unfold hI; split; exact h.neg; exact h
 refine agH bf ev fR lT tK so (j0 (by omega) (by omega)) (j0 (by omega) (by omega)) (j0 (by omega) (by omega)) (j0 (by omega) (by omega)) (j0 (by omega) (by omega))
  (EU (wD.up (by omega)) (nq.up (by omega)) (ns.up (by omega)) (wE.up (by omega))) (bR (c7 a1 a2 b1 b2 c1 c2 d1 d2) 0) (wK (fI.up (by omega)) (by unfold bj; exact A5 _)) (fun h => hw (Pt.1 h))
  (EU (EA.up (by omega)) (nq.up (by omega)) (EE.up (by omega)) (wE.up (by omega))) (EU (wD.up (by omega)) (EA.up (by omega)) (ns.up (by omega)) (EE.up (by omega)))
  (RR (qM.up (by omega)) (fI.up (by omega))) (RR (qN.up (by omega)) (fI.up (by omega)))
  (ET ((Eu _ qM).up (by omega)) ((Ev fI).up (by omega)) AF.1.1 AF.1.2 wq.1.1 wq.1.2) (ET ((Eu _ qN).up (by omega)) ((Ev fI).up (by omega)) AF.2.1 AF.2.2 wq.2.1 wq.2.2)
  (ET ((Eu _ qM).up (by omega)) ((Ev fI).up (by omega)) l9.1.1 l9.1.2 AG.1.1 AG.1.2) (ET ((Eu _ qN).up (by omega)) ((Ev fI).up (by omega)) l9.2.1 l9.2.2 AG.2.1 AG.2.2) ?_
 unfold mb tg four;refine wo ⟨fun h => ?_, fun h => ?_⟩
 ·rw [c6, c6, c6] at h;exact ⟨of_decide_eq_true h.1.1.1, of_decide_eq_true h.1.1.2, of_decide_eq_true h.1.2, of_decide_eq_true h.2⟩
 ·rw [c6, c6, c6];exact ⟨⟨⟨cd h.1, cd h.2.1⟩, cd h.2.2.1⟩, cd h.2.2.2⟩
end Go.Proofs.YtbcecodakfejaaaGreat
namespace Go.Proofs.YtbcecodakfejaaaGreat
theorem Rp (a1 a2 b1 b2 : Int) : c3 a1 a2 a1 a2 b1 b2 ∧ c3 b1 b2 a1 a2 b1 b2 := by
 unfold c3 pu;refine ⟨⟨CJ .., ?_⟩, ⟨G2 .., ?_⟩⟩ <;> (unfold fG fF; refine ⟨?_, ?_, ?_, ?_⟩ <;> split <;> omega)
theorem Rn {a1 a2 b1 b2 p1 p2 : Int} (h : bW a1 a2 b1 b2 p1 p2 = 0) : (b2 - a2) * a1 + (a1 - b1) * a2 = (b2 - a2) * p1 + (a1 - b1) * p2 := by unfold bW at h; grind
theorem Rq {a1 a2 b1 b2 c1 c2 d1 d2 p1 p2 : Int} (h : bW a1 a2 b1 b2 p1 p2 = 0) (k : bW c1 c2 d1 d2 p1 p2 = 0) :
  jY a1 a2 b1 b2 c1 c2 d1 d2 = p1 * c7 a1 a2 b1 b2 c1 c2 d1 d2 ∧ jZ a1 a2 b1 b2 c1 c2 d1 d2 = p2 * c7 a1 a2 b1 b2 c1 c2 d1 d2 := by
 have e := Rn h;have f := Rn k;unfold jY jZ c7;rw [e, f]
 constructor <;> grind
theorem EB (p w : Int) : ix (p * w) w = p * hI w := by
 unfold ix hI
 split
 ·rw [Int.mul_neg]
 ·rfl
theorem CC {p d a b : Int} (aA : fG a b ≤ p) (h1 : p ≤ fF a b) (hd : 0 < d) : kE (p * d) d a b :=
 ⟨lK aA (by omega), lK h1 (by omega)⟩
theorem NZ {a1 a2 b1 b2 c1 c2 d1 d2 p1 p2 d : Int} (h : c3 p1 p2 a1 a2 b1 b2) (k : c3 p1 p2 c1 c2 d1 d2) (hd : 0 < d) : four a1 a2 b1 b2 c1 c2 d1 d2 (p1 * d) (p2 * d) d :=
 ⟨CC h.2.1 h.2.2.1 hd, CC h.2.2.2.1 h.2.2.2.2 hd, CC k.2.1 k.2.2.1 hd, CC k.2.2.2.1 k.2.2.2.2 hd⟩
theorem adI {a1 a2 b1 b2 c1 c2 d1 d2 : Int} (h : c7 a1 a2 b1 b2 c1 c2 d1 d2 = 0) :
  (gU a1 a2 b1 b2 c1 c2 d1 d2 = fH ∧ ∀ p1 p2, c3 p1 p2 a1 a2 b1 b2 → ¬ c3 p1 p2 c1 c2 d1 d2) ∨
  ∃ f1 f2 g1 g2, gU a1 a2 b1 b2 c1 c2 d1 d2 = s8 f1 f2 g1 g2 ∧ c5 f1 f2 g1 g2 ∧ c3 f1 f2 a1 a2 b1 b2 ∧ c3 f1 f2 c1 c2 d1 d2 ∧ c3 g1 g2 a1 a2 b1 b2 ∧ c3 g1 g2 c1 c2 d1 d2
   ∧ f1 = dy (dF a1 a2 b1 b2) (dk a1 a2 b1 b2) (dF c1 c2 d1 d2) (dk c1 c2 d1 d2) ∧ f2 = dj (dF a1 a2 b1 b2) (dk a1 a2 b1 b2) (dF c1 c2 d1 d2) (dk c1 c2 d1 d2)
   ∧ g1 = dF (dy a1 a2 b1 b2) (dj a1 a2 b1 b2) (dy c1 c2 d1 d2) (dj c1 c2 d1 d2) ∧ g2 = dk (dy a1 a2 b1 b2) (dj a1 a2 b1 b2) (dy c1 c2 d1 d2) (dj c1 c2 d1 d2)
   ∧ ∀ p1 p2, c3 p1 p2 a1 a2 b1 b2 → c3 p1 p2 c1 c2 d1 d2 → c5 f1 f2 p1 p2 ∧ c5 p1 p2 g1 g2 := by
 have hs := uF a1 a2 b1 b2;have aB := uF c1 c2 d1 d2
 have hw : oG (dF a1 a2 b1 b2) (dk a1 a2 b1 b2) (dy a1 a2 b1 b2) (dj a1 a2 b1 b2) (dF c1 c2 d1 d2) (dk c1 c2 d1 d2) (dy c1 c2 d1 d2) (dj c1 c2 d1 d2) = 0 := by
  have h1 := BG a1 a2 b1 b2 c1 c2 d1 d2;have h2 := wX a1 a2 b1 b2 c1 c2 d1 d2;have h3 := wX b1 b2 a1 a2 c1 c2 d1 d2;rw [← FV];rcases jW a1 a2 b1 b2 with ⟨h1, h2, h3, aD, _⟩ | ⟨h1, h2, h3, aD, _⟩ <;> rcases jW c1 c2 d1 d2 with ⟨ba, bo, dU, hU, _⟩ | ⟨ba, bo, dU, hU, _⟩ <;> rw [h1, h2, h3, aD, ba, bo, dU, hU] <;> omega
 have oP : ∀ p1 p2, c3 p1 p2 (dF a1 a2 b1 b2) (dk a1 a2 b1 b2) (dy a1 a2 b1 b2) (dj a1 a2 b1 b2) ↔ c3 p1 p2 a1 a2 b1 b2 := fun _ _ => wH;have tO9 : ∀ p1 p2, c3 p1 p2 (dF c1 c2 d1 d2) (dk c1 c2 d1 d2) (dy c1 c2 d1 d2) (dj c1 c2 d1 d2) ↔ c3 p1 p2 c1 c2 d1 d2 := fun _ _ => wH;unfold gU;rw [if_pos h];unfold uD inl;generalize dF a1 a2 b1 b2 = s1 at *;generalize dk a1 a2 b1 b2 = s2 at *;generalize dy a1 a2 b1 b2 = bJ at *;generalize dj a1 a2 b1 b2 = bK at *;generalize dF c1 c2 d1 d2 = t1 at *;generalize dk c1 c2 d1 d2 = t2 at *;generalize dy c1 c2 d1 d2 = t3 at *;generalize dj c1 c2 d1 d2 = t4 at *;have key := fun p1 p2 => @Jj s1 s2 bJ bK t1 t2 t3 t4 p1 p2 hs aB hw
 by_cases q : c3 (dy s1 s2 t1 t2) (dj s1 s2 t1 t2) s1 s2 bJ bK ∧ c3 (dy s1 s2 t1 t2) (dj s1 s2 t1 t2) t1 t2 t3 t4
 ·right;rw [if_pos q];obtain ⟨bY, b0, gf, iE, alD, ai3⟩ := key _ _ q.1 q.2;exact ⟨_, _, _, _, rfl, ai3, (oP _ _).1 bY, (tO9 _ _).1 b0, (oP _ _).1 gf, (tO9 _ _).1 iE, rfl, rfl, rfl, rfl, fun p1 p2 hp ak => ⟨(key p1 p2 ((oP _ _).2 hp) ((tO9 _ _).2 ak)).2.2.2.2.1, (key p1 p2 ((oP _ _).2 hp) ((tO9 _ _).2 ak)).2.2.2.2.2⟩⟩
 ·left;rw [if_neg q];exact ⟨rfl, fun p1 p2 hp ak => q ⟨(key p1 p2 ((oP _ _).2 hp) ((tO9 _ _).2 ak)).1, (key p1 p2 ((oP _ _).2 hp) ((tO9 _ _).2 ak)).2.1⟩⟩
theorem aeo {a1 a2 b1 b2 f1 f2 g1 g2 p1 p2 : Int} (ap : c3 f1 f2 a1 a2 b1 b2) (an : c3 g1 g2 a1 a2 b1 b2) (hp : c3 p1 p2 a1 a2 b1 b2) (aA : c5 f1 f2 p1 p2) (h1 : c5 p1 p2 g1 g2) : c3 p1 p2 f1 f2 g1 g2 := by
 refine (wG (aA.trans h1)).2 ⟨?_, aA, h1⟩
 by_cases e : a1 = b1 ∧ a2 = b2
 ·obtain ⟨rfl, rfl⟩ := e;obtain ⟨rfl, rfl⟩ := A1 ap;obtain ⟨rfl, rfl⟩ := A1 an;obtain ⟨rfl, rfl⟩ := A1 hp;exact CJ ..
 ·have a := ap.1;have b := an.1;have c := hp.1;unfold bW at *;have d1 : (b1 - a1) * ((g1 - f1) * (p2 - f2) - (g2 - f2) * (p1 - f1)) = 0 := by grind
  have d2 : (b2 - a2) * ((g1 - f1) * (p2 - f2) - (g2 - f2) * (p1 - f1)) = 0 := by grind
  rcases tr.1 d1 with bm | bm
  ·rcases tr.1 d2 with f | f
   ·omega
   ·exact f
  ·exact bm
theorem QF (a1 a2 b1 b2 c1 c2 d1 d2 : Int) :
  (gU a1 a2 b1 b2 c1 c2 d1 d2 = fH ∧ ∀ p1 p2, c3 p1 p2 a1 a2 b1 b2 → ¬ c3 p1 p2 c1 c2 d1 d2) ∨
  (∃ x y d, gU a1 a2 b1 b2 c1 c2 d1 d2 = hJ x d y d ∧ 0 < d ∧ (d = 1 ∨ d = hI (c7 a1 a2 b1 b2 c1 c2 d1 d2)) ∧ four a1 a2 b1 b2 c1 c2 d1 d2 x y d ∧ ∀ p1 p2, c3 p1 p2 a1 a2 b1 b2 → c3 p1 p2 c1 c2 d1 d2 → x = p1 * d ∧ y = p2 * d) ∨
  (∃ f1 f2 g1 g2, gU a1 a2 b1 b2 c1 c2 d1 d2 = o5 f1 f2 g1 g2 ∧ ¬ (f1 = g1 ∧ f2 = g2) ∧ c5 f1 f2 g1 g2 ∧ c3 f1 f2 a1 a2 b1 b2 ∧ c3 f1 f2 c1 c2 d1 d2 ∧ c3 g1 g2 a1 a2 b1 b2 ∧ c3 g1 g2 c1 c2 d1 d2
   ∧ f1 = dy (dF a1 a2 b1 b2) (dk a1 a2 b1 b2) (dF c1 c2 d1 d2) (dk c1 c2 d1 d2) ∧ f2 = dj (dF a1 a2 b1 b2) (dk a1 a2 b1 b2) (dF c1 c2 d1 d2) (dk c1 c2 d1 d2)
   ∧ g1 = dF (dy a1 a2 b1 b2) (dj a1 a2 b1 b2) (dy c1 c2 d1 d2) (dj c1 c2 d1 d2) ∧ g2 = dk (dy a1 a2 b1 b2) (dj a1 a2 b1 b2) (dy c1 c2 d1 d2) (dj c1 c2 d1 d2)
   ∧ ∀ p1 p2, c3 p1 p2 a1 a2 b1 b2 → c3 p1 p2 c1 c2 d1 d2 → c3 p1 p2 f1 f2 g1 g2) := by
 by_cases h : c7 a1 a2 b1 b2 c1 c2 d1 d2 = 0
 ·rcases adI h with ⟨e, aw⟩ | ⟨f1, f2, g1, g2, e, hl, bY, b0, gf, iE, v1, v2, v3, v4, hp⟩
  ·exact .inl ⟨e, aw⟩
  ·right;rw [e];unfold s8
   by_cases q : f1 = g1 ∧ f2 = g2
   ·left;rw [if_pos q];refine ⟨f1, f2, 1, rfl, by omega, .inl rfl, ?_, fun p1 p2 aF ab => ?_⟩
    ·have := NZ bY b0 (d := 1) (by omega);rwa [Int.mul_one, Int.mul_one] at this
    ·obtain ⟨ba, bo⟩ := hp p1 p2 aF ab;obtain ⟨rfl, rfl⟩ := q;have := c5.xh ba bo;omega
   ·right;rw [if_neg q];exact ⟨f1, f2, g1, g2, rfl, q, hl, bY, b0, gf, iE, v1, v2, v3, v4, fun p1 p2 aF ab => aeo bY gf aF (hp p1 p2 aF ab).1 (hp p1 p2 aF ab).2⟩
 ·have hd := Q3 h;unfold gU;rw [if_neg h];unfold mb tg
  by_cases q : four a1 a2 b1 b2 c1 c2 d1 d2 (ix (jY a1 a2 b1 b2 c1 c2 d1 d2) (c7 a1 a2 b1 b2 c1 c2 d1 d2)) (ix (jZ a1 a2 b1 b2 c1 c2 d1 d2) (c7 a1 a2 b1 b2 c1 c2 d1 d2)) (hI (c7 a1 a2 b1 b2 c1 c2 d1 d2))
  ·right; left;rw [if_pos q];refine ⟨_, _, _, rfl, hd, .inr rfl, q, fun p1 p2 aF ab => ?_⟩;obtain ⟨aG, aO⟩ := Rq aF.1 ab.1;rw [aG, aO, EB, EB];exact ⟨rfl, rfl⟩
  ·left;rw [if_neg q];refine ⟨rfl, fun p1 p2 aF ab => q ?_⟩;obtain ⟨aG, aO⟩ := Rq aF.1 ab.1;rw [aG, aO, EB, EB];exact NZ aF ab hd
end Go.Proofs.YtbcecodakfejaaaGreat
namespace Go.Proofs.YtbcecodakfejaaaGreat
open Go.RowKit
theorem afS {a1 a2 b1 b2 c1 c2 d1 d2 : Int} (aF : bu a1 a2 = true) (ab : bu b1 b2 = true) (aj : bu c1 c2 = true) (hd : bu d1 d2 = true) (hw : c7 a1 a2 b1 b2 c1 c2 d1 d2 = 0) : au ag 46 [aE a1 a2, aE b1 b2, aE c1 c2, aE d1 d2] (se (gU a1 a2 b1 b2 c1 c2 d1 d2)) := by
 have AF := kv.1 aF;have wq := kv.1 ab;have l9 := kv.1 aj;have AG := kv.1 hd;have wD : bj 5 (b2 - a2) := bj.i64 (by omega) (by omega);have nq : bj 5 (a1 - b1) := bj.i64 (by omega) (by omega);have ns : bj 5 (d2 - c2) := bj.i64 (by omega) (by omega);have wE : bj 5 (c1 - d1) := bj.i64 (by omega) (by omega);have z : bj 1000 (0 : Int) := by unfold bj; exact A5 _
 have sk := EU (wD.up (by omega)) (nq.up (by omega)) (ns.up (by omega)) (wE.up (by omega));have dh : (b2 - a2) * (c1 - d1) - (a1 - b1) * (d2 - c2) = 0 := hw;rw [dh] at sk;rw [← ahk hw]
 refine agI (kQ aF) (kQ ab) (kQ aj) (kQ hd) (EX aF ab rfl rfl rfl) (EX aj hd rfl rfl rfl) (j0 (by omega) (by omega)) (j0 (by omega) (by omega)) (j0 (by omega) (by omega)) (j0 (by omega) (by omega)) (j0 (by omega) (by omega))
  sk (bR 0 0) (wK z z) (Pt.2 rfl) ?_ ?_
 ·intro p hp
  have al : bu p.1 p.2 = true := by
   simp only [fl, pK, or_false] at hp;rcases hp with rfl | rfl | rfl | rfl <;> assumption
  rw [JL (jk aF) (jk ab) (jk al), JL (jk aj) (jk hd) (jk al)]
 ·intro p hp;simp only [fl, pK, or_false] at hp;rcases hp with rfl | rfl | rfl | rfl <;> assumption
theorem afP {a1 a2 b1 b2 c1 c2 d1 d2 : Int} : au ag 46 [aE a1 a2, aE b1 b2, aE c1 c2, aE d1 d2] (se (lC a1 a2 b1 b2 c1 c2 d1 d2)) := by
 unfold lC
 by_cases h : (bu a1 a2 && bu b1 b2 && bu c1 c2 && bu d1 d2) = true
 ·rw [if_pos h];simp only [c6] at h
  by_cases hw : c7 a1 a2 b1 b2 c1 c2 d1 d2 = 0
  ·exact afS h.1.1.1 h.1.1.2 h.1.2 h.2 hw
  ·have := afQ h.1.1.1 h.1.1.2 h.1.2 h.2 hw;unfold gU;rw [if_neg hw];exact this
 ·rw [if_neg h];exact afR (by simpa using h)
theorem aji {a1 a2 b1 b2 c1 c2 d1 d2 : Int} (aF : bu a1 a2 = true) (ab : bu b1 b2 = true) (aj : bu c1 c2 = true) (hd : bu d1 d2 = true) : -144115188075855872 ≤ c7 a1 a2 b1 b2 c1 c2 d1 d2 ∧ c7 a1 a2 b1 b2 c1 c2 d1 d2 ≤ 144115188075855872 := by
 rw [kv] at aF ab aj hd;have m1 := En (x := b2 - a2) (y := c1 - d1) (by omega) (by omega) (by omega) (by omega);have m2 := En (x := a1 - b1) (y := d2 - c2) (by omega) (by omega) (by omega) (by omega);unfold c7;omega
theorem My {n d a b : Int} (h : kE n d a b) (a0 : -134217728 ≤ a) (a1 : a ≤ 134217728) (fD : -134217728 ≤ b) (b1 : b ≤ 134217728) (d0 : 0 ≤ d) (d1 : d ≤ 144115188075855872) : -19342813113834066795298816 ≤ n ∧ n ≤ 19342813113834066795298816 := by
 obtain ⟨aA, h1⟩ := h;have i0 : -134217728 ≤ fG a b ∧ fG a b ≤ 134217728 := by unfold fG; split <;> omega
 have i1 : -134217728 ≤ fF a b ∧ fF a b ≤ 134217728 := by unfold fF; split <;> omega
 have m0 := Cz i0.1 i0.2 (show -144115188075855872 ≤ d by omega) d1;have m1 := Cz i1.1 i1.2 (show -144115188075855872 ≤ d by omega) d1;omega
def B0 (M : fp) : Prop := (M = fH) ∨ (∃ x y d, M = hJ x d y d ∧ 0 < d ∧ d ≤ 144115188075855872 ∧ (-19342813113834066795298816 ≤ x ∧ x ≤ 19342813113834066795298816) ∧ (-19342813113834066795298816 ≤ y ∧ y ≤ 19342813113834066795298816)) ∨ (∃ f1 f2 g1 g2, M = o5 f1 f2 g1 g2)
theorem Oc {a1 a2 b1 b2 c1 c2 d1 d2 x y d : Int} (aF : bu a1 a2 = true) (ab : bu b1 b2 = true) (aj : bu c1 c2 = true) (hd : bu d1 d2 = true) (aA : 0 < d) (h1 : d = 1 ∨ d = hI (c7 a1 a2 b1 b2 c1 c2 d1 d2)) (ap : four a1 a2 b1 b2 c1 c2 d1 d2 x y d) :
  d ≤ 144115188075855872 ∧ (-19342813113834066795298816 ≤ x ∧ x ≤ 19342813113834066795298816) ∧ (-19342813113834066795298816 ≤ y ∧ y ≤ 19342813113834066795298816) := by
 have cL := aji aF ab aj hd;rw [kv] at aF ab
 have sQ : d ≤ 144115188075855872 := by
  rcases h1 with rfl | rfl
  ·omega
  ·unfold hI; split <;> omega
 exact ⟨sQ, My ap.1 aF.1.1 aF.1.2 ab.1.1 ab.1.2 (by omega) sQ, My ap.2.1 aF.2.1 aF.2.2 ab.2.1 ab.2.2 (by omega) sQ⟩
theorem ac2 (a1 a2 b1 b2 c1 c2 d1 d2 : Int) : B0 (lC a1 a2 b1 b2 c1 c2 d1 d2) := by
 unfold lC
 by_cases h : (bu a1 a2 && bu b1 b2 && bu c1 c2 && bu d1 d2) = true
 ·rw [if_pos h];simp only [c6] at h;rcases QF a1 a2 b1 b2 c1 c2 d1 d2 with ⟨e, _⟩ | ⟨x, y, d, e, aA, h1, ap, _⟩ | ⟨f1, f2, g1, g2, e, _⟩
  ·exact .inl e
  ·exact .inr (.inl ⟨x, y, d, e, aA, Oc h.1.1.1 h.1.1.2 h.1.2 h.2 aA h1 ap⟩)
  ·exact .inr (.inr ⟨f1, f2, g1, g2, e⟩)
 ·rw [if_neg h]; exact .inl rfl
theorem NS {x : Int} (h : -19342813113834066795298816 ≤ x ∧ x ≤ 19342813113834066795298816) : fits x = true := by unfold fits; rw [cg]; omega
theorem EV {x y d p1 p2 : Int} {r : Bool} (hp : bu p1 p2 = true) (qM : bj 150 x) (qN : bj 150 y) (nd : bj 150 d) (al : decide (x = p1 * d ∧ y = p2 * d) = r) : au ag 47 [tD 1 x d y d 0 0 0 0, aE p1 p2] (a7 r) := by
 have ab := kv.1 hp;have gZ := RQ hp;have cE : bj 5 p1 := bj.i64 (by omega) (by omega);have cP : bj 5 p2 := bj.i64 (by omega) (by omega);have jG : bj 5 (1 : Int) := bj.i64 (by omega) (by omega);have aS := yj (n := x) (d := d) (m := p1) (e := 1) (qM.up (by omega)) (nd.up (by omega)) (cE.up (by omega)) (jG.up (by omega));have bD := yj (n := y) (d := d) (m := p2) (e := 1) (qN.up (by omega)) (nd.up (by omega)) (cP.up (by omega)) (jG.up (by omega));rw [Int.mul_one] at aS bD;have q : ∀ u v : Int, bR u v = 0 ↔ u = v := fun u v => by unfold bR; split <;> (try split) <;> omega
 have cs : (¬ bR x (p1 * d) = 0 ∧ r = false) ∨ (bR x (p1 * d) = 0 ∧ bR y (p2 * d) = 0 ∧ r = true) ∨ (bR x (p1 * d) = 0 ∧ ¬ bR y (p2 * d) = 0 ∧ r = false) := by
  rw [← al, q, q]
  by_cases h1 : x = p1 * d <;> by_cases h2 : y = p2 * d <;> simp [h1, h2]
 clear al q cE cP jG qM qN nd hp ab;generalize bR x (p1 * d) = c1 at *;generalize bR y (p2 * d) = c2 at *;rcases cs with ⟨q1, rfl⟩ | ⟨q1, q2, rfl⟩ | ⟨q1, q2, rfl⟩
 all_goals
  refine bd (f := 47) Tryz.func47 rfl rfl rfl rfl ?_;(repeat first | refine dv ?_ | refine e7 ?_ | (with_reducible apply bP (c := true)); rfl; rfl; (exact cd (by omega)) | (with_reducible apply bP (c := false)); rfl; rfl; (exact cA (by omega)))
  ((refine aW rfl (aY rfl aJ) ?_))
  first | exact ah.aK.refl _ | exact ah.aK.of_eq (by rw [cd q2]; rfl) | exact ah.aK.of_eq (by rw [cA q2]; rfl)
theorem SK {a1 a2 b1 b2 c1 c2 d1 d2 : Int} (aS : au ag 46 [aE a1 a2, aE b1 b2, aE c1 c2, aE d1 d2] (se fH)) : au ag 24 [aE a1 a2, aE b1 b2, aE c1 c2, aE d1 d2] (a7 true) := by
 simp only [fH] at aS;refine bd (f := 24) Tryz.func24 rfl rfl rfl rfl ?_;(refine bS ?_)
 ((refine aW rfl (aY rfl aJ) ?_))
 exact ah.aK.refl _
theorem agG {a1 a2 b1 b2 c1 c2 d1 d2 x y d : Int} {bY b0 gf iE r : Bool} (aS : au ag 46 [aE a1 a2, aE b1 b2, aE c1 c2, aE d1 d2] (se (hJ x d y d)))
  (ju : au ag 47 [tD 1 x d y d 0 0 0 0, aE a1 a2] (a7 bY)) (oe : au ag 47 [tD 1 x d y d 0 0 0 0, aE b1 b2] (a7 b0)) (oZ : au ag 47 [tD 1 x d y d 0 0 0 0, aE c1 c2] (a7 gf)) (aju : au ag 47 [tD 1 x d y d 0 0 0 0, aE d1 d2] (a7 iE))
  (al : ((bY || b0) && (gf || iE)) = r) : au ag 24 [aE a1 a2, aE b1 b2, aE c1 c2, aE d1 d2] (a7 r) := by
 simp only [hJ] at aS
 have cs : (bY = true ∧ gf = true ∧ r = true) ∨ (bY = true ∧ gf = false ∧ r = iE) ∨ (bY = false ∧ b0 = true ∧ gf = true ∧ r = true) ∨ (bY = false ∧ b0 = true ∧ gf = false ∧ r = iE) ∨ (bY = false ∧ b0 = false ∧ r = false) := by
  rw [← al]; cases bY <;> cases b0 <;> cases gf <;> simp
 clear al;rcases cs with ⟨rfl, rfl, rfl⟩ | ⟨rfl, rfl, rfl⟩ | ⟨rfl, rfl, rfl, rfl⟩ | ⟨rfl, rfl, rfl, rfl⟩ | ⟨rfl, rfl, rfl⟩
 all_goals
  refine bd (f := 24) Tryz.func24 rfl rfl rfl rfl ?_;(refine bS ?_)
  ((refine aW rfl (aY rfl aJ) ?_))
  exact ah.aK.refl _
theorem agF {a1 a2 b1 b2 c1 c2 d1 d2 f1 f2 g1 g2 l1 l2 m1 m2 : Int} {r : Bool} (aS : au ag 46 [aE a1 a2, aE b1 b2, aE c1 c2, aE d1 d2] (se (o5 f1 f2 g1 g2)))
  (B5 : au ag 48 [aE a1 a2, aE b1 b2] (aE l1 l2)) (B6 : au ag 48 [aE c1 c2, aE d1 d2] (aE m1 m2))
  (al : (bZ l1 l2 m1 m2 && bZ f1 f2 l1 l2 && (bZ g1 g2 a1 a2 || bZ g1 g2 b1 b2) && (bZ g1 g2 c1 c2 || bZ g1 g2 d1 d2)) = r) : au ag 24 [aE a1 a2, aE b1 b2, aE c1 c2, aE d1 d2] (a7 r) := by
 simp only [o5] at aS
 have cs : (bZ l1 l2 m1 m2 = false ∧ r = false) ∨ (bZ l1 l2 m1 m2 = true ∧ bZ f1 f2 l1 l2 = false ∧ r = false) ∨ (bZ l1 l2 m1 m2 = true ∧ bZ f1 f2 l1 l2 = true ∧ bZ g1 g2 a1 a2 = false ∧ bZ g1 g2 b1 b2 = false ∧ r = false)
   ∨ (bZ l1 l2 m1 m2 = true ∧ bZ f1 f2 l1 l2 = true ∧ bZ g1 g2 a1 a2 = true ∧ bZ g1 g2 c1 c2 = true ∧ r = true) ∨ (bZ l1 l2 m1 m2 = true ∧ bZ f1 f2 l1 l2 = true ∧ bZ g1 g2 a1 a2 = true ∧ bZ g1 g2 c1 c2 = false ∧ r = bZ g1 g2 d1 d2)
   ∨ (bZ l1 l2 m1 m2 = true ∧ bZ f1 f2 l1 l2 = true ∧ bZ g1 g2 a1 a2 = false ∧ bZ g1 g2 b1 b2 = true ∧ bZ g1 g2 c1 c2 = true ∧ r = true) ∨ (bZ l1 l2 m1 m2 = true ∧ bZ f1 f2 l1 l2 = true ∧ bZ g1 g2 a1 a2 = false ∧ bZ g1 g2 b1 b2 = true ∧ bZ g1 g2 c1 c2 = false ∧ r = bZ g1 g2 d1 d2) := by
  rw [← al]; cases bZ l1 l2 m1 m2 <;> cases bZ f1 f2 l1 l2 <;> cases bZ g1 g2 a1 a2 <;> cases bZ g1 g2 b1 b2 <;> cases bZ g1 g2 c1 c2 <;> simp
 clear al;rcases cs with ⟨h1, rfl⟩ | ⟨h1, h2, rfl⟩ | ⟨h1, h2, h3, aD, rfl⟩ | ⟨h1, h2, h3, aD, rfl⟩ | ⟨h1, h2, h3, aD, rfl⟩ | ⟨h1, h2, h3, aD, cU, rfl⟩ | ⟨h1, h2, h3, aD, cU, rfl⟩
 all_goals
  refine bd (f := 24) Tryz.func24 rfl rfl rfl rfl ?_;(repeat first | refine dv ?_ | refine e7 ?_ | (with_reducible apply bP (c := true)); rfl; rfl; (assumption) | (with_reducible apply bP (c := false)); rfl; rfl; (assumption))
  ((refine aW rfl (aY rfl aJ) ?_))
  first | exact ah.aK.refl _ | exact ah.aK.of_eq (by rw [aD]; rfl) | exact ah.aK.of_eq (by rw [cU]; rfl)
theorem afO {a1 a2 b1 b2 c1 c2 d1 d2 : Int} : au ag 24 [aE a1 a2, aE b1 b2, aE c1 c2, aE d1 d2] (a7 (tZ (lC a1 a2 b1 b2 c1 c2 d1 d2) a1 a2 b1 b2 c1 c2 d1 d2)) := by
 have aS := afP (a1 := a1) (a2 := a2) (b1 := b1) (b2 := b2) (c1 := c1) (c2 := c2) (d1 := d1) (d2 := d2)
 by_cases h : (bu a1 a2 && bu b1 b2 && bu c1 c2 && bu d1 d2) = true
 ·have em : lC a1 a2 b1 b2 c1 c2 d1 d2 = gU a1 a2 b1 b2 c1 c2 d1 d2 := by unfold lC; rw [if_pos h]
  simp only [c6] at h;obtain ⟨⟨⟨aF, ab⟩, aj⟩, hd⟩ := h;rw [em] at aS ⊢;rcases QF a1 a2 b1 b2 c1 c2 d1 d2 with ⟨e, _⟩ | ⟨x, y, d, e, aA, h1, ap, hp⟩ | ⟨f1, f2, g1, g2, e, b7, hl, bY, b0, gf, iE, v1, v2, v3, v4, _⟩ <;> rw [e] at aS ⊢
  ·exact SK aS
  ·obtain ⟨ba, bo, dU⟩ := Oc aF ab aj hd aA h1 ap;have qM : bj 150 x := (bj.uO (NS bo)).up (by omega);have qN : bj 150 y := (bj.uO (NS dU)).up (by omega);have nd : bj 150 d := (bj.uO (by unfold fits; rw [cg]; omega)).up (show 10 ≤ 150 by omega);refine agG aS (EV aF qM qN nd rfl) (EV ab qM qN nd rfl) (EV aj qM qN nd rfl) (EV hd qM qN nd rfl) ?_;unfold tZ;simp only [hJ, if_true];rw [kR];simp only [c6, oJ, cg, iJ]
   have inj : ∀ {p q r s : Int}, (x = p * d ∧ y = q * d) → (x = r * d ∧ y = s * d) → p = r ∧ q = s := fun h k =>
    ⟨Int.eq_of_mul_eq_mul_right (by omega) (h.1.symm.trans k.1), Int.eq_of_mul_eq_mul_right (by omega) (h.2.symm.trans k.2)⟩
   have Fy := Rp a1 a2 b1 b2;have pS := Rp c1 c2 d1 d2
   constructor
   ·rintro ⟨p | p, q | q⟩
    ·exact .inl (.inl (.inl (inj p q)))
    ·exact .inl (.inl (.inr (inj p q)))
    ·exact .inl (.inr (inj p q))
    ·exact .inr (inj p q)
   ·rintro (((⟨rfl, rfl⟩ | ⟨rfl, rfl⟩) | ⟨rfl, rfl⟩) | ⟨rfl, rfl⟩)
    ·have := hp _ _ Fy.1 pS.1; exact ⟨.inl this, .inl this⟩
    ·have := hp _ _ Fy.1 pS.2; exact ⟨.inl this, .inr this⟩
    ·have := hp _ _ Fy.2 pS.1; exact ⟨.inr this, .inl this⟩
    ·have := hp _ _ Fy.2 pS.2; exact ⟨.inr this, .inr this⟩
  ·have le : ∀ p q r s : Int, (dF p q r s, dk p q r s) = if p < r ∨ (p = r ∧ q < s) then (p, q) else (r, s) := by
    intro p q r s
    by_cases h : c5 p q r s
    ·obtain ⟨h1, h2, _, _⟩ := AQ h;rw [h1, h2];unfold c5 at h
     by_cases k : p < r ∨ (p = r ∧ q < s)
     ·rw [if_pos k]
     ·rw [if_neg k, pR]; omega
    ·have aG : dF p q r s = r := by unfold dF; rw [if_neg h]
     have aO : dk p q r s = s := by unfold dk; rw [if_neg h]
     rw [aG, aO];unfold c5 at h;rw [if_neg (by omega)]
   refine agF aS (EW (le a1 a2 b1 b2)) (EW (le c1 c2 d1 d2)) ?_;unfold tZ ua;simp only [o5];rw [if_neg (by decide), if_pos trivial, kR];simp only [c6, oJ, iJ];rcases jW a1 a2 b1 b2 with ⟨bV, cC, eY, iU, yp⟩ | ⟨bV, cC, eY, iU, yp⟩ <;> rcases jW c1 c2 d1 d2 with ⟨s1, s2, bJ, bK, Kq⟩ | ⟨s1, s2, bJ, bK, Kq⟩ <;> rw [bV, cC, s1, s2] at v1 v2 <;> rw [eY, iU, bJ, bK] at v3 v4 <;> rw [bV, cC, eY, iU, s1, s2, bJ, bK]
   all_goals
    constructor
    ·rintro ⟨⟨⟨p, q⟩, r⟩, s⟩;refine ⟨p, ?_⟩;have cE : ¬ (g1 = f1 ∧ g2 = f2) := fun k => b7 ⟨k.1.symm, k.2.symm⟩;omega
    ·rintro ⟨⟨p1, p2⟩, q1, q2⟩;rw [p1, p2] at v1 v2;rw [q1, q2] at v3 v4;unfold dy at v1;unfold dj at v2;unfold dF at v3;unfold dk at v4;simp only [ite_self] at v1 v2 v3 v4;omega
 ·have em : lC a1 a2 b1 b2 c1 c2 d1 d2 = fH := by unfold lC; rw [if_neg h]
  rw [em] at aS ⊢;exact SK aS
section
variable {P : Program} {R : aI} {s : aC} {ops : Array Oper} {dr : Option (List Nat)} {ty : Nat} {pos : String} {after : Array Edge} {guard : Option (Nat × Bool)} {K : aI → aC → Prop} {rest : List Oper} {c : Code} {Q : Exit → aI → aC → Prop}
theorem Fx (ay : aI) (acA : bx ay R) (h : fu P c Q ay s) : fu P c Q R s := fun ok a8 bq a w ⟨A, ad, aq⟩ => h ok a8 bq a w ⟨A, ad, aq.le acA⟩
theorem TS {f : FuncId} {r : bG} {i j : Nat} {post : ah → bG → Prop} (hp : pW P f [cK r.sz r.n r.aU] post) (bH : 0 < r.sz) (c4 : ∀ y ∈ r.aU, y.aZ = true) (hF : ∀ v q, post v q → v = aQ q.v ∧ vi q.aU) :
  du P f [aQ r.v] cj (bC i r) fun v aH ay => ∃ q, aH = cj ∧ ay = bX (bC j q) (bC i r) ∧ 0 < q.sz ∧ post v q := by
 have h := ZG (R0 := bC i r) (args := [aQ r.v]) (hp j) rfl (fun U ad W vs cq cW => ⟨cW.1, fun n x v aa hv => ?_⟩) (fun v aH bf ak => ?_)
 ·refine ⟨fun U ad W vs cq cy cW => (h.call U ad W vs cq cy cW).mono ?_⟩;rintro e bk ⟨v, bV, aH, ay, aX, cR, q0, ⟨bf, ⟨q, _, rfl, aN, ak⟩, rfl, rfl⟩, mK⟩;exact ⟨v, bV, cj, _, aX, cR, q0, ⟨q, rfl, rfl, aN, ak⟩, mK⟩
 ·match n with
  | 0 =>
   cases aa;have pp := (cW.2 0 _ v rfl hv).1;subst pp;exact (cq.rows i r (by unfold bC; exact cF _ _ _)).1.TJ bH r.aU (fun xs hl => hl.map (fun b ab _ => ⟨.inl ab, rfl⟩) fun _ _ _ _ => rfl) c4 fun b ab => .inr (.inr ⟨i, r, by unfold bC; exact cF _ _ _, ab⟩)
  | n + 1 => simp at aa
 ·obtain ⟨q, rfl, rfl, aN, ak⟩ := ak;obtain ⟨rfl, ap⟩ := hF v q ak;refine ⟨rfl, BZ.one, rfl, fun k cf af => ?_⟩;obtain ⟨rfl, rfl⟩ := fO af;exact ⟨aN, ap⟩
theorem Pg (i j : Nat) (e0 : i ≠ j) {d : Nat} {f : FuncId} {g : Operand} {aL : Array TypeId} {x : Operand} {r : bG} {post : ah → bG → Prop} [E : Enters P f] (hw : want ops ⟨some d, .call ⟨.value g, #[x], aL⟩, ty, pos, after, guard⟩ s = some true) (hm : cY dr ⟨some d, .call ⟨.value g, #[x], aL⟩, ty, pos, after, guard⟩ = true)
  (an : s.look g = some (aQ (.func (.func f) #[] #[]))) (aF : s.look x = some (aQ r.v)) (hp : pW P f [cK r.sz r.n r.aU] post) (hi : R i = some r) (bH : 0 < r.sz) (c4 : ∀ y ∈ r.aU, y.aZ = true) (ae : R j = none) (hd : Nat.blt d s.n = true) (hF : ∀ v q, post v q → v = aQ q.v ∧ vi q.aU)
  (h : ∀ q, post (aQ q.v) q → cT P ops dr K rest R (s.put (some d) (cK q.sz q.n q.aU))) : cT P ops dr K (⟨some d, .call ⟨.value g, #[x], aL⟩, ty, pos, after, guard⟩ :: rest) R s := by
 refine ⟨true, hw, kF hd, .inr (.inr (.inr (.inr (.inr ⟨rfl, hm, f, [aQ r.v], cj, bC i r, _, ⟨⟨_, g, rfl, rfl, .inl ⟨[], an, by simp [aF], rfl⟩⟩, E.h⟩, TS (j := j) hp bH c4 hF, fun x aa j ae => ?_, fun k' ar aM => (by cases aM), fun eH aV aM => ?_, fun k' ar x j aM => (by cases aM), ?_⟩))))⟩
 ·simp at aa; subst aa; exact absurd ae (jf _ j)
 ·obtain ⟨rfl, rfl⟩ := fO aM; exact hi
 rintro v aH ay ⟨q, rfl, rfl, Ac, ak⟩ _ _ _;refine ⟨fun k' c aM => (by cases aM), ?_⟩;obtain ⟨rfl, _⟩ := hF v q ak;have ij : bX (bX (bC j q) (bC i r)) R j = some q := hX (hX (by unfold bC; exact cF _ _ _));refine ⟨j, d, q, rfl, ij, Ac, cF _ _ _, (show d < s.n by simpa [Nat.blt_eq] using hd), ?_⟩
 have aG : (fun x => if x = j then none else bX (bX (bC j q) (bC i r)) R x) = R := by
  funext x
  by_cases e : x = j
  ·rw [if_pos e, e, ae]
  ·rw [if_neg e]
   by_cases bm : x = i
   ·subst bm;rw [hi];exact hX (by rw [hY (by unfold bC; rw [ct _ _ e]; rfl)]; unfold bC; exact cF _ _ _)
   ·exact hY (by rw [hY (by unfold bC; rw [ct _ _ e]; rfl)]; unfold bC; rw [ct _ _ bm]; rfl)
 rw [aG, uT, A8];exact h q ak
end
section
variable {P : Program} {R : aI} {s : aC} {ops : Array Oper} {dr : Option (List Nat)} {ty : Nat} {pos : String} {after : Array Edge} {guard : Option (Nat × Bool)} {K : aI → aC → Prop} {rest : List Oper} {c : Code} {Q : Exit → aI → aC → Prop}
theorem gx.one {U : Nat → Prop} {ad : Nat → Nat} {W : World} {y : AC} {v : Value} (h : gx U ad W y v) (aj : y.aZ = true) : v.oneCell' = true := by
 cases y with
 | c u => rw [h.1]; exact h.2
 | own k o => cases aj
 | p S => exact S.cell _ _ h.1
theorem bM.exact {U cR : Nat → Prop} {ad aX : Nat → Nat} {W bk : World} {aU : List AC} {xs : List Value} (h : bM U ad W aU xs) (aj : ∀ y ∈ aU, y.aZ = true) : bM cR aX bk (xs.map AC.c) xs := by
 refine ⟨by rw [iD], fun i x v aa hv => ?_⟩;rw [dL, hv] at aa;cases aa;have hi : i < aU.length := by rw [h.1]; exact (bL.1 hv).1
 have ai := bN hi;exact ⟨rfl, (h.2 i _ v ai hv).one (aj _ (dc ai))⟩
theorem bM.Yw {U : Nat → Prop} {ad : Nat → Nat} {W : World} {xs yH : List Value} (h : bM U ad W (xs.map AC.c) yH) : yH = xs := by
 refine List.ext_getElem? fun i => ?_;cases aa : yH[i]? with
 | none =>
  have : xs.length ≤ i := by have := h.1; rw [iD] at this; rw [this]; exact List.getElem?_eq_none_iff.1 aa
  exact (List.getElem?_eq_none_iff.2 this).symm
 | some v =>
  have hi : i < (xs.map AC.c).length := by rw [h.1]; exact (bL.1 aa).1
  have ai := bN hi;have := (h.2 i _ v ai aa);rw [List.getElem_map] at this;rw [this.1, bN (by rwa [iD] at hi)]
theorem EK {e sz n : Nat} {v : Value} {aU zs : List AC} {g : Nat} (hs : 0 < sz) (h : (⟨e, sz, v, n, aU⟩ : bG).own g) : (⟨e, sz, v, n, zs⟩ : bG).own g := by
 have := bG.pC h hs;exact .inl this
theorem ajd {f : FuncId} {r : bG} {i j : Nat} (e0 : i ≠ j) (hp : ∀ aU : List AC, aU.length = r.aU.length → aU.all AC.aZ = true → pW P f [cK r.sz r.n aU] fun v q => ∃ v', v = aQ v' ∧ q = ⟨r.e, r.sz, v', r.n, aU⟩) (bH : 0 < r.sz) (c4 : ∀ y ∈ r.aU, y.aZ = true) :
  du P f [aQ r.v] cj (bC i r) fun v aH ay => ∃ v', v = aQ v' ∧ aH = cj ∧ ay = bX (bC j ⟨r.e, r.sz, v', r.n, r.aU⟩) (bC i r) := by
 refine ⟨fun U ad W vs cq cy cW => ?_⟩;have sZ : ∀ q, bC i q i = some q := fun q => by unfold bC; exact cF _ _ _
 obtain ⟨jD, oB, xY⟩ := cq.rows i r (sZ r);obtain ⟨xs, az, hl⟩ := jD.row bH;have hex : ∀ (U : Nat → Prop) (ad : Nat → Nat) (W : World), bM U ad W (xs.map AC.c) xs := fun U ad W => hl.exact c4;have As : ∀ y ∈ xs.map AC.c, AC.aZ y = true := fun y ai => by obtain ⟨v, _, rfl⟩ := gV.1 ai; rfl
 have DH : ∀ g, (⟨r.e, r.sz, r.v, r.n, xs.map AC.c⟩ : bG).own g → r.own g := fun g h => by
  have := bG.pC h bH;exact .inl this
 have qA : ∀ g, r.own g → (⟨r.e, r.sz, r.v, r.n, xs.map AC.c⟩ : bG).own g := fun g h => by
  have := bG.pC h bH;exact .inl this
 have iL : e9 U ad W cj (bC i ⟨r.e, r.sz, r.v, r.n, xs.map AC.c⟩) := by
  refine ⟨fun k cs af => (by cases af), fun k cs x j af => (by cases af), fun k k' cs ar af => (by cases af), fun k q af => ?_, fun a b q cf aF ab nH => ?_⟩
  ·obtain ⟨rfl, rfl⟩ := fO af;exact ⟨.inl ⟨bH, xs, az, hex _ _ _⟩, As, fun g an => ⟨(xY g (DH g an)).1, fun k cs af => (by cases af)⟩⟩
  ·obtain ⟨rfl, rfl⟩ := fO aF;obtain ⟨rfl, rfl⟩ := fO ab;exact absurd rfl nH
 have hF := TS (i := i) (j := j) (r := ⟨r.e, r.sz, r.v, r.n, xs.map AC.c⟩) (hp (xs.map AC.c) (by rw [iD]; exact hl.1.symm) (cB.2 As)) bH As (fun v q ⟨v', hv, ak⟩ => by
  subst ak; exact ⟨hv, vi.of fun y ai => by obtain ⟨v, _, rfl⟩ := gV.1 ai; exact ⟨v, rfl⟩⟩)
 refine (hF.call U ad W vs iL cy cW).mono ?_;rintro e bk ⟨v, bV, aH, ay, aX, cR, q0, ⟨q, rfl, rfl, aN, v', rfl, rfl⟩, h2, h3, aD, cU, fs, kb, qq, jB⟩
 have z7 : ∀ b, er ad cj (bC i ⟨r.e, r.sz, r.v, r.n, xs.map AC.c⟩) b → r.own b := fun b ab => by
  rcases ab with ⟨k, cs, af, _⟩ | ⟨k, q, af, an⟩
  ·cases af
  ·obtain ⟨rfl, rfl⟩ := fO af; exact DH b an
 have Am : ∀ b, U b → b < W.heap.size → bk.heap[b]? = W.heap[b]? := fun b ab bb => jB.block b ⟨bb, fun aR => (xY b (z7 b aR)).1 ab⟩
 have nQ : ∀ k q, bX (bC j ⟨r.e, r.sz, v', r.n, r.aU⟩) (bC i r) k = some q → ∃ u, q = ⟨r.e, r.sz, u, r.n, r.aU⟩ ∧ bX (bC j ⟨r.e, r.sz, v', r.n, xs.map AC.c⟩) (bC i ⟨r.e, r.sz, r.v, r.n, xs.map AC.c⟩) k = some ⟨r.e, r.sz, u, r.n, xs.map AC.c⟩ := fun k q af => by
  rcases ko af with af | ⟨aw, af⟩
  ·obtain ⟨rfl, rfl⟩ := fO af;exact ⟨v', rfl, hX (by unfold bC; exact cF _ _ _)⟩
  ·obtain ⟨rfl, rfl⟩ := fO af;refine ⟨q.v, rfl, ?_⟩;rw [hY (by unfold bC; rw [ct _ _ e0]; rfl)];exact sZ _
 refine ⟨v, aQ v', cj, bX (bC j ⟨r.e, r.sz, v', r.n, r.aU⟩) (bC i r), aX, fun b => cR b ∨ (U b ∧ b < W.heap.size), q0, ⟨v', rfl, rfl, rfl⟩, ⟨fun k cs af => (by cases af), fun k cs x j af => (by cases af), fun k k' cs ar af => (by cases af), fun k q af => ?_, fun a b q cf aF ab nH g an ec => ?_⟩, h3, fun j ae => absurd ae (jf _ j), fun k cs af => (by cases af), fun k q af => ?_, fun b ab => ?_, fun b ab => ?_, ⟨jB.os, jB.tape, jB.output, jB.size, fun b ab => jB.block b ⟨ab.1, fun aR => ab.2 (.inr ⟨i, r, sZ r, z7 b aR⟩)⟩⟩⟩
 ·obtain ⟨u, rfl, eP⟩ := nQ k q af;obtain ⟨e2, z2, z3⟩ := h2.rows k _ eP;obtain ⟨yH, hG, e6⟩ := e2.row bH;have := bM.Yw e6;subst this;refine ⟨.inl ⟨bH, yH, hG, hl.map (fun b ab bb => ⟨.inr ⟨ab, bb⟩, Am b ab bb⟩) fun k x aa ae => absurd ae (AC.dC (c4 x aa) k)⟩, c4, fun g an => ⟨?_, fun k cs af => (by cases af)⟩⟩;have ec := EK (zs := yH.map AC.c) bH an;rintro (dx | ⟨dx, bb⟩)
  ·exact (z3 g ec).1 dx
  ·rcases qq g (.inr ⟨k, _, eP, ec⟩) with aR | aR
   ·exact (xY g (z7 g aR)).1 dx
   ·omega
 ·obtain ⟨u, rfl, pd⟩ := nQ a q aF;obtain ⟨oQ, rfl, cL⟩ := nQ b cf ab;exact h2.apart a b _ _ pd cL nH g (EK bH an) (EK bH ec)
 ·obtain ⟨rfl, rfl⟩ := fO af;exact ⟨q, by rw [hY (by unfold bC; rw [ct _ _ e0]; rfl)]; exact sZ q⟩
 ·rcases ab with ab | ab
  ·rcases kb b ab with h | h | h
   ·exact .inl h
   ·exact .inr (.inl h)
   ·exact .inr (.inr (.inr ⟨i, r, sZ r, z7 b h⟩))
  ·exact .inl ab.1
 ·rcases ab with ⟨k, cs, af, _⟩ | ⟨k, q, af, an⟩
  ·cases af
  ·obtain ⟨u, rfl, eP⟩ := nQ k q af;rcases qq b (.inr ⟨k, _, eP, EK bH an⟩) with h | h
   ·exact .inl (.inr ⟨i, r, sZ r, z7 b h⟩)
   ·exact .inr h
theorem IE (i j : Nat) (e0 : i ≠ j) {dst : Option Nat} {f : FuncId} {g : Operand} {aL : Array TypeId} {x : Operand} {r : bG} [E : Enters P f] (hw : want ops ⟨dst, .call ⟨.value g, #[x], aL⟩, ty, pos, after, guard⟩ s = some true) (hm : cY dr ⟨dst, .call ⟨.value g, #[x], aL⟩, ty, pos, after, guard⟩ = true)
  (an : s.look g = some (aQ (.func (.func f) #[] #[]))) (aF : s.look x = some (aQ r.v)) (hp : ∀ aU : List AC, aU.length = r.aU.length → aU.all AC.aZ = true → pW P f [cK r.sz r.n aU] fun v q => ∃ v', v = aQ v' ∧ q = ⟨r.e, r.sz, v', r.n, aU⟩) (hi : R i = some r) (bH : 0 < r.sz) (c4 : ∀ y ∈ r.aU, y.aZ = true) (hd : lp dst s.n = true)
  (h : ∀ v', cT P ops dr K rest (bI R j ⟨r.e, r.sz, v', r.n, r.aU⟩) (s.put dst (aQ v'))) : cT P ops dr K (⟨dst, .call ⟨.value g, #[x], aL⟩, ty, pos, after, guard⟩ :: rest) R s := by
 refine O8 (l := [x]) (args := [aQ r.v]) hw hm an (by simp [aF]) (ajd (j := j) e0 hp bH c4) (fun k q af => ?_) rfl hd ?_
 ·obtain ⟨rfl, rfl⟩ := fO af; exact hi
 rintro v aH ay ⟨v', rfl, rfl, rfl⟩;refine ⟨rfl, ?_⟩
 have aG : bX (bX (bC j ⟨r.e, r.sz, v', r.n, r.aU⟩) (bC i r)) R = bI R j ⟨r.e, r.sz, v', r.n, r.aU⟩ := by
  funext k
  by_cases ik : k = j
  ·subst ik;rw [cF];exact hX (hX (by unfold bC; exact cF _ _ _))
  ·rw [ct _ _ ik]
   by_cases lr : k = i
   ·subst lr;rw [hi];exact hX (by rw [hY (by unfold bC; rw [ct _ _ ik]; rfl)]; unfold bC; exact cF _ _ _)
   ·exact hY (by rw [hY (by unfold bC; rw [ct _ _ ik]; rfl)]; unfold bC; rw [ct _ _ lr]; rfl)
 rw [aG];exact h v'
end
section
variable {P : Program} {s : aC} {ops : Array Oper} {K : aC → Prop} {rest : List Oper} {ty : Nat} {pos : String} {after : Array Edge} {guard : Option (Nat × Bool)} {d : Nat}
theorem V2 {t ed k off : Nat} {x : Operand} (hw : want ops ⟨some d, .binOp .eql t x (.const (.pointer none)) ed, ty, pos, after, guard⟩ s = some true) (aa : s.look x = some (.w (.one (.own k off)))) (hu : PD P t = true) (hd : Nat.blt d s.n = true) (h : bg P ops K rest (s.put (some d) (a7 false))) : bg P ops K (⟨some d, .binOp .eql t x (.const (.pointer none)) ed, ty, pos, after, guard⟩ :: rest) s := by
 obtain ⟨e, he⟩ : ∃ e, P.underlying t = some (.pointer e) := by
  unfold PD at hu
  split at hu
  ·rename_i e he; exact ⟨e, he⟩
  ·cases hu
 refine gi (av := a7 false) hw ⟨fun _ _ h => (by cases h), fun z aN => ?_, fun U ad W env OJ => ?_, fun j ae => absurd ae (jf _ j)⟩ hd h
 ·simp [Op.operands] at aN;rcases aN with rfl | rfl
  ·exact ⟨_, aa⟩
  ·exact ⟨_, rfl⟩
 ·have aG := OJ x (by simp [Op.operands]) _ aa;have aG : env x = .pointer (some ⟨ad k, off, none⟩) := aG;have aO : env (.const (.pointer none)) = .pointer none := (OJ (.const (.pointer none)) (by simp [Op.operands]) _ rfl).1;refine ⟨.bool false, ?_, rfl, rfl⟩;simp only [execOp, aG, aO, Y1, Sem.run_bind, Sem.run_pure, Result.andThen_ok, ahB he]
end
section
variable {P : Program} {f : FuncId} {args : List ah} {m0 : Mem} {R0 : aI} {Post Post2 : ah → Mem → aI → Prop}
def pa (i : Nat) (R : aI) : aI := fun j => if j = i then none else R j
theorem du.vD (i : Nat) (h : du P f args m0 R0 Post) (aA : R0 i = none)
  (hp : ∀ cb aH ay, Post cb aH ay → ∃ q Bl, ay i = some q ∧ 0 < q.sz ∧ (∀ U ad W v, de U ad W cb v → gx U ad W (.p (cM q.sz q.n q.aU)) q.v → de U ad W Bl v) ∧ (∀ j, Bl.owns j → cb.owns j) ∧ Post2 Bl aH (pa i ay)) : du P f args m0 R0 Post2 := by
 refine ⟨fun U ad W vs cq cy cW => (h.call U ad W vs cq cy cW).mono ?_⟩;rintro e bk ⟨v, r, aH, ay, aX, cR, q0, h1, h2, h3, aD, cU, fs, kb, qq, jB⟩;obtain ⟨q, Bl, hi, aN, hv, hw, Da⟩ := hp r aH ay h1;obtain ⟨e2, z2, z3⟩ := h2.rows i q hi;have DG : ∀ b, cR b → b < bk.heap.size → (fun b => cR b ∨ q.own b) b ∧ bk.heap[b]? = bk.heap[b]? := fun b ab _ => ⟨.inl ab, rfl⟩;have aa5 : gx (fun b => cR b ∨ q.own b) aX bk (.p (cM q.sz q.n q.aU)) q.v := e2.TJ aN q.aU (fun xs hl => hl.map DG fun _ _ _ _ => rfl) z2 fun b ab => .inr ab;have al : de (fun b => cR b ∨ q.own b) aX bk r v := h3.map DG fun _ _ => rfl
 have Dp : ∀ k x, pa i ay k = some x → k ≠ i ∧ ay k = some x := fun k x af => by
  unfold pa at af
  split at af
  ·cases af
  ·rename_i b7; exact ⟨b7, af⟩
 refine ⟨v, Bl, aH, pa i ay, aX, fun b => cR b ∨ q.own b, q0, Da, ⟨fun k cs af => ?_, h2.fN, h2.inj, fun k x af => ?_, fun a b x y aF ab nH g an ec => ?_⟩, hv _ _ _ _ al aa5, fun j ae => aD j (hw j ae), cU, fun k x af => ?_, fun b ab => ?_, fun b ab => ?_, jB⟩
 ·obtain ⟨xs, ty, a1, a2, a3⟩ := h2.dz k cs af;exact ⟨xs, ty, a1, a2.map DG fun _ _ _ _ => rfl, fun aR => aR.elim a3 fun an => (z3 _ an).2 k cs af rfl⟩
 ·obtain ⟨b7, eP⟩ := Dp k x af;obtain ⟨a1, a2, a3⟩ := h2.rows k x eP;exact ⟨a1.kept a2 (fun _ _ => rfl) (dI _) DG, a2, fun g an => ⟨fun aR => aR.elim (a3 g an).1 fun ec => h2.apart k i x q eP hi b7 g an ec, (a3 g an).2⟩⟩
 ·obtain ⟨_, pd⟩ := Dp a x aF;obtain ⟨_, cL⟩ := Dp b y ab;exact h2.apart a b x y pd cL nH g an ec
 ·obtain ⟨x', kk⟩ := fs k x af;refine ⟨x', ?_⟩;unfold pa;rw [if_neg (fun e => by subst e; rw [aA] at af; cases af)];exact kk
 ·rcases ab with ab | ab
  ·exact kb b ab
  ·rcases qq b (.inr ⟨i, q, hi, ab⟩) with aR | aR
   ·exact .inr (.inr aR)
   ·exact .inr (.inl aR)
 ·refine qq b ?_;rcases ab with ⟨k, cs, af, e⟩ | ⟨k, x, af, an⟩
  ·exact .inl ⟨k, cs, af, e⟩
  ·exact .inr ⟨k, x, (Dp k x af).2, an⟩
theorem AC.qV (x : AC) : x.a6 (fun j => j) = x := by cases x <;> rfl
theorem AC.SR (xs : List AC) : xs.map (AC.a6 fun j => j) = xs := by
 conv => rhs; rw [← List.map_id xs]
 exact np fun x _ => AC.qV x
theorem bA.qV (x : bA) : x.a6 (fun j => j) = x := by
 cases x with
 | one x => show bA.one (x.a6 _) = _; rw [AC.qV]
 | agg xs => show bA.agg (xs.map _) = _; rw [AC.SR]
theorem ah.qV (x : ah) : x.a6 (fun j => j) = x := by
 cases x with
 | w x => show ah.w (x.a6 _) = _; rw [bA.qV]
 | cz xs =>
  show ah.cz (xs.map _) = _;congr 1
  conv => rhs; rw [← List.map_id xs]
  exact np fun x _ => bA.qV x
theorem Mem.qV (m : Mem) : Mem.a6 (fun j => j) m = m := by
 funext k;show (m k).map _ = m k;cases m k with
 | none => rfl
 | some cs => show some (cs.map _) = _; rw [AC.SR]
theorem du.rn {ca : Nat → Nat} (fM : ∀ j, ca (ca j) = j) (h : du P f args m0 R0 Post) : du P f args m0 (R0.a6 ca) fun cb aH ay => ∃ bf, Post cb aH bf ∧ ay = bf.a6 ca := by
 have h1 := h.a6 (bF := fun j => j) (fun _ => rfl) (ca := ca) (iV := ca) fM fM
 rw [show args.map (ah.a6 fun j => j) = args from by
  conv => rhs; rw [← List.map_id args]
  exact np fun x _ => ah.qV x, Mem.qV] at h1
 refine ⟨fun U ad W vs cq cy cW => (h1.call U ad W vs cq cy cW).mono ?_⟩;rintro dh bk ⟨v, r, aH, ay, aX, cR, q0, ⟨bV, m1, bf, ak, rfl, rfl, rfl⟩, mK⟩;rw [ah.qV, Mem.qV] at mK;exact ⟨v, bV, m1, bf.a6 ca, aX, cR, q0, ⟨bf, ak, rfl⟩, mK⟩
theorem du.imp (h : du P f args m0 R0 Post) (hp : ∀ cb aH ay, Post cb aH ay → Post2 cb aH ay) : du P f args m0 R0 Post2 :=
 ⟨fun U ad W vs cq cy cW => (h.call U ad W vs cq cy cW).mono (by
  rintro dh bk ⟨v, r, aH, ay, aX, cR, q0, h1, mK⟩;exact ⟨v, r, aH, ay, aX, cR, q0, hp _ _ _ h1, mK⟩)⟩
end
end Go.Proofs.YtbcecodakfejaaaGreat
namespace Go.Proofs.YtbcecodakfejaaaGreat
open Go.ChangeShapes Go.WideShapes Go.ChangeAt Go.RowKit Go.Joins
def sL (L : List (List Int)) : List AC := L.flatten.map fun x => .c (.int .i64 x)
theorem Xj {W : World} {b : Addr} {v : Value} (h : W.cell? b = some v) : b.block < W.heap.size := by
 unfold World.cell? at h
 split at h
 ·rename_i aR; exact (j2.1 aR).1
 ·cases h
theorem NV {W : World} {a : Addr} {z : Nat} : ∀ (L : List (List Int)) (k : Nat), (∀ (i : Nat) (x : List Int), L[i]? = some x → x.length = z ∧ ∀ (o : Nat) (y : Int), x[o]? = some y → W.cell? (a.add ((k + i) * z + o)) = some (.int .i64 y)) →
  ∀ (j : Nat) (u : Int), L.flatten[j]? = some u → W.cell? (a.add (k * z + j)) = some (.int .i64 u)
 | [], k, h, j, u, hu => by simp at hu
 | x :: L, k, h, j, u, hu => by
  obtain ⟨hl, aa⟩ := h 0 x rfl;rw [List.flatten_cons] at hu;rcases gK j x.length with ae | ae
  ·rw [fZ ae] at hu;have := aa j u hu;rwa [Nat.add_zero] at this
  ·rw [gM ae] at hu
   have := NV L (k + 1) (fun i y ai => by
    have := h (i + 1) y (by simpa using ai);rw [show k + (i + 1) = k + 1 + i by omega] at this;exact this) (j - x.length) u hu
   rw [show (k + 1) * z + (j - x.length) = k * z + j by rw [kS, Nat.one_mul]; omega] at this;exact this
theorem aeq {H : Type} {enc : TypeId × Value → H} {P : Program} {W : World} {t e : TypeId} (z : Nat) (aB : P.underlying t = some (.slice e)) (ce : P.cellsOf e = z)
  (zM : ∀ (n : Nat) (cs : List Value) d, DataW.trod enc P W 0 (fun _ => true) true n e cs = some d → ∃ xs : List Int, cs = xs.map (Value.int .i64))
  {v : Value} {d : DataW H} {p : List MemPlace} (hv : ∃ a len cap, v = .slice a len cap) (aA : DataW.Trod enc P W 0 (fun _ => true) true t v d p) (aN : 0 < z) :
  ∃ L : List (List Int), (L.length : Int) ≤ 9223372036854775807 ∧ (∀ x ∈ L, x.length = z) ∧ de (fun _ => True) id W (cK z L.length (sL L)) v := by
 obtain ⟨a0, tb, ajX, rfl⟩ := hv;obtain ⟨fr, ap⟩ := aA;rcases Go.Deep.open_slice aB ap with ⟨eb, aa⟩ | ⟨a, len, cap, m, n, D, ajz, eb, ab, hl, hm, uq, aa, hi⟩
 ·simp [Value.cells] at eb;obtain ⟨rfl, rfl, rfl⟩ := eb;exact ⟨[], by decide, fun x aa => (by cases aa), ⟨none, 0, rfl, dI _, by simp [sL], fun h => absurd h (Nat.lt_irrefl _)⟩, fun _ _ => trivial⟩
 ·simp [Value.cells] at eb;obtain ⟨rfl, rfl, rfl⟩ := eb;simp only [if_true] at uq;subst uq;rw [ce] at hi
  have each : ∀ i, i < m → ∃ q : List Int, q.length = z ∧ ∀ (o : Nat) (y : Int), q[o]? = some y → W.cell? (a.add (i * z + o)) = some (.int .i64 y) := fun i h => by
   obtain ⟨ar, h1, h2⟩ := hi i h;obtain ⟨_, hlen, jQ⟩ := World.cells?_some h1;obtain ⟨xs, rfl⟩ := zM _ _ _ h2;refine ⟨xs, by simpa using hlen, fun o y ai => ?_⟩
   have az : o < z := by
    have := (bL.1 ai).1;simp at hlen; omega
   have := jQ o az;rw [Go.Deep.add_add, dL, ai] at this;exact this
  obtain ⟨q, ak⟩ := Go.Deep.choose_lt each
  have dD : ∀ (i : Nat) (x : List Int), ((List.range tb).map q)[i]? = some x → x.length = z ∧ ∀ (o : Nat) (y : Int), x[o]? = some y → W.cell? (a.add ((0 + i) * z + o)) = some (.int .i64 y) := by
   intro i x aa;rw [dL] at aa;cases al : (List.range tb)[i]? with
   | none => rw [al] at aa; cases aa
   | some j =>
    rw [al] at aa;cases aa;obtain ⟨h3, aD⟩ := bL.1 al;simp at h3 aD;subst aD;rw [j3];exact ak i (by omega)
  have gQ := NV ((List.range tb).map q) 0 dD
  have zV : ∀ x ∈ (List.range tb).map q, x.length = z := fun x aa => by
   obtain ⟨i, da⟩ := j1 aa;exact (dD i x da).1
  have xP : ∀ L : List (List Int), (∀ x ∈ L, x.length = z) → L.flatten.length = L.length * z := by
   intro L
   induction L with
   | nil => intro _; simp
   | cons x L b9 =>
    intro h;rw [List.flatten_cons, cO, b9 (fun y ai => h y (by simp [ai])), h x (by simp), jj, kS];omega
  refine ⟨(List.range tb).map q, by simp; unfold maxLen at hm; omega, zV, ?_⟩;refine ⟨⟨some a, m, by simp, by simpa using hl, by rw [sL, iD, xP _ zV], fun aw => ⟨a, ((List.range tb).map q).flatten.map fun x => Value.int .i64 x, rfl, ?_, ⟨by rw [sL, iD, iD], fun i x u aa hu => ?_⟩, fun j u hu => ?_, fun y ai => ?_⟩⟩, fun _ _ => trivial⟩
  ·have Ir : 0 < tb := by simpa using aw
   obtain ⟨h1, h2⟩ := ak 0 (by omega);have := Xj (h2 0 _ (bN (by omega)));rwa [block_add] at this
  ·unfold sL at aa;rw [dL] at aa hu;cases al : ((List.range tb).map q).flatten[i]? with
   | none => rw [al] at aa; cases aa
   | some y =>
    rw [al] at aa hu;cases aa; cases hu;exact ⟨rfl, rfl⟩
  ·rw [dL] at hu;cases al : ((List.range tb).map q).flatten[j]? with
   | none => rw [al] at hu; cases hu
   | some y =>
    rw [al] at hu;cases hu;have := gQ j y al;rwa [Nat.zero_mul, j3] at this
  ·unfold sL at ai;obtain ⟨x, _, rfl⟩ := gV.1 ai;rfl
theorem Hf {H : Type} {enc : TypeId × Value → H} {P : Program} {W : World} {e : TypeId} (eW : P.underlying e = some (.int .i64)) {n : Nat} {cs : List Value} {d : DataW H × List MemPlace} (h : DataW.trod enc P W 0 (fun _ => true) true n e cs = some d) (hl : cs.length = 1) : ∃ x : Int, cs = [.int .i64 x] := by
 match cs, hl with
 | [v], _ =>
  obtain ⟨x, aa, _⟩ := DataW.trod_int eW h;simp at aa;exact ⟨x, by rw [aa]⟩
theorem Ns {H : Type} {enc : TypeId × Value → H} {P : Program} {W : World} {e : TypeId} {f0 f1 : Field} (he : P.underlying e = some (.struct #[f0, f1])) (ce : P.cellsOf e = 2) (EF : f0.offset = 0) (o1 : f1.offset = 1) (hb : P.cellsOf f0.type = 1) (c1 : P.cellsOf f1.type = 1) (eW : P.underlying f0.type = some (.int .i64)) (ba : P.underlying f1.type = some (.int .i64))
  {n : Nat} {cs : List Value} {d : DataW H × List MemPlace} (h : DataW.trod enc P W 0 (fun _ => true) true n e cs = some d) : ∃ x y : Int, cs = [.int .i64 x, .int .i64 y] := by
 obtain ⟨xs, k, _, _, c4, pr, ap⟩ := DataW.trod_struct he h;rw [ce] at c4
 match cs, c4, xs, pr with
 | [u, v], _, [d0, d1], _ =>
  have g0 := ap 0 f0 rfl;have g1 := ap 1 f1 rfl;simp [EF, o1, hb, c1] at g0 g1;obtain ⟨x, aa⟩ := Hf eW g0 rfl;obtain ⟨y, ai⟩ := Hf ba g1 rfl;cases aa; cases ai;exact ⟨x, y, rfl⟩
end Go.Proofs.YtbcecodakfejaaaGreat
