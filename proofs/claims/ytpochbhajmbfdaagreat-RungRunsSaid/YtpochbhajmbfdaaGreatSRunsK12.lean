/-
  My own texts, without what this claim does not need. My own text.
-/
import Derived.Test.YtpochbhajmbfdaaGreatSRunsK11
set_option maxRecDepth 100000
set_option maxHeartbeats 64000000
set_option linter.unusedVariables false
set_option linter.unusedSimpArgs false
set_option linter.unusedSectionVars false
open Go.Proofs.Tryz renaming prog → aj
namespace Go.Proofs.YtpochbhajmbfdaaGreat
open Go.RowKit
open bF
section
variable {P : Program} {bp : ff} {bU A : Nat → Prop} {R : aJ} {s : aC} {a : Act} {w : World} {ad : Nat → Nat} {c : Code} {Q : Exit → aJ → aC → Prop}
theorem eL.ad5 {cu : Nat → Nat} (gM : ∀ i j, cu i = cu j → i = j) (h : eL bp bU R s a w A ad) : eL bp bU (fun i => R (cu i)) s a w A ad :=
 ⟨h.up, h.sub, h.rel, h.o3, h.below, fun i r hi => h.rows (cu i) r hi, fun i j r q hi ae gL g aw => h.apart (cu i) (cu j) r q hi ae (fun e => gL (gM i j e)) g aw, fun i r g hi aw => h.hot (cu i) r g hi aw, h.kp⟩
theorem aeN (i j : Nat) (h : fJ P c Q (fun x => R (swp i j x)) s) : fJ P c Q R s := fun ok bp bU a w ⟨A, ad, aA⟩ => h ok bp bU a w ⟨A, ad, aA.ad5 fun x y e => by rw [← nD i j x, e, nD]⟩
end
theorem EX {A B ds : List AC} {off : Nat} (h : A.length = off) : er (A ++ B) off ds = A ++ ds ++ B.drop ds.length := by
 unfold er;rw [← h, List.take_left, List.drop_append, uJ (by omega), Nat.add_sub_cancel_left]; simp
def J9 (E : List (Int × cc)) (r rm : Nat) (s : bF.aX an) (cs : List AC) (R : aJ) : Prop := ∃ (hv fv cv : Value) (b : Nat) (S : fm) (lk : AC), th rm s.hot (eb b) S ∧ lk.ba = true ∧ cs = eM E r rm s.ph s.I s.J s.T s.dirty hv fv cv b lk ∧ R = dR b S hv fv cv s.hot s.fnd s.ch
def J7 (E : List (Int × cc)) (r rm : Nat) (f : FuncId) (args : List ai) (s : bF.aX an) (v : ai) (s' : bF.aX an) : Prop :=
 ∀ cs R, J9 E r rm s cs R → dt aj f (rE :: args) (cQ 1000 cs) R (nF 1000 fun b9 ar aB => b9 = v ∧ dd E r rm s' ar aB)
section
variable {P : Program} {R : aJ} {s : aC} {ops : Array Oper} {dr : Option (List Nat)} {ty : Nat} {pos : String} {after : Array Edge} {guard : Option (Nat × Bool)} {K : aJ → aC → Prop} {rest : List Oper}
theorem Nj {E : List (Int × cc)} {r rm : Nat} {eP s1 : bF.aX an} {v : ai} {dst : Option Nat} {f : FuncId} {g : Operand} {ts : Array TypeId} {l : List Operand} {args : List ai} {cs : List AC} [Fp : Enters aj f] (hw : want ops ⟨dst, .call ⟨.value g, l.toArray, ts⟩, ty, pos, after, guard⟩ s = some true) (hm : dW dr ⟨dst, .call ⟨.value g, l.toArray, ts⟩, ty, pos, after, guard⟩ = true)
  (aw : s.look g = some (aR (.func (.func f) #[] #[]))) (aL : l.map s.look = (rE :: args).map some) (af : s.mem 1000 = some cs) (hO : pn dr 1000 = true) (eC : args.all ai.ba = true) (hd : k8 dst s.n = true) (hp : J7 E r rm f args eP v s1) (bu : J9 E r rm eP cs R)
  (h : ∀ ar aB, dd E r rm s1 ar aB → cT aj ops dr K rest aB ((s.eh 1000 ar).put dst v)) : cT aj ops dr K (⟨dst, .call ⟨.value g, l.toArray, ts⟩, ty, pos, after, guard⟩ :: rest) R s := by
 have ak : cs.all AC.ba = true := by
  obtain ⟨hv, fv, cv, b, S, lk, _, cY, rfl, _⟩ := bu;simp only [kA, nb, cY]; rfl
 refine zE 1000 hw hm aw aL (hp cs R bu) af hO (bH.refl _) ak eC hd ?_;rintro _ ar aB ⟨rfl, aF⟩
 have : b5 aB R = aB := by
  obtain ⟨_, _, _, _, _, _, _, _, _, rfl⟩ := bu;obtain ⟨_, _, _, _, _, _, _, _, _, _, rfl⟩ := aF;exact QD
 rw [this];exact h ar aB aF
end
section
variable {E : List (Int × cc)} {r rm : Nat}
theorem N5 {s : bF.aX an} (hd : s.dirty = false) (au : s.fnd = []) (ak : ki s.ch) (aI : 0 < s.ch.length) : J7 E r rm 177 [] s lV (mv (fF s 2 0 0)) := by
 have et := N4 (E := E) (r := r) (rm := rm) (s := fF s 2 0 0) hd rfl ak aI (ez _) rfl;obtain ⟨ph, I, J, T, dirty, hot, fnd, ch⟩ := s;obtain rfl : dirty = false := hd;obtain rfl : fnd = [] := au;rintro cs R ⟨hv, fv, cv, b, S, lk, hS, cY, rfl, rfl⟩;have dp : (eM E r rm ph I J T false hv fv cv b lk).all AC.ba = true := by simp only [kA, nb, cY]; rfl
 have aM := DD (E := E) (k := r) (rm := rm) (ph := ph) (I := I) (J := J) (T := T) (dirty := false) (hv := hv) (fv := fv) (cv := cv) (b := b) cY 2 0;refine dy (f := 177) Tryz.func177 rfl (dv rfl) (by exact eB rfl) ?_;(repeat first | (with_reducible first | apply a7 | apply aY) | (with_reducible apply aN); rfl; (repeat first | (with_reducible apply ax); rfl); (with_reducible apply ay));refine ku 1000 rfl rfl rfl rfl aM rfl rfl dp rfl rfl ?_;(repeat first | (with_reducible first | apply aQ | apply aY | apply aS) | (with_reducible apply aN); rfl; (repeat first | (with_reducible apply ax); rfl); (with_reducible apply ay));refine ir rfl rfl rfl rfl rfl rfl rfl rfl et ⟨hv, fv, cv, b, S, lk, hS, cY, fun h => (by cases h), rfl, rfl⟩ (fun ar aB cn => ?_);(repeat first | with_reducible apply aS);obtain ⟨b8, df, c7, bT, dm, hb, fC, hq, iI, rfl, rfl⟩ := id cn
 ((refine eZ rfl bc rfl (bH.refl _) cn.closed rfl fw ?_))
 exact ⟨_, rfl, rfl, cn⟩
theorem N2 {s : bF.aX an} (au : s.fnd = []) (ak : ki s.ch) (aI : 0 < s.ch.length) : gn E r rm 130 [] s lV (nC s) := by
 unfold nC
 by_cases hd : s.dirty = true
 ·rw [if_pos hd];have et := N5 (E := E) (r := r) (rm := rm) (s := { s with dirty := false }) rfl au ak aI;obtain ⟨ph, I, J, T, dirty, hot, fnd, ch⟩ := s;obtain rfl : dirty = true := hd;obtain rfl : fnd = [] := au;rintro cs R ⟨hv, fv, cv, b, S, lk, hS, cY, gj, rfl, rfl⟩;simp only at et ⊢;refine dy (f := 130) Tryz.func130 rfl (dv rfl) (by exact eB rfl) ?_;(repeat first | (with_reducible first | apply a7 | apply aQ | apply aY | apply aS | apply cL) | (with_reducible apply cD); rfl; (rfl) | (with_reducible apply aN); rfl; (repeat first | (with_reducible apply ax); rfl | (with_reducible apply de); (iterate 3 rfl)); (with_reducible apply ay));refine Nj rfl rfl rfl rfl rfl rfl rfl rfl et ⟨hv, fv, cv, b, S, .c (.slice none 0 0), hS, rfl, rfl, rfl⟩ (fun ar aB cn => ?_);(repeat first | with_reducible apply aS);obtain ⟨b8, df, c7, bT, dm, hb, fC, hq, iI, rfl, rfl⟩ := id cn
  ((refine eZ rfl bc rfl (bH.refl _) cn.closed rfl fw ?_))
  exact ⟨_, rfl, rfl, cn⟩
 ·have hd : s.dirty = false := by cases h : s.dirty <;> simp_all
  rw [if_neg (by rw [hd]; decide)];exact N3 hd au
theorem abG (p q : an) : hz p q = (ur p q, uq p q) := by
 unfold hz ur uq; split <;> rfl
def SH (E : List (Int × cc)) (r rm : Nat) (s : bF.aX an) (hv fv cv v : Value) (b : Nat) (S : fm) (lk : AC) (hB : List (List an × List Int)) (Z : List AC) (n : Nat) (R : aJ) (ts : List (Nat × ai)) (bw : List (Nat × List AC)) : Prop :=
 ∃ (i : Nat) (ii : Int), i ≤ E.length ∧ n = E.length - i ∧ ii = i ∧ R = bS (dR b S hv fv cv s.hot [] s.ch) 4 ⟨53, 2, v, E.length, ee (hB.take i) ++ Z.drop (2 * i)⟩ ∧ ts = [(0, rE), (2, aR v), (11, aV E.length), (12, aV ii)] ∧ bw = [(1000, eM E r rm s.ph s.I s.J s.T false hv fv cv b lk)]
theorem N1 {s : bF.aX an} (ap : r ≤ 28) (jS : h6 (E.map Prod.snd) = true) (ao : E.length ≤ 300) (aI : 0 < E.length) (hd : s.dirty = false) (au : s.fnd = []) : gn E r rm 121 [] s lV (lO (bN E r rm) s) := by
 rintro cs R ⟨hv, fv, cv, b, S, lk, hS, cY, gj, rfl, rfl⟩;rw [hd, au];have dp : (eM E r rm s.ph s.I s.J s.T false hv fv cv b lk).all AC.ba = true := by simp only [kA, nb, cY]; rfl
 obtain ⟨hB, qY⟩ : ∃ hB, hB = (List.range (bN E r rm).n).map fun k => hz ((bN E r rm).P k) ((bN E r rm).Q k) := ⟨_, rfl⟩;have aE : hB.length = E.length := by rw [qY]; simp [rf]
 have XX : ki hB := by
  refine ⟨by omega, fun c ak => ?_⟩;rw [qY] at ak;obtain ⟨k, _, rfl⟩ := ix.1 ak;unfold hz; split
  ·exact ⟨rfl, Nat.le_add_left 1 1099⟩
  ·exact ⟨rfl, Nat.le_add_left 2 1098⟩
 have et := N5 (E := E) (r := r) (rm := rm) (s := { s with ch := hB }) hd au XX (by show 0 < hB.length; omega);rw [show mv (fF ({ s with ch := hB } : bF.aX an) 2 0 0) = lO (bN E r rm) s by rw [qY]; rfl] at et
 have gr : ∀ i o (a : cc), E[i]? = some (o, a) → hB[i]? = some (hz (lQ r a.1) (lQ r a.2)) := fun i o a h => by
  have hi := (bV.1 h).1;have e : (E.map Prod.snd).getD i mF = a := by rw [List.getD_eq_getElem?_getD, eJ, h]; rfl
  rw [qY, eJ, List.getElem?_range (by simpa [rf] using hi)];show some (hz (lQ r ((E.map Prod.snd).getD i mF).1) (lQ r ((E.map Prod.snd).getD i mF).2)) = _;rw [e]
 have ck : ∀ i o (a : cc), E[i]? = some (o, a) → gN a.1 = true ∧ gN a.2 = true := fun i o a h => by
  have := ra jS i;rw [List.getD_eq_getElem?_getD, eJ, h] at this;exact this
 have CW : (ih E.length 2 [.slice none 0 0, .slice none 0 0]).length = 2 * E.length := by unfold ih; simp; omega
 clear qY;refine dy (f := 121) Tryz.func121 rfl (dv rfl) (by exact eB rfl) ?_;(repeat first | (with_reducible first | apply a7 | apply aY) | (with_reducible apply aN); rfl; (repeat first | (with_reducible apply ax); rfl | (with_reducible apply de); (iterate 3 rfl) | (with_reducible apply cx); (iterate 3 rfl)); (with_reducible apply ay));refine zF (l := E.length) (c' := E.length) 4 rfl rfl rfl rfl (dU _) rfl rfl ?h2 (li (by omega)) rfl (fun v jh => ?_)
 case h2 => omega
 (repeat first | (with_reducible first | apply a7 | apply aQ | apply aY | apply aS) | (with_reducible apply aN); rfl; (repeat first | (with_reducible apply ax); rfl); (with_reducible apply ay));generalize ih E.length 2 [.slice none 0 0, .slice none 0 0] = Z at *;(repeat first | (with_reducible first | apply aQ | apply aS | apply dY) | (with_reducible apply aN); rfl; (repeat first | (with_reducible apply ax); rfl); (with_reducible apply ay) | (with_reducible apply fD 4); (iterate 4 rfl); kernel_rfl; rfl);refine kD 32 (SH E r rm s hv fv cv v b S lk hB Z) E.length (bS (dR b S hv fv cv s.hot [] s.ch) 4 ⟨53, 2, v, E.length, Z⟩) _ [(1000, eM E r rm s.ph s.I s.J s.T false hv fv cv b lk)] ⟨0, 0, ez _, rfl, rfl, rfl, rfl, rfl⟩ (bH.refl _) rfl ⟨rfl, rfl, rfl, rfl, trivial⟩ ⟨rfl, trivial⟩ ?_ ?_
 ·cases lk <;> first | rfl | cases cY
 rintro n R ts bw ⟨i, ii, hi, rfl, gi, rfl, rfl, rfl⟩ dD;clear dD
 have aD : (ee (hB.take i)).length = 2 * i := by
  have := CL (f := pG) (z := 2) (fun _ => rfl) (hB.take i);rw [eI] at this;unfold ee; rw [this]; omega
 by_cases al : i < E.length
 ·have q2 : ii < (E.length : Int) := by omega
  have cj : 0 ≤ ii := by omega
  have eH : 0 < E.length := by omega
  obtain ⟨o, ⟨p1, p2⟩, ⟨cP, cw⟩, g1⟩ : ∃ o p q, E[i]? = some (o, p, q) := ⟨_, _, _, cl al⟩;obtain ⟨hy, j2⟩ := ck _ _ _ g1;have g2 := gr _ _ _ g1;have aM := H8 (E := E) (k := r) (rm := rm) (ph := s.ph) (I := s.I) (J := s.J) (T := s.T) (dirty := false) (hv := hv) (fv := fv) (cv := cv) (b := b) ap rfl cY (by omega) g1 hy j2;rw [← gi] at aM;have bI := NV (cJ p1 r) (cJ p2 r) (cJ cP r) (cJ cw r);have aO : hz (lQ r (p1, p2)) (lQ r (cP, cw)) = (ur (cJ p1 r, cJ p2 r) (cJ cP r, cJ cw r), uq (cJ p1 r, cJ p2 r) (cJ cP r, cJ cw r)) := abG _ _;rw [aO] at g2;clear aO hy j2 g1;generalize cJ p1 r = a1 at *;generalize cJ p2 r = a2 at *;generalize cJ cP r = a3 at *;generalize cJ cw r = a4 at *;generalize ur (a1, a2) (a3, a4) = V at *;generalize uq (a1, a2) (a3, a4) = D at *;have aG : ii.toNat * 2 = 2 * i := by omega
  have p6 : ii.toNat * 2 + 2 ≤ (ee (hB.take i) ++ Z.drop (2 * i)).length := by rw [dl, aD, jF, CW]; omega
  have cz : er (ee (hB.take i) ++ Z.drop (2 * i)) (ii.toNat * 2) [.p (cA 2 V.length (bM V)), .p (cA 1 D.length (cB D))] = ee (hB.take (i + 1)) ++ Z.drop (2 * (i + 1)) := by
   rw [EX (by rw [aD, aG]), List.drop_drop];congr 1;have bj : i < hB.length := by omega
   rw [pi bj, show hB[i] = (V, D) from mY ((cl bj).symm.trans g2)];simp [ee, pG]
  (repeat first | (with_reducible first | apply a7 | apply aQ | apply aY | apply aS | apply cL | apply dY) | (with_reducible apply cX); rfl; (exact bg (by omega)) | (with_reducible apply aN); rfl; (repeat first | (with_reducible apply ax); rfl); (with_reducible apply ay));refine ku 1000 rfl rfl rfl rfl aM rfl rfl dp rfl rfl ?_;(repeat first | (with_reducible apply aN); rfl; (repeat first | (with_reducible apply ax); rfl | refine cI rfl rfl rfl rfl (by (exact bI)) rfl ?_); (with_reducible apply ay) | (with_reducible apply e2 4); (iterate 4 rfl); (omega); (assumption); rfl; kernel_rfl; rfl);refine sv 4 rfl rfl rfl rfl eH rfl rfl p6 rfl ?_;(repeat first | (with_reducible first | apply aQ | apply aY | apply aS | apply fi) | (with_reducible apply aN); rfl; (repeat first | (with_reducible apply ax); rfl | (with_reducible apply dB); (iterate 3 rfl); (exact cp (by omega)); rfl); (with_reducible apply ay));refine ⟨E.length - (i + 1), bS (dR b S hv fv cv s.hot [] s.ch) 4 ⟨53, 2, v, E.length, ee (hB.take (i + 1)) ++ Z.drop (2 * (i + 1))⟩, _, [(1000, eM E r rm s.ph s.I s.J s.T false hv fv cv b lk)], by omega, ⟨i + 1, ii + 1, by omega, rfl, by omega, rfl, rfl, rfl⟩, fun k q af => ?_, rfl, ⟨rfl, rfl, rfl, rfl, trivial⟩, ⟨rfl, trivial⟩, ?_⟩
  ·rw [← cz] at af
   by_cases gV : k = 4
   ·subst gV; exact af
   ·rw [ca _ _ gV] at af ⊢;rw [ca _ _ gV]; exact af
  ·cases lk <;> first | rfl | cases cY
 ·have q2 : ¬ ii < (E.length : Int) := by omega
  have dn : hB.take i = hB := iy (by omega);have aG : Z.drop (2 * i) = [] := List.drop_eq_nil_of_le (by omega);rw [dn, aG, qe];refine aeN 3 4 ?_;refine EO (dR b S hv fv v s.hot [] hB) (fun k q af => ?_) ?_
  ·match k with
   | 0 => exact af
   | 1 => exact af
   | 2 => exact af
   | 3 => rw [← aE]; exact af
   | k + 4 => cases af
  (repeat first | (with_reducible first | apply a7 | apply aQ | apply aY | apply aS | apply fa | apply fc | apply fb) | (with_reducible apply cD); rfl; (exact bl (by omega)) | (with_reducible apply aN); rfl; (repeat first | (with_reducible apply ax); rfl | (with_reducible apply de); (iterate 3 rfl)); (with_reducible apply ay));refine Nj rfl rfl rfl rfl rfl rfl rfl rfl et ⟨hv, fv, v, b, S, lk, hS, cY, by rw [hd], by rw [au]⟩ (fun ar aB cn => ?_);(repeat first | with_reducible apply aS);obtain ⟨b8, df, c7, bT, dm, hb, fC, hq, iI, rfl, rfl⟩ := id cn
  ((refine eZ rfl bc rfl (bH.refl _) cn.closed rfl fw ?_))
  exact ⟨_, rfl, rfl, cn⟩
end
section
variable {E : List (Int × cc)} {r rm : Nat}
theorem B7 {n : Nat} (h : n ≠ 5) : Nat.beq n 5 = false := by
 cases aF : Nat.beq n 5 with
 | false => rfl
 | true => exact absurd (hE aF) h
theorem C4 {o : c4 an} {s : bF.aX an} {q : an} (h : s.fnd = []) : (dQ o s q).fnd = [] := by
 unfold dQ; split
 ·exact h
 ·split
  ·exact h
  ·rfl
theorem C3 {o : c4 an} {s : bF.aX an} {q : an} : (dQ o s q).dirty = s.dirty ∧ (dQ o s q).ch = s.ch ∧ (dQ o s q).hot.length ≤ s.hot.length + 1 := by
 unfold dQ; split
 ·exact ⟨rfl, rfl, Nat.le_succ _⟩
 ·split
  ·exact ⟨rfl, rfl, by simp⟩
  ·exact ⟨rfl, rfl, Nat.le_succ _⟩
theorem C5 {o : c4 an} {s : bF.aX an} {q : an} (h : (dQ o s q).ph ≠ 5) : (dQ o s q).ph = s.ph ∧ (dQ o s q).I = s.I ∧ (dQ o s q).J = s.J ∧ (dQ o s q).T = s.T := by
 revert h
 unfold dQ; split
 ·exact fun _ => ⟨rfl, rfl, rfl, rfl⟩
 ·split
  ·exact fun _ => ⟨rfl, rfl, rfl, rfl⟩
  ·exact fun h => absurd rfl h
theorem aaf {s : bF.aX an} (ap : r ≤ 28) (jS : h6 (E.map Prod.snd) = true) (ao : E.length ≤ 300) (aI : 0 < E.length) (hd : s.dirty = false) (au : s.fnd = []) : gn E r rm 117 [] s lV (if E.length < 2 then lO (bN E r rm) s else fF s 1 0 1) := by
 have et := N1 (E := E) (r := r) (rm := rm) (s := fF s 1 0 1) ap jS ao aI hd rfl;rw [show lO (bN E r rm) (fF s 1 0 1) = lO (bN E r rm) s from rfl] at et;obtain ⟨ph, I, J, T, dirty, hot, fnd, ch⟩ := s;obtain rfl : dirty = false := hd;obtain rfl : fnd = [] := au;rintro cs R ⟨hv, fv, cv, b, S, lk, hS, cY, gj, rfl, rfl⟩;have dp : (eM E r rm ph I J T false hv fv cv b lk).all AC.ba = true := by simp only [kA, nb, cY]; rfl
 have XJ : (eM E r rm 1 0 1 0 false hv fv cv b lk).all AC.ba = true := by simp only [kA, nb, cY]; rfl
 have aM := DD (E := E) (k := r) (rm := rm) (ph := ph) (I := I) (J := J) (T := T) (dirty := false) (hv := hv) (fv := fv) (cv := cv) (b := b) cY 1 1
 by_cases h2 : E.length < 2
 ·rw [if_pos h2];have w8 : (1 : Int) ≥ (E.length : Int) := by omega
  refine dy (f := 117) Tryz.func117 rfl (dv rfl) (by exact eB rfl) ?_;(repeat first | (with_reducible first | apply a7 | apply aY) | (with_reducible apply aN); rfl; (repeat first | (with_reducible apply ax); rfl); (with_reducible apply ay));refine ku 1000 rfl rfl rfl rfl aM rfl rfl dp rfl rfl ?_;(repeat first | (with_reducible apply cZ); kernel_rfl | (with_reducible apply cb (id := 1) [0,1,2,3,4,5,6,7,8,9,10]); kernel_rfl; kernel_rfl; rfl | (with_reducible first | apply a7 | apply aQ | apply aY | apply aS) | (with_reducible apply cX); rfl; (exact bg (by omega)) | (with_reducible apply aN); rfl; (repeat first | (with_reducible apply ax); rfl | (with_reducible apply de); (iterate 3 rfl) | (with_reducible apply cx); (iterate 3 rfl)); (with_reducible apply ay));refine ir rfl rfl rfl rfl rfl rfl rfl rfl et ⟨hv, fv, cv, b, S, lk, hS, cY, fun h => (by cases h), rfl, rfl⟩ (fun ar aB cn => ?_);(repeat first | with_reducible apply aS);obtain ⟨b8, df, c7, bT, dm, hb, fC, hq, iI, rfl, rfl⟩ := id cn
  ((refine eZ rfl bc rfl (bH.refl _) cn.closed rfl fw ?_))
  exact ⟨_, rfl, rfl, cn⟩
 ·rw [if_neg h2];have w8 : ¬ (1 : Int) ≥ (E.length : Int) := by omega
  refine dy (f := 117) Tryz.func117 rfl (dv rfl) (by exact eB rfl) ?_;(repeat first | (with_reducible first | apply a7 | apply aY) | (with_reducible apply aN); rfl; (repeat first | (with_reducible apply ax); rfl); (with_reducible apply ay));refine ku 1000 rfl rfl rfl rfl aM rfl rfl dp rfl rfl ?_;(repeat first | (with_reducible apply cZ); kernel_rfl | (with_reducible apply cb (id := 1) [0,1,2,3,4,5,6,7,8,9,10]); kernel_rfl; kernel_rfl; rfl | (with_reducible first | apply a7 | apply aQ | apply aS | apply cL) | (with_reducible apply cD); rfl; (exact bl (by omega)) | (with_reducible apply aN); rfl; (repeat first | (with_reducible apply ax); rfl | (with_reducible apply de); (iterate 3 rfl) | (with_reducible apply cx); (iterate 3 rfl)); (with_reducible apply ay))
  ((refine eZ rfl bc rfl (bH.refl _) XJ rfl fw ?_))
  exact ⟨_, rfl, rfl, hv, fv, cv, b, S, lk, hS, cY, fun h => (by cases h), rfl, rfl⟩
theorem Gn {i : Nat} {o : Int} {a : cc} (h : E[i]? = some (o, a)) : (E.map Prod.snd).getD i mF = a := by rw [List.getD_eq_getElem?_getD, eJ, h]; rfl
theorem aaa {s : bF.aX an} (ap : r ≤ 28) (jS : h6 (E.map Prod.snd) = true) (ao : E.length ≤ 300) (bu : s.I < E.length) (hd : s.dirty = false) (au : s.fnd = []) (a6 : s.hot.length ≤ 1024) (ht : s.ph = 0) : gn E r rm 65 [] s lV (tG (bN E r rm) s) := by
 obtain ⟨o, ⟨p1, p2⟩, ⟨cP, cw⟩, g1⟩ : ∃ o p q, E[s.I]? = some (o, p, q) := ⟨_, _, _, cl bu⟩;have iF := Gn g1;have aE := ra jS s.I;rw [iF] at aE;have VV : (bN E r rm).P s.I = (cJ p1 r, cJ p2 r) := by show lQ r ((E.map Prod.snd).getD s.I mF).1 = _; rw [iF]; rfl
 have VW : (bN E r rm).Q s.I = (cJ cP r, cJ cw r) := by show lQ r ((E.map Prod.snd).getD s.I mF).2 = _; rw [iF]; rfl
 have Cv : (bN E r rm).n = E.length := mZ ..;have H1 := H9 (E := E) (r := r) (rm := rm) (s := s) (x := cJ p1 r) (y := cJ p2 r) (by omega) au (by omega);unfold tG;rw [VV, VW, Cv];have so := C3 (o := bN E r rm) (s := s) (q := (cJ p1 r, cJ p2 r));have xf := C4 (o := bN E r rm) (q := (cJ p1 r, cJ p2 r)) au;have vx := C5 (o := bN E r rm) (s := s) (q := (cJ p1 r, cJ p2 r));generalize oR : dQ (bN E r rm) s (cJ p1 r, cJ p2 r) = s1 at *
 by_cases q1 : s1.ph = 5
 ·rw [if_pos q1];rw [q1] at H1;rintro cs R jT;obtain ⟨hv, fv, cv, b, S, lk, hS, cY, gj, rfl, rfl⟩ := id jT;have dp := jT.closed;have aM := H8 (E := E) (k := r) (rm := rm) (ph := s.ph) (I := s.I) (J := s.J) (T := s.T) (dirty := s.dirty) (hv := hv) (fv := fv) (cv := cv) (b := b) ap rfl cY (by omega) g1 aE.1 aE.2;clear oR;generalize cJ p1 r = a1 at *;generalize cJ p2 r = a2 at *;generalize cJ cP r = a3 at *;generalize cJ cw r = a4 at *;refine dy (f := 65) Tryz.func65 rfl (dv rfl) (by exact eB rfl) ?_;(repeat first | (with_reducible first | apply a7 | apply aY) | (with_reducible apply aN); rfl; (repeat first | (with_reducible apply ax); rfl | (with_reducible apply de); (iterate 3 rfl)); (with_reducible apply ay));refine ku 1000 rfl rfl rfl rfl aM rfl rfl dp rfl rfl ?_;(repeat first | (with_reducible first | apply a7 | apply aQ | apply aY | apply aS) | (with_reducible apply aN); rfl; (repeat first | (with_reducible apply ax); rfl); (with_reducible apply ay));refine ir rfl rfl rfl rfl rfl rfl rfl rfl H1 jT (fun ar aB cn => ?_);(repeat first | (with_reducible first | apply aQ | apply aS | apply cN | apply e7) | (with_reducible apply cX); rfl; (rfl) | (with_reducible apply aN); rfl; (repeat first | (with_reducible apply ax); rfl); (with_reducible apply ay));obtain ⟨b8, df, c7, bT, dm, hb, fC, hq, iI, rfl, rfl⟩ := id cn
  ((refine eZ rfl bc rfl (bH.refl _) cn.closed rfl fw ?_))
  exact ⟨_, rfl, rfl, cn⟩
 ·rw [if_neg q1];obtain ⟨m1, m2, m3, m4⟩ := vx q1;rw [B7 q1] at H1;have cm := H9 (E := E) (r := r) (rm := rm) (s := s1) (x := cJ cP r) (y := cJ cw r) (by omega) xf q1;have xe := C3 (o := bN E r rm) (s := s1) (q := (cJ cP r, cJ cw r));have Yc := C4 (o := bN E r rm) (q := (cJ cP r, cJ cw r)) xf;have Hw := C5 (o := bN E r rm) (s := s1) (q := (cJ cP r, cJ cw r));generalize zC : dQ (bN E r rm) s1 (cJ cP r, cJ cw r) = s2 at *;have fp := aaf (E := E) (r := r) (rm := rm) (s := { s2 with I := s2.I + 1 }) ap jS ao (by omega) (by show s2.dirty = false; rw [xe.1, so.1]; exact hd) Yc;rw [show lO (bN E r rm) { s2 with I := s2.I + 1 } = lO (bN E r rm) s2 from rfl, show fF ({ s2 with I := s2.I + 1 } : bF.aX an) 1 0 1 = fF s2 1 0 1 from rfl] at fp;rintro cs R jT;obtain ⟨hv, fv, cv, b, S, lk, hS, cY, gj, rfl, rfl⟩ := id jT;have dp := jT.closed;have aM := H8 (E := E) (k := r) (rm := rm) (ph := s.ph) (I := s.I) (J := s.J) (T := s.T) (dirty := s.dirty) (hv := hv) (fv := fv) (cv := cv) (b := b) ap rfl cY (by omega) g1 aE.1 aE.2;clear oR zC
  by_cases q2 : s2.ph = 5
  ·rw [if_pos q2];rw [q2] at cm;clear fp;generalize cJ p1 r = a1 at *;generalize cJ p2 r = a2 at *;generalize cJ cP r = a3 at *;generalize cJ cw r = a4 at *;refine dy (f := 65) Tryz.func65 rfl (dv rfl) (by exact eB rfl) ?_;(repeat first | (with_reducible first | apply a7 | apply aY) | (with_reducible apply aN); rfl; (repeat first | (with_reducible apply ax); rfl | (with_reducible apply de); (iterate 3 rfl)); (with_reducible apply ay));refine ku 1000 rfl rfl rfl rfl aM rfl rfl dp rfl rfl ?_;(repeat first | (with_reducible first | apply a7 | apply aQ | apply aY | apply aS) | (with_reducible apply aN); rfl; (repeat first | (with_reducible apply ax); rfl); (with_reducible apply ay));refine ir rfl rfl rfl rfl rfl rfl rfl rfl H1 jT (fun ar aB cn => ?_);(repeat first | (with_reducible apply aN); rfl; (repeat first | (with_reducible apply ax); rfl); (with_reducible apply ay));refine ir rfl rfl rfl rfl rfl rfl rfl rfl cm cn (fun ar aB cn => ?_);(repeat first | (with_reducible first | apply aQ | apply aS | apply cN | apply e7) | (with_reducible apply cX); rfl; (rfl) | (with_reducible apply aN); rfl; (repeat first | (with_reducible apply ax); rfl); (with_reducible apply ay));obtain ⟨b8, df, c7, bT, dm, hb, fC, hq, iI, rfl, rfl⟩ := id cn
   ((refine eZ rfl bc rfl (bH.refl _) cn.closed rfl fw ?_))
   exact ⟨_, rfl, rfl, cn⟩
  ·rw [if_neg q2];rw [B7 q2] at cm;obtain ⟨m5, m6, m7, m8⟩ := Hw q2;have VU : s.I = s2.I := by omega
   generalize cJ p1 r = a1 at *;generalize cJ p2 r = a2 at *;generalize cJ cP r = a3 at *;generalize cJ cw r = a4 at *
   by_cases cj : s.I + 1 < E.length
   ·rw [if_pos cj, show ({ s2 with I := s.I + 1 } : bF.aX an) = { s2 with I := s2.I + 1 } by rw [VU]];have adR : ¬ (s2.I : Int) + 1 = (E.length : Int) := by omega
    refine dy (f := 65) Tryz.func65 rfl (dv rfl) (by exact eB rfl) ?_;(repeat first | (with_reducible first | apply a7 | apply aY) | (with_reducible apply aN); rfl; (repeat first | (with_reducible apply ax); rfl | (with_reducible apply de); (iterate 3 rfl)); (with_reducible apply ay));refine ku 1000 rfl rfl rfl rfl aM rfl rfl dp rfl rfl ?_;(repeat first | (with_reducible first | apply a7 | apply aQ | apply aY | apply aS) | (with_reducible apply aN); rfl; (repeat first | (with_reducible apply ax); rfl); (with_reducible apply ay));refine ir rfl rfl rfl rfl rfl rfl rfl rfl H1 jT (fun ar aB cn => ?_);(repeat first | (with_reducible apply aN); rfl; (repeat first | (with_reducible apply ax); rfl); (with_reducible apply ay));refine ir rfl rfl rfl rfl rfl rfl rfl rfl cm cn (fun ar aB GU => ?_);clear cn;obtain ⟨b8, df, c7, bT, dm, hb, fC, hq, iI, rfl, rfl⟩ := id GU;have fR : dd E r rm { s2 with I := s2.I + 1 } (eM E r rm s2.ph ((s2.I : Int) + 1) s2.J s2.T s2.dirty b8 df c7 bT hb) (dR bT dm b8 df c7 s2.hot s2.fnd s2.ch) := ⟨b8, df, c7, bT, dm, hb, fC, hq, iI, rfl, rfl⟩;(repeat first | (with_reducible apply cZ); kernel_rfl | (with_reducible apply cb (id := 3) [0,1,2,3,4,5,6,7,8,9,10]); kernel_rfl; kernel_rfl; rfl | (with_reducible first | apply a7 | apply aQ | apply aY | apply aS | apply cL) | (with_reducible apply cD); rfl; (first | exact bl (by omega) | rfl) | (with_reducible apply aN); rfl; (repeat first | (with_reducible apply ax); rfl | (with_reducible apply de); (iterate 3 rfl) | (with_reducible apply dB); (iterate 3 rfl); (exact cp (by omega)); rfl | (with_reducible apply cx); (iterate 3 rfl)); (with_reducible apply ay))
    ((refine eZ rfl bc rfl (bH.refl _) fR.closed rfl fw ?_))
    exact ⟨_, rfl, rfl, fR⟩
   ·rw [if_neg cj];have adR : (s2.I : Int) + 1 = (E.length : Int) := by omega
    refine dy (f := 65) Tryz.func65 rfl (dv rfl) (by exact eB rfl) ?_;(repeat first | (with_reducible first | apply a7 | apply aY) | (with_reducible apply aN); rfl; (repeat first | (with_reducible apply ax); rfl | (with_reducible apply de); (iterate 3 rfl)); (with_reducible apply ay));refine ku 1000 rfl rfl rfl rfl aM rfl rfl dp rfl rfl ?_;(repeat first | (with_reducible first | apply a7 | apply aQ | apply aY | apply aS) | (with_reducible apply aN); rfl; (repeat first | (with_reducible apply ax); rfl); (with_reducible apply ay));refine ir rfl rfl rfl rfl rfl rfl rfl rfl H1 jT (fun ar aB cn => ?_);(repeat first | (with_reducible apply aN); rfl; (repeat first | (with_reducible apply ax); rfl); (with_reducible apply ay));refine ir rfl rfl rfl rfl rfl rfl rfl rfl cm cn (fun ar aB GU => ?_);clear cn;obtain ⟨b8, df, c7, bT, dm, hb, fC, hq, iI, rfl, rfl⟩ := id GU;have fR : dd E r rm { s2 with I := s2.I + 1 } (eM E r rm s2.ph ((s2.I : Int) + 1) s2.J s2.T s2.dirty b8 df c7 bT hb) (dR bT dm b8 df c7 s2.hot s2.fnd s2.ch) := ⟨b8, df, c7, bT, dm, hb, fC, hq, iI, rfl, rfl⟩;(repeat first | (with_reducible apply cZ); kernel_rfl | (with_reducible apply cb (id := 3) [0,1,2,3,4,5,6,7,8,9,10]); kernel_rfl; kernel_rfl; rfl | (with_reducible first | apply a7 | apply aQ | apply aY | apply aS | apply cL) | (with_reducible apply cX); rfl; (exact bg (by omega)) | (with_reducible apply cD); rfl; (rfl) | (with_reducible apply aN); rfl; (repeat first | (with_reducible apply ax); rfl | (with_reducible apply de); (iterate 3 rfl) | (with_reducible apply dB); (iterate 3 rfl); (exact cp (by omega)); rfl | (with_reducible apply cx); (iterate 3 rfl)); (with_reducible apply ay));refine ir rfl rfl rfl rfl rfl rfl rfl rfl fp fR (fun ar aB lH => ?_);(repeat first | with_reducible apply aS);obtain ⟨Dm, CN, Cp, dV, u1, DK, CV, Db, Da, rfl, rfl⟩ := id lH
    ((refine eZ rfl bc rfl (bH.refl _) lH.closed rfl fw ?_))
    exact ⟨_, rfl, rfl, lH⟩
end
section
variable {E : List (Int × cc)} {r rm : Nat}
theorem X7 {o : c4 an} {s : bF.aX an} {q : Option an} (h : s.fnd = []) : (kQ o s q).fnd = [] := by
 cases q with
 | none => exact h
 | some x => exact C4 h
theorem X9 {o : c4 an} {s : bF.aX an} {q : Option an} : (kQ o s q).dirty = s.dirty ∧ (kQ o s q).ch = s.ch ∧ (kQ o s q).hot.length ≤ s.hot.length + 1 := by
 cases q with
 | none => exact ⟨rfl, rfl, Nat.le_succ _⟩
 | some x => exact C3
theorem X8 {o : c4 an} {s : bF.aX an} {q : Option an} (h : (kQ o s q).ph ≠ 5) : (kQ o s q).ph = s.ph ∧ (kQ o s q).I = s.I ∧ (kQ o s q).J = s.J ∧ (kQ o s q).T = s.T := by
 cases q with
 | none => exact ⟨rfl, rfl, rfl, rfl⟩
 | some x => exact C5 h
theorem uo {p : an} (h : gN p = true) : cH p.1 p.2 = true := by
 have h := sL.1 h;unfold cH; simp only [eo, c0]; omega
theorem ON {a b : cc} (h1 : cH a.1.1 a.1.2 = true) (h2 : cH a.2.1 a.2.2 = true) (aq : cH b.1.1 b.1.2 = true) (aK : cH b.2.1 b.2.2 = true) : Bw (hx a b) := by
 rw [← Im h1 h2 aq aK]; exact aaY ..
theorem Ph {n I J : Nat} (h : J < n) : ((cr n I J).1 : Int) = (if (J : Int) + 1 = (n : Int) then (I : Int) + 1 else I) ∧ ((cr n I J).2 : Int) = (if (J : Int) + 1 = (n : Int) then (I : Int) + 2 else (J : Int) + 1) ∧ (decide ((if (J : Int) + 1 = (n : Int) then (I : Int) + 2 else (J : Int) + 1) < (n : Int)) = decide ((cr n I J).2 < n)) := by unfold cr; grind
theorem aac {s : bF.aX an} (ap : r ≤ 28) (jS : h6 (E.map Prod.snd) = true) (ao : E.length ≤ 300) (pS : s.I < s.J) (kO : s.J < E.length) (hd : s.dirty = false) (au : s.fnd = []) (a6 : s.hot.length ≤ 1024) (ht : s.ph = 1) : gn E r rm 66 [] s lV (uD (bN E r rm) s) := by
 obtain ⟨o, ⟨p1, p2⟩, ⟨cP, cw⟩, g1⟩ : ∃ o p q, E[s.I]? = some (o, p, q) := ⟨_, _, _, cl (by omega)⟩;obtain ⟨fO, ⟨v1, v2⟩, ⟨aP, w2⟩, g2⟩ : ∃ o p q, E[s.J]? = some (o, p, q) := ⟨_, _, _, cl kO⟩;have iF := Gn g1;have l8 := Gn g2;have aE := ra jS s.I;have hm := ra jS s.J;rw [iF] at aE;rw [l8] at hm;have Cv : (bN E r rm).n = E.length := mZ ..
 have LY : (bN E r rm).uE s.I s.J = mn r (hx ((p1, p2), (cP, cw)) ((v1, v2), (aP, w2))) := by
  show Au r ((E.map Prod.snd).getD s.I mF) ((E.map Prod.snd).getD s.J mF) = _;rw [iF, l8]; rfl
 have aM := IR (a1 := p1) (a2 := p2) (b1 := cP) (b2 := cw) (c1 := v1) (c2 := v2) (d1 := aP) (d2 := w2);rw [show q8 p1 p2 cP cw v1 v2 aP w2 = hx ((p1, p2), (cP, cw)) ((v1, v2), (aP, w2)) from Im (a := ((p1, p2), (cP, cw))) (b := ((v1, v2), (aP, w2))) (uo aE.1) (uo aE.2) (uo hm.1) (uo hm.2)] at aM;have H1 := N0 (E := E) (r := r) (rm := rm) (s := s) ap (ON (a := ((p1, p2), (cP, cw))) (b := ((v1, v2), (aP, w2))) (uo aE.1) (uo aE.2) (uo hm.1) (uo hm.2)) (fun af => P7 ap (a := ((p1, p2), (cP, cw))) (b := ((v1, v2), (aP, w2))) aE.1 aE.2 (by unfold Au; rw [if_pos af])) (by omega) au (by omega);unfold uD;rw [LY, Cv];have so := X9 (o := bN E r rm) (s := s) (q := mn r (hx ((p1, p2), (cP, cw)) ((v1, v2), (aP, w2))));have xf := X7 (o := bN E r rm) (q := mn r (hx ((p1, p2), (cP, cw)) ((v1, v2), (aP, w2)))) au;have vx := X8 (o := bN E r rm) (s := s) (q := mn r (hx ((p1, p2), (cP, cw)) ((v1, v2), (aP, w2))));generalize kQ (bN E r rm) s (mn r (hx ((p1, p2), (cP, cw)) ((v1, v2), (aP, w2)))) = s1 at *;generalize hx ((p1, p2), (cP, cw)) ((v1, v2), (aP, w2)) = M at *;have kj := wX (ii := (s.I : Int)) rfl g1;have nI := wX (ii := (s.J : Int)) rfl g2;have i0 : (0 : Int) ≤ (s.I : Int) := by omega
 have i1 : (s.I : Int) < (E.length : Int) := by omega
 have ZN : (0 : Int) ≤ (s.J : Int) := by omega
 have q4 : (s.J : Int) < (E.length : Int) := by omega
 rintro cs R jT;obtain ⟨hv, fv, cv, b, S, lk, hS, cY, gj, rfl, rfl⟩ := id jT;clear LY iF l8 aE hm Cv
 by_cases q1 : s1.ph = 5
 ·rw [if_pos q1];rw [q1] at H1;refine dy (f := 66) Tryz.func66 rfl (dv rfl) (by exact eB rfl) ?_;(repeat first | (with_reducible apply cZ); kernel_rfl | (with_reducible apply cb (id := 0) [22,23,0,1,2,3,4,5,6,7,8,9,10,11,12,13,14,15,16,17,18,19,20,21,24,25]); kernel_rfl; kernel_rfl; rfl | (with_reducible first | apply a7 | apply aQ | apply aY) | (with_reducible apply aN); rfl; (repeat first | (with_reducible apply ax); rfl | (with_reducible apply ed); (iterate 5 rfl) | (with_reducible apply dC); (iterate 3 rfl); (omega); (omega); (assumption); rfl | (with_reducible apply de); (iterate 3 rfl) | refine nR rfl rfl rfl rfl rfl rfl (by (exact aM)) rfl ?_); (with_reducible apply ay));refine ir rfl rfl rfl rfl rfl rfl rfl rfl H1 jT (fun ar aB cn => ?_);(repeat first | (with_reducible first | apply aQ | apply aS | apply cN | apply e7) | (with_reducible apply cX); rfl; (rfl) | (with_reducible apply aN); rfl; (repeat first | (with_reducible apply ax); rfl); (with_reducible apply ay));obtain ⟨b8, df, c7, bT, dm, hb, fC, hq, iI, rfl, rfl⟩ := id cn
  ((refine eZ rfl bc rfl (bH.refl _) cn.closed rfl fw ?_))
  exact ⟨_, rfl, rfl, cn⟩
 ·rw [if_neg q1];rw [B7 q1] at H1;obtain ⟨m1, m2, m3, m4⟩ := vx q1;have jY := Ph (n := E.length) (I := s1.I) (J := s1.J) (by omega);rw [← m2, ← m3];have fp := N1 (E := E) (r := r) (rm := rm) (s := { s1 with I := (cr E.length s1.I s1.J).1, J := (cr E.length s1.I s1.J).2 }) ap jS ao (by omega) (by show s1.dirty = false; rw [so.1]; exact hd) xf;rw [show lO (bN E r rm) { s1 with I := (cr E.length s1.I s1.J).1, J := (cr E.length s1.I s1.J).2 } = lO (bN E r rm) s1 from rfl] at fp
  by_cases q2 : (cr E.length s1.I s1.J).2 < E.length
  ·rw [if_pos q2];have hr := jY.2.2;rw [bg q2] at hr;rw [m2, m3];refine dy (f := 66) Tryz.func66 rfl (dv rfl) (by exact eB rfl) ?_;(repeat first | (with_reducible apply cZ); kernel_rfl | (with_reducible apply cb (id := 0) [22,23,0,1,2,3,4,5,6,7,8,9,10,11,12,13,14,15,16,17,18,19,20,21,24,25]); kernel_rfl; kernel_rfl; rfl | (with_reducible first | apply a7 | apply aQ | apply aY) | (with_reducible apply aN); rfl; (repeat first | (with_reducible apply ax); rfl | (with_reducible apply ed); (iterate 5 rfl) | (with_reducible apply dC); (iterate 3 rfl); (omega); (omega); (assumption); rfl | (with_reducible apply de); (iterate 3 rfl) | refine nR rfl rfl rfl rfl rfl rfl (by (exact aM)) rfl ?_); (with_reducible apply ay));refine ir rfl rfl rfl rfl rfl rfl rfl rfl H1 jT (fun ar aB cn => ?_);obtain ⟨b8, df, c7, bT, dm, hb, fC, hq, iI, rfl, rfl⟩ := id cn;have bI := zW (E := E) (k := r) (rm := rm) (ph := s1.ph) (I := s1.I) (J := s1.J) (T := s1.T) (dirty := s1.dirty) (hv := b8) (fv := df) (cv := c7) (b := bT) hq E.length (by omega) (by omega);rw [hr, ← jY.1, ← jY.2.1] at bI;have fR : dd E r rm { s1 with I := (cr E.length s1.I s1.J).1, J := (cr E.length s1.I s1.J).2 } (eM E r rm s1.ph (cr E.length s1.I s1.J).1 (cr E.length s1.I s1.J).2 s1.T s1.dirty b8 df c7 bT hb) (dR bT dm b8 df c7 s1.hot s1.fnd s1.ch) := ⟨b8, df, c7, bT, dm, hb, fC, hq, iI, rfl, rfl⟩;(repeat first | (with_reducible first | apply a7 | apply aQ | apply aY | apply aS | apply cL) | (with_reducible apply cD); rfl; (rfl) | (with_reducible apply aN); rfl; (repeat first | (with_reducible apply ax); rfl | (with_reducible apply de); (iterate 3 rfl) | (with_reducible apply cx); (iterate 3 rfl)); (with_reducible apply ay));refine ku 1000 rfl rfl rfl rfl bI rfl rfl cn.closed rfl rfl ?_;(repeat first | (with_reducible first | apply aQ | apply aS | apply cL) | (with_reducible apply cD); rfl; (rfl) | (with_reducible apply aN); rfl; (repeat first | (with_reducible apply ax); rfl); (with_reducible apply ay))
   ((refine eZ rfl bc rfl (bH.refl _) fR.closed rfl fw ?_))
   refine ⟨_, rfl, rfl, ?_⟩;rw [← m2, ← m3];exact fR
  ·rw [if_neg q2];have hr := jY.2.2;rw [bl q2] at hr;rw [m2, m3];refine dy (f := 66) Tryz.func66 rfl (dv rfl) (by exact eB rfl) ?_;(repeat first | (with_reducible apply cZ); kernel_rfl | (with_reducible apply cb (id := 0) [22,23,0,1,2,3,4,5,6,7,8,9,10,11,12,13,14,15,16,17,18,19,20,21,24,25]); kernel_rfl; kernel_rfl; rfl | (with_reducible first | apply a7 | apply aQ | apply aY) | (with_reducible apply aN); rfl; (repeat first | (with_reducible apply ax); rfl | (with_reducible apply ed); (iterate 5 rfl) | (with_reducible apply dC); (iterate 3 rfl); (omega); (omega); (assumption); rfl | (with_reducible apply de); (iterate 3 rfl) | refine nR rfl rfl rfl rfl rfl rfl (by (exact aM)) rfl ?_); (with_reducible apply ay));refine ir rfl rfl rfl rfl rfl rfl rfl rfl H1 jT (fun ar aB cn => ?_);obtain ⟨b8, df, c7, bT, dm, hb, fC, hq, iI, rfl, rfl⟩ := id cn;have bI := zW (E := E) (k := r) (rm := rm) (ph := s1.ph) (I := s1.I) (J := s1.J) (T := s1.T) (dirty := s1.dirty) (hv := b8) (fv := df) (cv := c7) (b := bT) hq E.length (by omega) (by omega);rw [hr, ← jY.1, ← jY.2.1] at bI;have fR : dd E r rm { s1 with I := (cr E.length s1.I s1.J).1, J := (cr E.length s1.I s1.J).2 } (eM E r rm s1.ph (cr E.length s1.I s1.J).1 (cr E.length s1.I s1.J).2 s1.T s1.dirty b8 df c7 bT hb) (dR bT dm b8 df c7 s1.hot s1.fnd s1.ch) := ⟨b8, df, c7, bT, dm, hb, fC, hq, iI, rfl, rfl⟩;(repeat first | (with_reducible first | apply a7 | apply aQ | apply aY | apply aS | apply cL) | (with_reducible apply cD); rfl; (rfl) | (with_reducible apply aN); rfl; (repeat first | (with_reducible apply ax); rfl | (with_reducible apply de); (iterate 3 rfl) | (with_reducible apply cx); (iterate 3 rfl)); (with_reducible apply ay));refine ku 1000 rfl rfl rfl rfl bI rfl rfl cn.closed rfl rfl ?_;(repeat first | (with_reducible first | apply aQ | apply aY | apply aS) | (with_reducible apply cX); rfl; (rfl) | (with_reducible apply aN); rfl; (repeat first | (with_reducible apply ax); rfl); (with_reducible apply ay));refine ir rfl rfl rfl rfl rfl rfl rfl rfl fp fR (fun ar aB lH => ?_);(repeat first | with_reducible apply aS);obtain ⟨Dm, CN, Cp, dV, u1, DK, CV, Db, Da, rfl, rfl⟩ := id lH
   ((refine eZ rfl bc rfl (bH.refl _) lH.closed rfl fw ?_))
   exact ⟨_, rfl, rfl, lH⟩
end
section
variable {E : List (Int × cc)} {r rm : Nat}
theorem U6 {r : Nat} {l m : an × an} (h1 : e3 r l.1.1 l.1.2 = true) (h2 : e3 r l.2.1 l.2.2 = true) (aq : e3 r m.1.1 m.1.2 = true) (aK : e3 r m.2.1 m.2.2 = true) : Bw (oE r l m) := by
 unfold oE
 split
 ·exact .inl rfl
 ·exact ON (qQ h1) (qQ h2) (qQ aq) (qQ aK)
theorem aab {s : bF.aX an} (ap : r ≤ 28) (ak : ki s.ch) (aI : 0 < s.ch.length) (pS : s.I < s.J) (kO : s.J < (bb s.ch).length) (aw : ∀ l ∈ bb s.ch, e3 r l.1.1 l.1.2 = true ∧ e3 r l.2.1 l.2.2 = true) (au : s.fnd = []) (a6 : s.hot.length ≤ 1024) (ht : s.ph = 3) : gn E r rm 68 [] s lV (sH (bN E r rm) s) := by
 have xd : (bb s.ch).length ≤ 300 * 1100 := lT (DN (m := 1100) fun c h => (ak.2 c h).2) (ky _ ak.1);obtain ⟨a1, a2, a3, a4, g1⟩ : ∃ a b c d, (bb s.ch)[s.I]? = some ((a, b), (c, d)) := ⟨_, _, _, _, cl (by omega)⟩;obtain ⟨b1, b2, eF, dV, g2⟩ : ∃ a b c d, (bb s.ch)[s.J]? = some ((a, b), (c, d)) := ⟨_, _, _, _, cl kO⟩;obtain ⟨kf, z2⟩ := aw _ (dJ g1);obtain ⟨z3, z4⟩ := aw _ (dJ g2);have aM := ac0 ap (l := ((a1, a2), (a3, a4))) (m := ((b1, b2), (eF, dV))) kf z2 z3 z4;have jz := U6 (l := ((a1, a2), (a3, a4))) (m := ((b1, b2), (eF, dV))) kf z2 z3 z4;have hcut : (bN E r rm).cut ((a1, a2), (a3, a4)) ((b1, b2), (eF, dV)) = mn r (oE r ((a1, a2), (a3, a4)) ((b1, b2), (eF, dV))) := Lr r _ _;have H1 := N0 (E := E) (r := r) (rm := rm) (s := s) ap jz (fun af => Ls (l := ((a1, a2), (a3, a4))) (m := ((b1, b2), (eF, dV))) kf z2 (by rw [Lr, if_pos af])) (by omega) au (by omega);have kj := Og (ii := (s.I : Int)) rfl g1;have nI := Og (ii := (s.J : Int)) rfl g2
 have em : sH (bN E r rm) s = if (bF.dW (bN E r rm) s (mn r (oE r ((a1, a2), (a3, a4)) ((b1, b2), (eF, dV))))).ph = 5 then bF.dW (bN E r rm) s (mn r (oE r ((a1, a2), (a3, a4)) ((b1, b2), (eF, dV)))) else
   if (cr (bb s.ch).length s.I s.J).2 < (bb s.ch).length then { bF.dW (bN E r rm) s (mn r (oE r ((a1, a2), (a3, a4)) ((b1, b2), (eF, dV)))) with I := (cr (bb s.ch).length s.I s.J).1, J := (cr (bb s.ch).length s.I s.J).2 } else nC (bF.dW (bN E r rm) s (mn r (oE r ((a1, a2), (a3, a4)) ((b1, b2), (eF, dV))))) := by
  unfold sH;simp only [g1, g2, hcut]
 rw [em];clear em hcut jz kf z2 z3 z4 g1 g2;simp only at aM H1;generalize oE r ((a1, a2), (a3, a4)) ((b1, b2), (eF, dV)) = M at *;have jY := Ph (n := (bb s.ch).length) (I := s.I) (J := s.J) kO;have i0 : (0 : Int) ≤ (s.I : Int) := by omega
 have i1 : (s.I : Int) < ((bb s.ch).length : Int) := by omega
 have ZN : (0 : Int) ≤ (s.J : Int) := by omega
 have q4 : (s.J : Int) < ((bb s.ch).length : Int) := by omega
 rintro cs R jT;obtain ⟨hv, fv, cv, b, S, lk, hS, cY, gj, rfl, rfl⟩ := id jT;obtain rfl := gj ht
 by_cases af : M.k = 1
 ·have sb : mn r M = some (iN r M) := if_pos af;rw [sb] at H1 ⊢;have so := C3 (o := bN E r rm) (s := s) (q := iN r M);have xf := C4 (o := bN E r rm) (q := iN r M) au;have vx := C5 (o := bN E r rm) (s := s) (q := iN r M);unfold bF.dW;simp only [kQ] at H1 ⊢;generalize dQ (bN E r rm) s (iN r M) = s1 at *
  by_cases q1 : s1.ph = 5
  ·rw [if_pos q1, if_pos q1];rw [q1] at H1;obtain ⟨mk, It, md, dG, Io, Iu, Iv, Iw, Ix⟩ := M;obtain rfl : mk = 1 := af;refine dy (f := 68) Tryz.func68 rfl (dv rfl) (by exact eB rfl) ?_;(repeat first | (with_reducible apply cZ); kernel_rfl | (with_reducible apply cb (id := 1) [20,21,0,1,2,3,4,5,6,7,8,9,10,11,12,13,14,15,16,17,18,19,22,23]); kernel_rfl; kernel_rfl; rfl | (with_reducible apply cb (id := 2) [7,0,1,2,3,4,5,6,8]); kernel_rfl; kernel_rfl; rfl | (with_reducible first | apply a7 | apply aQ | apply aY | apply aS) | (with_reducible apply cX); rfl; (assumption) | (with_reducible apply aN); rfl; (repeat first | (with_reducible apply ax); rfl | (with_reducible apply ed); (iterate 5 rfl) | (with_reducible apply dC); (iterate 3 rfl); (omega); (omega); (assumption); rfl | (with_reducible apply de); (iterate 3 rfl) | refine eR rfl rfl rfl rfl rfl (by (exact aM)) rfl ?_); (with_reducible apply ay));refine ir rfl rfl rfl rfl rfl rfl rfl rfl H1 jT (fun ar aB cn => ?_);(repeat first | (with_reducible first | apply aQ | apply aS | apply cN | apply e7) | (with_reducible apply cX); rfl; (assumption) | (with_reducible apply aN); rfl; (repeat first | (with_reducible apply ax); rfl); (with_reducible apply ay));obtain ⟨b8, df, c7, bT, dm, hb, fC, hq, iI, rfl, rfl⟩ := id cn
   ((refine eZ rfl bc rfl (bH.refl _) cn.closed rfl fw ?_))
   exact ⟨_, rfl, rfl, cn⟩
  ·rw [if_neg q1, if_neg q1];rw [B7 q1] at H1;obtain ⟨m1, m2, m3, m4⟩ := vx q1;have tD : s1.ch = s.ch := so.2.1;have fp := N2 (E := E) (r := r) (rm := rm) (s := { s1 with dirty := true, I := (cr (bb s.ch).length s.I s.J).1, J := (cr (bb s.ch).length s.I s.J).2 }) xf (by show ki s1.ch; rw [tD]; exact ak) (by show 0 < s1.ch.length; rw [tD]; exact aI);rw [show nC ({ s1 with dirty := true, I := (cr (bb s.ch).length s.I s.J).1, J := (cr (bb s.ch).length s.I s.J).2 } : bF.aX an) = nC ({ s1 with dirty := true } : bF.aX an) from rfl] at fp;have n0 : (s1.I : Int) = s.I := by omega
   have Dd : (s1.J : Int) = s.J := by omega
   obtain ⟨mk, It, md, dG, Io, Iu, Iv, Iw, Ix⟩ := M;obtain rfl : mk = 1 := af
   by_cases q2 : (cr (bb s.ch).length s.I s.J).2 < (bb s.ch).length
   ·rw [if_pos q2];have hr := jY.2.2;rw [bg q2] at hr;refine dy (f := 68) Tryz.func68 rfl (dv rfl) (by exact eB rfl) ?_;(repeat first | (with_reducible apply cZ); kernel_rfl | (with_reducible apply cb (id := 1) [20,21,0,1,2,3,4,5,6,7,8,9,10,11,12,13,14,15,16,17,18,19,22,23]); kernel_rfl; kernel_rfl; rfl | (with_reducible apply cb (id := 2) [7,0,1,2,3,4,5,6,8]); kernel_rfl; kernel_rfl; rfl | (with_reducible first | apply a7 | apply aQ | apply aY | apply aS) | (with_reducible apply cX); rfl; (assumption) | (with_reducible apply aN); rfl; (repeat first | (with_reducible apply ax); rfl | (with_reducible apply ed); (iterate 5 rfl) | (with_reducible apply dC); (iterate 3 rfl); (omega); (omega); (assumption); rfl | (with_reducible apply de); (iterate 3 rfl) | refine eR rfl rfl rfl rfl rfl (by (exact aM)) rfl ?_); (with_reducible apply ay));refine ir rfl rfl rfl rfl rfl rfl rfl rfl H1 jT (fun ar aB cn => ?_);obtain ⟨b8, df, c7, bT, dm, hb, fC, hq, iI, rfl, rfl⟩ := id cn;obtain rfl := iI (by omega);have bI := zW (E := E) (k := r) (rm := rm) (ph := s1.ph) (I := s1.I) (J := s1.J) (T := s1.T) (dirty := true) (hv := b8) (fv := df) (cv := c7) (b := bT) hq (bb s1.ch).length (by omega) (by omega);rw [tD, n0, Dd, hr, ← jY.1, ← jY.2.1] at bI;have fR : dd E r rm { s1 with dirty := true, I := (cr (bb s.ch).length s.I s.J).1, J := (cr (bb s.ch).length s.I s.J).2 } (eM E r rm s1.ph (cr (bb s.ch).length s.I s.J).1 (cr (bb s.ch).length s.I s.J).2 s1.T true b8 df c7 bT (.p (cA 4 (bb s1.ch).length (mS (bb s1.ch))))) (dR bT dm b8 df c7 s1.hot s1.fnd s1.ch) := ⟨b8, df, c7, bT, dm, _, fC, rfl, fun _ => rfl, rfl, rfl⟩;rw [tD] at fR;rw [n0, Dd, tD];(repeat first | (with_reducible first | apply a7 | apply aQ | apply aY | apply aS | apply cL) | (with_reducible apply cD); rfl; (rfl) | (with_reducible apply aN); rfl; (repeat first | (with_reducible apply ax); rfl | (with_reducible apply de); (iterate 3 rfl) | (with_reducible apply cx); (iterate 3 rfl)); (with_reducible apply ay));refine ku 1000 rfl rfl rfl rfl bI rfl rfl rfl rfl rfl ?_;(repeat first | (with_reducible first | apply aQ | apply aS | apply cL) | (with_reducible apply cD); rfl; (rfl) | (with_reducible apply aN); rfl; (repeat first | (with_reducible apply ax); rfl); (with_reducible apply ay))
    ((refine eZ rfl bc rfl (bH.refl _) fR.closed rfl fw ?_))
    exact ⟨_, rfl, rfl, fR⟩
   ·rw [if_neg q2];have hr := jY.2.2;rw [bl q2] at hr;refine dy (f := 68) Tryz.func68 rfl (dv rfl) (by exact eB rfl) ?_;(repeat first | (with_reducible apply cZ); kernel_rfl | (with_reducible apply cb (id := 1) [20,21,0,1,2,3,4,5,6,7,8,9,10,11,12,13,14,15,16,17,18,19,22,23]); kernel_rfl; kernel_rfl; rfl | (with_reducible apply cb (id := 2) [7,0,1,2,3,4,5,6,8]); kernel_rfl; kernel_rfl; rfl | (with_reducible first | apply a7 | apply aQ | apply aY | apply aS) | (with_reducible apply cX); rfl; (assumption) | (with_reducible apply aN); rfl; (repeat first | (with_reducible apply ax); rfl | (with_reducible apply ed); (iterate 5 rfl) | (with_reducible apply dC); (iterate 3 rfl); (omega); (omega); (assumption); rfl | (with_reducible apply de); (iterate 3 rfl) | refine eR rfl rfl rfl rfl rfl (by (exact aM)) rfl ?_); (with_reducible apply ay));refine ir rfl rfl rfl rfl rfl rfl rfl rfl H1 jT (fun ar aB cn => ?_);obtain ⟨b8, df, c7, bT, dm, hb, fC, hq, iI, rfl, rfl⟩ := id cn;obtain rfl := iI (by omega);have bI := zW (E := E) (k := r) (rm := rm) (ph := s1.ph) (I := s1.I) (J := s1.J) (T := s1.T) (dirty := true) (hv := b8) (fv := df) (cv := c7) (b := bT) hq (bb s1.ch).length (by omega) (by omega);rw [tD, n0, Dd, hr, ← jY.1, ← jY.2.1] at bI;have fR : dd E r rm { s1 with dirty := true, I := (cr (bb s.ch).length s.I s.J).1, J := (cr (bb s.ch).length s.I s.J).2 } (eM E r rm s1.ph (cr (bb s.ch).length s.I s.J).1 (cr (bb s.ch).length s.I s.J).2 s1.T true b8 df c7 bT (.p (cA 4 (bb s1.ch).length (mS (bb s1.ch))))) (dR bT dm b8 df c7 s1.hot s1.fnd s1.ch) := ⟨b8, df, c7, bT, dm, _, fC, rfl, fun _ => rfl, rfl, rfl⟩;rw [tD] at fR fp;rw [n0, Dd, tD];(repeat first | (with_reducible first | apply a7 | apply aQ | apply aY | apply aS | apply cL) | (with_reducible apply cD); rfl; (rfl) | (with_reducible apply aN); rfl; (repeat first | (with_reducible apply ax); rfl | (with_reducible apply de); (iterate 3 rfl) | (with_reducible apply cx); (iterate 3 rfl)); (with_reducible apply ay));refine ku 1000 rfl rfl rfl rfl bI rfl rfl rfl rfl rfl ?_;(repeat first | (with_reducible first | apply aQ | apply aY | apply aS) | (with_reducible apply cX); rfl; (assumption) | (with_reducible apply aN); rfl; (repeat first | (with_reducible apply ax); rfl); (with_reducible apply ay));refine ir rfl rfl rfl rfl rfl rfl rfl rfl fp fR (fun ar aB lH => ?_);(repeat first | with_reducible apply aS);obtain ⟨Dm, CN, Cp, dV, u1, DK, CV, Db, Da, rfl, rfl⟩ := id lH
    ((refine eZ rfl bc rfl (bH.refl _) lH.closed rfl fw ?_))
    exact ⟨_, rfl, rfl, lH⟩
 ·have sb : mn r M = none := if_neg af;rw [sb];have V0 : bF.dW (bN E r rm) s none = s := rfl;rw [V0, if_neg (by omega)];clear H1;have fp := N2 (E := E) (r := r) (rm := rm) (s := { s with I := (cr (bb s.ch).length s.I s.J).1, J := (cr (bb s.ch).length s.I s.J).2 }) au ak aI;rw [show nC ({ s with I := (cr (bb s.ch).length s.I s.J).1, J := (cr (bb s.ch).length s.I s.J).2 } : bF.aX an) = nC s from rfl] at fp;have bI := zW (E := E) (k := r) (rm := rm) (ph := s.ph) (I := s.I) (J := s.J) (T := s.T) (dirty := s.dirty) (hv := hv) (fv := fv) (cv := cv) (b := b) cY (bb s.ch).length (by omega) (by omega);have fR : dd E r rm { s with I := (cr (bb s.ch).length s.I s.J).1, J := (cr (bb s.ch).length s.I s.J).2 } (eM E r rm s.ph (cr (bb s.ch).length s.I s.J).1 (cr (bb s.ch).length s.I s.J).2 s.T s.dirty hv fv cv b (.p (cA 4 (bb s.ch).length (mS (bb s.ch))))) (dR b S hv fv cv s.hot s.fnd s.ch) := ⟨hv, fv, cv, b, S, _, hS, rfl, fun _ => rfl, rfl, rfl⟩;obtain ⟨mk, It, md, dG, Io, Iu, Iv, Iw, Ix⟩ := M;have af : ¬ mk = 1 := af
  by_cases q2 : (cr (bb s.ch).length s.I s.J).2 < (bb s.ch).length
  ·rw [if_pos q2];have hr := jY.2.2;rw [bg q2] at hr;rw [hr, ← jY.1, ← jY.2.1] at bI;refine dy (f := 68) Tryz.func68 rfl (dv rfl) (by exact eB rfl) ?_;(repeat first | (with_reducible apply cZ); kernel_rfl | (with_reducible apply cb (id := 1) [20,21,0,1,2,3,4,5,6,7,8,9,10,11,12,13,14,15,16,17,18,19,22,23]); kernel_rfl; kernel_rfl; rfl | (with_reducible apply cb (id := 2) [7,0,1,2,3,4,5,6,8]); kernel_rfl; kernel_rfl; rfl | (with_reducible first | apply a7 | apply aQ | apply aY | apply aS | apply cL) | (with_reducible apply cD); rfl; (exact bl (by omega)) | (with_reducible apply aN); rfl; (repeat first | (with_reducible apply ax); rfl | (with_reducible apply ed); (iterate 5 rfl) | (with_reducible apply dC); (iterate 3 rfl); (omega); (omega); (assumption); rfl | (with_reducible apply de); (iterate 3 rfl) | (with_reducible apply cx); (iterate 3 rfl) | refine eR rfl rfl rfl rfl rfl (by (exact aM)) rfl ?_); (with_reducible apply ay));refine ku 1000 rfl rfl rfl rfl bI rfl rfl rfl rfl rfl ?_;(repeat first | (with_reducible first | apply aQ | apply aS | apply cL) | (with_reducible apply cD); rfl; (rfl) | (with_reducible apply aN); rfl; (repeat first | (with_reducible apply ax); rfl); (with_reducible apply ay))
   ((refine eZ rfl bc rfl (bH.refl _) fR.closed rfl fw ?_))
   exact ⟨_, rfl, rfl, fR⟩
  ·rw [if_neg q2];have hr := jY.2.2;rw [bl q2] at hr;rw [hr, ← jY.1, ← jY.2.1] at bI;refine dy (f := 68) Tryz.func68 rfl (dv rfl) (by exact eB rfl) ?_;(repeat first | (with_reducible apply cZ); kernel_rfl | (with_reducible apply cb (id := 1) [20,21,0,1,2,3,4,5,6,7,8,9,10,11,12,13,14,15,16,17,18,19,22,23]); kernel_rfl; kernel_rfl; rfl | (with_reducible apply cb (id := 2) [7,0,1,2,3,4,5,6,8]); kernel_rfl; kernel_rfl; rfl | (with_reducible first | apply a7 | apply aQ | apply aY | apply aS | apply cL) | (with_reducible apply cD); rfl; (exact bl (by omega)) | (with_reducible apply aN); rfl; (repeat first | (with_reducible apply ax); rfl | (with_reducible apply ed); (iterate 5 rfl) | (with_reducible apply dC); (iterate 3 rfl); (omega); (omega); (assumption); rfl | (with_reducible apply de); (iterate 3 rfl) | (with_reducible apply cx); (iterate 3 rfl) | refine eR rfl rfl rfl rfl rfl (by (exact aM)) rfl ?_); (with_reducible apply ay));refine ku 1000 rfl rfl rfl rfl bI rfl rfl rfl rfl rfl ?_;(repeat first | (with_reducible first | apply aQ | apply aY | apply aS) | (with_reducible apply cX); rfl; (assumption) | (with_reducible apply aN); rfl; (repeat first | (with_reducible apply ax); rfl); (with_reducible apply ay));refine ir rfl rfl rfl rfl rfl rfl rfl rfl fp fR (fun ar aB lH => ?_);(repeat first | with_reducible apply aS);obtain ⟨Dm, CN, Cp, dV, u1, DK, CV, Db, Da, rfl, rfl⟩ := id lH
   ((refine eZ rfl bc rfl (bH.refl _) lH.closed rfl fw ?_))
   exact ⟨_, rfl, rfl, lH⟩
end
section
variable {E : List (Int × cc)} {r rm : Nat}
theorem QC {b : Nat} {S : fm} {hv fv cv v : Value} {hot fnd : List an} {ch l : List (List an × List Int)} : bS (dR b S hv fv cv hot fnd ch) 3 (wQ v l) = dR b S hv fv v hot fnd l := by
  funext i
  match i with
  | 0 => rfl
  | 1 => rfl
  | 2 => rfl
  | 3 => rfl
  | i + 4 => rfl
theorem Cj {ch : List (List an × List Int)} {i : Nat} {ii : Int} {V : List an} {D : List Int} (hi : ii = i) (h : i < ch.length) : er (ee ch) (ii.toNat * 2) [.p (cA 2 V.length (bM V)), .p (cA 1 D.length (cB D))] = ee (ch.set i (V, D)) := by
  subst hi;rw [kW];have e : ch = ch.take i ++ ch[i] :: ch.drop (i + 1) := by rw [← mr h, j9]
  have ao : (ee (ch.take i)).length = i * 2 := by
    have := CL (f := pG) (z := 2) (fun _ => rfl) (ch.take i);unfold ee;rw [this, eI, qh (by omega)]
  have aG : ee ch = ee (ch.take i) ++ (pG ch[i] ++ ee (ch.drop (i + 1))) := (congrArg ee e).trans (by unfold ee; rw [List.flatMap_append, List.flatMap_cons]);rw [aG, EX ao, List.set_eq_take_append_cons_drop, if_pos h];simp [ee, pG]
theorem WG {p q : an} {bm : List an} (aE : bm.Nodup) : iU (dL (decide ((2 : Int) ^ r * q.1 < 2 ^ r * p.1)) (decide ((2 : Int) ^ r * q.2 < 2 ^ r * p.2))) bm = fW p q bm := by
  rw [CJ, CJ];exact afv aE (by rw [List.filter_eq_self.2 (fun _ _ => rfl)])
theorem aad {s : bF.aX an} {V : List an} {D : List Int} {p q x : an} (ap : r ≤ 28) (ak : ki s.ch) (g1 : s.ch[s.I]? = some (V, D)) (g2 : V[s.J]? = some p) (g3 : V[s.J + 1]? = some q) (g4 : s.hot[s.T]? = some x) (kN : ∀ d ∈ D, 1 ≤ d ∧ d ≤ 1048576)
    (hp : e3 r p.1 p.2 = true) (al : e3 r q.1 q.2 = true) (hd : s.dirty = false) (a6 : s.hot.length ≤ 1024) (xi : s.fnd.length ≤ 1024) (xj : (lF (bN E r rm) p q x s.fnd).Nodup) (ht : s.ph = 2) : gn E r rm 67 [] s lV (sF (bN E r rm) s (V, D) p q (lF (bN E r rm) p q x s.fnd)) := by
  obtain ⟨p1, p2⟩ := p;obtain ⟨q1, q2⟩ := q;obtain ⟨dh, dE⟩ := x;obtain ⟨jU, iH⟩ := ak.2 _ (dJ g1);simp only at jU iH;have bu := (bV.1 g1).1;have kO := (bV.1 g3).1;have en := (bV.1 g4).1;have aA : gR (r : Int) r := ⟨ap, .inr (.inr rfl)⟩;have aM := PT (D := D) g2 g3 (by omega);have bI := ado (E := E.map Prod.snd) (R := rm) ap (p := (p1, p2)) (q := (q1, q2)) (x := (dh, dE)) hp al;have et := Ek (sO aA hp) (sO aA al);simp only at bI et;have nG := acq (a1 := 2 ^ r * p1) (a2 := 2 ^ r * p2) (b1 := 2 ^ r * q1) (b2 := 2 ^ r * q2);obtain ⟨kj, nI⟩ := Ci (ii := (s.I : Int)) rfl g1;have Fq := Zu (ii := (s.T : Int)) rfl g4;have i0 : (0 : Int) ≤ (s.I : Int) := by omega
  have i1 : (s.I : Int) < (s.ch.length : Int) := by omega
  have i2 : 0 < s.ch.length := by omega
  have t0 : (0 : Int) ≤ (s.T : Int) := by omega
  have t1 : (s.T : Int) < (s.hot.length : Int) := by omega
  have t2 : 0 < s.hot.length := by omega
  have Xv : (s.J : Int) ≤ 1100 := by omega
  have cW := ak.1
 
  have split : ∀ bm : List an, bm = lF (bN E r rm) (p1, p2) (q1, q2) (dh, dE) s.fnd → bm ≠ [] → bm.length ≤ 1100 → aT aj 126 [hW bm, wm (decide ((2 : Int) ^ r * q1 < 2 ^ r * p1)) (decide ((2 : Int) ^ r * q2 < 2 ^ r * p2))] (hW (fW (p1, p2) (q1, q2) bm)) ∧
      aT aj 125 [om V D, aV s.J, hW (fW (p1, p2) (q1, q2) bm)] (.da [.agg [.p (cA 2 (bF.dk V s.J (fW (p1, p2) (q1, q2) bm)).length (bM (bF.dk V s.J (fW (p1, p2) (q1, q2) bm)))), .p (cA 1 (eG D s.J bm.length).length (cB (eG D s.J bm.length)))], .one (.c (.bool true))]) := by
    intro bm Yk ck Yg;have aE : bm.Nodup := by rw [Yk]; exact xj
    have hlen : (fW (p1, p2) (q1, q2) bm).length = bm.length := (AZ _ _ bm).length_eq;refine ⟨?_, ?_⟩
    · have := acQ (fx := decide ((2 : Int) ^ r * q1 < 2 ^ r * p1)) (fy := decide ((2 : Int) ^ r * q2 < 2 ^ r * p2)) 1100 bm Yg (by omega)
      rw [WG (p := (p1, p2)) (q := (q1, q2)) aE] at this;exact this
    · have := Z2 V D s.J (fW (p1, p2) (q1, q2) bm) jU iH (by omega) (by omega) kN
      have Hy : (fW (p1, p2) (q1, q2) bm).isEmpty = false := by
        cases h : fW (p1, p2) (q1, q2) bm with
        | nil => rw [h] at hlen; exact absurd (na hlen.symm) ck
        | cons a l => rfl
      rw [Hy, hlen] at this;exact this
  rintro cs R jT;obtain ⟨hv, fv, cv, b, S, lk, hS, cY, gj, rfl, rfl⟩ := id jT;have dp : ∀ (I J T : Int) (fv : Value), (eM E r rm s.ph I J T s.dirty hv fv cv b lk).all AC.ba = true := fun I J T fv => by simp only [kA, nb, cY]; rfl
  unfold sF;simp only [show (bN E r rm).gP = fW from rfl];cases vq : jy (bN E r rm) (p1, p2) (q1, q2) (dh, dE) with
  | true =>
    rw [vq] at bI;have Gp : lF (bN E r rm) (p1, p2) (q1, q2) (dh, dE) s.fnd = s.fnd ++ [(dh, dE)] := by unfold lF; rw [vq]; rfl
    rw [Gp] at split ⊢;have Yh : (s.fnd ++ [(dh, dE)]).length ≤ 1100 := by rw [dl, List.length_singleton]; omega
    have ck : s.fnd ++ [(dh, dE)] ≠ [] := by simp
    obtain ⟨x9, Fm⟩ := split _ rfl ck Yh;clear split xj vq;refine dy (f := 67) Tryz.func67 rfl (dv rfl) (by exact eB rfl) ?_;(repeat first | (with_reducible apply cZ); kernel_rfl | (with_reducible apply cb (id := 1) [10,0,1,2,3,4,5,6,7,8,9,11]); kernel_rfl; kernel_rfl; rfl | (with_reducible apply cb (id := 2) [6,0,1,2,3,4,5,7]); kernel_rfl; kernel_rfl; rfl | (with_reducible apply cb (id := 3) [10,0,1,2,3,4,5,6,7,8,9,11]); kernel_rfl; kernel_rfl; rfl | (with_reducible apply cb (id := 4) [0,1,2,3,4,5,6]); kernel_rfl; kernel_rfl; rfl | (with_reducible apply iT (id := 5) [0,1,2,3,4,5,6,7,8,9,10] [3000048]); kernel_rfl; kernel_rfl; rfl | (with_reducible first | apply a7 | apply aQ | apply aY | apply aS) | (with_reducible apply cX); rfl; (rfl) | (with_reducible apply aN); rfl; (repeat first | (with_reducible apply ax); rfl | (with_reducible apply de); (iterate 3 rfl) | (with_reducible apply nk); (iterate 10 rfl) | refine cI rfl rfl rfl rfl (by (exact aM)) rfl ?_ | refine eR rfl rfl rfl rfl rfl (by (exact bI)) rfl ?_); (with_reducible apply ay) | (with_reducible apply e2 1); (iterate 4 rfl); (omega); (assumption); rfl; kernel_rfl; rfl | (with_reducible apply e2 3); (iterate 4 rfl); (omega); (assumption); rfl; kernel_rfl; rfl | (with_reducible apply fE 1); (iterate 3 rfl); (assumption); assumption; rfl; kernel_rfl; rfl | (with_reducible apply fE 3); (iterate 3 rfl); (assumption); assumption; rfl; kernel_rfl; rfl);refine q0 2 rfl rfl rfl rfl ?q1 ?q2 rfl rfl (fun v1 jh => ?_)
    case q1 => exact li (by show s.fnd.length + 1 ≤ 1000000; omega)
    case q2 => show (s.fnd.length + 1) * 16 ≤ 140737488355328; omega
    (repeat first | (with_reducible apply cZ); kernel_rfl | (with_reducible apply cb (id := 7) [0,1,2,3,4,5,6,7,8,9]); kernel_rfl; kernel_rfl; rfl | (with_reducible first | apply a7 | apply aQ | apply aY | apply aS) | (with_reducible apply aN); rfl; (repeat first | (with_reducible apply ax); rfl | (with_reducible apply de); (iterate 3 rfl) | (with_reducible apply dB); (iterate 3 rfl); (exact cp (by omega)); rfl); (with_reducible apply ay) | (with_reducible apply fD 1); (iterate 4 rfl); kernel_rfl; rfl);refine EO (dR b S hv v1 cv s.hot (s.fnd ++ [(dh, dE)]) s.ch) (bH.of_eq aej.symm) ?_
    by_cases tR : s.T + 1 < s.hot.length
    · rw [if_pos tR]
      have zd : (s.T : Int) + 1 < (s.hot.length : Int) := by omega
      have fR : dd E r rm { s with fnd := s.fnd ++ [(dh, dE)], T := s.T + 1 } (eM E r rm s.ph s.I s.J ((s.T : Int) + 1) s.dirty hv v1 cv b lk) (dR b S hv v1 cv s.hot (s.fnd ++ [(dh, dE)]) s.ch) := ⟨hv, v1, cv, b, S, lk, hS, cY, gj, rfl, rfl⟩;(repeat first | (with_reducible first | apply cN | apply e7) | (with_reducible apply cX); rfl; (exact bg (by omega)))
      ((refine eZ rfl bc rfl (bH.refl _) fR.closed rfl fw ?_))
      exact ⟨_, rfl, rfl, fR⟩
    · rw [if_neg tR, if_neg ck]
      have zd : ¬ (s.T : Int) + 1 < (s.hot.length : Int) := by omega
      have Hy : ¬ ((s.fnd ++ [(dh, dE)]).length : Int) = 0 := fun h => ck (na (by omega));refine Q2 2 1000 9 (iO v1 (s.fnd ++ [(dh, dE)])) rfl rfl rfl ?_;refine oi 2 59 2 rfl ?_
      refine EO (dR b S hv (.slice none 0 0) cv s.hot [] s.ch) (fun k q af => by
        match k with
        | 0 => exact af
        | 1 => exact af
        | 2 => exact af
        | 3 => exact af
        | k + 4 => cases af) ?_
      have fR : dd E r rm { s with T := 0, fnd := [], ch := s.ch.set s.I (bF.dk V s.J (fW (p1, p2) (q1, q2) (s.fnd ++ [(dh, dE)])), eG D s.J (s.fnd ++ [(dh, dE)]).length) } (eM E r rm s.ph s.I s.J 0 s.dirty hv (.slice none 0 0) cv b lk) (dR b S hv (.slice none 0 0) cv s.hot [] (s.ch.set s.I (bF.dk V s.J (fW (p1, p2) (q1, q2) (s.fnd ++ [(dh, dE)])), eG D s.J (s.fnd ++ [(dh, dE)]).length))) := ⟨hv, _, cv, b, S, lk, hS, cY, (fun h => absurd (ht.symm.trans (show s.ph = 3 from h)) (by decide)), rfl, rfl⟩
      have nu : bS (dR b S hv (.slice none 0 0) cv s.hot [] s.ch) 3 ⟨53, 2, cv, s.ch.length, er (ee s.ch) ((s.I : Int).toNat * 2) [.p (cA 2 (bF.dk V s.J (fW (p1, p2) (q1, q2) (s.fnd ++ [(dh, dE)]))).length (bM (bF.dk V s.J (fW (p1, p2) (q1, q2) (s.fnd ++ [(dh, dE)]))))), .p (cA 1 (eG D s.J (s.fnd ++ [(dh, dE)]).length).length (cB (eG D s.J (s.fnd ++ [(dh, dE)]).length)))]⟩ = dR b S hv (.slice none 0 0) cv s.hot [] (s.ch.set s.I (bF.dk V s.J (fW (p1, p2) (q1, q2) (s.fnd ++ [(dh, dE)])), eG D s.J (s.fnd ++ [(dh, dE)]).length)) := by
        rw [Cj rfl bu, show s.ch.length = (s.ch.set s.I (bF.dk V s.J (fW (p1, p2) (q1, q2) (s.fnd ++ [(dh, dE)])), eG D s.J (s.fnd ++ [(dh, dE)]).length)).length from (oc ..).symm];exact QC
      generalize HR : bF.dk V s.J (fW (p1, p2) (q1, q2) (s.fnd ++ [(dh, dE)])) = Ki at *;generalize HS : eG D s.J (s.fnd ++ [(dh, dE)]).length = wy at *;generalize Nv : fW (p1, p2) (q1, q2) (s.fnd ++ [(dh, dE)]) = L' at *;(repeat first | (with_reducible apply iT (id := 12) [0,1,2,3,4,5,6,7,8,9,10,11,12,13,14,15,16,17,18,19,20,21,22,23,24,25,26,27,28,29,30,31,32] [4000000]); kernel_rfl; kernel_rfl; rfl | (with_reducible first | apply a7 | apply aQ | apply aY | apply aS | apply cL) | (with_reducible apply cD); rfl; (exact bl (by omega)) | (with_reducible apply aN); rfl; (repeat first | (with_reducible apply ax); rfl | (with_reducible apply de); (iterate 3 rfl) | (with_reducible apply cx); (iterate 3 rfl) | refine cI rfl rfl rfl rfl (by (first | exact et | exact nG | exact x9)) rfl ?_ | refine eR rfl rfl rfl rfl rfl (by (exact Fm)) rfl ?_); (with_reducible apply ay) | (with_reducible apply e2 3); (iterate 4 rfl); (omega); (assumption); rfl; kernel_rfl; rfl);refine sv 3 rfl rfl rfl rfl i2 rfl rfl kj.1 rfl ?_;(repeat first | (with_reducible apply cZ); kernel_rfl | (with_reducible first | apply aQ | apply aY | apply aS) | (with_reducible apply aN); rfl; (repeat first | (with_reducible apply ax); rfl | (with_reducible apply de); (iterate 3 rfl)); (with_reducible apply ay))
      ((refine eZ rfl bc rfl (bH.of_eq nu.symm) fR.closed rfl fw ?_))
      exact ⟨_, rfl, rfl, fR⟩
  | false =>
    rw [vq] at bI;have Gp : lF (bN E r rm) (p1, p2) (q1, q2) (dh, dE) s.fnd = s.fnd := by unfold lF; rw [vq]; rfl
    rw [Gp] at split ⊢;have ahG := en
    by_cases ck : s.fnd = []
    · clear split xj vq
      have dn : ({ s with fnd := s.fnd } : bF.aX an) = s := rfl;have aI : (s.fnd.length : Int) = 0 := by rw [ck]; rfl
      have fp := N4 (E := E) (r := r) (rm := rm) (s := { s with T := 0, fnd := [], J := s.J + 1 }) hd rfl ak bu (by show s.J + 1 ≤ 1100; omega) ht;have lH : dd E r rm { s with T := 0, fnd := [], J := s.J + 1 } (eM E r rm s.ph s.I ((s.J : Int) + 1) 0 s.dirty hv fv cv b lk) (dR b S hv fv cv s.hot s.fnd s.ch) := ⟨hv, fv, cv, b, S, lk, hS, cY, gj, rfl, by rw [ck]⟩
      by_cases tR : s.T + 1 < s.hot.length
      · rw [if_pos tR]
        have zd : (s.T : Int) + 1 < (s.hot.length : Int) := by omega
        have fR : dd E r rm { s with fnd := s.fnd, T := s.T + 1 } (eM E r rm s.ph s.I s.J ((s.T : Int) + 1) s.dirty hv fv cv b lk) (dR b S hv fv cv s.hot s.fnd s.ch) := ⟨hv, fv, cv, b, S, lk, hS, cY, gj, rfl, rfl⟩;refine dy (f := 67) Tryz.func67 rfl (dv rfl) (by exact eB rfl) ?_;(repeat first | (with_reducible apply cZ); kernel_rfl | (with_reducible apply cb (id := 1) [10,0,1,2,3,4,5,6,7,8,9,11]); kernel_rfl; kernel_rfl; rfl | (with_reducible apply cb (id := 2) [6,0,1,2,3,4,5,7]); kernel_rfl; kernel_rfl; rfl | (with_reducible apply cb (id := 3) [10,0,1,2,3,4,5,6,7,8,9,11]); kernel_rfl; kernel_rfl; rfl | (with_reducible apply cb (id := 4) [0,1,2,3,4,5,6]); kernel_rfl; kernel_rfl; rfl | (with_reducible apply cb (id := 7) [0,1,2,3,4,5,6,7,8,9]); kernel_rfl; kernel_rfl; rfl | (with_reducible first | apply a7 | apply aQ | apply aY | apply aS | apply cN | apply cL | apply e7) | (with_reducible apply cX); rfl; (exact bg (by omega)) | (with_reducible apply cD); rfl; (rfl) | (with_reducible apply aN); rfl; (repeat first | (with_reducible apply ax); rfl | (with_reducible apply de); (iterate 3 rfl) | (with_reducible apply dB); (iterate 3 rfl); (exact cp (by omega)); rfl | refine cI rfl rfl rfl rfl (by (exact aM)) rfl ?_ | refine eR rfl rfl rfl rfl rfl (by (exact bI)) rfl ?_); (with_reducible apply ay) | (with_reducible apply fD 1); (iterate 4 rfl); kernel_rfl; rfl | (with_reducible apply e2 1); (iterate 4 rfl); (omega); (assumption); rfl; kernel_rfl; rfl | (with_reducible apply e2 3); (iterate 4 rfl); (omega); (assumption); rfl; kernel_rfl; rfl | (with_reducible apply fE 1); (iterate 3 rfl); (assumption); assumption; rfl; kernel_rfl; rfl | (with_reducible apply fE 3); (iterate 3 rfl); (assumption); assumption; rfl; kernel_rfl; rfl)
        ((refine eZ rfl bc rfl (bH.refl _) fR.closed rfl fw ?_))
        exact ⟨_, rfl, rfl, fR⟩
      · rw [if_neg tR, if_pos ck]
        have zd : ¬ (s.T : Int) + 1 < (s.hot.length : Int) := by omega
        refine dy (f := 67) Tryz.func67 rfl (dv rfl) (by exact eB rfl) ?_;(repeat first | (with_reducible apply cZ); kernel_rfl | (with_reducible apply cb (id := 1) [10,0,1,2,3,4,5,6,7,8,9,11]); kernel_rfl; kernel_rfl; rfl | (with_reducible apply cb (id := 2) [6,0,1,2,3,4,5,7]); kernel_rfl; kernel_rfl; rfl | (with_reducible apply cb (id := 3) [10,0,1,2,3,4,5,6,7,8,9,11]); kernel_rfl; kernel_rfl; rfl | (with_reducible apply cb (id := 4) [0,1,2,3,4,5,6]); kernel_rfl; kernel_rfl; rfl | (with_reducible apply cb (id := 7) [0,1,2,3,4,5,6,7,8,9]); kernel_rfl; kernel_rfl; rfl | (with_reducible first | apply a7 | apply aQ | apply aY | apply aS | apply cL) | (with_reducible apply cX); rfl; (exact bg (by omega)) | (with_reducible apply cD); rfl; (first | exact bl (by omega) | rfl) | (with_reducible apply aN); rfl; (repeat first | (with_reducible apply ax); rfl | (with_reducible apply de); (iterate 3 rfl) | (with_reducible apply dB); (iterate 3 rfl); (exact cp (by omega)); rfl | refine cI rfl rfl rfl rfl (by (exact aM)) rfl ?_ | refine eR rfl rfl rfl rfl rfl (by (exact bI)) rfl ?_); (with_reducible apply ay) | (with_reducible apply fD 1); (iterate 4 rfl); kernel_rfl; rfl | (with_reducible apply fD 2); (iterate 4 rfl); kernel_rfl; rfl | (with_reducible apply e2 1); (iterate 4 rfl); (omega); (assumption); rfl; kernel_rfl; rfl | (with_reducible apply e2 3); (iterate 4 rfl); (omega); (assumption); rfl; kernel_rfl; rfl | (with_reducible apply fE 1); (iterate 3 rfl); (assumption); assumption; rfl; kernel_rfl; rfl | (with_reducible apply fE 3); (iterate 3 rfl); (assumption); assumption; rfl; kernel_rfl; rfl);refine ir rfl rfl rfl rfl rfl rfl rfl rfl fp lH (fun ar aB GV => ?_);(repeat first | (with_reducible first | apply aQ | apply aS | apply cN | apply e7));obtain ⟨Dm, CN, Cp, dV, u1, DK, CV, Db, Da, rfl, rfl⟩ := id GV
        ((refine eZ rfl bc rfl (bH.refl _) GV.closed rfl fw ?_))
        exact ⟨_, rfl, rfl, GV⟩
    obtain ⟨x9, Fm⟩ := split _ rfl ck (by omega);clear split xj vq;refine dy (f := 67) Tryz.func67 rfl (dv rfl) (by exact eB rfl) ?_;(repeat first | (with_reducible apply cZ); kernel_rfl | (with_reducible apply cb (id := 1) [10,0,1,2,3,4,5,6,7,8,9,11]); kernel_rfl; kernel_rfl; rfl | (with_reducible apply cb (id := 2) [6,0,1,2,3,4,5,7]); kernel_rfl; kernel_rfl; rfl | (with_reducible apply cb (id := 3) [10,0,1,2,3,4,5,6,7,8,9,11]); kernel_rfl; kernel_rfl; rfl | (with_reducible apply cb (id := 4) [0,1,2,3,4,5,6]); kernel_rfl; kernel_rfl; rfl | (with_reducible apply cb (id := 7) [0,1,2,3,4,5,6,7,8,9]); kernel_rfl; kernel_rfl; rfl | (with_reducible first | apply a7 | apply aQ | apply aY | apply aS | apply cL) | (with_reducible apply cD); rfl; (rfl) | (with_reducible apply aN); rfl; (repeat first | (with_reducible apply ax); rfl | (with_reducible apply de); (iterate 3 rfl) | (with_reducible apply dB); (iterate 3 rfl); (exact cp (by omega)); rfl | refine cI rfl rfl rfl rfl (by (exact aM)) rfl ?_ | refine eR rfl rfl rfl rfl rfl (by (exact bI)) rfl ?_); (with_reducible apply ay) | (with_reducible apply fD 1); (iterate 4 rfl); kernel_rfl; rfl | (with_reducible apply e2 1); (iterate 4 rfl); (omega); (assumption); rfl; kernel_rfl; rfl | (with_reducible apply e2 3); (iterate 4 rfl); (omega); (assumption); rfl; kernel_rfl; rfl | (with_reducible apply fE 1); (iterate 3 rfl); (assumption); assumption; rfl; kernel_rfl; rfl | (with_reducible apply fE 3); (iterate 3 rfl); (assumption); assumption; rfl; kernel_rfl; rfl)
    by_cases tR : s.T + 1 < s.hot.length
    · rw [if_pos tR]
      have zd : (s.T : Int) + 1 < (s.hot.length : Int) := by omega
      have fR : dd E r rm { s with fnd := s.fnd, T := s.T + 1 } (eM E r rm s.ph s.I s.J ((s.T : Int) + 1) s.dirty hv fv cv b lk) (dR b S hv fv cv s.hot (s.fnd) s.ch) := ⟨hv, fv, cv, b, S, lk, hS, cY, gj, rfl, rfl⟩;(repeat first | (with_reducible first | apply cN | apply e7) | (with_reducible apply cX); rfl; (exact bg (by omega)))
      ((refine eZ rfl bc rfl (bH.refl _) fR.closed rfl fw ?_))
      exact ⟨_, rfl, rfl, fR⟩
    · rw [if_neg tR, if_neg ck]
      have zd : ¬ (s.T : Int) + 1 < (s.hot.length : Int) := by omega
      have Hy : ¬ ((s.fnd).length : Int) = 0 := fun h => ck (na (by omega));refine Q2 2 1000 9 (iO fv (s.fnd)) rfl rfl rfl ?_;refine oi 2 59 2 rfl ?_
      refine EO (dR b S hv (.slice none 0 0) cv s.hot [] s.ch) (fun k q af => by
        match k with
        | 0 => exact af
        | 1 => exact af
        | 2 => exact af
        | 3 => exact af
        | k + 4 => cases af) ?_
      have fR : dd E r rm { s with T := 0, fnd := [], ch := s.ch.set s.I (bF.dk V s.J (fW (p1, p2) (q1, q2) (s.fnd)), eG D s.J (s.fnd).length) } (eM E r rm s.ph s.I s.J 0 s.dirty hv (.slice none 0 0) cv b lk) (dR b S hv (.slice none 0 0) cv s.hot [] (s.ch.set s.I (bF.dk V s.J (fW (p1, p2) (q1, q2) (s.fnd)), eG D s.J (s.fnd).length))) := ⟨hv, _, cv, b, S, lk, hS, cY, (fun h => absurd (ht.symm.trans (show s.ph = 3 from h)) (by decide)), rfl, rfl⟩
      have nu : bS (dR b S hv (.slice none 0 0) cv s.hot [] s.ch) 3 ⟨53, 2, cv, s.ch.length, er (ee s.ch) ((s.I : Int).toNat * 2) [.p (cA 2 (bF.dk V s.J (fW (p1, p2) (q1, q2) (s.fnd))).length (bM (bF.dk V s.J (fW (p1, p2) (q1, q2) (s.fnd))))), .p (cA 1 (eG D s.J (s.fnd).length).length (cB (eG D s.J (s.fnd).length)))]⟩ = dR b S hv (.slice none 0 0) cv s.hot [] (s.ch.set s.I (bF.dk V s.J (fW (p1, p2) (q1, q2) (s.fnd)), eG D s.J (s.fnd).length)) := by
        rw [Cj rfl bu, show s.ch.length = (s.ch.set s.I (bF.dk V s.J (fW (p1, p2) (q1, q2) s.fnd), eG D s.J s.fnd.length)).length from (oc ..).symm];exact QC
      generalize HR : bF.dk V s.J (fW (p1, p2) (q1, q2) (s.fnd)) = Ki at *;generalize HS : eG D s.J (s.fnd).length = wy at *;generalize Nv : fW (p1, p2) (q1, q2) (s.fnd) = L' at *;(repeat first | (with_reducible apply iT (id := 12) [0,1,2,3,4,5,6,7,8,9,10,11,12,13,14,15,16,17,18,19,20,21,22,23,24,25,26,27,28,29,30,31,32] [4000000]); kernel_rfl; kernel_rfl; rfl | (with_reducible first | apply a7 | apply aQ | apply aY | apply aS | apply cL) | (with_reducible apply cD); rfl; (exact bl (by omega)) | (with_reducible apply aN); rfl; (repeat first | (with_reducible apply ax); rfl | (with_reducible apply de); (iterate 3 rfl) | (with_reducible apply cx); (iterate 3 rfl) | refine cI rfl rfl rfl rfl (by (first | exact et | exact nG | exact x9)) rfl ?_ | refine eR rfl rfl rfl rfl rfl (by (exact Fm)) rfl ?_); (with_reducible apply ay) | (with_reducible apply e2 3); (iterate 4 rfl); (omega); (assumption); rfl; kernel_rfl; rfl);refine sv 3 rfl rfl rfl rfl i2 rfl rfl kj.1 rfl ?_;(repeat first | (with_reducible apply cZ); kernel_rfl | (with_reducible first | apply aQ | apply aY | apply aS) | (with_reducible apply aN); rfl; (repeat first | (with_reducible apply ax); rfl | (with_reducible apply de); (iterate 3 rfl)); (with_reducible apply ay))
      ((refine eZ rfl bc rfl (bH.of_eq nu.symm) fR.closed rfl fw ?_))
      exact ⟨_, rfl, rfl, fR⟩
end
section
variable {P : Program} {R : aJ} {s : aC} {ops : Array Oper} {dr : Option (List Nat)} {ty : Nat} {pos : String} {after : Array Edge} {guard : Option (Nat × Bool)} {K : aJ → aC → Prop} {rest : List Oper}
theorem Dk {bs : List Value} {dst : Option Nat} {f : FuncId} {g : Operand} {ts : Array TypeId} {l : List Operand} {args : List ai} {m0 : Mem} {R0 : aJ} {Post : ai → Mem → aJ → Prop} [E : Enters P f] (hw : want ops ⟨dst, .call ⟨.value g, l.toArray, ts⟩, ty, pos, after, guard⟩ s = some true) (hm : dW dr ⟨dst, .call ⟨.value g, l.toArray, ts⟩, ty, pos, after, guard⟩ = true)
  (aw : s.look g = some (aR (.func (.func f) bs.toArray #[]))) (ab : bs.all B8 = true) (aL : bs.map (fun b => some (xK b)) ++ l.map s.look = args.map some) (hp : dt P f args m0 R0 Post) (az : ∀ x ∈ args, ∀ j, x.owns j → ∃ cs, m0 j = some cs) (pZ : ∀ k cs, m0 k = some cs → s.mem k = some cs ∧ (pn dr k = true ∨ ∀ r aH aB, Post r aH aB → aH k = some cs)) (ap : bH R0 R) (fT : ∀ k cs x j, m0 k = some cs → x ∈ cs → x.owns j → ∃ ar, m0 j = some ar) (hd : k8 dst s.n = true)
  (h : ∀ r aH aB, Post r aH aB → (∀ k ar, aH k = some ar → (∃ cs, m0 k = some cs) ∨ (s.mem k = none ∧ k < s.n)) ∧ cT P ops dr K rest (b5 aB R) ((s.over aH).put dst r)) : cT P ops dr K (⟨dst, .call ⟨.value g, l.toArray, ts⟩, ty, pos, after, guard⟩ :: rest) R s := by
 refine ⟨true, hw, LF hd, .inr (.inr (.inr (.inr (.inl ⟨rfl, hm, f, args, m0, R0, Post, ⟨⟨_, g, rfl, rfl, .inl ⟨bs, aw, ?_, ab⟩⟩, E.h⟩, hp, az, pZ, ap, fT, fun r aH aB h1 _ _ _ => h r aH aB h1⟩))))⟩;simpa using aL
theorem Uw (g e off : Nat) (cs : List AC) : nB g off = jJ (jb g e cs).v off := by
 show nB g off = .pointer (some ((⟨g, 0, none⟩ : Addr).add off));rw [BZ, jr]
theorem ud {x : Operand} {d lt off g e : Nat} {cs : List AC} {c1 : AC} (i : Nat) [T : gd P lt false 1] (hi : R i = some (jb g e cs)) (hw : want ops ⟨some d, .load lt x, ty, pos, after, guard⟩ s = some true) (aa : s.look x = some (aR (nB g off))) (aZ : cs[off]? = some c1) (ak : (ai.w (.one c1)).ba = true) (ap : uL ops dr (some d) = true) (hd : Nat.blt d s.n = true) (h : cT P ops dr K rest R (s.put (some d) (.w (.one c1)))) : cT P ops dr K (⟨some d, .load lt x, ty, pos, after, guard⟩ :: rest) R s :=
 gZ i hi hw (by rw [aa, Uw g e off cs]) Nat.one_pos aZ ak ap hd h
end
theorem zl {P : Program} {fn : Func} {l : List ResultVar} {xs : List bK} {R R0 bo : aJ} {s : aC} {Post : ai → Mem → aJ → Prop} (ap : fn.results = l.toArray) (h : l.map (iS P s) = xs.map some) (aA : bH bo R) (aa : (packed xs).ba = true) (aI : ∀ i r, R0 i = some r → ∃ a8, bo i = some a8) (hp : Post (packed xs) cg bo) : tW P fn cg R0 Post R s :=
 ⟨xs, packed xs, cg, bo, by rw [ap]; exact h, .refl _, hp, fun k c h => (by cases h), aA, fun j ae => absurd ae (ai.dH aa j), fun k c x j h => (by cases h), fun k c h => (by cases h), aI⟩
theorem dd.oB {E : List (Int × cc)} {r rm : Nat} {s : bF.aX an} {cs : List AC} {R : aJ} (h : dd E r rm s cs R) : R 9 = none ∧ cs.all AC.ba = true ∧ 0 < cs.length := by
 refine ⟨?_, h.closed, ?_⟩
 ·obtain ⟨_, _, _, _, _, _, _, _, _, _, rfl⟩ := h; rfl
 ·obtain ⟨_, _, _, _, _, _, _, _, _, rfl, _⟩ := h; exact jG _
section
variable {E : List (Int × cc)} {r rm : Nat}
theorem EG {f : FuncId} {s s1 : bF.aX an} {v : ai} {cs : List AC} {R : aJ} (HQ : v.ba = true) (hp : gn E r rm f [] s v s1) (bu : dd E r rm s cs R) (g e : Nat) : dt aj f [aR (eb g)] cg (bS R 9 (jb g e cs)) fun b9 aH aB => ∃ ar bo bz, (b9 = v ∧ dd E r rm s1 ar bo) ∧ aH = cg ∧ aB = bS bo 9 (jb g bz ar) := by
 have h := (hp cs R bu).afM 9 g e rfl bu.oB.2.1 bu.oB.2.2 bu.oB.1 (fun b9 aH aB al => by
  obtain ⟨ar, rfl, rfl, al⟩ := al;exact ⟨HQ, al.oB.1, ar, rfl, al.oB.2.1, al.oB.2.2⟩)
 refine ⟨fun U ad W vs cS ew dT => (h.call U ad W vs cS ew dT).mono ?_⟩;rintro dn bq ⟨v1, c3, aH, aB, bf, cM, c9, ⟨ar, bo, bz, ⟨tx, he, al⟩, rfl, rfl⟩, mo⟩
 have : tx = ar := by
  have h1 : cQ 1000 ar 1000 = some ar := by unfold cQ; exact cy _ _ _
  rw [he] at h1;exact (hT h1).2.symm
 subst this;exact ⟨v1, c3, cg, _, bf, cM, c9, ⟨tx, bo, bz, al, rfl, rfl⟩, mo⟩
theorem EF {f : FuncId} {args : List ai} {s s1 : bF.aX an} {v : ai} (HQ : v.ba = true) (eC : args.all ai.ba = true) (h : ∀ cs R, dd E r rm s cs R → ∀ g e, dt aj f (aR (eb g) :: args) cg (bS R 9 (jb g e cs)) fun b9 aH aB => ∃ ar bo bz, (b9 = v ∧ dd E r rm s1 ar bo) ∧ aH = cg ∧ aB = bS bo 9 (jb g bz ar)) : gn E r rm f args s v s1 := by
 intro cs R bu;refine dt.afL 9 (fun g e => ?_) eC bu.oB.2.1 bu.oB.2.2 bu.oB.1 (fun b9 ar aB al => ?_)
 ·refine ⟨fun U ad W vs cS ew dT => ((h cs R bu g e).call U ad W vs cS ew dT).mono ?_⟩;rintro dn bq ⟨v1, c3, aH, aB, bf, cM, c9, ⟨ar, bo, bz, al, rfl, rfl⟩, mo⟩;exact ⟨v1, c3, cg, _, bf, cM, c9, ⟨ar, bo, bz, ⟨ar, rfl, al⟩, rfl, rfl⟩, mo⟩
 ·obtain ⟨tx, he, rfl, al⟩ := al
  have : tx = ar := by
   have h1 : cQ 1000 ar 1000 = some ar := by unfold cQ; exact cy _ _ _
   rw [he] at h1;exact (hT h1).2.symm
  subst this;exact ⟨HQ, al.oB.1, al.oB.2.1, al.oB.2.2⟩
theorem ED {s s1 : bF.aX an} {cs ar : List AC} {R aB : aJ} {g e bz : Nat} (h : dd E r rm s cs R) (aF : dd E r rm s1 ar aB) : ∀ i q, bS R 9 (jb g e cs) i = some q → ∃ cK, bS aB 9 (jb g bz ar) i = some cK := by
 obtain ⟨_, _, _, _, _, _, _, _, _, _, rfl⟩ := h;obtain ⟨_, _, _, _, _, _, _, _, _, _, rfl⟩ := aF;intro i q al
 by_cases qO : i = 9
 ·subst qO; exact ⟨_, cy _ _ _⟩
 ·rw [ca _ _ qO] at al;obtain ⟨cK, qZ⟩ := fw i q al;exact ⟨cK, by rw [ca _ _ qO]; exact qZ⟩
theorem EE {s s1 : bF.aX an} {cs ar : List AC} {R aB : aJ} {g e bz : Nat} (h : dd E r rm s cs R) (aF : dd E r rm s1 ar aB) : b5 (bS aB 9 (jb g bz ar)) (bS R 9 (jb g e cs)) = bS aB 9 (jb g bz ar) := by
 have az := h.b5 aF;funext i
 by_cases qO : i = 9
 ·subst qO; exact (gv (cy _ _ _)).trans (cy _ _ _).symm
 ·have : b5 aB R i = aB i := congrFun az i;unfold b5 at this ⊢;rw [ca _ _ qO, ca _ _ qO]; exact this
theorem Z5 {s s1 : bF.aX an} (ht : s.ph = 0) (hp : gn E r rm 65 [] s lV s1) : gn E r rm 23 [] s (bD true) s1 := by
 refine EF rfl rfl fun cs R bu g e => ?_;have aM := EG rfl hp bu g e;obtain ⟨ph, I, J, T, dirty, hot, fnd, ch⟩ := s;obtain rfl : ph = 0 := ht;obtain ⟨hv, fv, cv, b, S, lk, hS, cY, gj, rfl, rfl⟩ := id bu;refine dy (f := 23) Tryz.func23 rfl (dv rfl) (by exact oD) ?_;(repeat first | (with_reducible first | apply a7 | apply aQ | apply aY | apply aS) | (with_reducible apply aN); rfl; (repeat first | (with_reducible apply ax); rfl | (with_reducible apply tp); (iterate 3 rfl) | (with_reducible apply tm); (iterate 3 rfl)); (with_reducible apply ay));refine ud 9 rfl rfl rfl rfl rfl rfl rfl ?_;(repeat first | (with_reducible first | apply a7 | apply aQ | apply aY | apply aS | apply cL) | (with_reducible apply cD); rfl; ((simp only [bB]; (omega))) | (with_reducible apply aN); rfl; (repeat first | (with_reducible apply ax); rfl | (with_reducible apply yx); (iterate 4 rfl) | (with_reducible apply tp); (iterate 3 rfl) | (with_reducible apply tm); (iterate 3 rfl)); (with_reducible apply ay));refine ud 9 rfl rfl rfl rfl rfl rfl rfl ?_;(repeat first | (with_reducible apply aN); rfl; (repeat first | (with_reducible apply ax); rfl); (with_reducible apply ay));refine Dk (bs := [eb g]) (args := [aR (eb g)]) (l := []) rfl rfl rfl rfl rfl aM (fun x aa j ae => by simp at aa; subst aa; exact absurd ae (iJ _ j)) (fun k c h => by cases h) (bH.refl _) (fun k c x j h => by cases h) rfl (fun b9 aH aB al => ?_);obtain ⟨ar, bo, bz, ⟨rfl, cn⟩, rfl, rfl⟩ := al;refine ⟨fun k c h => (by cases h), ?_⟩;rw [EE bu cn, uC];(repeat first | (with_reducible first | apply a7 | apply aQ | apply aY | apply aS | apply cN) | (with_reducible apply aN); rfl; (repeat first | (with_reducible apply ax); rfl); (with_reducible apply ay))
 ((refine zl rfl (bG rfl bc) (bH.refl _) rfl (ED bu cn) ?_))
 exact ⟨ar, bo, bz, ⟨rfl, cn⟩, rfl, rfl⟩
theorem Z6 {s s1 : bF.aX an} (ht : s.ph = 1) (hp : gn E r rm 66 [] s lV s1) : gn E r rm 23 [] s (bD true) s1 := by
 refine EF rfl rfl fun cs R bu g e => ?_;have aM := EG rfl hp bu g e;obtain ⟨ph, I, J, T, dirty, hot, fnd, ch⟩ := s;obtain rfl : ph = 1 := ht;obtain ⟨hv, fv, cv, b, S, lk, hS, cY, gj, rfl, rfl⟩ := id bu;refine dy (f := 23) Tryz.func23 rfl (dv rfl) (by exact oD) ?_;(repeat first | (with_reducible first | apply a7 | apply aQ | apply aY | apply aS) | (with_reducible apply aN); rfl; (repeat first | (with_reducible apply ax); rfl | (with_reducible apply tp); (iterate 3 rfl) | (with_reducible apply tm); (iterate 3 rfl)); (with_reducible apply ay));refine ud 9 rfl rfl rfl rfl rfl rfl rfl ?_;(repeat first | (with_reducible first | apply a7 | apply aQ | apply aY | apply aS | apply cL) | (with_reducible apply cD); rfl; ((simp only [bB]; (omega))) | (with_reducible apply aN); rfl; (repeat first | (with_reducible apply ax); rfl | (with_reducible apply yx); (iterate 4 rfl) | (with_reducible apply tp); (iterate 3 rfl) | (with_reducible apply tm); (iterate 3 rfl)); (with_reducible apply ay));refine ud 9 rfl rfl rfl rfl rfl rfl rfl ?_;(repeat first | (with_reducible apply aN); rfl; (repeat first | (with_reducible apply ax); rfl); (with_reducible apply ay));refine Dk (bs := [eb g]) (args := [aR (eb g)]) (l := []) rfl rfl rfl rfl rfl aM (fun x aa j ae => by simp at aa; subst aa; exact absurd ae (iJ _ j)) (fun k c h => by cases h) (bH.refl _) (fun k c x j h => by cases h) rfl (fun b9 aH aB al => ?_);obtain ⟨ar, bo, bz, ⟨rfl, cn⟩, rfl, rfl⟩ := al;refine ⟨fun k c h => (by cases h), ?_⟩;rw [EE bu cn, uC];(repeat first | (with_reducible first | apply a7 | apply aQ | apply aY | apply aS | apply cN) | (with_reducible apply aN); rfl; (repeat first | (with_reducible apply ax); rfl); (with_reducible apply ay))
 ((refine zl rfl (bG rfl bc) (bH.refl _) rfl (ED bu cn) ?_))
 exact ⟨ar, bo, bz, ⟨rfl, cn⟩, rfl, rfl⟩
theorem Z7 {s s1 : bF.aX an} (ht : s.ph = 2) (hp : gn E r rm 67 [] s lV s1) : gn E r rm 23 [] s (bD true) s1 := by
 refine EF rfl rfl fun cs R bu g e => ?_;have aM := EG rfl hp bu g e;obtain ⟨ph, I, J, T, dirty, hot, fnd, ch⟩ := s;obtain rfl : ph = 2 := ht;obtain ⟨hv, fv, cv, b, S, lk, hS, cY, gj, rfl, rfl⟩ := id bu;refine dy (f := 23) Tryz.func23 rfl (dv rfl) (by exact oD) ?_;(repeat first | (with_reducible first | apply a7 | apply aQ | apply aY | apply aS) | (with_reducible apply aN); rfl; (repeat first | (with_reducible apply ax); rfl | (with_reducible apply tp); (iterate 3 rfl) | (with_reducible apply tm); (iterate 3 rfl)); (with_reducible apply ay));refine ud 9 rfl rfl rfl rfl rfl rfl rfl ?_;(repeat first | (with_reducible first | apply a7 | apply aQ | apply aY | apply aS | apply cL) | (with_reducible apply cD); rfl; ((simp only [bB]; (omega))) | (with_reducible apply aN); rfl; (repeat first | (with_reducible apply ax); rfl | (with_reducible apply yx); (iterate 4 rfl) | (with_reducible apply tp); (iterate 3 rfl) | (with_reducible apply tm); (iterate 3 rfl)); (with_reducible apply ay));refine ud 9 rfl rfl rfl rfl rfl rfl rfl ?_;(repeat first | (with_reducible apply aN); rfl; (repeat first | (with_reducible apply ax); rfl); (with_reducible apply ay));refine Dk (bs := [eb g]) (args := [aR (eb g)]) (l := []) rfl rfl rfl rfl rfl aM (fun x aa j ae => by simp at aa; subst aa; exact absurd ae (iJ _ j)) (fun k c h => by cases h) (bH.refl _) (fun k c x j h => by cases h) rfl (fun b9 aH aB al => ?_);obtain ⟨ar, bo, bz, ⟨rfl, cn⟩, rfl, rfl⟩ := al;refine ⟨fun k c h => (by cases h), ?_⟩;rw [EE bu cn, uC];(repeat first | (with_reducible first | apply a7 | apply aQ | apply aY | apply aS | apply cN) | (with_reducible apply aN); rfl; (repeat first | (with_reducible apply ax); rfl); (with_reducible apply ay))
 ((refine zl rfl (bG rfl bc) (bH.refl _) rfl (ED bu cn) ?_))
 exact ⟨ar, bo, bz, ⟨rfl, cn⟩, rfl, rfl⟩
theorem Z8 {s s1 : bF.aX an} (ht : s.ph = 3) (hp : gn E r rm 68 [] s lV s1) : gn E r rm 23 [] s (bD true) s1 := by
 refine EF rfl rfl fun cs R bu g e => ?_;have aM := EG rfl hp bu g e;obtain ⟨ph, I, J, T, dirty, hot, fnd, ch⟩ := s;obtain rfl : ph = 3 := ht;obtain ⟨hv, fv, cv, b, S, lk, hS, cY, gj, rfl, rfl⟩ := id bu;refine dy (f := 23) Tryz.func23 rfl (dv rfl) (by exact oD) ?_;(repeat first | (with_reducible first | apply a7 | apply aQ | apply aY | apply aS) | (with_reducible apply aN); rfl; (repeat first | (with_reducible apply ax); rfl | (with_reducible apply tp); (iterate 3 rfl) | (with_reducible apply tm); (iterate 3 rfl)); (with_reducible apply ay));refine ud 9 rfl rfl rfl rfl rfl rfl rfl ?_;(repeat first | (with_reducible first | apply a7 | apply aQ | apply aY | apply aS | apply cL) | (with_reducible apply cD); rfl; ((simp only [bB]; (omega))) | (with_reducible apply aN); rfl; (repeat first | (with_reducible apply ax); rfl | (with_reducible apply yx); (iterate 4 rfl) | (with_reducible apply tp); (iterate 3 rfl) | (with_reducible apply tm); (iterate 3 rfl)); (with_reducible apply ay));refine ud 9 rfl rfl rfl rfl rfl rfl rfl ?_;(repeat first | (with_reducible apply aN); rfl; (repeat first | (with_reducible apply ax); rfl); (with_reducible apply ay));refine Dk (bs := [eb g]) (args := [aR (eb g)]) (l := []) rfl rfl rfl rfl rfl aM (fun x aa j ae => by simp at aa; subst aa; exact absurd ae (iJ _ j)) (fun k c h => by cases h) (bH.refl _) (fun k c x j h => by cases h) rfl (fun b9 aH aB al => ?_);obtain ⟨ar, bo, bz, ⟨rfl, cn⟩, rfl, rfl⟩ := al;refine ⟨fun k c h => (by cases h), ?_⟩;rw [EE bu cn, uC];(repeat first | (with_reducible first | apply a7 | apply aQ | apply aY | apply aS | apply cN) | (with_reducible apply aN); rfl; (repeat first | (with_reducible apply ax); rfl); (with_reducible apply ay))
 ((refine zl rfl (bG rfl bc) (bH.refl _) rfl (ED bu cn) ?_))
 exact ⟨ar, bo, bz, ⟨rfl, cn⟩, rfl, rfl⟩
theorem NZ {s : bF.aX an} (ht : 4 ≤ s.ph) (ahX : s.ph ≤ 5) : gn E r rm 23 [] s (bD false) s := by
 intro cs R bu;obtain ⟨hv, fv, cv, b, S, lk, hS, cY, gj, rfl, rfl⟩ := id bu;have aK : (s.ph : Int) ≥ 4 := by omega
 refine dy (f := 23) Tryz.func23 rfl (dv rfl) (by exact eB rfl) ?_;(repeat first | (with_reducible first | apply a7 | apply aQ | apply aY | apply aS | apply cN | apply e7) | (with_reducible apply cX); rfl; (exact bg (by omega)) | (with_reducible apply aN); rfl; (repeat first | (with_reducible apply ax); rfl | (with_reducible apply de); (iterate 3 rfl)); (with_reducible apply ay))
 ((refine eZ rfl (bG rfl bc) rfl (bH.refl _) bu.closed rfl fw ?_))
 exact ⟨_, rfl, rfl, bu⟩
end
section
variable {E : List (Int × cc)} {r rm : Nat}
abbrev mB (E : List (Int × cc)) (r rm : Nat) (s : bF.aX an) : Prop := jO (bN E r rm) (Ed (E.map Prod.snd) r) s
structure jP (E : List (Int × cc)) (r rm : Nat) : Prop where
 r : r ≤ 28
 near : h6 (E.map Prod.snd) = true
 len : E.length ≤ 300
 pos : 1 ≤ rm
 room : rm ≤ 1024
theorem jP.ok (h : jP E r rm) : l5 (bN E r rm) (Ed (E.map Prod.snd) r) := aer h.r h.near
theorem jP.n (E : List (Int × cc)) (r rm : Nat) : (bN E r rm).n = E.length := mZ ..
theorem jP.wR (h : jP E r rm) {s : bF.aX an} (ab : km (bN E r rm) s) (ao : ly (bN E r rm) (Ed (E.map Prod.snd) r) s) : ki s.ch := by
 have hlen := ao.len;rw [jP.n] at hlen;refine ⟨by have := h.len; omega, fun c ak => ?_⟩;obtain ⟨i, hi⟩ := kw ak;have h1 := (LB h.ok ab ao ak).1;have h2 : (bN E r rm).R = rm := rfl;have := h.room;exact ⟨(ao.iE i c hi).len, by omega⟩
theorem jP.hot (h : jP E r rm) {s : bF.aX an} (ab : km (bN E r rm) s) : s.hot.length ≤ 1024 := by
 have h1 := ab.room;have h2 : (bN E r rm).R = rm := rfl;have := h.room;omega
theorem NY {s : bF.aX an} (h : jP E r rm) (bu : mB E r rm s) : gn E r rm 23 [] s (bD (decide (s.ph < 4))) (dS (bN E r rm) s) := by
 obtain ⟨ab, aI | h1 | h2 | aq | aK | cO⟩ := bu
 ·have e : dS (bN E r rm) s = tG (bN E r rm) s := by simp only [dS, aI.ph]
  rw [e, aI.ph];have hi := aI.I;rw [jP.n] at hi;exact Z5 aI.ph (aaa h.r h.near h.len hi aI.dirty aI.fnd (h.hot ab) aI.ph)
 ·have e : dS (bN E r rm) s = uD (bN E r rm) s := by simp only [dS, h1.ph]
  rw [e, h1.ph];have hi := h1.J;rw [jP.n] at hi;exact Z6 h1.ph (aac h.r h.near h.len h1.yh hi h1.dirty h1.fnd (h.hot ab) h1.ph)
 ·obtain ⟨c, p, q, g1, g2, g3, au⟩ := h2.link;have g4 := cl h2.T;generalize s.hot[s.T]'h2.T = x at g4
  have e : dS (bN E r rm) s = sF (bN E r rm) s c p q (lF (bN E r rm) p q x s.fnd) := by
   simp only [dS, h2.ph, xT, g1, g2, g3, g4]
  rw [e, h2.ph];have ak := h2.laid.iE _ _ g1;have hd := LB h.ok ab h2.laid (dJ g1);have aA : (bN E r rm).R = rm := rfl;have ah2 := h.room;obtain ⟨V, D⟩ := c;have hp := ab.gW _ (ak.hot p (dJ g2));have al := ab.gW _ (ak.hot q (dJ g3));have a6 := h.hot ab
  have xj : (lF (bN E r rm) p q x s.fnd) = (s.hot.take (s.T + 1)).filter (jy (bN E r rm) p q) := by
   rw [L7 g4, au];unfold lF
   split <;> simp [*]
  refine Z7 h2.ph (aad h.r (h.wR ab h2.laid) g1 g2 g3 g4 (fun d sn => ?_) hp al h2.dirty a6 ?_ ?_ h2.ph)
  ·have := hd.2 d sn; omega
  ·rw [au];refine lT (List.length_filter_le ..) ?_;rw [eI]; omega
  ·rw [xj];exact (ab.nd.sublist (List.take_sublist ..)).filter _
 ·have e : dS (bN E r rm) s = sH (bN E r rm) s := by simp only [dS, aq.ph]
  rw [e, aq.ph];have ak := h.wR ab aq.laid;refine Z8 aq.ph (aab h.r ak ?_ aq.yh aq.J (fun l ao => ?_) aq.fnd (h.hot ab) aq.ph)
  ·have := aq.J;cases zg : s.ch with
   | nil => rw [zg] at this; simp [bb] at this
   | cons => exact jG _
  ·obtain ⟨_, a1, a2⟩ := DJ h.ok aq.laid ao;exact ⟨ab.gW _ a1, ab.gW _ a2⟩
 ·have e : dS (bN E r rm) s = s := by simp only [dS, aK.ph]
  rw [e, aK.ph];exact NZ (by rw [aK.ph]; decide) (by rw [aK.ph]; decide)
 ·have e : dS (bN E r rm) s = s := by simp only [dS, cO.ph]
  rw [e, cO.ph];exact NZ (by rw [cO.ph]; decide) (by rw [cO.ph]; decide)
end
section
variable {E : List (Int × cc)} {r rm : Nat}
theorem H6 {s : bF.aX an} : gn E r rm 24 [] s (aV s.ph) s := by
 intro cs R bu;obtain ⟨hv, fv, cv, b, S, lk, hS, cY, gj, rfl, rfl⟩ := id bu;refine dy (f := 24) Tryz.func24 rfl (dv rfl) (by exact eB rfl) ?_;(repeat first | (with_reducible first | apply a7 | apply aQ | apply aY | apply aS | apply cN) | (with_reducible apply aN); rfl; (repeat first | (with_reducible apply ax); rfl | (with_reducible apply de); (iterate 3 rfl)); (with_reducible apply ay))
 ((refine eZ rfl (bG rfl bc) rfl (bH.refl _) bu.closed rfl fw ?_))
 exact ⟨_, rfl, rfl, bu⟩
def S1 (E : List (Int × cc)) (r rm : Nat) (n : Int) (s : bF.aX an) (k : Nat) (R : aJ) (ts : List (Nat × ai)) (bw : List (Nat × List AC)) : Prop :=
 ∃ (d : Nat) (s1 : bF.aX an) (hv fv cv : Value) (b : Nat) (S : fm) (lk : AC), k = n.toNat - d ∧ d ≤ n.toNat ∧ mB E r rm s1 ∧ c5 (bN E r rm) n.toNat s = ((c5 (bN E r rm) k s1).1 + d, (c5 (bN E r rm) k s1).2) ∧ dd E r rm s1 (eM E r rm s1.ph s1.I s1.J s1.T s1.dirty hv fv cv b lk) (dR b S hv fv cv s1.hot s1.fnd s1.ch) ∧ lk.ba = true ∧ R = dR b S hv fv cv s1.hot s1.fnd s1.ch ∧ ts = [(0, rE), (1, aV n), (5, aV d)] ∧ bw = [(1000, eM E r rm s1.ph s1.I s1.J s1.T s1.dirty hv fv cv b lk)]
theorem zV {s : bF.aX an} (h : jP E r rm) (hs : mB E r rm s) {n : Int} (aE : n ≤ 1000000000000) : gn E r rm 41 [aV n] s (aV (c5 (bN E r rm) n.toNat s).1) (c5 (bN E r rm) n.toNat s).2 := by
 intro cs R bu;obtain ⟨hv, fv, cv, b, S, lk, hS, cY, gj, rfl, rfl⟩ := id bu;refine dy (f := 41) Tryz.func41 rfl (dv rfl) (by exact eB rfl) ?_;(repeat first | (with_reducible first | apply a7 | apply aQ | apply aY | apply aS | apply dY) | (with_reducible apply aN); rfl; (repeat first | (with_reducible apply ax); rfl); (with_reducible apply ay));refine kD 16 (S1 E r rm n s) n.toNat (dR b S hv fv cv s.hot s.fnd s.ch) _ [(1000, eM E r rm s.ph s.I s.J s.T s.dirty hv fv cv b lk)] ⟨0, s, hv, fv, cv, b, S, lk, rfl, ez _, hs, rfl, bu, cY, rfl, rfl, rfl⟩ (bH.refl _) rfl ⟨rfl, rfl, rfl, trivial⟩ ⟨rfl, trivial⟩ ?_ ?_
 ·cases lk <;> first | rfl | cases cY
 clear bu hS cY gj;rintro k R ts bw ⟨d, s1, hv, fv, cv, b, S, lk, rfl, hd, oR, gu, bu, cY, rfl, rfl, rfl⟩ dD;clear dD
 by_cases bj : d < n.toNat
 ·have q1 : (d : Int) < n := by omega
  have c9 : (0 : Int) ≤ (d : Int) := by omega
  obtain ⟨bC, qX⟩ : ∃ bC, n.toNat - d = bC + 1 := ⟨n.toNat - d - 1, by omega⟩;have aM := NY h oR;have hinv := (EZ h.ok oR)
  by_cases aK : s1.ph < 4
  ·rw [bg aK] at aM;(repeat first | (with_reducible first | apply a7 | apply aY) | (with_reducible apply aN); rfl; (repeat first | (with_reducible apply ax); rfl | (with_reducible apply bW (c := true)); rfl; rfl; (exact bg (by omega))); (with_reducible apply ay));refine ir rfl rfl rfl rfl rfl rfl rfl rfl aM bu (fun ar aB cn => ?_);obtain ⟨b8, df, c7, bT, dm, hb, fC, hq, iI, rfl, rfl⟩ := id cn;(repeat first | (with_reducible first | apply aQ | apply aY | apply aS | apply cL | apply dY | apply fi) | (with_reducible apply cX); rfl; (rfl) | (with_reducible apply aN); rfl; (repeat first | (with_reducible apply ax); rfl | (with_reducible apply dB); (iterate 3 rfl); (exact cp (by omega)); rfl); (with_reducible apply ay));refine ⟨bC, _, _, [(1000, eM E r rm (dS (bN E r rm) s1).ph (dS (bN E r rm) s1).I (dS (bN E r rm) s1).J (dS (bN E r rm) s1).T (dS (bN E r rm) s1).dirty b8 df c7 bT hb)], by omega, ⟨d + 1, dS (bN E r rm) s1, b8, df, c7, bT, dm, hb, by omega, by omega, hinv.1, ?_, cn, hq, rfl, rfl, rfl⟩, bH.refl _, rfl, ⟨rfl, rfl, rfl, trivial⟩, ⟨rfl, trivial⟩, ?_⟩
   ·rw [gu, qX];have y6 : ¬ 4 ≤ s1.ph := by omega
    have e : c5 (bN E r rm) (bC + 1) s1 = ((c5 (bN E r rm) bC (dS (bN E r rm) s1)).1 + 1, (c5 (bN E r rm) bC (dS (bN E r rm) s1)).2) := if_neg y6;rw [e];exact Prod.ext (by show _ + 1 + d = _ + (d + 1); omega) rfl
   ·cases hb <;> first | rfl | cases hq
  ·have y6 : 4 ≤ s1.ph := by omega
   rw [bl aK, hinv.2.2 y6] at aM;rw [AM y6] at gu;have gu : c5 (bN E r rm) n.toNat s = (d, s1) := by rw [gu]; exact Prod.ext (jr d) rfl
   (repeat first | (with_reducible first | apply a7 | apply aY) | (with_reducible apply aN); rfl; (repeat first | (with_reducible apply ax); rfl | (with_reducible apply bW (c := true)); rfl; rfl; (exact bg (by omega))); (with_reducible apply ay));refine ir rfl rfl rfl rfl rfl rfl rfl rfl aM bu (fun ar aB cn => ?_);obtain ⟨b8, df, c7, bT, dm, hb, fC, hq, iI, rfl, rfl⟩ := id cn;(repeat first | (with_reducible first | apply a7 | apply aQ | apply aY | apply aS | apply cN | apply fa | apply fc | apply fb) | (with_reducible apply cD); rfl; (rfl) | (with_reducible apply aN); rfl; (repeat first | (with_reducible apply ax); rfl); (with_reducible apply ay))
   ((refine eZ rfl (bG rfl bc) rfl (bH.refl _) cn.closed rfl fw ?_))
   refine ⟨_, rfl, ?_, ?_⟩
   ·rw [gu]; rfl
   ·rw [gu]; exact cn
 ·have q1 : ¬ (d : Int) < n := by omega
  have gV : n.toNat - d = 0 := by omega
  rw [gV] at gu;have gu : c5 (bN E r rm) n.toNat s = (d, s1) := by rw [gu]; exact Prod.ext (jr d) rfl
  (repeat first | (with_reducible first | apply a7 | apply aQ | apply aY | apply aS | apply cN | apply fa | apply fc | apply fb) | (with_reducible apply cD); rfl; (rfl) | (with_reducible apply aN); rfl; (repeat first | (with_reducible apply ax); rfl | (with_reducible apply bW (c := false)); rfl; rfl; (exact bl (by omega))); (with_reducible apply ay))
  ((refine eZ rfl (bG rfl bc) rfl (bH.refl _) bu.closed rfl fw ?_))
  refine ⟨_, rfl, ?_, ?_⟩
  ·rw [gu]; rfl
  ·rw [gu]; exact bu
def ve (ch : List (List an × List Int)) : Int := ch.foldl (fun a c => max a (pL c.2)) 0
theorem VC {ch : List (List an × List Int)} {k : Nat} {c : List an × List Int} (h : ch[k]? = some c) : ve (ch.take (k + 1)) = max (ve (ch.take k)) (pL c.2) := by
 have af := (bV.1 h).1
 have e : ch.take (k + 1) = ch.take k ++ [c] := by
  rw [pi af, (bV.1 h).2]
 unfold ve;rw [e, List.foldl_append]; rfl
def Sf (E : List (Int × cc)) (r rm : Nat) (s : bF.aX an) (hv fv cv : Value) (b : Nat) (S : fm) (lk : AC) (n : Nat) (R : aJ) (ts : List (Nat × ai)) (bw : List (Nat × List AC)) : Prop :=
 ∃ (k : Nat) (fz d : Int), k ≤ s.ch.length ∧ n = s.ch.length - k ∧ fz = k ∧ d = ve (s.ch.take k) ∧ R = dR b S hv fv cv s.hot s.fnd s.ch ∧ ts = [(3, aV d), (10, aR cv), (11, aV s.ch.length), (12, aV fz)] ∧ bw = [(1000, eM E r rm s.ph s.I s.J s.T s.dirty hv fv cv b lk)]
theorem ZV {s : bF.aX an} (ak : ki s.ch) : gn E r rm 25 [] s (aV (ve s.ch)) s := by
 intro cs R bu;obtain ⟨hv, fv, cv, b, S, lk, hS, cY, gj, rfl, rfl⟩ := id bu;refine dy (f := 25) Tryz.func25 rfl (dv rfl) (by exact eB rfl) ?_;(repeat first | (with_reducible first | apply a7 | apply aQ | apply aY | apply aS | apply dY) | (with_reducible apply aN); rfl; (repeat first | (with_reducible apply ax); rfl | (with_reducible apply de); (iterate 3 rfl)); (with_reducible apply ay) | (with_reducible apply fD 3); (iterate 4 rfl); kernel_rfl; rfl);refine kD 22 (Sf E r rm s hv fv cv b S lk) s.ch.length (dR b S hv fv cv s.hot s.fnd s.ch) _ [(1000, eM E r rm s.ph s.I s.J s.T s.dirty hv fv cv b lk)] ⟨0, 0, 0, ez _, rfl, rfl, rfl, rfl, rfl, rfl⟩ (bH.refl _) rfl ⟨rfl, rfl, rfl, rfl, trivial⟩ ⟨rfl, trivial⟩ ?_ ?_
 ·cases lk <;> first | rfl | cases cY
 rintro n R ts bw ⟨k, fz, d, af, rfl, kT, mb, rfl, rfl, rfl⟩ dD;clear dD;have hlen := ak.1
 by_cases al : k < s.ch.length
 ·obtain ⟨V, D, g1⟩ : ∃ V D, s.ch[k]? = some (V, D) := ⟨_, _, cl al⟩;obtain ⟨jU, iH⟩ := ak.2 _ (dJ g1);simp only at jU iH;obtain ⟨kj, nI⟩ := Ci (ii := fz) kT g1;have q2 : fz < (s.ch.length : Int) := by omega
  have cj : 0 ≤ fz := by omega
  have eH : 0 < s.ch.length := by omega
  have aD := VC g1;rw [← mb, show max d (pL (V, D).2) = if pL D > d then pL D else d by show max d (pL D) = _; split <;> omega] at aD;have aM := ZU V D iH (by omega);(repeat first | (with_reducible first | apply a7 | apply aQ | apply aY | apply aS | apply cL | apply dY | apply fi) | (with_reducible apply cX); rfl; (exact bg (by omega)) | (with_reducible apply aN); rfl; (repeat first | (with_reducible apply ax); rfl | (with_reducible apply dB); (iterate 3 rfl); (exact cp (by omega)); rfl | (with_reducible apply fX); (iterate 4 rfl) | refine dj rfl rfl rfl (by (exact aM)) rfl ?_); (with_reducible apply ay) | (with_reducible apply e2 3); (iterate 4 rfl); (omega); (assumption); rfl; kernel_rfl; rfl | (with_reducible apply fE 3); (iterate 3 rfl); (assumption); assumption; rfl; kernel_rfl; rfl);refine ⟨s.ch.length - (k + 1), dR b S hv fv cv s.hot s.fnd s.ch, _, [(1000, eM E r rm s.ph s.I s.J s.T s.dirty hv fv cv b lk)], by omega, ⟨k + 1, fz + 1, _, by omega, rfl, by omega, aD.symm, rfl, rfl, rfl⟩, bH.refl _, rfl, ⟨rfl, rfl, rfl, rfl, trivial⟩, ⟨rfl, trivial⟩, ?_⟩;cases lk <;> first | rfl | cases cY
 ·have q2 : ¬ fz < (s.ch.length : Int) := by omega
  have dn : s.ch.take k = s.ch := iy (by omega);rw [dn] at mb;(repeat first | (with_reducible first | apply a7 | apply aQ | apply aY | apply aS | apply cN | apply fa | apply fc | apply fb) | (with_reducible apply cD); rfl; (exact bl (by omega)) | (with_reducible apply aN); rfl; (repeat first | (with_reducible apply ax); rfl); (with_reducible apply ay))
  ((refine eZ rfl (bG rfl bc) rfl (bH.refl _) bu.closed rfl fw ?_))
  exact ⟨_, rfl, by rw [← mb]; rfl, bu⟩
end
theorem Kx {n : Nat} {xs : List AC} (aE : n ≤ 900000) (ak : xs.all AC.ba = true) (aa : xs.length = 2 * n) : pq aj 131 [cU 2 n xs] fun v q => ∃ aW, v = aR aW ∧ q = ⟨59, 2, aW, n, xs⟩ := by
 refine FR rfl (fun v q h => by obtain ⟨aW, rfl, _⟩ := h; rfl) ?_;refine dy (f := 131) Tryz.func131 rfl (dv rfl) (by exact oD) ?_;(repeat first | (with_reducible first | apply a7 | apply aQ | apply aY | apply aS) | (with_reducible apply aN); rfl; (repeat first | (with_reducible apply ax); rfl | (with_reducible apply FV); (iterate 3 rfl)); (with_reducible apply ay));refine Q3 4 rfl ?_;intro b ab;cases b with
 | true =>
  have aI := ab rfl;subst aI;have h1 := na aa;subst h1;clear ab;refine oi 0 59 2 rfl ?_;(repeat first | (with_reducible first | apply a7 | apply aQ | apply aY | apply aS | apply cN | apply e7) | (with_reducible apply cX); rfl; (assumption) | (with_reducible apply aN); rfl; (repeat first | (with_reducible apply ax); rfl); (with_reducible apply ay))
  ((refine zm rfl (bG rfl bc) rfl rfl (jG _) ?_))
  exact ⟨.slice none 0 0, rfl, rfl⟩
 | false =>
  clear ab;(repeat first | (with_reducible first | apply a7 | apply aQ | apply aY | apply cL) | (with_reducible apply cD); rfl; (rfl));refine Nh 0 rfl rfl rfl rfl rfl (fun v0 sy => ?_);(repeat first | (with_reducible apply aN); rfl; (repeat first | (with_reducible apply ax); rfl); (with_reducible apply ay));refine q0 0 rfl rfl rfl rfl ?q1 ?q2 ak rfl (fun v1 jh => ?_)
  case q1 => exact li (by show 0 + n ≤ 1000000; omega)
  case q2 => show (0 + n) * 16 ≤ 140737488355328; omega
  (repeat first | (with_reducible first | apply aQ | apply aS | apply cN) | (with_reducible apply aN); rfl; (repeat first | (with_reducible apply ax); rfl); (with_reducible apply ay))
  ((refine zm rfl (bG rfl bc) rfl rfl (jG _) ?_))
  exact ⟨v1, rfl, by rw [List.nil_append, jr]⟩
theorem Tp {n : Nat} {xs : List AC} (aE : n ≤ 900000) (ak : xs.all AC.ba = true) (aa : xs.length = 2 * n) : pq aj 132 [cU 2 n xs] fun v q => ∃ aW, v = aR aW ∧ q = ⟨53, 2, aW, n, xs⟩ := by
 refine FR rfl (fun v q h => by obtain ⟨aW, rfl, _⟩ := h; rfl) ?_;refine dy (f := 132) Tryz.func132 rfl (dv rfl) (by exact oD) ?_;(repeat first | (with_reducible first | apply a7 | apply aQ | apply aY | apply aS) | (with_reducible apply aN); rfl; (repeat first | (with_reducible apply ax); rfl | (with_reducible apply FV); (iterate 3 rfl)); (with_reducible apply ay));refine Q3 4 rfl ?_;intro b ab;cases b with
 | true =>
  have aI := ab rfl;subst aI;have h1 := na aa;subst h1;clear ab;refine oi 0 53 2 rfl ?_;(repeat first | (with_reducible first | apply a7 | apply aQ | apply aY | apply aS | apply cN | apply e7) | (with_reducible apply cX); rfl; (assumption) | (with_reducible apply aN); rfl; (repeat first | (with_reducible apply ax); rfl); (with_reducible apply ay))
  ((refine zm rfl (bG rfl bc) rfl rfl (jG _) ?_))
  exact ⟨.slice none 0 0, rfl, rfl⟩
 | false =>
  clear ab;(repeat first | (with_reducible first | apply a7 | apply aQ | apply aY | apply cL) | (with_reducible apply cD); rfl; (rfl));refine Nh 0 rfl rfl rfl rfl rfl (fun v0 sy => ?_);(repeat first | (with_reducible apply aN); rfl; (repeat first | (with_reducible apply ax); rfl); (with_reducible apply ay));refine q0 0 rfl rfl rfl rfl ?q1 ?q2 ak rfl (fun v1 jh => ?_)
  case q1 => exact li (by show 0 + n ≤ 1000000; omega)
  case q2 => show (0 + n) * 48 ≤ 140737488355328; omega
  (repeat first | (with_reducible first | apply aQ | apply aS | apply cN) | (with_reducible apply aN); rfl; (repeat first | (with_reducible apply ax); rfl); (with_reducible apply ay))
  ((refine zm rfl (bG rfl bc) rfl rfl (jG _) ?_))
  exact ⟨v1, rfl, by rw [List.nil_append, jr]⟩
abbrev ie (k rm ph I J T : Int) (dirty : Bool) (hv fv cv : Value) : List AC := [.c (.int .i64 k), .c (.int .i64 rm), .c (.int .i64 ph), .c (.int .i64 I), .c (.int .i64 J), .c (.int .i64 T), .c (.bool dirty), .c hv, .c fv, .c cv]
abbrev s0 (hv fv cv : Value) (hot fnd : List an) (ch : List (List an × List Int)) : aJ := bS (bS (bL 1 (iO hv hot)) 2 (iO fv fnd)) 3 (wQ cv ch)
abbrev eV (hv fv cv : Value) (hot fnd : List an) (ch : List (List an × List Int)) (R : aJ) : aJ := bS (bS (bS R 4 (iO hv hot)) 5 (iO fv fnd)) 6 (wQ cv ch)
theorem aem {hv fv cv : Value} {hot fnd : List an} {ch : List (List an × List Int)} {R : aJ} : bS (eV hv fv cv hot fnd ch R) 6 (wQ cv ch) = eV hv fv cv hot fnd ch R := by
 funext k
 by_cases gV : k = 6
 ·subst gV; rfl
 ·rw [ca _ _ gV]
theorem yK (ch : List (List an × List Int)) : (ee ch).length = 2 * ch.length := by
 unfold ee; induction ch with
 | nil => rfl
 | cons c l cF => rw [List.flatMap_cons, dl, cF, mq]; show 2 + _ = _; omega
theorem U1 (ch : List (List an × List Int)) : ∀ y ∈ ee ch, y.ba = true := fun y ag => by
 obtain ⟨c, _, h⟩ := List.mem_flatMap.1 ag;simp only [pG, hf, rj, or_false] at h;rcases h with rfl | rfl <;> rfl
theorem NN (l : List an) : ∀ y ∈ bM l, y.ba = true := cC.1 (vJ l)
theorem U3 {ch : List (List an × List Int)} {i : Nat} {V : List an} {D : List Int} (h : ch[i]? = some (V, D)) : er (ee ch) (2 * i) [.p (cA 2 V.length (bM V)), .p (cA 1 D.length (cB D))] = ee ch := by
 have hi := (bV.1 h).1
 have e : ch = ch.take i ++ (V, D) :: ch.drop (i + 1) := by
  conv => lhs; rw [← j9 i ch, mr hi, (bV.1 h).2]
 have aO : ee ch = ee (ch.take i) ++ ([.p (cA 2 V.length (bM V)), .p (cA 1 D.length (cB D))] ++ ee (ch.drop (i + 1))) := by
  conv => lhs; rw [e]
  simp [ee, pG]
 have ao : (ee (ch.take i)).length = 2 * i := by rw [yK, eI]; congr 1; omega
 rw [aO, EX ao];simp
def Se (hv fv cv b8 df c7 : Value) (k rm ph I J T : Int) (dirty : Bool) (hot fnd : List an) (ch : List (List an × List Int)) (n : Nat) (R : aJ) (ts : List (Nat × ai)) (bw : List (Nat × List AC)) : Prop :=
 ∃ (i : Nat) (ii : Int), i ≤ ch.length ∧ n = ch.length - i ∧ ii = i ∧ R = eV b8 df c7 hot fnd ch (s0 hv fv cv hot fnd ch) ∧ ts = [(1, .w (.one (.own 1 0))), (2, .w (.one (.own 2 0))), (18, aR c7), (19, aV ch.length), (20, aV ii)] ∧ bw = [(1, ie k rm ph I J T dirty b8 df c7), (2, ie 0 0 0 0 0 0 false (.slice none 0 0) (.slice none 0 0) (.slice none 0 0))]
theorem Z9 {k rm ph I J T : Int} {dirty : Bool} {hv fv cv : Value} {hot fnd : List an} {ch : List (List an × List Int)} (a6 : hot.length ≤ 900000) (au : fnd.length ≤ 900000) (ak : ki ch) :
  dt aj 70 [.w (.agg (ie k rm ph I J T dirty hv fv cv))] cg (s0 hv fv cv hot fnd ch) fun b9 aH aB => ∃ b8 df c7, b9 = .w (.agg (ie k rm ph I J T dirty b8 df c7)) ∧ aH = cg ∧ aB = eV b8 df c7 hot fnd ch (s0 hv fv cv hot fnd ch) := by
 have hlen := ak.1;have hX : ∀ aU : List AC, aU.length = (iO hv hot).aU.length → aU.all AC.ba = true → pq aj 131 [cU 2 hot.length aU] fun v q => ∃ aW, v = aR aW ∧ q = ⟨59, 2, aW, hot.length, aU⟩ := fun aU ao ag => Kx a6 ag (by rw [ao, lM, Nat.mul_comm]);have lv : ∀ aU : List AC, aU.length = (iO fv fnd).aU.length → aU.all AC.ba = true → pq aj 131 [cU 2 fnd.length aU] fun v q => ∃ aW, v = aR aW ∧ q = ⟨59, 2, aW, fnd.length, aU⟩ := fun aU ao ag => Kx au ag (by rw [ao, lM, Nat.mul_comm]);have uR : ∀ aU : List AC, aU.length = (wQ cv ch).aU.length → aU.all AC.ba = true → pq aj 132 [cU 2 ch.length aU] fun v q => ∃ aW, v = aR aW ∧ q = ⟨53, 2, aW, ch.length, aU⟩ := fun aU ao ag => Tp (by omega) ag (by rw [ao, yK]);refine dy (f := 70) Tryz.func70 rfl (dv rfl) (by exact oD) ?_;(repeat first | (with_reducible apply iT (id := 1) [0,1,3,4,6,7,2,9,5,8,10,11,12,13,14] [7,10,13]); kernel_rfl; kernel_rfl; rfl | (with_reducible first | apply a7 | apply aQ | apply aY | apply aS) | (with_reducible apply aN); rfl; (repeat first | (with_reducible apply ax); rfl); (with_reducible apply ay));refine HI 1 4 (by decide) rfl rfl rfl rfl hX rfl (jG _) (NN _) rfl (fun b8 => ?_);(repeat first | (with_reducible apply aN); rfl; (repeat first | (with_reducible apply ax); rfl); (with_reducible apply ay));refine HI 2 5 (by decide) rfl rfl rfl rfl lv rfl (jG _) (NN _) rfl (fun df => ?_)
 skip
 refine HI 3 6 (by decide) rfl rfl rfl rfl uR rfl (jG _) (U1 _) rfl (fun c7 => ?_);(repeat first | (with_reducible apply cZ); kernel_rfl | (with_reducible first | apply a7 | apply aQ | apply aY | apply aS | apply dY) | (with_reducible apply aN); rfl; (repeat first | (with_reducible apply ax); rfl); (with_reducible apply ay) | (with_reducible apply fD 6); (iterate 4 rfl); kernel_rfl; rfl);refine kD 33 (Se hv fv cv b8 df c7 k rm ph I J T dirty hot fnd ch) ch.length (eV b8 df c7 hot fnd ch (s0 hv fv cv hot fnd ch)) _ [(1, ie k rm ph I J T dirty b8 df c7), (2, ie 0 0 0 0 0 0 false (.slice none 0 0) (.slice none 0 0) (.slice none 0 0))] ⟨0, 0, ez _, rfl, rfl, rfl, rfl, rfl⟩ (bH.refl _) rfl ⟨rfl, rfl, rfl, rfl, rfl, trivial⟩ ⟨rfl, rfl, trivial⟩ rfl ?_;rintro n R ts bw ⟨i, ii, hi, rfl, gi, rfl, rfl, rfl⟩ dD;clear dD
 by_cases al : i < ch.length
 ·obtain ⟨V, D, g1⟩ : ∃ V D, ch[i]? = some (V, D) := ⟨_, _, cl al⟩;obtain ⟨jU, iH⟩ := ak.2 _ (dJ g1);simp only at jU iH;obtain ⟨kj, nI⟩ := Ci (ii := ii) gi g1;have aM := ZT V D iH (by omega);have q2 : ii < (ch.length : Int) := by omega
  have cj : 0 ≤ ii := by omega
  have eH : 0 < ch.length := by omega
  have aG : ii.toNat * 2 = 2 * i := by omega
  have p6 : ii.toNat * 2 + 2 ≤ (ee ch).length := by rw [yK]; omega
  have cz : er (ee ch) (ii.toNat * 2) [.p (cA 2 V.length (bM V)), .p (cA 1 D.length (cB D))] = ee ch := by rw [aG]; exact U3 g1
  (repeat first | (with_reducible apply iT (id := 5) [0,1,2,3,4,5,6] [4000000]); kernel_rfl; kernel_rfl; rfl | (with_reducible first | apply a7 | apply aQ | apply aY | apply aS | apply cL | apply dY) | (with_reducible apply cX); rfl; (exact bg (by omega)) | (with_reducible apply aN); rfl; (repeat first | (with_reducible apply ax); rfl | refine dj rfl rfl rfl (by (exact aM)) rfl ?_); (with_reducible apply ay) | (with_reducible apply e2 6); (iterate 4 rfl); (omega); (assumption); rfl; kernel_rfl; rfl | (with_reducible apply fE 6); (iterate 3 rfl); (assumption); assumption; rfl; kernel_rfl; rfl);refine sv 6 rfl rfl rfl rfl eH rfl rfl p6 rfl ?_;(repeat first | (with_reducible apply cZ); kernel_rfl | (with_reducible first | apply aQ | apply aY | apply aS | apply fi) | (with_reducible apply aN); rfl; (repeat first | (with_reducible apply ax); rfl | (with_reducible apply dB); (iterate 3 rfl); (exact cp (by omega)); rfl); (with_reducible apply ay));refine ⟨ch.length - (i + 1), eV b8 df c7 hot fnd ch (s0 hv fv cv hot fnd ch), _, [(1, ie k rm ph I J T dirty b8 df c7), (2, ie 0 0 0 0 0 0 false (.slice none 0 0) (.slice none 0 0) (.slice none 0 0))], by omega, ⟨i + 1, ii + 1, by omega, rfl, by omega, rfl, rfl, rfl⟩, fun k q af => ?_, rfl, ⟨rfl, rfl, rfl, rfl, rfl, trivial⟩, ⟨rfl, rfl, trivial⟩, rfl⟩
  have eX : bS (eV b8 df c7 hot fnd ch (s0 hv fv cv hot fnd ch)) 6 (⟨53, 2, c7, ch.length, er (ee ch) (ii.toNat * 2) [.p (cA 2 V.length (bM V)), .p (cA 1 D.length (cB D))]⟩ : bQ) = eV b8 df c7 hot fnd ch (s0 hv fv cv hot fnd ch) := by
   rw [cz]; exact aem
  exact (congrFun eX k).trans af
 ·have q2 : ¬ ii < (ch.length : Int) := by omega
  (repeat first | (with_reducible first | apply a7 | apply aQ | apply aY | apply aS | apply cN | apply fa | apply fc | apply fb) | (with_reducible apply cD); rfl; (exact bl (by omega)) | (with_reducible apply aN); rfl; (repeat first | (with_reducible apply ax); rfl); (with_reducible apply ay))
  ((refine zl rfl (fj rfl rfl rfl bc) (bH.refl _) rfl (fun j q h => ?_) ?_))
  ·match j with
   | 0 => cases h
   | 1 => exact ⟨_, rfl⟩
   | 2 => exact ⟨_, rfl⟩
   | 3 => exact ⟨_, rfl⟩
   | j + 4 => cases h
  ·exact ⟨b8, df, c7, rfl, rfl, rfl⟩
theorem aed {b : Nat} {S : fm} {hv fv cv : Value} {hot fnd : List an} {ch : List (List an × List Int)} : bH (s0 hv fv cv hot fnd ch) (dR b S hv fv cv hot fnd ch)
 | 0, _, h => by cases h
 | 1, _, h => h
 | 2, _, h => h
 | 3, _, h => h
 | k + 4, _, h => by cases h
theorem aeo {b : Nat} {S : fm} {hv fv cv b8 df c7 : Value} {hot fnd : List an} {ch : List (List an × List Int)} : b5 (eV b8 df c7 hot fnd ch (s0 hv fv cv hot fnd ch)) (dR b S hv fv cv hot fnd ch) = eV b8 df c7 hot fnd ch (dR b S hv fv cv hot fnd ch) := by
 funext i
 match i with
 | 0 => rfl
 | 1 => rfl
 | 2 => rfl
 | 3 => rfl
 | 4 => rfl
 | 5 => rfl
 | 6 => rfl
 | i + 7 => rfl
theorem aen {hv fv cv : Value} {hot fnd : List an} {ch : List (List an × List Int)} {R : aJ} : ∀ i r, R i = some r → ∃ a8, eV hv fv cv hot fnd ch R i = some a8 := fun i r h => by
 by_cases sa : i = 6
 ·subst sa; exact ⟨_, cy _ _ _⟩
 ·by_cases lD : i = 5
  ·subst lD; exact ⟨_, rfl⟩
  ·by_cases eX : i = 4
   ·subst eX; exact ⟨_, rfl⟩
   ·exact ⟨r, by unfold eV; rw [ca _ _ sa, ca _ _ lD, ca _ _ eX]; exact h⟩
section
variable {E : List (Int × cc)} {r rm : Nat}
theorem NX {s : bF.aX an} (a6 : s.hot.length ≤ 900000) (au : s.fnd.length ≤ 900000) (ak : ki s.ch) {cs : List AC} {R : aJ} (bu : dd E r rm s cs R) :
  dt aj 28 [rE] (cQ 1000 cs) R (nF 1000 fun b9 ar aB => ∃ hv fv cv, b9 = .w (.agg (ie r rm s.ph s.I s.J s.T s.dirty hv fv cv)) ∧ ar = cs ∧ aB = eV hv fv cv s.hot s.fnd s.ch R) := by
 obtain ⟨hv, fv, cv, b, S, lk, hS, cY, gj, rfl, rfl⟩ := id bu;have aM := Z9 (k := (r : Int)) (rm := (rm : Int)) (ph := (s.ph : Int)) (I := (s.I : Int)) (J := (s.J : Int)) (T := (s.T : Int)) (dirty := s.dirty) (hv := hv) (fv := fv) (cv := cv) a6 au ak;refine dy (f := 28) Tryz.func28 rfl (dv rfl) (by exact eB rfl) ?_;(repeat first | (with_reducible first | apply a7 | apply aQ | apply aY | apply aS) | (with_reducible apply aN); rfl; (repeat first | (with_reducible apply ax); rfl | (with_reducible apply de); (iterate 3 rfl)); (with_reducible apply ay));refine Nf (l := _) (args := [_]) rfl rfl rfl rfl aM aed rfl rfl ?_;rintro _ _ _ ⟨b8, df, c7, rfl, rfl, rfl⟩;refine ⟨rfl, ?_⟩;rw [aeo];(repeat first | (with_reducible first | apply aQ | apply aS | apply cN) | (with_reducible apply aN); rfl; (repeat first | (with_reducible apply ax); rfl); (with_reducible apply ay))
 ((refine eZ rfl (fj rfl rfl rfl bc) rfl (bH.refl _) bu.closed rfl aen ?_))
 exact ⟨_, rfl, b8, df, c7, rfl, rfl, rfl⟩
end
instance aii : ox aj 28 91 5 40 := ⟨by kernel_rfl⟩
abbrev JA : ai := aR (.func (.func 100) #[] #[])
theorem PQ {x y : Int} : aT aj 101 [bh x y] (bD (gN (x, y))) := by
 have cs : ((if y < x then y else x) ≥ -134217728 ∧ gN (x, y) = decide ((if y > x then y else x) < 134217728)) ∨ (¬ (if y < x then y else x) ≥ -134217728 ∧ gN (x, y) = false) := by
  by_cases h : (if y < x then y else x) ≥ -134217728
  ·refine .inl ⟨h, ?_⟩;rw [sR, sL, decide_eq_true_iff];show ((_ ≤ x ∧ x < _) ∧ _ ≤ y ∧ y < _) ↔ _
   split at h <;> split <;> omega
  ·refine .inr ⟨h, ?_⟩;cases aE : gN (x, y) with
   | false => rfl
   | true =>
    obtain ⟨⟨a1, a2⟩, a3, a4⟩ : ((_ ≤ x ∧ x < _) ∧ _ ≤ y ∧ y < _) := sL.1 aE
    split at h <;> omega
 rcases cs with ⟨h, e⟩ | ⟨h, e⟩
 all_goals
  rw [e];refine cd (f := 101) Tryz.func101 rfl rfl rfl rfl ?_;(repeat first | (with_reducible apply ax); rfl | (with_reducible apply gq); (iterate 4 rfl) | (with_reducible apply fX); (iterate 4 rfl) | (with_reducible apply bW (c := true)); rfl; rfl; (exact bg (by omega)) | (with_reducible apply bW (c := false)); rfl; rfl; (exact bl (by omega)) | (with_reducible first | apply bR | apply bJ | apply bO | apply ay | apply b7))
  ((refine bX rfl (bG rfl bc) ?_))
  exact ai.br.refl _
abbrev wN (x : Int × cc) : Bool := !(gN x.2.1 && gN x.2.2)
theorem acW {o a b c d : Int} : aT aj 100 [.w (.agg [.c (.int .i64 a), .c (.int .i64 b), .c (.int .i64 c), .c (.int .i64 d), .c (.int .i64 o)])] (bD (wN (o, (a, b), (c, d)))) := by
 have aM := PQ (x := a) (y := b);have bI := PQ (x := c) (y := d);unfold wN;simp only;cases h1 : gN (a, b) with
 | true =>
  rw [h1] at aM;rw [rq];refine cd (f := 100) Tryz.func100 rfl rfl rfl rfl ?_;(repeat first | (with_reducible apply ax); rfl | refine dj rfl rfl rfl (by (first | exact aM | exact bI)) rfl ?_ | (with_reducible first | apply bR | apply bJ | apply bO | apply ay | apply b7))
  ((refine bX rfl (bG rfl bc) ?_))
  exact ai.br.refl _
 | false =>
  rw [h1] at aM;rw [Bool.false_and];refine cd (f := 100) Tryz.func100 rfl rfl rfl rfl ?_;(repeat first | (with_reducible apply ax); rfl | refine dj rfl rfl rfl (by (exact aM)) rfl ?_ | (with_reducible first | apply bR | apply bJ | apply bO | apply ay | apply b7))
  ((refine bX rfl (bG rfl bc) ?_))
  exact ai.br.refl _
def tN : List (Int × cc) → Int → Int
 | [], _ => -1
 | p :: l, i => if wN p = true then i else tN l (i + 1)
theorem Mf (p : Int × cc) (l : List (Int × cc)) (i : Int) : tN (p :: l) i = if wN p = true then i else tN l (i + 1) := rfl
theorem Me : ∀ (l : List (Int × cc)) (i : Int), 0 ≤ i → (decide (tN l i ≥ 0)) = !h6 (l.map Prod.snd)
 | [], i, h => rfl
 | p :: l, i, h => by
  have cF := Me l (i + 1) (by omega);have e : h6 ((p :: l).map Prod.snd) = ((gN p.2.1 && gN p.2.2) && h6 (l.map Prod.snd)) := rfl;rw [e, Mf];unfold wN;cases hp : (gN p.2.1 && gN p.2.2) with
  | false => rw [if_pos (show (!false) = true from rfl), Bool.false_and]; exact bg h
  | true => rw [if_neg (by decide), rq]; exact cF
def Sq (E : List (Int × cc)) (k : Nat) (ts : List (Nat × ai)) (bw : List (Nat × List AC)) : Prop :=
 ∃ (i : Nat) (ii : Int), i ≤ E.length ∧ k = E.length - i ∧ ii = i ∧ tN E 0 = tN (E.drop i) ii ∧ bw = [] ∧ ts = [(0, kX E), (1, JA), (7, aV E.length), (8, aV ii)]
theorem adi {E : List (Int × cc)} (ap : E.length ≤ 4611686018427387904) : aT aj 163 [kX E, JA] (aV (tN E 0)) := by
 refine cd (f := 163) Tryz.func163 rfl rfl rfl rfl ?_;(repeat first | (with_reducible apply ax); rfl | (with_reducible apply cx); (iterate 3 rfl) | (with_reducible first | apply bR | apply bJ | apply bO | apply ay | apply gg));refine wL 19 (Sq E) E.length _ [] ⟨0, 0, ez _, rfl, rfl, rfl, rfl, rfl⟩ rfl ⟨rfl, rfl, rfl, rfl, trivial⟩ trivial rfl ?_;rintro n ts bw ⟨j, dM, ae, rfl, oN, gK, rfl, rfl⟩ dD;clear dD
 by_cases hp : j < E.length
 ·have p2 : dM < (E.length : Int) := by omega
  have p3 : 0 ≤ dM := by omega
  obtain ⟨o, a, b, c, d, g1⟩ : ∃ o a b c d, E[j]? = some (o, (a, b), (c, d)) := ⟨_, _, _, _, _, cl hp⟩;have kj := wX oN g1;have hd : E.drop j = (o, (a, b), (c, d)) :: E.drop (j + 1) := by rw [mr hp, (bV.1 g1).2]
  have kk := acW (o := o) (a := a) (b := b) (c := c) (d := d);rw [hd, Mf] at gK;cases au : wN (o, (a, b), (c, d)) with
  | true =>
   rw [au] at gK kk;rw [if_pos rfl] at gK;rw [gK];(repeat first | (with_reducible apply ax); rfl | (with_reducible apply ed); (iterate 5 rfl) | (with_reducible apply dC); (iterate 3 rfl); (omega); (omega); (assumption); rfl | refine dj rfl rfl rfl (by (exact kk)) rfl ?_ | (with_reducible first | apply bR | apply bJ | apply bO | apply ay | apply b7 | apply eU | apply fL | apply gg | apply k4) | (with_reducible apply ik); rfl | (with_reducible apply fZ); rfl; (exact bg (by omega)))
   ((refine bX rfl (bG rfl bc) ?_))
   exact ai.br.refl _
  | false =>
   rw [au] at gK kk;rw [if_neg (by simp)] at gK;(repeat first | (with_reducible apply ax); rfl | (with_reducible apply ed); (iterate 5 rfl) | (with_reducible apply dC); (iterate 3 rfl); (omega); (omega); (assumption); rfl | (with_reducible apply dB); (iterate 3 rfl); (exact cp (by omega)); rfl | refine dj rfl rfl rfl (by (exact kk)) rfl ?_ | (with_reducible first | apply bR | apply bJ | apply bO | apply ay | apply eU | apply gg | apply lA) | (with_reducible apply gU); rfl | (with_reducible apply fZ); rfl; (exact bg (by omega)));exact ⟨E.length - (j + 1), _, [], by omega, ⟨j + 1, dM + 1, hp, rfl, by omega, gK, rfl, rfl⟩, rfl, ⟨rfl, rfl, rfl, rfl, trivial⟩, trivial, rfl⟩
 ·have e : j = E.length := by omega
  subst e;rw [List.drop_length] at gK;rw [show tN [] dM = -1 from rfl] at gK;rw [gK];(repeat first | (with_reducible apply ax); rfl | (with_reducible first | apply bR | apply bJ | apply bO | apply ay | apply b7 | apply qC | apply qJ | apply qI) | (with_reducible apply gT); rfl; (exact bl (by omega)))
  ((refine bX rfl (bG rfl bc) ?_))
  exact ai.br.refl _
theorem ac3 {E : List (Int × cc)} (ap : E.length ≤ 4611686018427387904) : aT aj 99 [kX E, JA] (bD (!h6 (E.map Prod.snd))) := by
 have kk := adi ap;rw [← Me E 0 (by decide)];refine cd (f := 99) Tryz.func99 rfl rfl rfl rfl ?_;(repeat first | (with_reducible apply ax); rfl | refine cI rfl rfl rfl rfl (by (exact kk)) rfl ?_ | (with_reducible first | apply bR | apply bJ | apply bO | apply ay | apply b7))
 ((refine bX rfl (bG rfl bc) ?_))
 exact ai.br.refl _
theorem acV {E : List (Int × cc)} (ap : E.length ≤ 4611686018427387904) : aT aj 53 [kX E] (bD (h6 (E.map Prod.snd))) := by
 have kk := ac3 ap;have e : h6 (E.map Prod.snd) = !(!h6 (E.map Prod.snd)) := (Bool.not_not _).symm;rw [e];generalize (!h6 (E.map Prod.snd)) = q at *;refine cd (f := 53) Tryz.func53 rfl rfl rfl rfl ?_;(repeat first | (with_reducible apply ax); rfl | refine cI rfl rfl rfl rfl (by (exact kk)) rfl ?_ | (with_reducible first | apply bR | apply bJ | apply bO | apply ay | apply b7))
 ((refine bX rfl (bG rfl bc) ?_))
 exact ai.br.refl _
theorem ac2 {E : List (Int × cc)} (ap : E.length ≤ 900000) : aT aj 55 [kX E] (kX E) := by
 refine cd (f := 55) Tryz.func55 rfl rfl rfl rfl ?_;(repeat first | (with_reducible apply ax); rfl | (with_reducible apply FV); (iterate 3 rfl) | (with_reducible first | apply bR | apply bJ | apply bO | apply ay));refine Uk 4 rfl ?_;intro b ab;cases b with
 | true =>
  have aI := na (ab rfl);subst aI;clear ab;(repeat first | (with_reducible apply ax); rfl | (with_reducible first | apply bR | apply bJ | apply bO | apply ay | apply b7 | apply fL) | (with_reducible apply ik); rfl)
  ((refine bX rfl (bG rfl bc) ?_))
  exact O4 5
 | false =>
  clear ab;have z0 : 0 + E.length = E.length := jr _;(repeat first | (with_reducible apply ax); rfl | (with_reducible apply T3); rfl; rfl | (with_reducible apply TE); (iterate 3 rfl); (exact li (by omega)); (omega); (assumption); (rfl); rfl | (with_reducible first | apply bR | apply bJ | apply bO | apply ay | apply b7 | apply eU) | (with_reducible apply gU); rfl)
  ((refine bX rfl (bG rfl bc) ?_))
  exact ai.br.refl _
end Go.Proofs.YtpochbhajmbfdaaGreat
