/-
  My own texts, without what this claim does not need. My own text.
-/
import Derived.Test.YtpochbhajmbfdaaGreatSLastK11
set_option maxRecDepth 100000
set_option maxHeartbeats 64000000
set_option linter.unusedVariables false
set_option linter.unusedSimpArgs false
set_option linter.unusedSectionVars false
open Go.Proofs.Tryz renaming prog → aj
namespace Go.Proofs.YtpochbhajmbfdaaGreat
open Go.RowKit
open bx
section
variable {P : Program} {br : eS} {bY A : Nat → Prop} {R : aJ} {s : aD} {a : Act} {w : World} {ad : Nat → Nat} {c : Code} {Q : Exit → aJ → aD → Prop}
theorem ep.adv {cq : Nat → Nat} (gq : ∀ i j, cq i = cq j → i = j) (h : ep br bY R s a w A ad) : ep br bY (fun i => R (cq i)) s a w A ad :=
 ⟨h.up, h.sub, h.rel, h.ov, h.below, fun i r hi => h.rows (cq i) r hi, fun i j r q hi ae gg g aw => h.apart (cq i) (cq j) r q hi ae (fun e => gg (gq i j e)) g aw, fun i r g hi aw => h.hot (cq i) r g hi aw, h.jQ⟩
theorem aeb (i j : Nat) (h : fp P c Q (fun x => R (swp i j x)) s) : fp P c Q R s := fun ok br bY a w ⟨A, ad, ay⟩ => h ok br bY a w ⟨A, ad, ay.adv fun x y e => by rw [← mQ i j x, e, mQ]⟩
end
theorem IR {A B ds : List AC} {off : Nat} (h : A.length = off) : ey (A ++ B) off ds = A ++ ds ++ B.drop ds.length := by
 unfold ey;rw [← h, List.take_left, List.drop_append, vq (by omega), Nat.add_sub_cancel_left]; simp
def JE (E : List (Int × b6)) (r rm : Nat) (s : bx.aT ao) (cs : List AC) (R : aJ) : Prop := ∃ (hv fv cv : Value) (b : Nat) (S : eZ) (lk : AC), sS rm s.hot (dP b) S ∧ lk.bc = true ∧ cs = er E r rm s.ph s.I s.J s.T s.dirty hv fv cv b lk ∧ R = dG b S hv fv cv s.hot s.fnd s.ch
def JC (E : List (Int × b6)) (r rm : Nat) (f : FuncId) (args : List ai) (s : bx.aT ao) (v : ai) (s' : bx.aT ao) : Prop :=
 ∀ cs R, JE E r rm s cs R → dn aj f (qZ :: args) (cM 1000 cs) R (nS 1000 fun b7 ar az => b7 = v ∧ dv E r rm s' ar az)
section
variable {P : Program} {R : aJ} {s : aD} {ops : Array Oper} {dr : Option (List Nat)} {ty : Nat} {pos : String} {after : Array Edge} {guard : Option (Nat × Bool)} {K : aJ → aD → Prop} {rest : List Oper}
theorem MO {E : List (Int × b6)} {r rm : Nat} {eF s1 : bx.aT ao} {v : ai} {dst : Option Nat} {f : FuncId} {g : Operand} {aS : Array TypeId} {l : List Operand} {args : List ai} {cs : List AC} [EM : Enters aj f] (hw : want ops ⟨dst, .call ⟨.value g, l.toArray, aS⟩, ty, pos, after, guard⟩ s = some true) (hm : dJ dr ⟨dst, .call ⟨.value g, l.toArray, aS⟩, ty, pos, after, guard⟩ = true)
  (aw : s.look g = some (aQ (.func (.func f) #[] #[]))) (aK : l.map s.look = (qZ :: args).map some) (af : s.mem 1000 = some cs) (gZ : oP dr 1000 = true) (ek : args.all ai.bc = true) (hd : kH dst s.n = true) (hp : JC E r rm f args eF v s1) (bq : JE E r rm eF cs R)
  (h : ∀ ar az, dv E r rm s1 ar az → cL aj ops dr K rest az ((s.dV 1000 ar).put dst v)) : cL aj ops dr K (⟨dst, .call ⟨.value g, l.toArray, aS⟩, ty, pos, after, guard⟩ :: rest) R s := by
 have ak : cs.all AC.bc = true := by
  obtain ⟨hv, fv, cv, b, S, lk, _, cQ, rfl, _⟩ := bq;simp only [j1, mr, cQ]; rfl
 refine CP 1000 hw hm aw aK (hp cs R bq) af gZ (bH.refl _) ak ek hd ?_;rintro _ ar az ⟨rfl, aC⟩
 have : bZ az R = az := by
  obtain ⟨_, _, _, _, _, _, _, _, _, rfl⟩ := bq;obtain ⟨_, _, _, _, _, _, _, _, _, _, rfl⟩ := aC;exact P4
 rw [this];exact h ar az aC
end
section
variable {E : List (Int × b6)} {r rm : Nat}
theorem NB {s : bx.aT ao} (hd : s.dirty = false) (au : s.fnd = []) (ak : kb s.ch) (aG : 0 < s.ch.length) : JC E r rm 177 [] s lu (kW (e3 s 2 0 0)) := by
 have e5 := NA (E := E) (r := r) (rm := rm) (s := e3 s 2 0 0) hd rfl ak aG (eC _) rfl;obtain ⟨ph, I, J, T, dirty, hot, fnd, ch⟩ := s;obtain rfl : dirty = false := hd;obtain rfl : fnd = [] := au;rintro cs R ⟨hv, fv, cv, b, S, lk, hS, cQ, rfl, rfl⟩;have cX : (er E r rm ph I J T false hv fv cv b lk).all AC.bc = true := by simp only [j1, mr, cQ]; rfl
 have aP := C5 (E := E) (k := r) (rm := rm) (ph := ph) (I := I) (J := J) (T := T) (dirty := false) (hv := hv) (fv := fv) (cv := cv) (b := b) cQ 2 0;refine dk (f := 177) Tryz.func177 rfl (dh rfl) (by exact ej rfl) ?_;(repeat first | (with_reducible first | apply ba | apply a7) | (with_reducible apply aM); exact rfl; (repeat first | (with_reducible apply aA); exact rfl); (with_reducible apply aB));refine jV 1000 rfl rfl rfl rfl aP rfl rfl cX rfl rfl ?_;(repeat first | (with_reducible first | apply aR | apply a7 | apply aU) | (with_reducible apply aM); exact rfl; (repeat first | (with_reducible apply aA); exact rfl); (with_reducible apply aB));refine hM rfl rfl rfl rfl rfl rfl rfl rfl e5 ⟨hv, fv, cv, b, S, lk, hS, cQ, fun h => (by cases h), rfl, rfl⟩ (fun ar az cg => ?_);(repeat first | with_reducible apply aU);obtain ⟨b4, c4, cU, bK, dd, gF, fj, gM, h7, rfl, rfl⟩ := id cg
 ((refine eI rfl bf rfl (bH.refl _) cg.closed rfl e8 ?_))
 exact ⟨_, rfl, rfl, cg⟩
theorem Ny {s : bx.aT ao} (au : s.fnd = []) (ak : kb s.ch) (aG : 0 < s.ch.length) : fT E r rm 130 [] s lu (mP s) := by
 unfold mP
 by_cases hd : s.dirty = true
 ·rw [if_pos hd];have e5 := NB (E := E) (r := r) (rm := rm) (s := { s with dirty := false }) rfl au ak aG;obtain ⟨ph, I, J, T, dirty, hot, fnd, ch⟩ := s;obtain rfl : dirty = true := hd;obtain rfl : fnd = [] := au;rintro cs R ⟨hv, fv, cv, b, S, lk, hS, cQ, fQ, rfl, rfl⟩;simp only at e5 ⊢;refine dk (f := 130) Tryz.func130 rfl (dh rfl) (by exact ej rfl) ?_;(repeat first | (with_reducible first | apply ba | apply aR | apply a7 | apply aU | apply cS) | (with_reducible apply c6); exact rfl; (exact rfl) | (with_reducible apply aM); exact rfl; (repeat first | (with_reducible apply aA); exact rfl | (with_reducible apply c3); (iterate 3 exact rfl)); (with_reducible apply aB));refine MO rfl rfl rfl rfl rfl rfl rfl rfl e5 ⟨hv, fv, cv, b, S, .c (.slice none 0 0), hS, rfl, rfl, rfl⟩ (fun ar az cg => ?_);(repeat first | with_reducible apply aU);obtain ⟨b4, c4, cU, bK, dd, gF, fj, gM, h7, rfl, rfl⟩ := id cg
  ((refine eI rfl bf rfl (bH.refl _) cg.closed rfl e8 ?_))
  exact ⟨_, rfl, rfl, cg⟩
 ·have hd : s.dirty = false := by cases h : s.dirty <;> simp_all
  rw [if_neg (by rw [hd]; decide)];exact Nz hd au
theorem aa4 (p q : ao) : fS p q = (vi p q, vh p q) := by
 unfold fS vi vh; split <;> rfl
def R3 (E : List (Int × b6)) (r rm : Nat) (s : bx.aT ao) (hv fv cv v : Value) (b : Nat) (S : eZ) (lk : AC) (gR : List (List ao × List Int)) (Z : List AC) (n : Nat) (R : aJ) (aS : List (Nat × ai)) (bD : List (Nat × List AC)) : Prop :=
 ∃ (i : Nat) (ii : Int), i ≤ E.length ∧ n = E.length - i ∧ ii = i ∧ R = bM (dG b S hv fv cv s.hot [] s.ch) 4 ⟨53, 2, v, E.length, eA (gR.take i) ++ Z.drop (2 * i)⟩ ∧ aS = [(0, qZ), (2, aQ v), (11, aW E.length), (12, aW ii)] ∧ bD = [(1000, er E r rm s.ph s.I s.J s.T false hv fv cv b lk)]
theorem Nx {s : bx.aT ao} (aq : r ≤ 28) (h4 : ja (E.map Prod.snd) = true) (an : E.length ≤ 300) (aG : 0 < E.length) (hd : s.dirty = false) (au : s.fnd = []) : fT E r rm 121 [] s lu (kQ (bz E r rm) s) := by
 rintro cs R ⟨hv, fv, cv, b, S, lk, hS, cQ, fQ, rfl, rfl⟩;rw [hd, au];have cX : (er E r rm s.ph s.I s.J s.T false hv fv cv b lk).all AC.bc = true := by simp only [j1, mr, cQ]; rfl
 obtain ⟨gR, qv⟩ : ∃ gR, gR = (List.range (bz E r rm).n).map fun k => fS ((bz E r rm).P k) ((bz E r rm).Q k) := ⟨_, rfl⟩;have aF : gR.length = E.length := by rw [qv]; simp [pE]
 have Xj : kb gR := by
  refine ⟨by omega, fun c ak => ?_⟩;rw [qv] at ak;obtain ⟨k, _, rfl⟩ := hU.1 ak;unfold fS; split
  ·exact ⟨rfl, Nat.le_add_left 1 1099⟩
  ·exact ⟨rfl, Nat.le_add_left 2 1098⟩
 have e5 := NB (E := E) (r := r) (rm := rm) (s := { s with ch := gR }) hd au Xj (by show 0 < gR.length; omega);rw [show kW (e3 ({ s with ch := gR } : bx.aT ao) 2 0 0) = kQ (bz E r rm) s by rw [qv]; rfl] at e5
 have gn : ∀ i o (a : b6), E[i]? = some (o, a) → gR[i]? = some (fS (li r a.1) (li r a.2)) := fun i o a h => by
  have hi := (bS.1 h).1;have e : (E.map Prod.snd).getD i k7 = a := by rw [xp, eD, h]; rfl
  rw [qv, eD, List.getElem?_range (by simpa [pE] using hi)];show some (fS (li r ((E.map Prod.snd).getD i k7).1) (li r ((E.map Prod.snd).getD i k7).2)) = _;rw [e]
 have cn : ∀ i o (a : b6), E[i]? = some (o, a) → gQ a.1 = true ∧ gQ a.2 = true := fun i o a h => by
  have := oz h4 i;rw [xp, eD, h] at this;exact this
 have Cr : (hD E.length 2 [.slice none 0 0, .slice none 0 0]).length = 2 * E.length := by unfold hD; simp; omega
 clear qv;refine dk (f := 121) Tryz.func121 rfl (dh rfl) (by exact ej rfl) ?_;(repeat first | (with_reducible first | apply ba | apply a7) | (with_reducible apply aM); exact rfl; (repeat first | (with_reducible apply aA); exact rfl | (with_reducible apply c3); (iterate 3 exact rfl) | (with_reducible apply dC); (iterate 3 exact rfl)); (with_reducible apply aB));refine zb (l := E.length) (c' := E.length) 4 rfl rfl rfl rfl (dL _) rfl rfl ?h2 (kR (by omega)) rfl (fun v iF => ?_)
 case h2 => omega
 (repeat first | (with_reducible first | apply ba | apply aR | apply a7 | apply aU) | (with_reducible apply aM); exact rfl; (repeat first | (with_reducible apply aA); exact rfl); (with_reducible apply aB));generalize hD E.length 2 [.slice none 0 0, .slice none 0 0] = Z at *;(repeat first | (with_reducible first | apply aR | apply aU | apply eM) | (with_reducible apply aM); exact rfl; (repeat first | (with_reducible apply aA); exact rfl); (with_reducible apply aB) | (with_reducible apply nn 4); (iterate 4 exact rfl); kernel_rfl; exact rfl);refine ls 32 (R3 E r rm s hv fv cv v b S lk gR Z) E.length (bM (dG b S hv fv cv s.hot [] s.ch) 4 ⟨53, 2, v, E.length, Z⟩) _ [(1000, er E r rm s.ph s.I s.J s.T false hv fv cv b lk)] ⟨0, 0, eC _, rfl, rfl, rfl, rfl, rfl⟩ (bH.refl _) rfl ⟨rfl, rfl, rfl, rfl, trivial⟩ ⟨rfl, trivial⟩ ?_ ?_
 ·cases lk <;> first | rfl | cases cQ
 rintro n R aS bD ⟨i, ii, hi, rfl, gX, rfl, rfl, rfl⟩ dU;clear dU
 have aE : (eA (gR.take i)).length = 2 * i := by
  have := Cd (f := o9) (z := 2) (fun _ => rfl) (gR.take i);rw [eg] at this;unfold eA; rw [this]; omega
 by_cases al : i < E.length
 ·have q2 : ii < (E.length : Int) := by omega
  have b5 : 0 ≤ ii := by omega
  have ew : 0 < E.length := by omega
  obtain ⟨o, ⟨p1, p2⟩, ⟨cE, cF⟩, g1⟩ : ∃ o p q, E[i]? = some (o, p, q) := ⟨_, _, _, cm al⟩;obtain ⟨hP, iI⟩ := cn _ _ _ g1;have g2 := gn _ _ _ g1;have aP := HC (E := E) (k := r) (rm := rm) (ph := s.ph) (I := s.I) (J := s.J) (T := s.T) (dirty := false) (hv := hv) (fv := fv) (cv := cv) (b := b) aq rfl cQ (by omega) g1 hP iI;rw [← gX] at aP;have cc := Zn (ct p1 r) (ct p2 r) (ct cE r) (ct cF r);have aN : fS (li r (p1, p2)) (li r (cE, cF)) = (vi (ct p1 r, ct p2 r) (ct cE r, ct cF r), vh (ct p1 r, ct p2 r) (ct cE r, ct cF r)) := aa4 _ _;rw [aN] at g2;clear aN hP iI g1;generalize ct p1 r = a1 at *;generalize ct p2 r = a2 at *;generalize ct cE r = a3 at *;generalize ct cF r = a4 at *;generalize vi (a1, a2) (a3, a4) = V at *;generalize vh (a1, a2) (a3, a4) = D at *;have aI : ii.toNat * 2 = 2 * i := by omega
  have G3 : ii.toNat * 2 + 2 ≤ (eA (gR.take i) ++ Z.drop (2 * i)).length := by rw [cR, aE, hT, Cr]; omega
  have cC : ey (eA (gR.take i) ++ Z.drop (2 * i)) (ii.toNat * 2) [.p (cz 2 V.length (b3 V)), .p (cz 1 D.length (cD D))] = eA (gR.take (i + 1)) ++ Z.drop (2 * (i + 1)) := by
   rw [IR (by rw [aE, aI]), List.drop_drop];congr 1;have bi : i < gR.length := by omega
   rw [nF bi, show gR[i] = (V, D) from mo ((cm bi).symm.trans g2)];simp [eA, o9]
  (repeat first | (with_reducible first | apply ba | apply aR | apply a7 | apply aU | apply cS | apply eM) | (with_reducible apply dz); exact rfl; (exact bB (by omega)) | (with_reducible apply aM); exact rfl; (repeat first | (with_reducible apply aA); exact rfl); (with_reducible apply aB));refine jV 1000 rfl rfl rfl rfl aP rfl rfl cX rfl rfl ?_;(repeat first | (with_reducible apply aM); exact rfl; (repeat first | (with_reducible apply aA); exact rfl | refine dM rfl rfl rfl rfl (by (exact cc)) rfl ?_); (with_reducible apply aB) | (with_reducible apply jw 4); (iterate 4 exact rfl); (omega); (assumption); exact rfl; kernel_rfl; exact rfl);refine zd 4 rfl rfl rfl rfl ew rfl rfl G3 rfl ?_;(repeat first | (with_reducible first | apply aR | apply a7 | apply aU | apply j3) | (with_reducible apply aM); exact rfl; (repeat first | (with_reducible apply aA); exact rfl | (with_reducible apply fh); (iterate 3 exact rfl); (exact da (by omega)); exact rfl); (with_reducible apply aB));refine ⟨E.length - (i + 1), bM (dG b S hv fv cv s.hot [] s.ch) 4 ⟨53, 2, v, E.length, eA (gR.take (i + 1)) ++ Z.drop (2 * (i + 1))⟩, _, [(1000, er E r rm s.ph s.I s.J s.T false hv fv cv b lk)], by omega, ⟨i + 1, ii + 1, by omega, rfl, by omega, rfl, rfl, rfl⟩, fun k q af => ?_, rfl, ⟨rfl, rfl, rfl, rfl, trivial⟩, ⟨rfl, trivial⟩, ?_⟩
  ·rw [← cC] at af
   by_cases gU : k = 4
   ·subst gU; exact af
   ·rw [cj _ _ gU] at af ⊢;rw [cj _ _ gU]; exact af
  ·cases lk <;> first | rfl | cases cQ
 ·have q2 : ¬ ii < (E.length : Int) := by omega
  have dp : gR.take i = gR := hA (by omega);have aI : Z.drop (2 * i) = [] := List.drop_eq_nil_of_le (by omega);rw [dp, aI, pF];refine aeb 3 4 ?_;refine Ee (dG b S hv fv v s.hot [] gR) (fun k q af => ?_) ?_
  ·match k with
   | 0 => exact af
   | 1 => exact af
   | 2 => exact af
   | 3 => rw [← aF]; exact af
   | k + 4 => cases af
  (repeat first | (with_reducible first | apply ba | apply aR | apply a7 | apply aU | apply j4 | apply j6 | apply j5) | (with_reducible apply c6); exact rfl; (exact bR (by omega)) | (with_reducible apply aM); exact rfl; (repeat first | (with_reducible apply aA); exact rfl | (with_reducible apply c3); (iterate 3 exact rfl)); (with_reducible apply aB));refine MO rfl rfl rfl rfl rfl rfl rfl rfl e5 ⟨hv, fv, v, b, S, lk, hS, cQ, by rw [hd], by rw [au]⟩ (fun ar az cg => ?_);(repeat first | with_reducible apply aU);obtain ⟨b4, c4, cU, bK, dd, gF, fj, gM, h7, rfl, rfl⟩ := id cg
  ((refine eI rfl bf rfl (bH.refl _) cg.closed rfl e8 ?_))
  exact ⟨_, rfl, rfl, cg⟩
end
section
variable {E : List (Int × b6)} {r rm : Nat}
theorem Bw {n : Nat} (h : n ≠ 5) : Nat.beq n 5 = false := by
 cases aC : Nat.beq n 5 with
 | false => rfl
 | true => exact absurd (gS aC) h
theorem CA {o : cG ao} {s : bx.aT ao} {q : ao} (h : s.fnd = []) : (df o s q).fnd = [] := by
 unfold df; split
 ·exact h
 ·split
  ·exact h
  ·rfl
theorem Cz {o : cG ao} {s : bx.aT ao} {q : ao} : (df o s q).dirty = s.dirty ∧ (df o s q).ch = s.ch ∧ (df o s q).hot.length ≤ s.hot.length + 1 := by
 unfold df; split
 ·exact ⟨rfl, rfl, Nat.le_succ _⟩
 ·split
  ·exact ⟨rfl, rfl, by simp⟩
  ·exact ⟨rfl, rfl, Nat.le_succ _⟩
theorem CB {o : cG ao} {s : bx.aT ao} {q : ao} (h : (df o s q).ph ≠ 5) : (df o s q).ph = s.ph ∧ (df o s q).I = s.I ∧ (df o s q).J = s.J ∧ (df o s q).T = s.T := by
 revert h
 unfold df; split
 ·exact fun _ => ⟨rfl, rfl, rfl, rfl⟩
 ·split
  ·exact fun _ => ⟨rfl, rfl, rfl, rfl⟩
  ·exact fun h => absurd rfl h
theorem ZF {s : bx.aT ao} (aq : r ≤ 28) (h4 : ja (E.map Prod.snd) = true) (an : E.length ≤ 300) (aG : 0 < E.length) (hd : s.dirty = false) (au : s.fnd = []) : fT E r rm 117 [] s lu (if E.length < 2 then kQ (bz E r rm) s else e3 s 1 0 1) := by
 have e5 := Nx (E := E) (r := r) (rm := rm) (s := e3 s 1 0 1) aq h4 an aG hd rfl;rw [show kQ (bz E r rm) (e3 s 1 0 1) = kQ (bz E r rm) s from rfl] at e5;obtain ⟨ph, I, J, T, dirty, hot, fnd, ch⟩ := s;obtain rfl : dirty = false := hd;obtain rfl : fnd = [] := au;rintro cs R ⟨hv, fv, cv, b, S, lk, hS, cQ, fQ, rfl, rfl⟩;have cX : (er E r rm ph I J T false hv fv cv b lk).all AC.bc = true := by simp only [j1, mr, cQ]; rfl
 have W5 : (er E r rm 1 0 1 0 false hv fv cv b lk).all AC.bc = true := by simp only [j1, mr, cQ]; rfl
 have aP := C5 (E := E) (k := r) (rm := rm) (ph := ph) (I := I) (J := J) (T := T) (dirty := false) (hv := hv) (fv := fv) (cv := cv) (b := b) cQ 1 1
 by_cases h2 : E.length < 2
 ·rw [if_pos h2];have wG : (1 : Int) ≥ (E.length : Int) := by omega
  refine dk (f := 117) Tryz.func117 rfl (dh rfl) (by exact ej rfl) ?_;(repeat first | (with_reducible first | apply ba | apply a7) | (with_reducible apply aM); exact rfl; (repeat first | (with_reducible apply aA); exact rfl); (with_reducible apply aB));refine jV 1000 rfl rfl rfl rfl aP rfl rfl cX rfl rfl ?_;(repeat first | (with_reducible apply ev); kernel_rfl | (with_reducible apply dR (id := 1) [0,1,2,3,4,5,6,7,8,9,10]); kernel_rfl; kernel_rfl; exact rfl | (with_reducible first | apply ba | apply aR | apply a7 | apply aU) | (with_reducible apply dz); exact rfl; (exact bB (by omega)) | (with_reducible apply aM); exact rfl; (repeat first | (with_reducible apply aA); exact rfl | (with_reducible apply c3); (iterate 3 exact rfl) | (with_reducible apply dC); (iterate 3 exact rfl)); (with_reducible apply aB));refine hM rfl rfl rfl rfl rfl rfl rfl rfl e5 ⟨hv, fv, cv, b, S, lk, hS, cQ, fun h => (by cases h), rfl, rfl⟩ (fun ar az cg => ?_);(repeat first | with_reducible apply aU);obtain ⟨b4, c4, cU, bK, dd, gF, fj, gM, h7, rfl, rfl⟩ := id cg
  ((refine eI rfl bf rfl (bH.refl _) cg.closed rfl e8 ?_))
  exact ⟨_, rfl, rfl, cg⟩
 ·rw [if_neg h2];have wG : ¬ (1 : Int) ≥ (E.length : Int) := by omega
  refine dk (f := 117) Tryz.func117 rfl (dh rfl) (by exact ej rfl) ?_;(repeat first | (with_reducible first | apply ba | apply a7) | (with_reducible apply aM); exact rfl; (repeat first | (with_reducible apply aA); exact rfl); (with_reducible apply aB));refine jV 1000 rfl rfl rfl rfl aP rfl rfl cX rfl rfl ?_;(repeat first | (with_reducible apply ev); kernel_rfl | (with_reducible apply dR (id := 1) [0,1,2,3,4,5,6,7,8,9,10]); kernel_rfl; kernel_rfl; exact rfl | (with_reducible first | apply ba | apply aR | apply aU | apply cS) | (with_reducible apply c6); exact rfl; (exact bR (by omega)) | (with_reducible apply aM); exact rfl; (repeat first | (with_reducible apply aA); exact rfl | (with_reducible apply c3); (iterate 3 exact rfl) | (with_reducible apply dC); (iterate 3 exact rfl)); (with_reducible apply aB))
  ((refine eI rfl bf rfl (bH.refl _) W5 rfl e8 ?_))
  exact ⟨_, rfl, rfl, hv, fv, cv, b, S, lk, hS, cQ, fun h => (by cases h), rfl, rfl⟩
theorem FO {i : Nat} {o : Int} {a : b6} (h : E[i]? = some (o, a)) : (E.map Prod.snd).getD i k7 = a := by rw [xp, eD, h]; rfl
theorem ZA {s : bx.aT ao} (aq : r ≤ 28) (h4 : ja (E.map Prod.snd) = true) (an : E.length ≤ 300) (bq : s.I < E.length) (hd : s.dirty = false) (au : s.fnd = []) (aY : s.hot.length ≤ 1024) (gO : s.ph = 0) : fT E r rm 65 [] s lu (qj (bz E r rm) s) := by
 obtain ⟨o, ⟨p1, p2⟩, ⟨cE, cF⟩, g1⟩ : ∃ o p q, E[s.I]? = some (o, p, q) := ⟨_, _, _, cm bq⟩;have h3 := FO g1;have aF := oz h4 s.I;rw [h3] at aF;have Vf : (bz E r rm).P s.I = (ct p1 r, ct p2 r) := by show li r ((E.map Prod.snd).getD s.I k7).1 = _; rw [h3]; rfl
 have Vg : (bz E r rm).Q s.I = (ct cE r, ct cF r) := by show li r ((E.map Prod.snd).getD s.I k7).2 = _; rw [h3]; rfl
 have BW : (bz E r rm).n = E.length := lU ..;have H1 := HD (E := E) (r := r) (rm := rm) (s := s) (x := ct p1 r) (y := ct p2 r) (by omega) au (by omega);unfold qj;rw [Vf, Vg, BW];have rT := Cz (o := bz E r rm) (s := s) (q := (ct p1 r, ct p2 r));have wM := CA (o := bz E r rm) (q := (ct p1 r, ct p2 r)) au;have uV := CB (o := bz E r rm) (s := s) (q := (ct p1 r, ct p2 r));generalize oh : df (bz E r rm) s (ct p1 r, ct p2 r) = s1 at *
 by_cases q1 : s1.ph = 5
 ·rw [if_pos q1];rw [q1] at H1;rintro cs R jo;obtain ⟨hv, fv, cv, b, S, lk, hS, cQ, fQ, rfl, rfl⟩ := id jo;have cX := jo.closed;have aP := HC (E := E) (k := r) (rm := rm) (ph := s.ph) (I := s.I) (J := s.J) (T := s.T) (dirty := s.dirty) (hv := hv) (fv := fv) (cv := cv) (b := b) aq rfl cQ (by omega) g1 aF.1 aF.2;clear oh;generalize ct p1 r = a1 at *;generalize ct p2 r = a2 at *;generalize ct cE r = a3 at *;generalize ct cF r = a4 at *;refine dk (f := 65) Tryz.func65 rfl (dh rfl) (by exact ej rfl) ?_;(repeat first | (with_reducible first | apply ba | apply a7) | (with_reducible apply aM); exact rfl; (repeat first | (with_reducible apply aA); exact rfl | (with_reducible apply c3); (iterate 3 exact rfl)); (with_reducible apply aB));refine jV 1000 rfl rfl rfl rfl aP rfl rfl cX rfl rfl ?_;(repeat first | (with_reducible first | apply ba | apply aR | apply a7 | apply aU) | (with_reducible apply aM); exact rfl; (repeat first | (with_reducible apply aA); exact rfl); (with_reducible apply aB));refine hM rfl rfl rfl rfl rfl rfl rfl rfl H1 jo (fun ar az cg => ?_);(repeat first | (with_reducible first | apply aR | apply aU | apply db | apply hh) | (with_reducible apply dz); exact rfl; (exact rfl) | (with_reducible apply aM); exact rfl; (repeat first | (with_reducible apply aA); exact rfl); (with_reducible apply aB));obtain ⟨b4, c4, cU, bK, dd, gF, fj, gM, h7, rfl, rfl⟩ := id cg
  ((refine eI rfl bf rfl (bH.refl _) cg.closed rfl e8 ?_))
  exact ⟨_, rfl, rfl, cg⟩
 ·rw [if_neg q1];obtain ⟨m1, m2, m3, m4⟩ := uV q1;rw [Bw q1] at H1;have b8 := HD (E := E) (r := r) (rm := rm) (s := s1) (x := ct cE r) (y := ct cF r) (by omega) wM q1;have Cv := Cz (o := bz E r rm) (s := s1) (q := (ct cE r, ct cF r));have XA := CA (o := bz E r rm) (q := (ct cE r, ct cF r)) wM;have GZ := CB (o := bz E r rm) (s := s1) (q := (ct cE r, ct cF r));generalize y7 : df (bz E r rm) s1 (ct cE r, ct cF r) = s2 at *;have fC := ZF (E := E) (r := r) (rm := rm) (s := { s2 with I := s2.I + 1 }) aq h4 an (by omega) (by show s2.dirty = false; rw [Cv.1, rT.1]; exact hd) XA;rw [show kQ (bz E r rm) { s2 with I := s2.I + 1 } = kQ (bz E r rm) s2 from rfl, show e3 ({ s2 with I := s2.I + 1 } : bx.aT ao) 1 0 1 = e3 s2 1 0 1 from rfl] at fC;rintro cs R jo;obtain ⟨hv, fv, cv, b, S, lk, hS, cQ, fQ, rfl, rfl⟩ := id jo;have cX := jo.closed;have aP := HC (E := E) (k := r) (rm := rm) (ph := s.ph) (I := s.I) (J := s.J) (T := s.T) (dirty := s.dirty) (hv := hv) (fv := fv) (cv := cv) (b := b) aq rfl cQ (by omega) g1 aF.1 aF.2;clear oh y7
  by_cases q2 : s2.ph = 5
  ·rw [if_pos q2];rw [q2] at b8;clear fC;generalize ct p1 r = a1 at *;generalize ct p2 r = a2 at *;generalize ct cE r = a3 at *;generalize ct cF r = a4 at *;refine dk (f := 65) Tryz.func65 rfl (dh rfl) (by exact ej rfl) ?_;(repeat first | (with_reducible first | apply ba | apply a7) | (with_reducible apply aM); exact rfl; (repeat first | (with_reducible apply aA); exact rfl | (with_reducible apply c3); (iterate 3 exact rfl)); (with_reducible apply aB));refine jV 1000 rfl rfl rfl rfl aP rfl rfl cX rfl rfl ?_;(repeat first | (with_reducible first | apply ba | apply aR | apply a7 | apply aU) | (with_reducible apply aM); exact rfl; (repeat first | (with_reducible apply aA); exact rfl); (with_reducible apply aB));refine hM rfl rfl rfl rfl rfl rfl rfl rfl H1 jo (fun ar az cg => ?_);(repeat first | (with_reducible apply aM); exact rfl; (repeat first | (with_reducible apply aA); exact rfl); (with_reducible apply aB));refine hM rfl rfl rfl rfl rfl rfl rfl rfl b8 cg (fun ar az cg => ?_);(repeat first | (with_reducible first | apply aR | apply aU | apply db | apply hh) | (with_reducible apply dz); exact rfl; (exact rfl) | (with_reducible apply aM); exact rfl; (repeat first | (with_reducible apply aA); exact rfl); (with_reducible apply aB));obtain ⟨b4, c4, cU, bK, dd, gF, fj, gM, h7, rfl, rfl⟩ := id cg
   ((refine eI rfl bf rfl (bH.refl _) cg.closed rfl e8 ?_))
   exact ⟨_, rfl, rfl, cg⟩
  ·rw [if_neg q2];rw [Bw q2] at b8;obtain ⟨m5, m6, m7, m8⟩ := GZ q2;have Ve : s.I = s2.I := by omega
   generalize ct p1 r = a1 at *;generalize ct p2 r = a2 at *;generalize ct cE r = a3 at *;generalize ct cF r = a4 at *
   by_cases b5 : s.I + 1 < E.length
   ·rw [if_pos b5, show ({ s2 with I := s.I + 1 } : bx.aT ao) = { s2 with I := s2.I + 1 } by rw [Ve]];have adh : ¬ (s2.I : Int) + 1 = (E.length : Int) := by omega
    refine dk (f := 65) Tryz.func65 rfl (dh rfl) (by exact ej rfl) ?_;(repeat first | (with_reducible first | apply ba | apply a7) | (with_reducible apply aM); exact rfl; (repeat first | (with_reducible apply aA); exact rfl | (with_reducible apply c3); (iterate 3 exact rfl)); (with_reducible apply aB));refine jV 1000 rfl rfl rfl rfl aP rfl rfl cX rfl rfl ?_;(repeat first | (with_reducible first | apply ba | apply aR | apply a7 | apply aU) | (with_reducible apply aM); exact rfl; (repeat first | (with_reducible apply aA); exact rfl); (with_reducible apply aB));refine hM rfl rfl rfl rfl rfl rfl rfl rfl H1 jo (fun ar az cg => ?_);(repeat first | (with_reducible apply aM); exact rfl; (repeat first | (with_reducible apply aA); exact rfl); (with_reducible apply aB));refine hM rfl rfl rfl rfl rfl rfl rfl rfl b8 cg (fun ar az Gj => ?_);clear cg;obtain ⟨b4, c4, cU, bK, dd, gF, fj, gM, h7, rfl, rfl⟩ := id Gj;have fB : dv E r rm { s2 with I := s2.I + 1 } (er E r rm s2.ph ((s2.I : Int) + 1) s2.J s2.T s2.dirty b4 c4 cU bK gF) (dG bK dd b4 c4 cU s2.hot s2.fnd s2.ch) := ⟨b4, c4, cU, bK, dd, gF, fj, gM, h7, rfl, rfl⟩;(repeat first | (with_reducible apply ev); kernel_rfl | (with_reducible apply dR (id := 3) [0,1,2,3,4,5,6,7,8,9,10]); kernel_rfl; kernel_rfl; exact rfl | (with_reducible first | apply ba | apply aR | apply a7 | apply aU | apply cS) | (with_reducible apply c6); exact rfl; (first | exact bR (by omega) | exact rfl) | (with_reducible apply aM); exact rfl; (repeat first | (with_reducible apply aA); exact rfl | (with_reducible apply c3); (iterate 3 exact rfl) | (with_reducible apply fh); (iterate 3 exact rfl); (exact da (by omega)); exact rfl | (with_reducible apply dC); (iterate 3 exact rfl)); (with_reducible apply aB))
    ((refine eI rfl bf rfl (bH.refl _) fB.closed rfl e8 ?_))
    exact ⟨_, rfl, rfl, fB⟩
   ·rw [if_neg b5];have adh : (s2.I : Int) + 1 = (E.length : Int) := by omega
    refine dk (f := 65) Tryz.func65 rfl (dh rfl) (by exact ej rfl) ?_;(repeat first | (with_reducible first | apply ba | apply a7) | (with_reducible apply aM); exact rfl; (repeat first | (with_reducible apply aA); exact rfl | (with_reducible apply c3); (iterate 3 exact rfl)); (with_reducible apply aB));refine jV 1000 rfl rfl rfl rfl aP rfl rfl cX rfl rfl ?_;(repeat first | (with_reducible first | apply ba | apply aR | apply a7 | apply aU) | (with_reducible apply aM); exact rfl; (repeat first | (with_reducible apply aA); exact rfl); (with_reducible apply aB));refine hM rfl rfl rfl rfl rfl rfl rfl rfl H1 jo (fun ar az cg => ?_);(repeat first | (with_reducible apply aM); exact rfl; (repeat first | (with_reducible apply aA); exact rfl); (with_reducible apply aB));refine hM rfl rfl rfl rfl rfl rfl rfl rfl b8 cg (fun ar az Gj => ?_);clear cg;obtain ⟨b4, c4, cU, bK, dd, gF, fj, gM, h7, rfl, rfl⟩ := id Gj;have fB : dv E r rm { s2 with I := s2.I + 1 } (er E r rm s2.ph ((s2.I : Int) + 1) s2.J s2.T s2.dirty b4 c4 cU bK gF) (dG bK dd b4 c4 cU s2.hot s2.fnd s2.ch) := ⟨b4, c4, cU, bK, dd, gF, fj, gM, h7, rfl, rfl⟩;(repeat first | (with_reducible apply ev); kernel_rfl | (with_reducible apply dR (id := 3) [0,1,2,3,4,5,6,7,8,9,10]); kernel_rfl; kernel_rfl; exact rfl | (with_reducible first | apply ba | apply aR | apply a7 | apply aU | apply cS) | (with_reducible apply dz); exact rfl; (exact bB (by omega)) | (with_reducible apply c6); exact rfl; (exact rfl) | (with_reducible apply aM); exact rfl; (repeat first | (with_reducible apply aA); exact rfl | (with_reducible apply c3); (iterate 3 exact rfl) | (with_reducible apply fh); (iterate 3 exact rfl); (exact da (by omega)); exact rfl | (with_reducible apply dC); (iterate 3 exact rfl)); (with_reducible apply aB));refine hM rfl rfl rfl rfl rfl rfl rfl rfl fC fB (fun ar az lb => ?_);(repeat first | with_reducible apply aU);obtain ⟨CR, Cf, BP, dD, uv, Dd, Cq, CH, CG, rfl, rfl⟩ := id lb
    ((refine eI rfl bf rfl (bH.refl _) lb.closed rfl e8 ?_))
    exact ⟨_, rfl, rfl, lb⟩
end
section
variable {E : List (Int × b6)} {r rm : Nat}
theorem Xu {o : cG ao} {s : bx.aT ao} {q : Option ao} (h : s.fnd = []) : (jS o s q).fnd = [] := by
 cases q with
 | none => exact h
 | some x => exact CA h
theorem Xw {o : cG ao} {s : bx.aT ao} {q : Option ao} : (jS o s q).dirty = s.dirty ∧ (jS o s q).ch = s.ch ∧ (jS o s q).hot.length ≤ s.hot.length + 1 := by
 cases q with
 | none => exact ⟨rfl, rfl, Nat.le_succ _⟩
 | some x => exact Cz
theorem Xv {o : cG ao} {s : bx.aT ao} {q : Option ao} (h : (jS o s q).ph ≠ 5) : (jS o s q).ph = s.ph ∧ (jS o s q).I = s.I ∧ (jS o s q).J = s.J ∧ (jS o s q).T = s.T := by
 cases q with
 | none => exact ⟨rfl, rfl, rfl, rfl⟩
 | some x => exact CB h
theorem tM {p : ao} (h : gQ p = true) : cH p.1 p.2 = true := by
 have h := nz.1 h;unfold cH; simp only [dQ, cB]; omega
theorem Og {a b : b6} (h1 : cH a.1.1 a.1.2 = true) (h2 : cH a.2.1 a.2.2 = true) (ap : cH b.1.1 b.1.2 = true) (aL : cH b.2.1 b.2.2 = true) : A0 (gP a b) := by
 rw [← HN h1 h2 ap aL]; exact aan ..
theorem OM {n I J : Nat} (h : J < n) : ((cb n I J).1 : Int) = (if (J : Int) + 1 = (n : Int) then (I : Int) + 1 else I) ∧ ((cb n I J).2 : Int) = (if (J : Int) + 1 = (n : Int) then (I : Int) + 2 else (J : Int) + 1) ∧ (decide ((if (J : Int) + 1 = (n : Int) then (I : Int) + 2 else (J : Int) + 1) < (n : Int)) = decide ((cb n I J).2 < n)) := by
 unfold cb
 by_cases h1 : n ≤ J + 1
 ·have : (J : Int) + 1 = (n : Int) := by omega
  rw [if_pos h1, if_pos this, if_pos this];refine ⟨by simp, by simp, ?_⟩;rw [decide_eq_decide]; simp only; omega
 ·have : ¬ (J : Int) + 1 = (n : Int) := by omega
  rw [if_neg h1, if_neg this, if_neg this];refine ⟨by simp, by simp, ?_⟩;rw [decide_eq_decide]; simp only; omega
theorem ZC {s : bx.aT ao} (aq : r ≤ 28) (h4 : ja (E.map Prod.snd) = true) (an : E.length ≤ 300) (pn : s.I < s.J) (ki : s.J < E.length) (hd : s.dirty = false) (au : s.fnd = []) (aY : s.hot.length ≤ 1024) (gO : s.ph = 1) : fT E r rm 66 [] s lu (qJ (bz E r rm) s) := by
 obtain ⟨o, ⟨p1, p2⟩, ⟨cE, cF⟩, g1⟩ : ∃ o p q, E[s.I]? = some (o, p, q) := ⟨_, _, _, cm (by omega)⟩;obtain ⟨fu, ⟨v1, v2⟩, ⟨aO, w2⟩, g2⟩ : ∃ o p q, E[s.J]? = some (o, p, q) := ⟨_, _, _, cm ki⟩;have h3 := FO g1;have lF := FO g2;have aF := oz h4 s.I;have hm := oz h4 s.J;rw [h3] at aF;rw [lF] at hm;have BW : (bz E r rm).n = E.length := lU ..
 have Lm : (bz E r rm).mM s.I s.J = lS r (gP ((p1, p2), (cE, cF)) ((v1, v2), (aO, w2))) := by
  show vn r ((E.map Prod.snd).getD s.I k7) ((E.map Prod.snd).getD s.J k7) = _;rw [h3, lF]; rfl
 have aP := Ig (a1 := p1) (a2 := p2) (b1 := cE) (b2 := cF) (c1 := v1) (c2 := v2) (d1 := aO) (d2 := w2);rw [show qC p1 p2 cE cF v1 v2 aO w2 = gP ((p1, p2), (cE, cF)) ((v1, v2), (aO, w2)) from HN (a := ((p1, p2), (cE, cF))) (b := ((v1, v2), (aO, w2))) (tM aF.1) (tM aF.2) (tM hm.1) (tM hm.2)] at aP;have H1 := Nw (E := E) (r := r) (rm := rm) (s := s) aq (Og (a := ((p1, p2), (cE, cF))) (b := ((v1, v2), (aO, w2))) (tM aF.1) (tM aF.2) (tM hm.1) (tM hm.2)) (fun af => Ip aq (a := ((p1, p2), (cE, cF))) (b := ((v1, v2), (aO, w2))) aF.1 aF.2 (by unfold vn; rw [if_pos af])) (by omega) au (by omega);unfold qJ;rw [Lm, BW];have rT := Xw (o := bz E r rm) (s := s) (q := lS r (gP ((p1, p2), (cE, cF)) ((v1, v2), (aO, w2))));have wM := Xu (o := bz E r rm) (q := lS r (gP ((p1, p2), (cE, cF)) ((v1, v2), (aO, w2)))) au;have uV := Xv (o := bz E r rm) (s := s) (q := lS r (gP ((p1, p2), (cE, cF)) ((v1, v2), (aO, w2))));generalize jS (bz E r rm) s (lS r (gP ((p1, p2), (cE, cF)) ((v1, v2), (aO, w2)))) = s1 at *;generalize gP ((p1, p2), (cE, cF)) ((v1, v2), (aO, w2)) = M at *;have kc := wx (ii := (s.I : Int)) rfl g1;have lW := wx (ii := (s.J : Int)) rfl g2;have i0 : (0 : Int) ≤ (s.I : Int) := by omega
 have i1 : (s.I : Int) < (E.length : Int) := by omega
 have Zd : (0 : Int) ≤ (s.J : Int) := by omega
 have qy : (s.J : Int) < (E.length : Int) := by omega
 rintro cs R jo;obtain ⟨hv, fv, cv, b, S, lk, hS, cQ, fQ, rfl, rfl⟩ := id jo;clear Lm h3 lF aF hm BW
 by_cases q1 : s1.ph = 5
 ·rw [if_pos q1];rw [q1] at H1;refine dk (f := 66) Tryz.func66 rfl (dh rfl) (by exact ej rfl) ?_;(repeat first | (with_reducible apply ev); kernel_rfl | (with_reducible apply dR (id := 0) [22,23,0,1,2,3,4,5,6,7,8,9,10,11,12,13,14,15,16,17,18,19,20,21,24,25]); kernel_rfl; kernel_rfl; exact rfl | (with_reducible first | apply ba | apply aR | apply a7) | (with_reducible apply aM); exact rfl; (repeat first | (with_reducible apply aA); exact rfl | (with_reducible apply fZ); (iterate 5 exact rfl) | (with_reducible apply e7); (iterate 3 exact rfl); (omega); (omega); (assumption); exact rfl | (with_reducible apply c3); (iterate 3 exact rfl) | refine nb rfl rfl rfl rfl rfl rfl (by (exact aP)) rfl ?_); (with_reducible apply aB));refine hM rfl rfl rfl rfl rfl rfl rfl rfl H1 jo (fun ar az cg => ?_);(repeat first | (with_reducible first | apply aR | apply aU | apply db | apply hh) | (with_reducible apply dz); exact rfl; (exact rfl) | (with_reducible apply aM); exact rfl; (repeat first | (with_reducible apply aA); exact rfl); (with_reducible apply aB));obtain ⟨b4, c4, cU, bK, dd, gF, fj, gM, h7, rfl, rfl⟩ := id cg
  ((refine eI rfl bf rfl (bH.refl _) cg.closed rfl e8 ?_))
  exact ⟨_, rfl, rfl, cg⟩
 ·rw [if_neg q1];rw [Bw q1] at H1;obtain ⟨m1, m2, m3, m4⟩ := uV q1;have jt := OM (n := E.length) (I := s1.I) (J := s1.J) (by omega);rw [← m2, ← m3];have fC := Nx (E := E) (r := r) (rm := rm) (s := { s1 with I := (cb E.length s1.I s1.J).1, J := (cb E.length s1.I s1.J).2 }) aq h4 an (by omega) (by show s1.dirty = false; rw [rT.1]; exact hd) wM;rw [show kQ (bz E r rm) { s1 with I := (cb E.length s1.I s1.J).1, J := (cb E.length s1.I s1.J).2 } = kQ (bz E r rm) s1 from rfl] at fC
  by_cases q2 : (cb E.length s1.I s1.J).2 < E.length
  ·rw [if_pos q2];have gN := jt.2.2;rw [bB q2] at gN;rw [m2, m3];refine dk (f := 66) Tryz.func66 rfl (dh rfl) (by exact ej rfl) ?_;(repeat first | (with_reducible apply ev); kernel_rfl | (with_reducible apply dR (id := 0) [22,23,0,1,2,3,4,5,6,7,8,9,10,11,12,13,14,15,16,17,18,19,20,21,24,25]); kernel_rfl; kernel_rfl; exact rfl | (with_reducible first | apply ba | apply aR | apply a7) | (with_reducible apply aM); exact rfl; (repeat first | (with_reducible apply aA); exact rfl | (with_reducible apply fZ); (iterate 5 exact rfl) | (with_reducible apply e7); (iterate 3 exact rfl); (omega); (omega); (assumption); exact rfl | (with_reducible apply c3); (iterate 3 exact rfl) | refine nb rfl rfl rfl rfl rfl rfl (by (exact aP)) rfl ?_); (with_reducible apply aB));refine hM rfl rfl rfl rfl rfl rfl rfl rfl H1 jo (fun ar az cg => ?_);obtain ⟨b4, c4, cU, bK, dd, gF, fj, gM, h7, rfl, rfl⟩ := id cg;have cc := zu (E := E) (k := r) (rm := rm) (ph := s1.ph) (I := s1.I) (J := s1.J) (T := s1.T) (dirty := s1.dirty) (hv := b4) (fv := c4) (cv := cU) (b := bK) gM E.length (by omega) (by omega);rw [gN, ← jt.1, ← jt.2.1] at cc;have fB : dv E r rm { s1 with I := (cb E.length s1.I s1.J).1, J := (cb E.length s1.I s1.J).2 } (er E r rm s1.ph (cb E.length s1.I s1.J).1 (cb E.length s1.I s1.J).2 s1.T s1.dirty b4 c4 cU bK gF) (dG bK dd b4 c4 cU s1.hot s1.fnd s1.ch) := ⟨b4, c4, cU, bK, dd, gF, fj, gM, h7, rfl, rfl⟩;(repeat first | (with_reducible first | apply ba | apply aR | apply a7 | apply aU | apply cS) | (with_reducible apply c6); exact rfl; (exact rfl) | (with_reducible apply aM); exact rfl; (repeat first | (with_reducible apply aA); exact rfl | (with_reducible apply c3); (iterate 3 exact rfl) | (with_reducible apply dC); (iterate 3 exact rfl)); (with_reducible apply aB));refine jV 1000 rfl rfl rfl rfl cc rfl rfl cg.closed rfl rfl ?_;(repeat first | (with_reducible first | apply aR | apply aU | apply cS) | (with_reducible apply c6); exact rfl; (exact rfl) | (with_reducible apply aM); exact rfl; (repeat first | (with_reducible apply aA); exact rfl); (with_reducible apply aB))
   ((refine eI rfl bf rfl (bH.refl _) fB.closed rfl e8 ?_))
   refine ⟨_, rfl, rfl, ?_⟩;rw [← m2, ← m3];exact fB
  ·rw [if_neg q2];have gN := jt.2.2;rw [bR q2] at gN;rw [m2, m3];refine dk (f := 66) Tryz.func66 rfl (dh rfl) (by exact ej rfl) ?_;(repeat first | (with_reducible apply ev); kernel_rfl | (with_reducible apply dR (id := 0) [22,23,0,1,2,3,4,5,6,7,8,9,10,11,12,13,14,15,16,17,18,19,20,21,24,25]); kernel_rfl; kernel_rfl; exact rfl | (with_reducible first | apply ba | apply aR | apply a7) | (with_reducible apply aM); exact rfl; (repeat first | (with_reducible apply aA); exact rfl | (with_reducible apply fZ); (iterate 5 exact rfl) | (with_reducible apply e7); (iterate 3 exact rfl); (omega); (omega); (assumption); exact rfl | (with_reducible apply c3); (iterate 3 exact rfl) | refine nb rfl rfl rfl rfl rfl rfl (by (exact aP)) rfl ?_); (with_reducible apply aB));refine hM rfl rfl rfl rfl rfl rfl rfl rfl H1 jo (fun ar az cg => ?_);obtain ⟨b4, c4, cU, bK, dd, gF, fj, gM, h7, rfl, rfl⟩ := id cg;have cc := zu (E := E) (k := r) (rm := rm) (ph := s1.ph) (I := s1.I) (J := s1.J) (T := s1.T) (dirty := s1.dirty) (hv := b4) (fv := c4) (cv := cU) (b := bK) gM E.length (by omega) (by omega);rw [gN, ← jt.1, ← jt.2.1] at cc;have fB : dv E r rm { s1 with I := (cb E.length s1.I s1.J).1, J := (cb E.length s1.I s1.J).2 } (er E r rm s1.ph (cb E.length s1.I s1.J).1 (cb E.length s1.I s1.J).2 s1.T s1.dirty b4 c4 cU bK gF) (dG bK dd b4 c4 cU s1.hot s1.fnd s1.ch) := ⟨b4, c4, cU, bK, dd, gF, fj, gM, h7, rfl, rfl⟩;(repeat first | (with_reducible first | apply ba | apply aR | apply a7 | apply aU | apply cS) | (with_reducible apply c6); exact rfl; (exact rfl) | (with_reducible apply aM); exact rfl; (repeat first | (with_reducible apply aA); exact rfl | (with_reducible apply c3); (iterate 3 exact rfl) | (with_reducible apply dC); (iterate 3 exact rfl)); (with_reducible apply aB));refine jV 1000 rfl rfl rfl rfl cc rfl rfl cg.closed rfl rfl ?_;(repeat first | (with_reducible first | apply aR | apply a7 | apply aU) | (with_reducible apply dz); exact rfl; (exact rfl) | (with_reducible apply aM); exact rfl; (repeat first | (with_reducible apply aA); exact rfl); (with_reducible apply aB));refine hM rfl rfl rfl rfl rfl rfl rfl rfl fC fB (fun ar az lb => ?_);(repeat first | with_reducible apply aU);obtain ⟨CR, Cf, BP, dD, uv, Dd, Cq, CH, CG, rfl, rfl⟩ := id lb
   ((refine eI rfl bf rfl (bH.refl _) lb.closed rfl e8 ?_))
   exact ⟨_, rfl, rfl, lb⟩
end
section
variable {E : List (Int × b6)} {r rm : Nat}
theorem Un {r : Nat} {l m : ao × ao} (h1 : eO r l.1.1 l.1.2 = true) (h2 : eO r l.2.1 l.2.2 = true) (ap : eO r m.1.1 m.1.2 = true) (aL : eO r m.2.1 m.2.2 = true) : A0 (n3 r l m) := by
 unfold n3
 split
 ·exact .inl rfl
 ·exact Og (qm h1) (qm h2) (qm ap) (qm aL)
theorem ZB {s : bx.aT ao} (aq : r ≤ 28) (ak : kb s.ch) (aG : 0 < s.ch.length) (pn : s.I < s.J) (ki : s.J < (bb s.ch).length) (aw : ∀ l ∈ bb s.ch, eO r l.1.1 l.1.2 = true ∧ eO r l.2.1 l.2.2 = true) (au : s.fnd = []) (aY : s.hot.length ≤ 1024) (gO : s.ph = 3) : fT E r rm 68 [] s lu (sc (bz E r rm) s) := by
 have wL : (bb s.ch).length ≤ 300 * 1100 := ln (Dg (m := 1100) fun c h => (ak.2 c h).2) (jZ _ ak.1);obtain ⟨a1, a2, a3, a4, g1⟩ : ∃ a b c d, (bb s.ch)[s.I]? = some ((a, b), (c, d)) := ⟨_, _, _, _, cm (by omega)⟩;obtain ⟨b1, b2, ed, dD, g2⟩ : ∃ a b c d, (bb s.ch)[s.J]? = some ((a, b), (c, d)) := ⟨_, _, _, _, cm ki⟩;obtain ⟨iP, z2⟩ := aw _ (dF g1);obtain ⟨z3, z4⟩ := aw _ (dF g2);have aP := acq aq (l := ((a1, a2), (a3, a4))) (m := ((b1, b2), (ed, dD))) iP z2 z3 z4;have iW := Un (l := ((a1, a2), (a3, a4))) (m := ((b1, b2), (ed, dD))) iP z2 z3 z4;have hcut : (bz E r rm).cut ((a1, a2), (a3, a4)) ((b1, b2), (ed, dD)) = lS r (n3 r ((a1, a2), (a3, a4)) ((b1, b2), (ed, dD))) := KT r _ _;have H1 := Nw (E := E) (r := r) (rm := rm) (s := s) aq iW (fun af => KU (l := ((a1, a2), (a3, a4))) (m := ((b1, b2), (ed, dD))) iP z2 (by rw [KT, if_pos af])) (by omega) au (by omega);have kc := NN (ii := (s.I : Int)) rfl g1;have lW := NN (ii := (s.J : Int)) rfl g2
 have em : sc (bz E r rm) s = if (bx.dJ (bz E r rm) s (lS r (n3 r ((a1, a2), (a3, a4)) ((b1, b2), (ed, dD))))).ph = 5 then bx.dJ (bz E r rm) s (lS r (n3 r ((a1, a2), (a3, a4)) ((b1, b2), (ed, dD)))) else
   if (cb (bb s.ch).length s.I s.J).2 < (bb s.ch).length then { bx.dJ (bz E r rm) s (lS r (n3 r ((a1, a2), (a3, a4)) ((b1, b2), (ed, dD)))) with I := (cb (bb s.ch).length s.I s.J).1, J := (cb (bb s.ch).length s.I s.J).2 } else mP (bx.dJ (bz E r rm) s (lS r (n3 r ((a1, a2), (a3, a4)) ((b1, b2), (ed, dD))))) := by
  unfold sc;simp only [g1, g2, hcut]
 rw [em];clear em hcut iW iP z2 z3 z4 g1 g2;simp only at aP H1;generalize n3 r ((a1, a2), (a3, a4)) ((b1, b2), (ed, dD)) = M at *;have jt := OM (n := (bb s.ch).length) (I := s.I) (J := s.J) ki;have i0 : (0 : Int) ≤ (s.I : Int) := by omega
 have i1 : (s.I : Int) < ((bb s.ch).length : Int) := by omega
 have Zd : (0 : Int) ≤ (s.J : Int) := by omega
 have qy : (s.J : Int) < ((bb s.ch).length : Int) := by omega
 rintro cs R jo;obtain ⟨hv, fv, cv, b, S, lk, hS, cQ, fQ, rfl, rfl⟩ := id jo;obtain rfl := fQ gO
 by_cases af : M.k = 1
 ·have rJ : lS r M = some (ic r M) := if_pos af;rw [rJ] at H1 ⊢;have rT := Cz (o := bz E r rm) (s := s) (q := ic r M);have wM := CA (o := bz E r rm) (q := ic r M) au;have uV := CB (o := bz E r rm) (s := s) (q := ic r M);unfold bx.dJ;simp only [jS] at H1 ⊢;generalize df (bz E r rm) s (ic r M) = s1 at *
  by_cases q1 : s1.ph = 5
  ·rw [if_pos q1, if_pos q1];rw [q1] at H1;obtain ⟨mk, HT, md, du, HO, HU, HV, HW, HX⟩ := M;obtain rfl : mk = 1 := af;refine dk (f := 68) Tryz.func68 rfl (dh rfl) (by exact ej rfl) ?_;(repeat first | (with_reducible apply ev); kernel_rfl | (with_reducible apply dR (id := 1) [20,21,0,1,2,3,4,5,6,7,8,9,10,11,12,13,14,15,16,17,18,19,22,23]); kernel_rfl; kernel_rfl; exact rfl | (with_reducible apply dR (id := 2) [7,0,1,2,3,4,5,6,8]); kernel_rfl; kernel_rfl; exact rfl | (with_reducible first | apply ba | apply aR | apply a7 | apply aU) | (with_reducible apply dz); exact rfl; (assumption) | (with_reducible apply aM); exact rfl; (repeat first | (with_reducible apply aA); exact rfl | (with_reducible apply fZ); (iterate 5 exact rfl) | (with_reducible apply e7); (iterate 3 exact rfl); (omega); (omega); (assumption); exact rfl | (with_reducible apply c3); (iterate 3 exact rfl) | refine jP rfl rfl rfl rfl rfl (by (exact aP)) rfl ?_); (with_reducible apply aB));refine hM rfl rfl rfl rfl rfl rfl rfl rfl H1 jo (fun ar az cg => ?_);(repeat first | (with_reducible first | apply aR | apply aU | apply db | apply hh) | (with_reducible apply dz); exact rfl; (assumption) | (with_reducible apply aM); exact rfl; (repeat first | (with_reducible apply aA); exact rfl); (with_reducible apply aB));obtain ⟨b4, c4, cU, bK, dd, gF, fj, gM, h7, rfl, rfl⟩ := id cg
   ((refine eI rfl bf rfl (bH.refl _) cg.closed rfl e8 ?_))
   exact ⟨_, rfl, rfl, cg⟩
  ·rw [if_neg q1, if_neg q1];rw [Bw q1] at H1;obtain ⟨m1, m2, m3, m4⟩ := uV q1;have ta : s1.ch = s.ch := rT.2.1;have fC := Ny (E := E) (r := r) (rm := rm) (s := { s1 with dirty := true, I := (cb (bb s.ch).length s.I s.J).1, J := (cb (bb s.ch).length s.I s.J).2 }) wM (by show kb s1.ch; rw [ta]; exact ak) (by show 0 < s1.ch.length; rw [ta]; exact aG);rw [show mP ({ s1 with dirty := true, I := (cb (bb s.ch).length s.I s.J).1, J := (cb (bb s.ch).length s.I s.J).2 } : bx.aT ao) = mP ({ s1 with dirty := true } : bx.aT ao) from rfl] at fC;have nl : (s1.I : Int) = s.I := by omega
   have CJ : (s1.J : Int) = s.J := by omega
   obtain ⟨mk, HT, md, du, HO, HU, HV, HW, HX⟩ := M;obtain rfl : mk = 1 := af
   by_cases q2 : (cb (bb s.ch).length s.I s.J).2 < (bb s.ch).length
   ·rw [if_pos q2];have gN := jt.2.2;rw [bB q2] at gN;refine dk (f := 68) Tryz.func68 rfl (dh rfl) (by exact ej rfl) ?_;(repeat first | (with_reducible apply ev); kernel_rfl | (with_reducible apply dR (id := 1) [20,21,0,1,2,3,4,5,6,7,8,9,10,11,12,13,14,15,16,17,18,19,22,23]); kernel_rfl; kernel_rfl; exact rfl | (with_reducible apply dR (id := 2) [7,0,1,2,3,4,5,6,8]); kernel_rfl; kernel_rfl; exact rfl | (with_reducible first | apply ba | apply aR | apply a7 | apply aU) | (with_reducible apply dz); exact rfl; (assumption) | (with_reducible apply aM); exact rfl; (repeat first | (with_reducible apply aA); exact rfl | (with_reducible apply fZ); (iterate 5 exact rfl) | (with_reducible apply e7); (iterate 3 exact rfl); (omega); (omega); (assumption); exact rfl | (with_reducible apply c3); (iterate 3 exact rfl) | refine jP rfl rfl rfl rfl rfl (by (exact aP)) rfl ?_); (with_reducible apply aB));refine hM rfl rfl rfl rfl rfl rfl rfl rfl H1 jo (fun ar az cg => ?_);obtain ⟨b4, c4, cU, bK, dd, gF, fj, gM, h7, rfl, rfl⟩ := id cg;obtain rfl := h7 (by omega);have cc := zu (E := E) (k := r) (rm := rm) (ph := s1.ph) (I := s1.I) (J := s1.J) (T := s1.T) (dirty := true) (hv := b4) (fv := c4) (cv := cU) (b := bK) gM (bb s1.ch).length (by omega) (by omega);rw [ta, nl, CJ, gN, ← jt.1, ← jt.2.1] at cc;have fB : dv E r rm { s1 with dirty := true, I := (cb (bb s.ch).length s.I s.J).1, J := (cb (bb s.ch).length s.I s.J).2 } (er E r rm s1.ph (cb (bb s.ch).length s.I s.J).1 (cb (bb s.ch).length s.I s.J).2 s1.T true b4 c4 cU bK (.p (cz 4 (bb s1.ch).length (mh (bb s1.ch))))) (dG bK dd b4 c4 cU s1.hot s1.fnd s1.ch) := ⟨b4, c4, cU, bK, dd, _, fj, rfl, fun _ => rfl, rfl, rfl⟩;rw [ta] at fB;rw [nl, CJ, ta];(repeat first | (with_reducible first | apply ba | apply aR | apply a7 | apply aU | apply cS) | (with_reducible apply c6); exact rfl; (exact rfl) | (with_reducible apply aM); exact rfl; (repeat first | (with_reducible apply aA); exact rfl | (with_reducible apply c3); (iterate 3 exact rfl) | (with_reducible apply dC); (iterate 3 exact rfl)); (with_reducible apply aB));refine jV 1000 rfl rfl rfl rfl cc rfl rfl rfl rfl rfl ?_;(repeat first | (with_reducible first | apply aR | apply aU | apply cS) | (with_reducible apply c6); exact rfl; (exact rfl) | (with_reducible apply aM); exact rfl; (repeat first | (with_reducible apply aA); exact rfl); (with_reducible apply aB))
    ((refine eI rfl bf rfl (bH.refl _) fB.closed rfl e8 ?_))
    exact ⟨_, rfl, rfl, fB⟩
   ·rw [if_neg q2];have gN := jt.2.2;rw [bR q2] at gN;refine dk (f := 68) Tryz.func68 rfl (dh rfl) (by exact ej rfl) ?_;(repeat first | (with_reducible apply ev); kernel_rfl | (with_reducible apply dR (id := 1) [20,21,0,1,2,3,4,5,6,7,8,9,10,11,12,13,14,15,16,17,18,19,22,23]); kernel_rfl; kernel_rfl; exact rfl | (with_reducible apply dR (id := 2) [7,0,1,2,3,4,5,6,8]); kernel_rfl; kernel_rfl; exact rfl | (with_reducible first | apply ba | apply aR | apply a7 | apply aU) | (with_reducible apply dz); exact rfl; (assumption) | (with_reducible apply aM); exact rfl; (repeat first | (with_reducible apply aA); exact rfl | (with_reducible apply fZ); (iterate 5 exact rfl) | (with_reducible apply e7); (iterate 3 exact rfl); (omega); (omega); (assumption); exact rfl | (with_reducible apply c3); (iterate 3 exact rfl) | refine jP rfl rfl rfl rfl rfl (by (exact aP)) rfl ?_); (with_reducible apply aB));refine hM rfl rfl rfl rfl rfl rfl rfl rfl H1 jo (fun ar az cg => ?_);obtain ⟨b4, c4, cU, bK, dd, gF, fj, gM, h7, rfl, rfl⟩ := id cg;obtain rfl := h7 (by omega);have cc := zu (E := E) (k := r) (rm := rm) (ph := s1.ph) (I := s1.I) (J := s1.J) (T := s1.T) (dirty := true) (hv := b4) (fv := c4) (cv := cU) (b := bK) gM (bb s1.ch).length (by omega) (by omega);rw [ta, nl, CJ, gN, ← jt.1, ← jt.2.1] at cc;have fB : dv E r rm { s1 with dirty := true, I := (cb (bb s.ch).length s.I s.J).1, J := (cb (bb s.ch).length s.I s.J).2 } (er E r rm s1.ph (cb (bb s.ch).length s.I s.J).1 (cb (bb s.ch).length s.I s.J).2 s1.T true b4 c4 cU bK (.p (cz 4 (bb s1.ch).length (mh (bb s1.ch))))) (dG bK dd b4 c4 cU s1.hot s1.fnd s1.ch) := ⟨b4, c4, cU, bK, dd, _, fj, rfl, fun _ => rfl, rfl, rfl⟩;rw [ta] at fB fC;rw [nl, CJ, ta];(repeat first | (with_reducible first | apply ba | apply aR | apply a7 | apply aU | apply cS) | (with_reducible apply c6); exact rfl; (exact rfl) | (with_reducible apply aM); exact rfl; (repeat first | (with_reducible apply aA); exact rfl | (with_reducible apply c3); (iterate 3 exact rfl) | (with_reducible apply dC); (iterate 3 exact rfl)); (with_reducible apply aB));refine jV 1000 rfl rfl rfl rfl cc rfl rfl rfl rfl rfl ?_;(repeat first | (with_reducible first | apply aR | apply a7 | apply aU) | (with_reducible apply dz); exact rfl; (assumption) | (with_reducible apply aM); exact rfl; (repeat first | (with_reducible apply aA); exact rfl); (with_reducible apply aB));refine hM rfl rfl rfl rfl rfl rfl rfl rfl fC fB (fun ar az lb => ?_);(repeat first | with_reducible apply aU);obtain ⟨CR, Cf, BP, dD, uv, Dd, Cq, CH, CG, rfl, rfl⟩ := id lb
    ((refine eI rfl bf rfl (bH.refl _) lb.closed rfl e8 ?_))
    exact ⟨_, rfl, rfl, lb⟩
 ·have rJ : lS r M = none := if_neg af;rw [rJ];have Vk : bx.dJ (bz E r rm) s none = s := rfl;rw [Vk, if_neg (by omega)];clear H1;have fC := Ny (E := E) (r := r) (rm := rm) (s := { s with I := (cb (bb s.ch).length s.I s.J).1, J := (cb (bb s.ch).length s.I s.J).2 }) au ak aG;rw [show mP ({ s with I := (cb (bb s.ch).length s.I s.J).1, J := (cb (bb s.ch).length s.I s.J).2 } : bx.aT ao) = mP s from rfl] at fC;have cc := zu (E := E) (k := r) (rm := rm) (ph := s.ph) (I := s.I) (J := s.J) (T := s.T) (dirty := s.dirty) (hv := hv) (fv := fv) (cv := cv) (b := b) cQ (bb s.ch).length (by omega) (by omega);have fB : dv E r rm { s with I := (cb (bb s.ch).length s.I s.J).1, J := (cb (bb s.ch).length s.I s.J).2 } (er E r rm s.ph (cb (bb s.ch).length s.I s.J).1 (cb (bb s.ch).length s.I s.J).2 s.T s.dirty hv fv cv b (.p (cz 4 (bb s.ch).length (mh (bb s.ch))))) (dG b S hv fv cv s.hot s.fnd s.ch) := ⟨hv, fv, cv, b, S, _, hS, rfl, fun _ => rfl, rfl, rfl⟩;obtain ⟨mk, HT, md, du, HO, HU, HV, HW, HX⟩ := M;have af : ¬ mk = 1 := af
  by_cases q2 : (cb (bb s.ch).length s.I s.J).2 < (bb s.ch).length
  ·rw [if_pos q2];have gN := jt.2.2;rw [bB q2] at gN;rw [gN, ← jt.1, ← jt.2.1] at cc;refine dk (f := 68) Tryz.func68 rfl (dh rfl) (by exact ej rfl) ?_;(repeat first | (with_reducible apply ev); kernel_rfl | (with_reducible apply dR (id := 1) [20,21,0,1,2,3,4,5,6,7,8,9,10,11,12,13,14,15,16,17,18,19,22,23]); kernel_rfl; kernel_rfl; exact rfl | (with_reducible apply dR (id := 2) [7,0,1,2,3,4,5,6,8]); kernel_rfl; kernel_rfl; exact rfl | (with_reducible first | apply ba | apply aR | apply a7 | apply aU | apply cS) | (with_reducible apply c6); exact rfl; (exact bR (by omega)) | (with_reducible apply aM); exact rfl; (repeat first | (with_reducible apply aA); exact rfl | (with_reducible apply fZ); (iterate 5 exact rfl) | (with_reducible apply e7); (iterate 3 exact rfl); (omega); (omega); (assumption); exact rfl | (with_reducible apply c3); (iterate 3 exact rfl) | (with_reducible apply dC); (iterate 3 exact rfl) | refine jP rfl rfl rfl rfl rfl (by (exact aP)) rfl ?_); (with_reducible apply aB));refine jV 1000 rfl rfl rfl rfl cc rfl rfl rfl rfl rfl ?_;(repeat first | (with_reducible first | apply aR | apply aU | apply cS) | (with_reducible apply c6); exact rfl; (exact rfl) | (with_reducible apply aM); exact rfl; (repeat first | (with_reducible apply aA); exact rfl); (with_reducible apply aB))
   ((refine eI rfl bf rfl (bH.refl _) fB.closed rfl e8 ?_))
   exact ⟨_, rfl, rfl, fB⟩
  ·rw [if_neg q2];have gN := jt.2.2;rw [bR q2] at gN;rw [gN, ← jt.1, ← jt.2.1] at cc;refine dk (f := 68) Tryz.func68 rfl (dh rfl) (by exact ej rfl) ?_;(repeat first | (with_reducible apply ev); kernel_rfl | (with_reducible apply dR (id := 1) [20,21,0,1,2,3,4,5,6,7,8,9,10,11,12,13,14,15,16,17,18,19,22,23]); kernel_rfl; kernel_rfl; exact rfl | (with_reducible apply dR (id := 2) [7,0,1,2,3,4,5,6,8]); kernel_rfl; kernel_rfl; exact rfl | (with_reducible first | apply ba | apply aR | apply a7 | apply aU | apply cS) | (with_reducible apply c6); exact rfl; (exact bR (by omega)) | (with_reducible apply aM); exact rfl; (repeat first | (with_reducible apply aA); exact rfl | (with_reducible apply fZ); (iterate 5 exact rfl) | (with_reducible apply e7); (iterate 3 exact rfl); (omega); (omega); (assumption); exact rfl | (with_reducible apply c3); (iterate 3 exact rfl) | (with_reducible apply dC); (iterate 3 exact rfl) | refine jP rfl rfl rfl rfl rfl (by (exact aP)) rfl ?_); (with_reducible apply aB));refine jV 1000 rfl rfl rfl rfl cc rfl rfl rfl rfl rfl ?_;(repeat first | (with_reducible first | apply aR | apply a7 | apply aU) | (with_reducible apply dz); exact rfl; (assumption) | (with_reducible apply aM); exact rfl; (repeat first | (with_reducible apply aA); exact rfl); (with_reducible apply aB));refine hM rfl rfl rfl rfl rfl rfl rfl rfl fC fB (fun ar az lb => ?_);(repeat first | with_reducible apply aU);obtain ⟨CR, Cf, BP, dD, uv, Dd, Cq, CH, CG, rfl, rfl⟩ := id lb
   ((refine eI rfl bf rfl (bH.refl _) lb.closed rfl e8 ?_))
   exact ⟨_, rfl, rfl, lb⟩
end
section
variable {E : List (Int × b6)} {r rm : Nat}
theorem P3 {b : Nat} {S : eZ} {hv fv cv v : Value} {hot fnd : List ao} {ch l : List (List ao × List Int)} : bM (dG b S hv fv cv hot fnd ch) 3 (wk v l) = dG b S hv fv v hot fnd l := by
  funext i
  match i with
  | 0 => rfl
  | 1 => rfl
  | 2 => rfl
  | 3 => rfl
  | i + 4 => rfl
theorem KI {ch : List (List ao × List Int)} {i : Nat} {ii : Int} {V : List ao} {D : List Int} (hi : ii = i) (h : i < ch.length) : ey (eA ch) (ii.toNat * 2) [.p (cz 2 V.length (b3 V)), .p (cz 1 D.length (cD D))] = eA (ch.set i (V, D)) := by
  subst hi;rw [kw];have e : ch = ch.take i ++ ch[i] :: ch.drop (i + 1) := by rw [← nE h, ks]
  have an : (eA (ch.take i)).length = i * 2 := by
    have := Cd (f := o9) (z := 2) (fun _ => rfl) (ch.take i);unfold eA;rw [this, eg, pJ (by omega)]
  have aI : eA ch = eA (ch.take i) ++ (o9 ch[i] ++ eA (ch.drop (i + 1))) := (congrArg eA e).trans (by unfold eA; rw [List.flatMap_append, List.flatMap_cons]);rw [aI, IR an, List.set_eq_take_append_cons_drop, if_pos h];simp [eA, o9]
theorem VZ {p q : ao} {bl : List ao} (aF : bl.Nodup) : il (dA (decide ((2 : Int) ^ r * q.1 < 2 ^ r * p.1)) (decide ((2 : Int) ^ r * q.2 < 2 ^ r * p.2))) bl = fH p q bl := by
  rw [Cb, Cb];exact aeR aF (by rw [List.filter_eq_self.2 (fun _ _ => rfl)])
theorem ZD {s : bx.aT ao} {V : List ao} {D : List Int} {p q x : ao} (aq : r ≤ 28) (ak : kb s.ch) (g1 : s.ch[s.I]? = some (V, D)) (g2 : V[s.J]? = some p) (g3 : V[s.J + 1]? = some q) (g4 : s.hot[s.T]? = some x) (kh : ∀ d ∈ D, 1 ≤ d ∧ d ≤ 1048576)
    (hp : eO r p.1 p.2 = true) (al : eO r q.1 q.2 = true) (hd : s.dirty = false) (aY : s.hot.length ≤ 1024) (wP : s.fnd.length ≤ 1024) (wQ : (k9 (bz E r rm) p q x s.fnd).Nodup) (gO : s.ph = 2) : fT E r rm 67 [] s lu (r9 (bz E r rm) s (V, D) p q (k9 (bz E r rm) p q x s.fnd)) := by
  obtain ⟨p1, p2⟩ := p;obtain ⟨q1, q2⟩ := q;obtain ⟨c7, dq⟩ := x;obtain ⟨jR, h6⟩ := ak.2 _ (dF g1);simp only at jR h6;have bq := (bS.1 g1).1;have ki := (bS.1 g3).1;have dY := (bS.1 g4).1;have ay : gw (r : Int) r := ⟨aq, .inr (.inr rfl)⟩;have aP := Pm (D := D) g2 g3 (by omega);have cc := acM (E := E.map Prod.snd) (R := rm) aq (p := (p1, p2)) (q := (q1, q2)) (x := (c7, dq)) hp al;have e5 := DK (sj ay hp) (sj ay al);simp only at cc e5;have mS := abP (a1 := 2 ^ r * p1) (a2 := 2 ^ r * p2) (b1 := 2 ^ r * q1) (b2 := 2 ^ r * q2);obtain ⟨kc, lW⟩ := BK (ii := (s.I : Int)) rfl g1;have EN := YV (ii := (s.T : Int)) rfl g4;have i0 : (0 : Int) ≤ (s.I : Int) := by omega
  have i1 : (s.I : Int) < (s.ch.length : Int) := by omega
  have i2 : 0 < s.ch.length := by omega
  have t0 : (0 : Int) ≤ (s.T : Int) := by omega
  have t1 : (s.T : Int) < (s.hot.length : Int) := by omega
  have t2 : 0 < s.hot.length := by omega
  have WQ : (s.J : Int) ≤ 1100 := by omega
  have cO := ak.1
 
  have split : ∀ bl : List ao, bl = k9 (bz E r rm) (p1, p2) (q1, q2) (c7, dq) s.fnd → bl ≠ [] → bl.length ≤ 1100 → aX aj 126 [hk bl, vD (decide ((2 : Int) ^ r * q1 < 2 ^ r * p1)) (decide ((2 : Int) ^ r * q2 < 2 ^ r * p2))] (hk (fH (p1, p2) (q1, q2) bl)) ∧
      aX aj 125 [nM V D, aW s.J, hk (fH (p1, p2) (q1, q2) bl)] (.cZ [.agg [.p (cz 2 (bx.c9 V s.J (fH (p1, p2) (q1, q2) bl)).length (b3 (bx.c9 V s.J (fH (p1, p2) (q1, q2) bl)))), .p (cz 1 (eo D s.J bl.length).length (cD (eo D s.J bl.length)))], .one (.c (.bool true))]) := by
    intro bl XI cn XE;have aF : bl.Nodup := by rw [XI]; exact wQ
    have hlen : (fH (p1, p2) (q1, q2) bl).length = bl.length := (Ar _ _ bl).length_eq;refine ⟨?_, ?_⟩
    · have := acf (fx := decide ((2 : Int) ^ r * q1 < 2 ^ r * p1)) (fy := decide ((2 : Int) ^ r * q2 < 2 ^ r * p2)) 1100 bl XE (by omega)
      rw [VZ (p := (p1, p2)) (q := (q1, q2)) aF] at this;exact this
    · have := Zs V D s.J (fH (p1, p2) (q1, q2) bl) jR h6 (by omega) (by omega) kh
      have G0 : (fH (p1, p2) (q1, q2) bl).isEmpty = false := by
        cases h : fH (p1, p2) (q1, q2) bl with
        | nil => rw [h] at hlen; exact absurd (mq hlen.symm) cn
        | cons a l => rfl
      rw [G0, hlen] at this;exact this
  rintro cs R jo;obtain ⟨hv, fv, cv, b, S, lk, hS, cQ, fQ, rfl, rfl⟩ := id jo;have cX : ∀ (I J T : Int) (fv : Value), (er E r rm s.ph I J T s.dirty hv fv cv b lk).all AC.bc = true := fun I J T fv => by simp only [j1, mr, cQ]; rfl
  unfold r9;simp only [show (bz E r rm).gu = fH from rfl];cases uP : iV (bz E r rm) (p1, p2) (q1, q2) (c7, dq) with
  | true =>
    rw [uP] at cc;have FP : k9 (bz E r rm) (p1, p2) (q1, q2) (c7, dq) s.fnd = s.fnd ++ [(c7, dq)] := by unfold k9; rw [uP]; rfl
    rw [FP] at split ⊢;have XF : (s.fnd ++ [(c7, dq)]).length ≤ 1100 := by rw [cR, List.length_singleton]; omega
    have cn : s.fnd ++ [(c7, dq)] ≠ [] := by simp
    obtain ⟨xK, EK⟩ := split _ rfl cn XF;clear split wQ uP;refine dk (f := 67) Tryz.func67 rfl (dh rfl) (by exact ej rfl) ?_;(repeat first | (with_reducible apply ev); kernel_rfl | (with_reducible apply dR (id := 1) [10,0,1,2,3,4,5,6,7,8,9,11]); kernel_rfl; kernel_rfl; exact rfl | (with_reducible apply dR (id := 2) [6,0,1,2,3,4,5,7]); kernel_rfl; kernel_rfl; exact rfl | (with_reducible apply dR (id := 3) [10,0,1,2,3,4,5,6,7,8,9,11]); kernel_rfl; kernel_rfl; exact rfl | (with_reducible apply dR (id := 4) [0,1,2,3,4,5,6]); kernel_rfl; kernel_rfl; exact rfl | (with_reducible apply lr (id := 5) [0,1,2,3,4,5,6,7,8,9,10] [3000048]); kernel_rfl; kernel_rfl; exact rfl | (with_reducible first | apply ba | apply aR | apply a7 | apply aU) | (with_reducible apply dz); exact rfl; (exact rfl) | (with_reducible apply aM); exact rfl; (repeat first | (with_reducible apply aA); exact rfl | (with_reducible apply c3); (iterate 3 exact rfl) | (with_reducible apply l5); (iterate 10 exact rfl) | refine dM rfl rfl rfl rfl (by (exact aP)) rfl ?_ | refine jP rfl rfl rfl rfl rfl (by (exact cc)) rfl ?_); (with_reducible apply aB) | (with_reducible apply jw 1); (iterate 4 exact rfl); (omega); (assumption); exact rfl; kernel_rfl; exact rfl | (with_reducible apply jw 3); (iterate 4 exact rfl); (omega); (assumption); exact rfl; kernel_rfl; exact rfl | (with_reducible apply np 1); (iterate 3 exact rfl); (assumption); assumption; exact rfl; kernel_rfl; exact rfl | (with_reducible apply np 3); (iterate 3 exact rfl); (assumption); assumption; exact rfl; kernel_rfl; exact rfl);refine qx 2 rfl rfl rfl rfl ?q1 ?q2 rfl rfl (fun v1 iF => ?_)
    case q1 => exact kR (by show s.fnd.length + 1 ≤ 1000000; omega)
    case q2 => show (s.fnd.length + 1) * 16 ≤ 140737488355328; omega
    (repeat first | (with_reducible apply ev); kernel_rfl | (with_reducible apply dR (id := 7) [0,1,2,3,4,5,6,7,8,9]); kernel_rfl; kernel_rfl; exact rfl | (with_reducible first | apply ba | apply aR | apply a7 | apply aU) | (with_reducible apply aM); exact rfl; (repeat first | (with_reducible apply aA); exact rfl | (with_reducible apply c3); (iterate 3 exact rfl) | (with_reducible apply fh); (iterate 3 exact rfl); (exact da (by omega)); exact rfl); (with_reducible apply aB) | (with_reducible apply nn 1); (iterate 4 exact rfl); kernel_rfl; exact rfl);refine Ee (dG b S hv v1 cv s.hot (s.fnd ++ [(c7, dq)]) s.ch) (bH.of_eq adH.symm) ?_
    by_cases tn : s.T + 1 < s.hot.length
    · rw [if_pos tn]
      have yM : (s.T : Int) + 1 < (s.hot.length : Int) := by omega
      have fB : dv E r rm { s with fnd := s.fnd ++ [(c7, dq)], T := s.T + 1 } (er E r rm s.ph s.I s.J ((s.T : Int) + 1) s.dirty hv v1 cv b lk) (dG b S hv v1 cv s.hot (s.fnd ++ [(c7, dq)]) s.ch) := ⟨hv, v1, cv, b, S, lk, hS, cQ, fQ, rfl, rfl⟩;(repeat first | (with_reducible first | apply db | apply hh) | (with_reducible apply dz); exact rfl; (exact bB (by omega)))
      ((refine eI rfl bf rfl (bH.refl _) fB.closed rfl e8 ?_))
      exact ⟨_, rfl, rfl, fB⟩
    · rw [if_neg tn, if_neg cn]
      have yM : ¬ (s.T : Int) + 1 < (s.hot.length : Int) := by omega
      have G0 : ¬ ((s.fnd ++ [(c7, dq)]).length : Int) = 0 := fun h => cn (mq (by omega));refine Qk 2 1000 9 (ie v1 (s.fnd ++ [(c7, dq)])) rfl rfl rfl ?_;refine nK 2 59 2 rfl ?_
      refine Ee (dG b S hv (.slice none 0 0) cv s.hot [] s.ch) (fun k q af => by
        match k with
        | 0 => exact af
        | 1 => exact af
        | 2 => exact af
        | 3 => exact af
        | k + 4 => cases af) ?_
      have fB : dv E r rm { s with T := 0, fnd := [], ch := s.ch.set s.I (bx.c9 V s.J (fH (p1, p2) (q1, q2) (s.fnd ++ [(c7, dq)])), eo D s.J (s.fnd ++ [(c7, dq)]).length) } (er E r rm s.ph s.I s.J 0 s.dirty hv (.slice none 0 0) cv b lk) (dG b S hv (.slice none 0 0) cv s.hot [] (s.ch.set s.I (bx.c9 V s.J (fH (p1, p2) (q1, q2) (s.fnd ++ [(c7, dq)])), eo D s.J (s.fnd ++ [(c7, dq)]).length))) := ⟨hv, _, cv, b, S, lk, hS, cQ, (fun h => absurd (gO.symm.trans (show s.ph = 3 from h)) (by decide)), rfl, rfl⟩
      have mF : bM (dG b S hv (.slice none 0 0) cv s.hot [] s.ch) 3 ⟨53, 2, cv, s.ch.length, ey (eA s.ch) ((s.I : Int).toNat * 2) [.p (cz 2 (bx.c9 V s.J (fH (p1, p2) (q1, q2) (s.fnd ++ [(c7, dq)]))).length (b3 (bx.c9 V s.J (fH (p1, p2) (q1, q2) (s.fnd ++ [(c7, dq)]))))), .p (cz 1 (eo D s.J (s.fnd ++ [(c7, dq)]).length).length (cD (eo D s.J (s.fnd ++ [(c7, dq)]).length)))]⟩ = dG b S hv (.slice none 0 0) cv s.hot [] (s.ch.set s.I (bx.c9 V s.J (fH (p1, p2) (q1, q2) (s.fnd ++ [(c7, dq)])), eo D s.J (s.fnd ++ [(c7, dq)]).length)) := by
        rw [KI rfl bq, show s.ch.length = (s.ch.set s.I (bx.c9 V s.J (fH (p1, p2) (q1, q2) (s.fnd ++ [(c7, dq)])), eo D s.J (s.fnd ++ [(c7, dq)]).length)).length from (List.length_set ..).symm];exact P3
      generalize Hk : bx.c9 V s.J (fH (p1, p2) (q1, q2) (s.fnd ++ [(c7, dq)])) = JL at *;generalize Hl : eo D s.J (s.fnd ++ [(c7, dq)]).length = vI at *;generalize MY : fH (p1, p2) (q1, q2) (s.fnd ++ [(c7, dq)]) = L' at *;(repeat first | (with_reducible apply lr (id := 12) [0,1,2,3,4,5,6,7,8,9,10,11,12,13,14,15,16,17,18,19,20,21,22,23,24,25,26,27,28,29,30,31,32] [4000000]); kernel_rfl; kernel_rfl; exact rfl | (with_reducible first | apply ba | apply aR | apply a7 | apply aU | apply cS) | (with_reducible apply c6); exact rfl; (exact bR (by omega)) | (with_reducible apply aM); exact rfl; (repeat first | (with_reducible apply aA); exact rfl | (with_reducible apply c3); (iterate 3 exact rfl) | (with_reducible apply dC); (iterate 3 exact rfl) | refine dM rfl rfl rfl rfl (by (first | exact e5 | exact mS | exact xK)) rfl ?_ | refine jP rfl rfl rfl rfl rfl (by (exact EK)) rfl ?_); (with_reducible apply aB) | (with_reducible apply jw 3); (iterate 4 exact rfl); (omega); (assumption); exact rfl; kernel_rfl; exact rfl);refine zd 3 rfl rfl rfl rfl i2 rfl rfl kc.1 rfl ?_;(repeat first | (with_reducible apply ev); kernel_rfl | (with_reducible first | apply aR | apply a7 | apply aU) | (with_reducible apply aM); exact rfl; (repeat first | (with_reducible apply aA); exact rfl | (with_reducible apply c3); (iterate 3 exact rfl)); (with_reducible apply aB))
      ((refine eI rfl bf rfl (bH.of_eq mF.symm) fB.closed rfl e8 ?_))
      exact ⟨_, rfl, rfl, fB⟩
  | false =>
    rw [uP] at cc;have FP : k9 (bz E r rm) (p1, p2) (q1, q2) (c7, dq) s.fnd = s.fnd := by unfold k9; rw [uP]; rfl
    rw [FP] at split ⊢;have ag1 := dY
    by_cases cn : s.fnd = []
    · clear split wQ uP
      have dp : ({ s with fnd := s.fnd } : bx.aT ao) = s := rfl;have aG : (s.fnd.length : Int) = 0 := by rw [cn]; rfl
      have fC := NA (E := E) (r := r) (rm := rm) (s := { s with T := 0, fnd := [], J := s.J + 1 }) hd rfl ak bq (by show s.J + 1 ≤ 1100; omega) gO;have lb : dv E r rm { s with T := 0, fnd := [], J := s.J + 1 } (er E r rm s.ph s.I ((s.J : Int) + 1) 0 s.dirty hv fv cv b lk) (dG b S hv fv cv s.hot s.fnd s.ch) := ⟨hv, fv, cv, b, S, lk, hS, cQ, fQ, rfl, by rw [cn]⟩
      by_cases tn : s.T + 1 < s.hot.length
      · rw [if_pos tn]
        have yM : (s.T : Int) + 1 < (s.hot.length : Int) := by omega
        have fB : dv E r rm { s with fnd := s.fnd, T := s.T + 1 } (er E r rm s.ph s.I s.J ((s.T : Int) + 1) s.dirty hv fv cv b lk) (dG b S hv fv cv s.hot s.fnd s.ch) := ⟨hv, fv, cv, b, S, lk, hS, cQ, fQ, rfl, rfl⟩;refine dk (f := 67) Tryz.func67 rfl (dh rfl) (by exact ej rfl) ?_;(repeat first | (with_reducible apply ev); kernel_rfl | (with_reducible apply dR (id := 1) [10,0,1,2,3,4,5,6,7,8,9,11]); kernel_rfl; kernel_rfl; exact rfl | (with_reducible apply dR (id := 2) [6,0,1,2,3,4,5,7]); kernel_rfl; kernel_rfl; exact rfl | (with_reducible apply dR (id := 3) [10,0,1,2,3,4,5,6,7,8,9,11]); kernel_rfl; kernel_rfl; exact rfl | (with_reducible apply dR (id := 4) [0,1,2,3,4,5,6]); kernel_rfl; kernel_rfl; exact rfl | (with_reducible apply dR (id := 7) [0,1,2,3,4,5,6,7,8,9]); kernel_rfl; kernel_rfl; exact rfl | (with_reducible first | apply ba | apply aR | apply a7 | apply aU | apply db | apply cS | apply hh) | (with_reducible apply dz); exact rfl; (exact bB (by omega)) | (with_reducible apply c6); exact rfl; (exact rfl) | (with_reducible apply aM); exact rfl; (repeat first | (with_reducible apply aA); exact rfl | (with_reducible apply c3); (iterate 3 exact rfl) | (with_reducible apply fh); (iterate 3 exact rfl); (exact da (by omega)); exact rfl | refine dM rfl rfl rfl rfl (by (exact aP)) rfl ?_ | refine jP rfl rfl rfl rfl rfl (by (exact cc)) rfl ?_); (with_reducible apply aB) | (with_reducible apply nn 1); (iterate 4 exact rfl); kernel_rfl; exact rfl | (with_reducible apply jw 1); (iterate 4 exact rfl); (omega); (assumption); exact rfl; kernel_rfl; exact rfl | (with_reducible apply jw 3); (iterate 4 exact rfl); (omega); (assumption); exact rfl; kernel_rfl; exact rfl | (with_reducible apply np 1); (iterate 3 exact rfl); (assumption); assumption; exact rfl; kernel_rfl; exact rfl | (with_reducible apply np 3); (iterate 3 exact rfl); (assumption); assumption; exact rfl; kernel_rfl; exact rfl)
        ((refine eI rfl bf rfl (bH.refl _) fB.closed rfl e8 ?_))
        exact ⟨_, rfl, rfl, fB⟩
      · rw [if_neg tn, if_pos cn]
        have yM : ¬ (s.T : Int) + 1 < (s.hot.length : Int) := by omega
        refine dk (f := 67) Tryz.func67 rfl (dh rfl) (by exact ej rfl) ?_;(repeat first | (with_reducible apply ev); kernel_rfl | (with_reducible apply dR (id := 1) [10,0,1,2,3,4,5,6,7,8,9,11]); kernel_rfl; kernel_rfl; exact rfl | (with_reducible apply dR (id := 2) [6,0,1,2,3,4,5,7]); kernel_rfl; kernel_rfl; exact rfl | (with_reducible apply dR (id := 3) [10,0,1,2,3,4,5,6,7,8,9,11]); kernel_rfl; kernel_rfl; exact rfl | (with_reducible apply dR (id := 4) [0,1,2,3,4,5,6]); kernel_rfl; kernel_rfl; exact rfl | (with_reducible apply dR (id := 7) [0,1,2,3,4,5,6,7,8,9]); kernel_rfl; kernel_rfl; exact rfl | (with_reducible first | apply ba | apply aR | apply a7 | apply aU | apply cS) | (with_reducible apply dz); exact rfl; (exact bB (by omega)) | (with_reducible apply c6); exact rfl; (first | exact bR (by omega) | exact rfl) | (with_reducible apply aM); exact rfl; (repeat first | (with_reducible apply aA); exact rfl | (with_reducible apply c3); (iterate 3 exact rfl) | (with_reducible apply fh); (iterate 3 exact rfl); (exact da (by omega)); exact rfl | refine dM rfl rfl rfl rfl (by (exact aP)) rfl ?_ | refine jP rfl rfl rfl rfl rfl (by (exact cc)) rfl ?_); (with_reducible apply aB) | (with_reducible apply nn 1); (iterate 4 exact rfl); kernel_rfl; exact rfl | (with_reducible apply nn 2); (iterate 4 exact rfl); kernel_rfl; exact rfl | (with_reducible apply jw 1); (iterate 4 exact rfl); (omega); (assumption); exact rfl; kernel_rfl; exact rfl | (with_reducible apply jw 3); (iterate 4 exact rfl); (omega); (assumption); exact rfl; kernel_rfl; exact rfl | (with_reducible apply np 1); (iterate 3 exact rfl); (assumption); assumption; exact rfl; kernel_rfl; exact rfl | (with_reducible apply np 3); (iterate 3 exact rfl); (assumption); assumption; exact rfl; kernel_rfl; exact rfl);refine hM rfl rfl rfl rfl rfl rfl rfl rfl fC lb (fun ar az Gk => ?_);(repeat first | (with_reducible first | apply aR | apply aU | apply db | apply hh));obtain ⟨CR, Cf, BP, dD, uv, Dd, Cq, CH, CG, rfl, rfl⟩ := id Gk
        ((refine eI rfl bf rfl (bH.refl _) Gk.closed rfl e8 ?_))
        exact ⟨_, rfl, rfl, Gk⟩
    obtain ⟨xK, EK⟩ := split _ rfl cn (by omega);clear split wQ uP;refine dk (f := 67) Tryz.func67 rfl (dh rfl) (by exact ej rfl) ?_;(repeat first | (with_reducible apply ev); kernel_rfl | (with_reducible apply dR (id := 1) [10,0,1,2,3,4,5,6,7,8,9,11]); kernel_rfl; kernel_rfl; exact rfl | (with_reducible apply dR (id := 2) [6,0,1,2,3,4,5,7]); kernel_rfl; kernel_rfl; exact rfl | (with_reducible apply dR (id := 3) [10,0,1,2,3,4,5,6,7,8,9,11]); kernel_rfl; kernel_rfl; exact rfl | (with_reducible apply dR (id := 4) [0,1,2,3,4,5,6]); kernel_rfl; kernel_rfl; exact rfl | (with_reducible apply dR (id := 7) [0,1,2,3,4,5,6,7,8,9]); kernel_rfl; kernel_rfl; exact rfl | (with_reducible first | apply ba | apply aR | apply a7 | apply aU | apply cS) | (with_reducible apply c6); exact rfl; (exact rfl) | (with_reducible apply aM); exact rfl; (repeat first | (with_reducible apply aA); exact rfl | (with_reducible apply c3); (iterate 3 exact rfl) | (with_reducible apply fh); (iterate 3 exact rfl); (exact da (by omega)); exact rfl | refine dM rfl rfl rfl rfl (by (exact aP)) rfl ?_ | refine jP rfl rfl rfl rfl rfl (by (exact cc)) rfl ?_); (with_reducible apply aB) | (with_reducible apply nn 1); (iterate 4 exact rfl); kernel_rfl; exact rfl | (with_reducible apply jw 1); (iterate 4 exact rfl); (omega); (assumption); exact rfl; kernel_rfl; exact rfl | (with_reducible apply jw 3); (iterate 4 exact rfl); (omega); (assumption); exact rfl; kernel_rfl; exact rfl | (with_reducible apply np 1); (iterate 3 exact rfl); (assumption); assumption; exact rfl; kernel_rfl; exact rfl | (with_reducible apply np 3); (iterate 3 exact rfl); (assumption); assumption; exact rfl; kernel_rfl; exact rfl)
    by_cases tn : s.T + 1 < s.hot.length
    · rw [if_pos tn]
      have yM : (s.T : Int) + 1 < (s.hot.length : Int) := by omega
      have fB : dv E r rm { s with fnd := s.fnd, T := s.T + 1 } (er E r rm s.ph s.I s.J ((s.T : Int) + 1) s.dirty hv fv cv b lk) (dG b S hv fv cv s.hot (s.fnd) s.ch) := ⟨hv, fv, cv, b, S, lk, hS, cQ, fQ, rfl, rfl⟩;(repeat first | (with_reducible first | apply db | apply hh) | (with_reducible apply dz); exact rfl; (exact bB (by omega)))
      ((refine eI rfl bf rfl (bH.refl _) fB.closed rfl e8 ?_))
      exact ⟨_, rfl, rfl, fB⟩
    · rw [if_neg tn, if_neg cn]
      have yM : ¬ (s.T : Int) + 1 < (s.hot.length : Int) := by omega
      have G0 : ¬ ((s.fnd).length : Int) = 0 := fun h => cn (mq (by omega));refine Qk 2 1000 9 (ie fv (s.fnd)) rfl rfl rfl ?_;refine nK 2 59 2 rfl ?_
      refine Ee (dG b S hv (.slice none 0 0) cv s.hot [] s.ch) (fun k q af => by
        match k with
        | 0 => exact af
        | 1 => exact af
        | 2 => exact af
        | 3 => exact af
        | k + 4 => cases af) ?_
      have fB : dv E r rm { s with T := 0, fnd := [], ch := s.ch.set s.I (bx.c9 V s.J (fH (p1, p2) (q1, q2) (s.fnd)), eo D s.J (s.fnd).length) } (er E r rm s.ph s.I s.J 0 s.dirty hv (.slice none 0 0) cv b lk) (dG b S hv (.slice none 0 0) cv s.hot [] (s.ch.set s.I (bx.c9 V s.J (fH (p1, p2) (q1, q2) (s.fnd)), eo D s.J (s.fnd).length))) := ⟨hv, _, cv, b, S, lk, hS, cQ, (fun h => absurd (gO.symm.trans (show s.ph = 3 from h)) (by decide)), rfl, rfl⟩
      have mF : bM (dG b S hv (.slice none 0 0) cv s.hot [] s.ch) 3 ⟨53, 2, cv, s.ch.length, ey (eA s.ch) ((s.I : Int).toNat * 2) [.p (cz 2 (bx.c9 V s.J (fH (p1, p2) (q1, q2) (s.fnd))).length (b3 (bx.c9 V s.J (fH (p1, p2) (q1, q2) (s.fnd))))), .p (cz 1 (eo D s.J (s.fnd).length).length (cD (eo D s.J (s.fnd).length)))]⟩ = dG b S hv (.slice none 0 0) cv s.hot [] (s.ch.set s.I (bx.c9 V s.J (fH (p1, p2) (q1, q2) (s.fnd)), eo D s.J (s.fnd).length)) := by
        rw [KI rfl bq, show s.ch.length = (s.ch.set s.I (bx.c9 V s.J (fH (p1, p2) (q1, q2) s.fnd), eo D s.J s.fnd.length)).length from (List.length_set ..).symm];exact P3
      generalize Hk : bx.c9 V s.J (fH (p1, p2) (q1, q2) (s.fnd)) = JL at *;generalize Hl : eo D s.J (s.fnd).length = vI at *;generalize MY : fH (p1, p2) (q1, q2) (s.fnd) = L' at *;(repeat first | (with_reducible apply lr (id := 12) [0,1,2,3,4,5,6,7,8,9,10,11,12,13,14,15,16,17,18,19,20,21,22,23,24,25,26,27,28,29,30,31,32] [4000000]); kernel_rfl; kernel_rfl; exact rfl | (with_reducible first | apply ba | apply aR | apply a7 | apply aU | apply cS) | (with_reducible apply c6); exact rfl; (exact bR (by omega)) | (with_reducible apply aM); exact rfl; (repeat first | (with_reducible apply aA); exact rfl | (with_reducible apply c3); (iterate 3 exact rfl) | (with_reducible apply dC); (iterate 3 exact rfl) | refine dM rfl rfl rfl rfl (by (first | exact e5 | exact mS | exact xK)) rfl ?_ | refine jP rfl rfl rfl rfl rfl (by (exact EK)) rfl ?_); (with_reducible apply aB) | (with_reducible apply jw 3); (iterate 4 exact rfl); (omega); (assumption); exact rfl; kernel_rfl; exact rfl);refine zd 3 rfl rfl rfl rfl i2 rfl rfl kc.1 rfl ?_;(repeat first | (with_reducible apply ev); kernel_rfl | (with_reducible first | apply aR | apply a7 | apply aU) | (with_reducible apply aM); exact rfl; (repeat first | (with_reducible apply aA); exact rfl | (with_reducible apply c3); (iterate 3 exact rfl)); (with_reducible apply aB))
      ((refine eI rfl bf rfl (bH.of_eq mF.symm) fB.closed rfl e8 ?_))
      exact ⟨_, rfl, rfl, fB⟩
end
section
variable {P : Program} {R : aJ} {s : aD} {ops : Array Oper} {dr : Option (List Nat)} {ty : Nat} {pos : String} {after : Array Edge} {guard : Option (Nat × Bool)} {K : aJ → aD → Prop} {rest : List Oper}
theorem CQ {bs : List Value} {dst : Option Nat} {f : FuncId} {g : Operand} {aS : Array TypeId} {l : List Operand} {args : List ai} {m0 : Mem} {R0 : aJ} {Post : ai → Mem → aJ → Prop} [E : Enters P f] (hw : want ops ⟨dst, .call ⟨.value g, l.toArray, aS⟩, ty, pos, after, guard⟩ s = some true) (hm : dJ dr ⟨dst, .call ⟨.value g, l.toArray, aS⟩, ty, pos, after, guard⟩ = true)
  (aw : s.look g = some (aQ (.func (.func f) bs.toArray #[]))) (ab : bs.all Bx = true) (aK : bs.map (fun b => some (xi b)) ++ l.map s.look = args.map some) (hp : dn P f args m0 R0 Post) (ax : ∀ x ∈ args, ∀ j, x.owns j → ∃ cs, m0 j = some cs) (pv : ∀ k cs, m0 k = some cs → s.mem k = some cs ∧ (oP dr k = true ∨ ∀ r aH az, Post r aH az → aH k = some cs)) (aq : bH R0 R) (fE : ∀ k cs x j, m0 k = some cs → x ∈ cs → x.owns j → ∃ ar, m0 j = some ar) (hd : kH dst s.n = true)
  (h : ∀ r aH az, Post r aH az → (∀ k ar, aH k = some ar → (∃ cs, m0 k = some cs) ∨ (s.mem k = none ∧ k < s.n)) ∧ cL P ops dr K rest (bZ az R) ((s.over aH).put dst r)) : cL P ops dr K (⟨dst, .call ⟨.value g, l.toArray, aS⟩, ty, pos, after, guard⟩ :: rest) R s := by
 refine ⟨true, hw, K5 hd, .inr (.inr (.inr (.inr (.inl ⟨rfl, hm, f, args, m0, R0, Post, ⟨⟨_, g, rfl, rfl, .inl ⟨bs, aw, ?_, ab⟩⟩, E.h⟩, hp, ax, pv, aq, fE, fun r aH az h1 _ _ _ => h r aH az h1⟩))))⟩;simpa using aK
theorem TO (g e off : Nat) (cs : List AC) : mN g off = jg (iy g e cs).v off := by
 show mN g off = .pointer (some ((⟨g, 0, none⟩ : Addr).add off));rw [Bo, jF]
theorem tD {x : Operand} {d lt off g e : Nat} {cs : List AC} {c1 : AC} (i : Nat) [T : fM P lt false 1] (hi : R i = some (iy g e cs)) (hw : want ops ⟨some d, .load lt x, ty, pos, after, guard⟩ s = some true) (aa : s.look x = some (aQ (mN g off))) (a6 : cs[off]? = some c1) (ak : (ai.w (.one c1)).bc = true) (aq : tZ ops dr (some d) = true) (hd : Nat.blt d s.n = true) (h : cL P ops dr K rest R (s.put (some d) (.w (.one c1)))) : cL P ops dr K (⟨some d, .load lt x, ty, pos, after, guard⟩ :: rest) R s :=
 za i hi hw (by rw [aa, TO g e off cs]) Nat.one_pos a6 ak aq hd h
end
theorem yS {P : Program} {fn : Func} {l : List ResultVar} {xs : List bG} {R R0 bn : aJ} {s : aD} {Post : ai → Mem → aJ → Prop} (aq : fn.results = l.toArray) (h : l.map (ik P s) = xs.map some) (ay : bH bn R) (aa : (packed xs).bc = true) (aG : ∀ i r, R0 i = some r → ∃ a8, bn i = some a8) (hp : Post (packed xs) ca bn) : tv P fn ca R0 Post R s :=
 ⟨xs, packed xs, ca, bn, by rw [aq]; exact h, .refl _, hp, fun k c h => (by cases h), ay, fun j ae => absurd ae (ai.dw aa j), fun k c x j h => (by cases h), fun k c h => (by cases h), aG⟩
theorem dv.nZ {E : List (Int × b6)} {r rm : Nat} {s : bx.aT ao} {cs : List AC} {R : aJ} (h : dv E r rm s cs R) : R 9 = none ∧ cs.all AC.bc = true ∧ 0 < cs.length := by
 refine ⟨?_, h.closed, ?_⟩
 ·obtain ⟨_, _, _, _, _, _, _, _, _, _, rfl⟩ := h; rfl
 ·obtain ⟨_, _, _, _, _, _, _, _, _, rfl, _⟩ := h; exact jd _
section
variable {E : List (Int × b6)} {r rm : Nat}
theorem D7 {f : FuncId} {s s1 : bx.aT ao} {v : ai} {cs : List AC} {R : aJ} (Hj : v.bc = true) (hp : fT E r rm f [] s v s1) (bq : dv E r rm s cs R) (g e : Nat) : dn aj f [aQ (dP g)] ca (bM R 9 (iy g e cs)) fun b7 aH az => ∃ ar bn bu, (b7 = v ∧ dv E r rm s1 ar bn) ∧ aH = ca ∧ az = bM bn 9 (iy g bu ar) := by
 have h := (hp cs R bq).ae9 9 g e rfl bq.nZ.2.1 bq.nZ.2.2 bq.nZ.1 (fun b7 aH az al => by
  obtain ⟨ar, rfl, rfl, al⟩ := al;exact ⟨Hj, al.nZ.1, ar, rfl, al.nZ.2.1, al.nZ.2.2⟩)
 refine ⟨fun U ad W vs cK ee dH => (h.call U ad W vs cK ee dH).mono ?_⟩;rintro dp W' ⟨v1, cP, aH, az, bg, cA, cY, ⟨ar, bn, bu, ⟨s5, he, al⟩, rfl, rfl⟩, lT⟩
 have : s5 = ar := by
  have h1 : cM 1000 ar 1000 = some ar := by unfold cM; exact cr _ _ _
  rw [he] at h1;exact (hb h1).2.symm
 subst this;exact ⟨v1, cP, ca, _, bg, cA, cY, ⟨s5, bn, bu, al, rfl, rfl⟩, lT⟩
theorem D6 {f : FuncId} {args : List ai} {s s1 : bx.aT ao} {v : ai} (Hj : v.bc = true) (ek : args.all ai.bc = true) (h : ∀ cs R, dv E r rm s cs R → ∀ g e, dn aj f (aQ (dP g) :: args) ca (bM R 9 (iy g e cs)) fun b7 aH az => ∃ ar bn bu, (b7 = v ∧ dv E r rm s1 ar bn) ∧ aH = ca ∧ az = bM bn 9 (iy g bu ar)) : fT E r rm f args s v s1 := by
 intro cs R bq;refine dn.ae8 9 (fun g e => ?_) ek bq.nZ.2.1 bq.nZ.2.2 bq.nZ.1 (fun b7 ar az al => ?_)
 ·refine ⟨fun U ad W vs cK ee dH => ((h cs R bq g e).call U ad W vs cK ee dH).mono ?_⟩;rintro dp W' ⟨v1, cP, aH, az, bg, cA, cY, ⟨ar, bn, bu, al, rfl, rfl⟩, lT⟩;exact ⟨v1, cP, ca, _, bg, cA, cY, ⟨ar, bn, bu, ⟨ar, rfl, al⟩, rfl, rfl⟩, lT⟩
 ·obtain ⟨s5, he, rfl, al⟩ := al
  have : s5 = ar := by
   have h1 : cM 1000 ar 1000 = some ar := by unfold cM; exact cr _ _ _
   rw [he] at h1;exact (hb h1).2.symm
  subst this;exact ⟨Hj, al.nZ.1, al.nZ.2.1, al.nZ.2.2⟩
theorem D4 {s s1 : bx.aT ao} {cs ar : List AC} {R az : aJ} {g e bu : Nat} (h : dv E r rm s cs R) (aC : dv E r rm s1 ar az) : ∀ i q, bM R 9 (iy g e cs) i = some q → ∃ cy, bM az 9 (iy g bu ar) i = some cy := by
 obtain ⟨_, _, _, _, _, _, _, _, _, _, rfl⟩ := h;obtain ⟨_, _, _, _, _, _, _, _, _, _, rfl⟩ := aC;intro i q al
 by_cases qi : i = 9
 ·subst qi; exact ⟨_, cr _ _ _⟩
 ·rw [cj _ _ qi] at al;obtain ⟨cy, qw⟩ := e8 i q al;exact ⟨cy, by rw [cj _ _ qi]; exact qw⟩
theorem D5 {s s1 : bx.aT ao} {cs ar : List AC} {R az : aJ} {g e bu : Nat} (h : dv E r rm s cs R) (aC : dv E r rm s1 ar az) : bZ (bM az 9 (iy g bu ar)) (bM R 9 (iy g e cs)) = bM az 9 (iy g bu ar) := by
 have ax := h.bZ aC;funext i
 by_cases qi : i = 9
 ·subst qi; exact (hf (cr _ _ _)).trans (cr _ _ _).symm
 ·have : bZ az R i = az i := congrFun ax i;unfold bZ at this ⊢;rw [cj _ _ qi, cj _ _ qi]; exact this
theorem Zv {s s1 : bx.aT ao} (gO : s.ph = 0) (hp : fT E r rm 65 [] s lu s1) : fT E r rm 23 [] s (bF true) s1 := by
 refine D6 rfl rfl fun cs R bq g e => ?_;have aP := D7 rfl hp bq g e;obtain ⟨ph, I, J, T, dirty, hot, fnd, ch⟩ := s;obtain rfl : ph = 0 := gO;obtain ⟨hv, fv, cv, b, S, lk, hS, cQ, fQ, rfl, rfl⟩ := id bq;refine dk (f := 23) Tryz.func23 rfl (dh rfl) (by exact n2) ?_;(repeat first | (with_reducible first | apply ba | apply aR | apply a7 | apply aU) | (with_reducible apply aM); exact rfl; (repeat first | (with_reducible apply aA); exact rfl | (with_reducible apply sX); (iterate 3 exact rfl) | (with_reducible apply sV); (iterate 3 exact rfl)); (with_reducible apply aB));refine tD 9 rfl rfl rfl rfl rfl rfl rfl ?_;(repeat first | (with_reducible first | apply ba | apply aR | apply a7 | apply aU | apply cS) | (with_reducible apply c6); exact rfl; ((simp only [iz]; (omega))) | (with_reducible apply aM); exact rfl; (repeat first | (with_reducible apply aA); exact rfl | (with_reducible apply x7); (iterate 4 exact rfl) | (with_reducible apply sX); (iterate 3 exact rfl) | (with_reducible apply sV); (iterate 3 exact rfl)); (with_reducible apply aB));refine tD 9 rfl rfl rfl rfl rfl rfl rfl ?_;(repeat first | (with_reducible apply aM); exact rfl; (repeat first | (with_reducible apply aA); exact rfl); (with_reducible apply aB));refine CQ (bs := [dP g]) (args := [aQ (dP g)]) (l := []) rfl rfl rfl rfl rfl aP (fun x aa j ae => by simp at aa; subst aa; exact absurd ae (iJ _ j)) (fun k c h => by cases h) (bH.refl _) (fun k c x j h => by cases h) rfl (fun b7 aH az al => ?_);obtain ⟨ar, bn, bu, ⟨rfl, cg⟩, rfl, rfl⟩ := al;refine ⟨fun k c h => (by cases h), ?_⟩;rw [D5 bq cg, tU];(repeat first | (with_reducible first | apply ba | apply aR | apply a7 | apply aU | apply db) | (with_reducible apply aM); exact rfl; (repeat first | (with_reducible apply aA); exact rfl); (with_reducible apply aB))
 ((refine yS rfl (bE rfl bf) (bH.refl _) rfl (D4 bq cg) ?_))
 exact ⟨ar, bn, bu, ⟨rfl, cg⟩, rfl, rfl⟩
theorem Zw {s s1 : bx.aT ao} (gO : s.ph = 1) (hp : fT E r rm 66 [] s lu s1) : fT E r rm 23 [] s (bF true) s1 := by
 refine D6 rfl rfl fun cs R bq g e => ?_;have aP := D7 rfl hp bq g e;obtain ⟨ph, I, J, T, dirty, hot, fnd, ch⟩ := s;obtain rfl : ph = 1 := gO;obtain ⟨hv, fv, cv, b, S, lk, hS, cQ, fQ, rfl, rfl⟩ := id bq;refine dk (f := 23) Tryz.func23 rfl (dh rfl) (by exact n2) ?_;(repeat first | (with_reducible first | apply ba | apply aR | apply a7 | apply aU) | (with_reducible apply aM); exact rfl; (repeat first | (with_reducible apply aA); exact rfl | (with_reducible apply sX); (iterate 3 exact rfl) | (with_reducible apply sV); (iterate 3 exact rfl)); (with_reducible apply aB));refine tD 9 rfl rfl rfl rfl rfl rfl rfl ?_;(repeat first | (with_reducible first | apply ba | apply aR | apply a7 | apply aU | apply cS) | (with_reducible apply c6); exact rfl; ((simp only [iz]; (omega))) | (with_reducible apply aM); exact rfl; (repeat first | (with_reducible apply aA); exact rfl | (with_reducible apply x7); (iterate 4 exact rfl) | (with_reducible apply sX); (iterate 3 exact rfl) | (with_reducible apply sV); (iterate 3 exact rfl)); (with_reducible apply aB));refine tD 9 rfl rfl rfl rfl rfl rfl rfl ?_;(repeat first | (with_reducible apply aM); exact rfl; (repeat first | (with_reducible apply aA); exact rfl); (with_reducible apply aB));refine CQ (bs := [dP g]) (args := [aQ (dP g)]) (l := []) rfl rfl rfl rfl rfl aP (fun x aa j ae => by simp at aa; subst aa; exact absurd ae (iJ _ j)) (fun k c h => by cases h) (bH.refl _) (fun k c x j h => by cases h) rfl (fun b7 aH az al => ?_);obtain ⟨ar, bn, bu, ⟨rfl, cg⟩, rfl, rfl⟩ := al;refine ⟨fun k c h => (by cases h), ?_⟩;rw [D5 bq cg, tU];(repeat first | (with_reducible first | apply ba | apply aR | apply a7 | apply aU | apply db) | (with_reducible apply aM); exact rfl; (repeat first | (with_reducible apply aA); exact rfl); (with_reducible apply aB))
 ((refine yS rfl (bE rfl bf) (bH.refl _) rfl (D4 bq cg) ?_))
 exact ⟨ar, bn, bu, ⟨rfl, cg⟩, rfl, rfl⟩
theorem Zx {s s1 : bx.aT ao} (gO : s.ph = 2) (hp : fT E r rm 67 [] s lu s1) : fT E r rm 23 [] s (bF true) s1 := by
 refine D6 rfl rfl fun cs R bq g e => ?_;have aP := D7 rfl hp bq g e;obtain ⟨ph, I, J, T, dirty, hot, fnd, ch⟩ := s;obtain rfl : ph = 2 := gO;obtain ⟨hv, fv, cv, b, S, lk, hS, cQ, fQ, rfl, rfl⟩ := id bq;refine dk (f := 23) Tryz.func23 rfl (dh rfl) (by exact n2) ?_;(repeat first | (with_reducible first | apply ba | apply aR | apply a7 | apply aU) | (with_reducible apply aM); exact rfl; (repeat first | (with_reducible apply aA); exact rfl | (with_reducible apply sX); (iterate 3 exact rfl) | (with_reducible apply sV); (iterate 3 exact rfl)); (with_reducible apply aB));refine tD 9 rfl rfl rfl rfl rfl rfl rfl ?_;(repeat first | (with_reducible first | apply ba | apply aR | apply a7 | apply aU | apply cS) | (with_reducible apply c6); exact rfl; ((simp only [iz]; (omega))) | (with_reducible apply aM); exact rfl; (repeat first | (with_reducible apply aA); exact rfl | (with_reducible apply x7); (iterate 4 exact rfl) | (with_reducible apply sX); (iterate 3 exact rfl) | (with_reducible apply sV); (iterate 3 exact rfl)); (with_reducible apply aB));refine tD 9 rfl rfl rfl rfl rfl rfl rfl ?_;(repeat first | (with_reducible apply aM); exact rfl; (repeat first | (with_reducible apply aA); exact rfl); (with_reducible apply aB));refine CQ (bs := [dP g]) (args := [aQ (dP g)]) (l := []) rfl rfl rfl rfl rfl aP (fun x aa j ae => by simp at aa; subst aa; exact absurd ae (iJ _ j)) (fun k c h => by cases h) (bH.refl _) (fun k c x j h => by cases h) rfl (fun b7 aH az al => ?_);obtain ⟨ar, bn, bu, ⟨rfl, cg⟩, rfl, rfl⟩ := al;refine ⟨fun k c h => (by cases h), ?_⟩;rw [D5 bq cg, tU];(repeat first | (with_reducible first | apply ba | apply aR | apply a7 | apply aU | apply db) | (with_reducible apply aM); exact rfl; (repeat first | (with_reducible apply aA); exact rfl); (with_reducible apply aB))
 ((refine yS rfl (bE rfl bf) (bH.refl _) rfl (D4 bq cg) ?_))
 exact ⟨ar, bn, bu, ⟨rfl, cg⟩, rfl, rfl⟩
theorem Zy {s s1 : bx.aT ao} (gO : s.ph = 3) (hp : fT E r rm 68 [] s lu s1) : fT E r rm 23 [] s (bF true) s1 := by
 refine D6 rfl rfl fun cs R bq g e => ?_;have aP := D7 rfl hp bq g e;obtain ⟨ph, I, J, T, dirty, hot, fnd, ch⟩ := s;obtain rfl : ph = 3 := gO;obtain ⟨hv, fv, cv, b, S, lk, hS, cQ, fQ, rfl, rfl⟩ := id bq;refine dk (f := 23) Tryz.func23 rfl (dh rfl) (by exact n2) ?_;(repeat first | (with_reducible first | apply ba | apply aR | apply a7 | apply aU) | (with_reducible apply aM); exact rfl; (repeat first | (with_reducible apply aA); exact rfl | (with_reducible apply sX); (iterate 3 exact rfl) | (with_reducible apply sV); (iterate 3 exact rfl)); (with_reducible apply aB));refine tD 9 rfl rfl rfl rfl rfl rfl rfl ?_;(repeat first | (with_reducible first | apply ba | apply aR | apply a7 | apply aU | apply cS) | (with_reducible apply c6); exact rfl; ((simp only [iz]; (omega))) | (with_reducible apply aM); exact rfl; (repeat first | (with_reducible apply aA); exact rfl | (with_reducible apply x7); (iterate 4 exact rfl) | (with_reducible apply sX); (iterate 3 exact rfl) | (with_reducible apply sV); (iterate 3 exact rfl)); (with_reducible apply aB));refine tD 9 rfl rfl rfl rfl rfl rfl rfl ?_;(repeat first | (with_reducible apply aM); exact rfl; (repeat first | (with_reducible apply aA); exact rfl); (with_reducible apply aB));refine CQ (bs := [dP g]) (args := [aQ (dP g)]) (l := []) rfl rfl rfl rfl rfl aP (fun x aa j ae => by simp at aa; subst aa; exact absurd ae (iJ _ j)) (fun k c h => by cases h) (bH.refl _) (fun k c x j h => by cases h) rfl (fun b7 aH az al => ?_);obtain ⟨ar, bn, bu, ⟨rfl, cg⟩, rfl, rfl⟩ := al;refine ⟨fun k c h => (by cases h), ?_⟩;rw [D5 bq cg, tU];(repeat first | (with_reducible first | apply ba | apply aR | apply a7 | apply aU | apply db) | (with_reducible apply aM); exact rfl; (repeat first | (with_reducible apply aA); exact rfl); (with_reducible apply aB))
 ((refine yS rfl (bE rfl bf) (bH.refl _) rfl (D4 bq cg) ?_))
 exact ⟨ar, bn, bu, ⟨rfl, cg⟩, rfl, rfl⟩
theorem Nv {s : bx.aT ao} (gO : 4 ≤ s.ph) (ahh : s.ph ≤ 5) : fT E r rm 23 [] s (bF false) s := by
 intro cs R bq;obtain ⟨hv, fv, cv, b, S, lk, hS, cQ, fQ, rfl, rfl⟩ := id bq;have aL : (s.ph : Int) ≥ 4 := by omega
 refine dk (f := 23) Tryz.func23 rfl (dh rfl) (by exact ej rfl) ?_;(repeat first | (with_reducible first | apply ba | apply aR | apply a7 | apply aU | apply db | apply hh) | (with_reducible apply dz); exact rfl; (exact bB (by omega)) | (with_reducible apply aM); exact rfl; (repeat first | (with_reducible apply aA); exact rfl | (with_reducible apply c3); (iterate 3 exact rfl)); (with_reducible apply aB))
 ((refine eI rfl (bE rfl bf) rfl (bH.refl _) bq.closed rfl e8 ?_))
 exact ⟨_, rfl, rfl, bq⟩
end
section
variable {E : List (Int × b6)} {r rm : Nat}
abbrev l0 (E : List (Int × b6)) (r rm : Nat) (s : bx.aT ao) : Prop := hG (bz E r rm) (DE (E.map Prod.snd) r) s
structure iw (E : List (Int × b6)) (r rm : Nat) : Prop where
 r : r ≤ 28
 near : ja (E.map Prod.snd) = true
 len : E.length ≤ 300
 pos : 1 ≤ rm
 room : rm ≤ 1024
theorem iw.ok (h : iw E r rm) : jM (bz E r rm) (DE (E.map Prod.snd) r) := adO h.r h.near
theorem iw.n (E : List (Int × b6)) (r rm : Nat) : (bz E r rm).n = E.length := lU ..
theorem iw.wm (h : iw E r rm) {s : bx.aT ao} (ab : hW (bz E r rm) s) (an : k1 (bz E r rm) (DE (E.map Prod.snd) r) s) : kb s.ch := by
 have hlen := an.len;rw [iw.n] at hlen;refine ⟨by have := h.len; omega, fun c ak => ?_⟩;obtain ⟨i, hi⟩ := jX ak;have h1 := (K2 h.ok ab an ak).1;have h2 : (bz E r rm).R = rm := rfl;have := h.room;exact ⟨(an.hY i c hi).len, by omega⟩
theorem iw.hot (h : iw E r rm) {s : bx.aT ao} (ab : hW (bz E r rm) s) : s.hot.length ≤ 1024 := by
 have h1 := ab.room;have h2 : (bz E r rm).R = rm := rfl;have := h.room;omega
theorem Nu {s : bx.aT ao} (h : iw E r rm) (bq : l0 E r rm s) : fT E r rm 23 [] s (bF (decide (s.ph < 4))) (eh (bz E r rm) s) := by
 obtain ⟨ab, aG | h1 | h2 | ap | aL | dx⟩ := bq
 ·have e : eh (bz E r rm) s = qj (bz E r rm) s := by simp only [eh, aG.ph]
  rw [e, aG.ph];have hi := aG.I;rw [iw.n] at hi;exact Zv aG.ph (ZA h.r h.near h.len hi aG.dirty aG.fnd (h.hot ab) aG.ph)
 ·have e : eh (bz E r rm) s = qJ (bz E r rm) s := by simp only [eh, h1.ph]
  rw [e, h1.ph];have hi := h1.J;rw [iw.n] at hi;exact Zw h1.ph (ZC h.r h.near h.len h1.sR hi h1.dirty h1.fnd (h.hot ab) h1.ph)
 ·obtain ⟨c, p, q, g1, g2, g3, au⟩ := h2.link;have g4 := cm h2.T;generalize s.hot[s.T]'h2.T = x at g4
  have e : eh (bz E r rm) s = r9 (bz E r rm) s c p q (k9 (bz E r rm) p q x s.fnd) := by
   simp only [eh, h2.ph, xu, g1, g2, g3, g4]
  rw [e, h2.ph];have ak := h2.laid.hY _ _ g1;have hd := K2 h.ok ab h2.laid (dF g1);have ay : (bz E r rm).R = rm := rfl;have ahm := h.room;obtain ⟨V, D⟩ := c;have hp := ab.gz _ (ak.hot p (dF g2));have al := ab.gz _ (ak.hot q (dF g3));have aY := h.hot ab
  have wQ : (k9 (bz E r rm) p q x s.fnd) = (s.hot.take (s.T + 1)).filter (iV (bz E r rm) p q) := by
   rw [Lv g4, au];unfold k9
   split <;> simp [*]
  refine Zx h2.ph (ZD h.r (h.wm ab h2.laid) g1 g2 g3 g4 (fun d rS => ?_) hp al h2.dirty aY ?_ ?_ h2.ph)
  ·have := hd.2 d rS; omega
  ·rw [au];refine ln (List.length_filter_le ..) ?_;rw [eg]; omega
  ·rw [wQ];exact (ab.nd.sublist (List.take_sublist ..)).filter _
 ·have e : eh (bz E r rm) s = sc (bz E r rm) s := by simp only [eh, ap.ph]
  rw [e, ap.ph];have ak := h.wm ab ap.laid;refine Zy ap.ph (ZB h.r ak ?_ ap.sR ap.J (fun l an => ?_) ap.fnd (h.hot ab) ap.ph)
  ·have := ap.J;cases Xk : s.ch with
   | nil => rw [Xk] at this; simp [bb] at this
   | cons => exact jd _
  ·obtain ⟨_, a1, a2⟩ := Dc h.ok ap.laid an;exact ⟨ab.gz _ a1, ab.gz _ a2⟩
 ·have e : eh (bz E r rm) s = s := by simp only [eh, aL.ph]
  rw [e, aL.ph];exact Nv (by rw [aL.ph]; decide) (by rw [aL.ph]; decide)
 ·have e : eh (bz E r rm) s = s := by simp only [eh, dx.ph]
  rw [e, dx.ph];exact Nv (by rw [dx.ph]; decide) (by rw [dx.ph]; decide)
end
section
variable {E : List (Int × b6)} {r rm : Nat}
theorem Ns {s : bx.aT ao} : fT E r rm 24 [] s (aW s.ph) s := by
 intro cs R bq;obtain ⟨hv, fv, cv, b, S, lk, hS, cQ, fQ, rfl, rfl⟩ := id bq;refine dk (f := 24) Tryz.func24 rfl (dh rfl) (by exact ej rfl) ?_;(repeat first | (with_reducible first | apply ba | apply aR | apply a7 | apply aU | apply db) | (with_reducible apply aM); exact rfl; (repeat first | (with_reducible apply aA); exact rfl | (with_reducible apply c3); (iterate 3 exact rfl)); (with_reducible apply aB))
 ((refine eI rfl (bE rfl bf) rfl (bH.refl _) bq.closed rfl e8 ?_))
 exact ⟨_, rfl, rfl, bq⟩
def Sl (E : List (Int × b6)) (r rm : Nat) (n : Int) (s : bx.aT ao) (k : Nat) (R : aJ) (aS : List (Nat × ai)) (bD : List (Nat × List AC)) : Prop :=
 ∃ (d : Nat) (s1 : bx.aT ao) (hv fv cv : Value) (b : Nat) (S : eZ) (lk : AC), k = n.toNat - d ∧ d ≤ n.toNat ∧ l0 E r rm s1 ∧ eE (bz E r rm) n.toNat s = ((eE (bz E r rm) k s1).1 + d, (eE (bz E r rm) k s1).2) ∧ dv E r rm s1 (er E r rm s1.ph s1.I s1.J s1.T s1.dirty hv fv cv b lk) (dG b S hv fv cv s1.hot s1.fnd s1.ch) ∧ lk.bc = true ∧ R = dG b S hv fv cv s1.hot s1.fnd s1.ch ∧ aS = [(0, qZ), (1, aW n), (5, aW d)] ∧ bD = [(1000, er E r rm s1.ph s1.I s1.J s1.T s1.dirty hv fv cv b lk)]
theorem C4 {s : bx.aT ao} (h : iw E r rm) (hs : l0 E r rm s) {n : Int} (aF : n ≤ 1000000000000) : fT E r rm 41 [aW n] s (aW (eE (bz E r rm) n.toNat s).1) (eE (bz E r rm) n.toNat s).2 := by
 intro cs R bq;obtain ⟨hv, fv, cv, b, S, lk, hS, cQ, fQ, rfl, rfl⟩ := id bq;refine dk (f := 41) Tryz.func41 rfl (dh rfl) (by exact ej rfl) ?_;(repeat first | (with_reducible first | apply ba | apply aR | apply a7 | apply aU | apply eM) | (with_reducible apply aM); exact rfl; (repeat first | (with_reducible apply aA); exact rfl); (with_reducible apply aB));refine ls 16 (Sl E r rm n s) n.toNat (dG b S hv fv cv s.hot s.fnd s.ch) _ [(1000, er E r rm s.ph s.I s.J s.T s.dirty hv fv cv b lk)] ⟨0, s, hv, fv, cv, b, S, lk, rfl, eC _, hs, rfl, bq, cQ, rfl, rfl, rfl⟩ (bH.refl _) rfl ⟨rfl, rfl, rfl, trivial⟩ ⟨rfl, trivial⟩ ?_ ?_
 ·cases lk <;> first | rfl | cases cQ
 clear bq hS cQ fQ;rintro k R aS bD ⟨d, s1, hv, fv, cv, b, S, lk, rfl, hd, oh, gp, bq, cQ, rfl, rfl, rfl⟩ dU;clear dU
 by_cases bi : d < n.toNat
 ·have q1 : (d : Int) < n := by omega
  have cY : (0 : Int) ≤ (d : Int) := by omega
  obtain ⟨bA, qu⟩ : ∃ bA, n.toNat - d = bA + 1 := ⟨n.toNat - d - 1, by omega⟩;have aP := Nu h oh;have hinv := (xC h.ok oh)
  by_cases aL : s1.ph < 4
  ·rw [bB aL] at aP;(repeat first | (with_reducible first | apply ba | apply a7) | (with_reducible apply aM); exact rfl; (repeat first | (with_reducible apply aA); exact rfl | (with_reducible apply c8 (c := true)); exact rfl; exact rfl; (exact bB (by omega))); (with_reducible apply aB));refine hM rfl rfl rfl rfl rfl rfl rfl rfl aP bq (fun ar az cg => ?_);obtain ⟨b4, c4, cU, bK, dd, gF, fj, gM, h7, rfl, rfl⟩ := id cg;(repeat first | (with_reducible first | apply aR | apply a7 | apply aU | apply cS | apply eM | apply j3) | (with_reducible apply dz); exact rfl; (exact rfl) | (with_reducible apply aM); exact rfl; (repeat first | (with_reducible apply aA); exact rfl | (with_reducible apply fh); (iterate 3 exact rfl); (exact da (by omega)); exact rfl); (with_reducible apply aB));refine ⟨bA, _, _, [(1000, er E r rm (eh (bz E r rm) s1).ph (eh (bz E r rm) s1).I (eh (bz E r rm) s1).J (eh (bz E r rm) s1).T (eh (bz E r rm) s1).dirty b4 c4 cU bK gF)], by omega, ⟨d + 1, eh (bz E r rm) s1, b4, c4, cU, bK, dd, gF, by omega, by omega, hinv.1, ?_, cg, gM, rfl, rfl, rfl⟩, bH.refl _, rfl, ⟨rfl, rfl, rfl, trivial⟩, ⟨rfl, trivial⟩, ?_⟩
   ·rw [gp, qu];have Cm : ¬ 4 ≤ s1.ph := by omega
    have e : eE (bz E r rm) (bA + 1) s1 = ((eE (bz E r rm) bA (eh (bz E r rm) s1)).1 + 1, (eE (bz E r rm) bA (eh (bz E r rm) s1)).2) := if_neg Cm;rw [e];exact Prod.ext (by show _ + 1 + d = _ + (d + 1); omega) rfl
   ·cases gF <;> first | rfl | cases gM
  ·have Cm : 4 ≤ s1.ph := by omega
   rw [bR aL, hinv.2.2 Cm] at aP;rw [ad3 Cm] at gp;have gp : eE (bz E r rm) n.toNat s = (d, s1) := by rw [gp]; exact Prod.ext (jF d) rfl
   (repeat first | (with_reducible first | apply ba | apply a7) | (with_reducible apply aM); exact rfl; (repeat first | (with_reducible apply aA); exact rfl | (with_reducible apply c8 (c := true)); exact rfl; exact rfl; (exact bB (by omega))); (with_reducible apply aB));refine hM rfl rfl rfl rfl rfl rfl rfl rfl aP bq (fun ar az cg => ?_);obtain ⟨b4, c4, cU, bK, dd, gF, fj, gM, h7, rfl, rfl⟩ := id cg;(repeat first | (with_reducible first | apply ba | apply aR | apply a7 | apply aU | apply db | apply j4 | apply j6 | apply j5) | (with_reducible apply c6); exact rfl; (exact rfl) | (with_reducible apply aM); exact rfl; (repeat first | (with_reducible apply aA); exact rfl); (with_reducible apply aB))
   ((refine eI rfl (bE rfl bf) rfl (bH.refl _) cg.closed rfl e8 ?_))
   refine ⟨_, rfl, ?_, ?_⟩
   ·rw [gp]; rfl
   ·rw [gp]; exact cg
 ·have q1 : ¬ (d : Int) < n := by omega
  have gU : n.toNat - d = 0 := by omega
  rw [gU] at gp;have gp : eE (bz E r rm) n.toNat s = (d, s1) := by rw [gp]; exact Prod.ext (jF d) rfl
  (repeat first | (with_reducible first | apply ba | apply aR | apply a7 | apply aU | apply db | apply j4 | apply j6 | apply j5) | (with_reducible apply c6); exact rfl; (exact rfl) | (with_reducible apply aM); exact rfl; (repeat first | (with_reducible apply aA); exact rfl | (with_reducible apply c8 (c := false)); exact rfl; exact rfl; (exact bR (by omega))); (with_reducible apply aB))
  ((refine eI rfl (bE rfl bf) rfl (bH.refl _) bq.closed rfl e8 ?_))
  refine ⟨_, rfl, ?_, ?_⟩
  ·rw [gp]; rfl
  ·rw [gp]; exact bq
def rH (ch : List (List ao × List Int)) : Int := ch.foldl (fun a c => max a (n5 c.2)) 0
theorem UX {ch : List (List ao × List Int)} {k : Nat} {c : List ao × List Int} (h : ch[k]? = some c) : rH (ch.take (k + 1)) = max (rH (ch.take k)) (n5 c.2) := by
 have af := (bS.1 h).1
 have e : ch.take (k + 1) = ch.take k ++ [c] := by
  rw [nF af, (bS.1 h).2]
 unfold rH;rw [e, List.foldl_append]; rfl
def Ry (E : List (Int × b6)) (r rm : Nat) (s : bx.aT ao) (hv fv cv : Value) (b : Nat) (S : eZ) (lk : AC) (n : Nat) (R : aJ) (aS : List (Nat × ai)) (bD : List (Nat × List AC)) : Prop :=
 ∃ (k : Nat) (fc d : Int), k ≤ s.ch.length ∧ n = s.ch.length - k ∧ fc = k ∧ d = rH (s.ch.take k) ∧ R = dG b S hv fv cv s.hot s.fnd s.ch ∧ aS = [(3, aW d), (10, aQ cv), (11, aW s.ch.length), (12, aW fc)] ∧ bD = [(1000, er E r rm s.ph s.I s.J s.T s.dirty hv fv cv b lk)]
theorem Nr {s : bx.aT ao} (ak : kb s.ch) : fT E r rm 25 [] s (aW (rH s.ch)) s := by
 intro cs R bq;obtain ⟨hv, fv, cv, b, S, lk, hS, cQ, fQ, rfl, rfl⟩ := id bq;refine dk (f := 25) Tryz.func25 rfl (dh rfl) (by exact ej rfl) ?_;(repeat first | (with_reducible first | apply ba | apply aR | apply a7 | apply aU | apply eM) | (with_reducible apply aM); exact rfl; (repeat first | (with_reducible apply aA); exact rfl | (with_reducible apply c3); (iterate 3 exact rfl)); (with_reducible apply aB) | (with_reducible apply nn 3); (iterate 4 exact rfl); kernel_rfl; exact rfl);refine ls 22 (Ry E r rm s hv fv cv b S lk) s.ch.length (dG b S hv fv cv s.hot s.fnd s.ch) _ [(1000, er E r rm s.ph s.I s.J s.T s.dirty hv fv cv b lk)] ⟨0, 0, 0, eC _, rfl, rfl, rfl, rfl, rfl, rfl⟩ (bH.refl _) rfl ⟨rfl, rfl, rfl, rfl, trivial⟩ ⟨rfl, trivial⟩ ?_ ?_
 ·cases lk <;> first | rfl | cases cQ
 rintro n R aS bD ⟨k, fc, d, af, rfl, kn, lI, rfl, rfl, rfl⟩ dU;clear dU;have hlen := ak.1
 by_cases al : k < s.ch.length
 ·obtain ⟨V, D, g1⟩ : ∃ V D, s.ch[k]? = some (V, D) := ⟨_, _, cm al⟩;obtain ⟨jR, h6⟩ := ak.2 _ (dF g1);simp only at jR h6;obtain ⟨kc, lW⟩ := BK (ii := fc) kn g1;have q2 : fc < (s.ch.length : Int) := by omega
  have b5 : 0 ≤ fc := by omega
  have ew : 0 < s.ch.length := by omega
  have aE := UX g1;rw [← lI, show max d (n5 (V, D).2) = if n5 D > d then n5 D else d by show max d (n5 D) = _; split <;> omega] at aE;have aP := Zk V D h6 (by omega);(repeat first | (with_reducible first | apply ba | apply aR | apply a7 | apply aU | apply cS | apply eM | apply j3) | (with_reducible apply dz); exact rfl; (exact bB (by omega)) | (with_reducible apply aM); exact rfl; (repeat first | (with_reducible apply aA); exact rfl | (with_reducible apply fh); (iterate 3 exact rfl); (exact da (by omega)); exact rfl | (with_reducible apply uz); (iterate 4 exact rfl) | refine fN rfl rfl rfl (by (exact aP)) rfl ?_); (with_reducible apply aB) | (with_reducible apply jw 3); (iterate 4 exact rfl); (omega); (assumption); exact rfl; kernel_rfl; exact rfl | (with_reducible apply np 3); (iterate 3 exact rfl); (assumption); assumption; exact rfl; kernel_rfl; exact rfl);refine ⟨s.ch.length - (k + 1), dG b S hv fv cv s.hot s.fnd s.ch, _, [(1000, er E r rm s.ph s.I s.J s.T s.dirty hv fv cv b lk)], by omega, ⟨k + 1, fc + 1, _, by omega, rfl, by omega, aE.symm, rfl, rfl, rfl⟩, bH.refl _, rfl, ⟨rfl, rfl, rfl, rfl, trivial⟩, ⟨rfl, trivial⟩, ?_⟩;cases lk <;> first | rfl | cases cQ
 ·have q2 : ¬ fc < (s.ch.length : Int) := by omega
  have dp : s.ch.take k = s.ch := hA (by omega);rw [dp] at lI;(repeat first | (with_reducible first | apply ba | apply aR | apply a7 | apply aU | apply db | apply j4 | apply j6 | apply j5) | (with_reducible apply c6); exact rfl; (exact bR (by omega)) | (with_reducible apply aM); exact rfl; (repeat first | (with_reducible apply aA); exact rfl); (with_reducible apply aB))
  ((refine eI rfl (bE rfl bf) rfl (bH.refl _) bq.closed rfl e8 ?_))
  exact ⟨_, rfl, by rw [← lI]; rfl, bq⟩
end
theorem J1 {n : Nat} {xs : List AC} (aF : n ≤ 900000) (ak : xs.all AC.bc = true) (aa : xs.length = 2 * n) : oS aj 131 [cI 2 n xs] fun v q => ∃ aZ, v = aQ aZ ∧ q = ⟨59, 2, aZ, n, xs⟩ := by
 refine Fc rfl (fun v q h => by obtain ⟨aZ, rfl, _⟩ := h; rfl) ?_;refine dk (f := 131) Tryz.func131 rfl (dh rfl) (by exact n2) ?_;(repeat first | (with_reducible first | apply ba | apply aR | apply a7 | apply aU) | (with_reducible apply aM); exact rfl; (repeat first | (with_reducible apply aA); exact rfl | (with_reducible apply Fg); (iterate 3 exact rfl)); (with_reducible apply aB));refine Ql 4 rfl ?_;intro b ab;cases b with
 | true =>
  have aG := ab rfl;subst aG;have h1 := mq aa;subst h1;clear ab;refine nK 0 59 2 rfl ?_;(repeat first | (with_reducible first | apply ba | apply aR | apply a7 | apply aU | apply db | apply hh) | (with_reducible apply dz); exact rfl; (assumption) | (with_reducible apply aM); exact rfl; (repeat first | (with_reducible apply aA); exact rfl); (with_reducible apply aB))
  ((refine yT rfl (bE rfl bf) rfl rfl (jd _) ?_))
  exact ⟨.slice none 0 0, rfl, rfl⟩
 | false =>
  clear ab;(repeat first | (with_reducible first | apply ba | apply aR | apply a7 | apply cS) | (with_reducible apply c6); exact rfl; (exact rfl));refine MM 0 rfl rfl rfl rfl rfl (fun v0 r0 => ?_);(repeat first | (with_reducible apply aM); exact rfl; (repeat first | (with_reducible apply aA); exact rfl); (with_reducible apply aB));refine qx 0 rfl rfl rfl rfl ?q1 ?q2 ak rfl (fun v1 iF => ?_)
  case q1 => exact kR (by show 0 + n ≤ 1000000; omega)
  case q2 => show (0 + n) * 16 ≤ 140737488355328; omega
  (repeat first | (with_reducible first | apply aR | apply aU | apply db) | (with_reducible apply aM); exact rfl; (repeat first | (with_reducible apply aA); exact rfl); (with_reducible apply aB))
  ((refine yT rfl (bE rfl bf) rfl rfl (jd _) ?_))
  exact ⟨v1, rfl, by rw [List.nil_append, jF]⟩
theorem SG {n : Nat} {xs : List AC} (aF : n ≤ 900000) (ak : xs.all AC.bc = true) (aa : xs.length = 2 * n) : oS aj 132 [cI 2 n xs] fun v q => ∃ aZ, v = aQ aZ ∧ q = ⟨53, 2, aZ, n, xs⟩ := by
 refine Fc rfl (fun v q h => by obtain ⟨aZ, rfl, _⟩ := h; rfl) ?_;refine dk (f := 132) Tryz.func132 rfl (dh rfl) (by exact n2) ?_;(repeat first | (with_reducible first | apply ba | apply aR | apply a7 | apply aU) | (with_reducible apply aM); exact rfl; (repeat first | (with_reducible apply aA); exact rfl | (with_reducible apply Fg); (iterate 3 exact rfl)); (with_reducible apply aB));refine Ql 4 rfl ?_;intro b ab;cases b with
 | true =>
  have aG := ab rfl;subst aG;have h1 := mq aa;subst h1;clear ab;refine nK 0 53 2 rfl ?_;(repeat first | (with_reducible first | apply ba | apply aR | apply a7 | apply aU | apply db | apply hh) | (with_reducible apply dz); exact rfl; (assumption) | (with_reducible apply aM); exact rfl; (repeat first | (with_reducible apply aA); exact rfl); (with_reducible apply aB))
  ((refine yT rfl (bE rfl bf) rfl rfl (jd _) ?_))
  exact ⟨.slice none 0 0, rfl, rfl⟩
 | false =>
  clear ab;(repeat first | (with_reducible first | apply ba | apply aR | apply a7 | apply cS) | (with_reducible apply c6); exact rfl; (exact rfl));refine MM 0 rfl rfl rfl rfl rfl (fun v0 r0 => ?_);(repeat first | (with_reducible apply aM); exact rfl; (repeat first | (with_reducible apply aA); exact rfl); (with_reducible apply aB));refine qx 0 rfl rfl rfl rfl ?q1 ?q2 ak rfl (fun v1 iF => ?_)
  case q1 => exact kR (by show 0 + n ≤ 1000000; omega)
  case q2 => show (0 + n) * 48 ≤ 140737488355328; omega
  (repeat first | (with_reducible first | apply aR | apply aU | apply db) | (with_reducible apply aM); exact rfl; (repeat first | (with_reducible apply aA); exact rfl); (with_reducible apply aB))
  ((refine yT rfl (bE rfl bf) rfl rfl (jd _) ?_))
  exact ⟨v1, rfl, by rw [List.nil_append, jF]⟩
abbrev oO (k rm ph I J T : Int) (dirty : Bool) (hv fv cv : Value) : List AC := [.c (.int .i64 k), .c (.int .i64 rm), .c (.int .i64 ph), .c (.int .i64 I), .c (.int .i64 J), .c (.int .i64 T), .c (.bool dirty), .c hv, .c fv, .c cv]
abbrev sB (hv fv cv : Value) (hot fnd : List ao) (ch : List (List ao × List Int)) : aJ := bM (bM (bI 1 (ie hv hot)) 2 (ie fv fnd)) 3 (wk cv ch)
abbrev lq (hv fv cv : Value) (hot fnd : List ao) (ch : List (List ao × List Int)) (R : aJ) : aJ := bM (bM (bM R 4 (ie hv hot)) 5 (ie fv fnd)) 6 (wk cv ch)
theorem adK {hv fv cv : Value} {hot fnd : List ao} {ch : List (List ao × List Int)} {R : aJ} : bM (lq hv fv cv hot fnd ch R) 6 (wk cv ch) = lq hv fv cv hot fnd ch R := by
 funext k
 by_cases gU : k = 6
 ·subst gU; rfl
 ·rw [cj _ _ gU]
theorem FF (ch : List (List ao × List Int)) : (eA ch).length = 2 * ch.length := by
 unfold eA; induction ch with
 | nil => rfl
 | cons c l cp => rw [List.flatMap_cons, cR, cp, lm]; show 2 + _ = _; omega
theorem Ui (ch : List (List ao × List Int)) : ∀ y ∈ eA ch, y.bc = true := fun y ag => by
 obtain ⟨c, _, h⟩ := List.mem_flatMap.1 ag;simp only [o9, gI, qK, or_false] at h;rcases h with rfl | rfl <;> rfl
theorem Ng (l : List ao) : ∀ y ∈ b3 l, y.bc = true := cu.1 (u7 l)
theorem Uk {ch : List (List ao × List Int)} {i : Nat} {V : List ao} {D : List Int} (h : ch[i]? = some (V, D)) : ey (eA ch) (2 * i) [.p (cz 2 V.length (b3 V)), .p (cz 1 D.length (cD D))] = eA ch := by
 have hi := (bS.1 h).1
 have e : ch = ch.take i ++ (V, D) :: ch.drop (i + 1) := by
  conv => lhs; rw [← ks i ch, nE hi, (bS.1 h).2]
 have aN : eA ch = eA (ch.take i) ++ ([.p (cz 2 V.length (b3 V)), .p (cz 1 D.length (cD D))] ++ eA (ch.drop (i + 1))) := by
  conv => lhs; rw [e]
  simp [eA, o9]
 have an : (eA (ch.take i)).length = 2 * i := by rw [FF, eg]; congr 1; omega
 rw [aN, IR an];simp
def Rw (hv fv cv b4 c4 cU : Value) (k rm ph I J T : Int) (dirty : Bool) (hot fnd : List ao) (ch : List (List ao × List Int)) (n : Nat) (R : aJ) (aS : List (Nat × ai)) (bD : List (Nat × List AC)) : Prop :=
 ∃ (i : Nat) (ii : Int), i ≤ ch.length ∧ n = ch.length - i ∧ ii = i ∧ R = lq b4 c4 cU hot fnd ch (sB hv fv cv hot fnd ch) ∧ aS = [(1, .w (.one (.own 1 0))), (2, .w (.one (.own 2 0))), (18, aQ cU), (19, aW ch.length), (20, aW ii)] ∧ bD = [(1, oO k rm ph I J T dirty b4 c4 cU), (2, oO 0 0 0 0 0 0 false (.slice none 0 0) (.slice none 0 0) (.slice none 0 0))]
theorem Zz {k rm ph I J T : Int} {dirty : Bool} {hv fv cv : Value} {hot fnd : List ao} {ch : List (List ao × List Int)} (aY : hot.length ≤ 900000) (au : fnd.length ≤ 900000) (ak : kb ch) :
  dn aj 70 [.w (.agg (oO k rm ph I J T dirty hv fv cv))] ca (sB hv fv cv hot fnd ch) fun b7 aH az => ∃ b4 c4 cU, b7 = .w (.agg (oO k rm ph I J T dirty b4 c4 cU)) ∧ aH = ca ∧ az = lq b4 c4 cU hot fnd ch (sB hv fv cv hot fnd ch) := by
 have hlen := ak.1;have mv : ∀ aV : List AC, aV.length = (ie hv hot).aV.length → aV.all AC.bc = true → oS aj 131 [cI 2 hot.length aV] fun v q => ∃ aZ, v = aQ aZ ∧ q = ⟨59, 2, aZ, hot.length, aV⟩ := fun aV an ag => J1 aY ag (by rw [an, nw, Nat.mul_comm]);have nR : ∀ aV : List AC, aV.length = (ie fv fnd).aV.length → aV.all AC.bc = true → oS aj 131 [cI 2 fnd.length aV] fun v q => ∃ aZ, v = aQ aZ ∧ q = ⟨59, 2, aZ, fnd.length, aV⟩ := fun aV an ag => J1 au ag (by rw [an, nw, Nat.mul_comm]);have q4 : ∀ aV : List AC, aV.length = (wk cv ch).aV.length → aV.all AC.bc = true → oS aj 132 [cI 2 ch.length aV] fun v q => ∃ aZ, v = aQ aZ ∧ q = ⟨53, 2, aZ, ch.length, aV⟩ := fun aV an ag => SG (by omega) ag (by rw [an, FF]);refine dk (f := 70) Tryz.func70 rfl (dh rfl) (by exact n2) ?_;(repeat first | (with_reducible apply lr (id := 1) [0,1,3,4,6,7,2,9,5,8,10,11,12,13,14] [7,10,13]); kernel_rfl; kernel_rfl; exact rfl | (with_reducible first | apply ba | apply aR | apply a7 | apply aU) | (with_reducible apply aM); exact rfl; (repeat first | (with_reducible apply aA); exact rfl); (with_reducible apply aB));refine Hb 1 4 (by decide) rfl rfl rfl rfl mv rfl (jd _) (Ng _) rfl (fun b4 => ?_);(repeat first | (with_reducible apply aM); exact rfl; (repeat first | (with_reducible apply aA); exact rfl); (with_reducible apply aB));refine Hb 2 5 (by decide) rfl rfl rfl rfl nR rfl (jd _) (Ng _) rfl (fun c4 => ?_)
 skip
 refine Hb 3 6 (by decide) rfl rfl rfl rfl q4 rfl (jd _) (Ui _) rfl (fun cU => ?_);(repeat first | (with_reducible apply ev); kernel_rfl | (with_reducible first | apply ba | apply aR | apply a7 | apply aU | apply eM) | (with_reducible apply aM); exact rfl; (repeat first | (with_reducible apply aA); exact rfl); (with_reducible apply aB) | (with_reducible apply nn 6); (iterate 4 exact rfl); kernel_rfl; exact rfl);refine ls 33 (Rw hv fv cv b4 c4 cU k rm ph I J T dirty hot fnd ch) ch.length (lq b4 c4 cU hot fnd ch (sB hv fv cv hot fnd ch)) _ [(1, oO k rm ph I J T dirty b4 c4 cU), (2, oO 0 0 0 0 0 0 false (.slice none 0 0) (.slice none 0 0) (.slice none 0 0))] ⟨0, 0, eC _, rfl, rfl, rfl, rfl, rfl⟩ (bH.refl _) rfl ⟨rfl, rfl, rfl, rfl, rfl, trivial⟩ ⟨rfl, rfl, trivial⟩ rfl ?_;rintro n R aS bD ⟨i, ii, hi, rfl, gX, rfl, rfl, rfl⟩ dU;clear dU
 by_cases al : i < ch.length
 ·obtain ⟨V, D, g1⟩ : ∃ V D, ch[i]? = some (V, D) := ⟨_, _, cm al⟩;obtain ⟨jR, h6⟩ := ak.2 _ (dF g1);simp only at jR h6;obtain ⟨kc, lW⟩ := BK (ii := ii) gX g1;have aP := Zj V D h6 (by omega);have q2 : ii < (ch.length : Int) := by omega
  have b5 : 0 ≤ ii := by omega
  have ew : 0 < ch.length := by omega
  have aI : ii.toNat * 2 = 2 * i := by omega
  have G3 : ii.toNat * 2 + 2 ≤ (eA ch).length := by rw [FF]; omega
  have cC : ey (eA ch) (ii.toNat * 2) [.p (cz 2 V.length (b3 V)), .p (cz 1 D.length (cD D))] = eA ch := by rw [aI]; exact Uk g1
  (repeat first | (with_reducible apply lr (id := 5) [0,1,2,3,4,5,6] [4000000]); kernel_rfl; kernel_rfl; exact rfl | (with_reducible first | apply ba | apply aR | apply a7 | apply aU | apply cS | apply eM) | (with_reducible apply dz); exact rfl; (exact bB (by omega)) | (with_reducible apply aM); exact rfl; (repeat first | (with_reducible apply aA); exact rfl | refine fN rfl rfl rfl (by (exact aP)) rfl ?_); (with_reducible apply aB) | (with_reducible apply jw 6); (iterate 4 exact rfl); (omega); (assumption); exact rfl; kernel_rfl; exact rfl | (with_reducible apply np 6); (iterate 3 exact rfl); (assumption); assumption; exact rfl; kernel_rfl; exact rfl);refine zd 6 rfl rfl rfl rfl ew rfl rfl G3 rfl ?_;(repeat first | (with_reducible apply ev); kernel_rfl | (with_reducible first | apply aR | apply a7 | apply aU | apply j3) | (with_reducible apply aM); exact rfl; (repeat first | (with_reducible apply aA); exact rfl | (with_reducible apply fh); (iterate 3 exact rfl); (exact da (by omega)); exact rfl); (with_reducible apply aB));refine ⟨ch.length - (i + 1), lq b4 c4 cU hot fnd ch (sB hv fv cv hot fnd ch), _, [(1, oO k rm ph I J T dirty b4 c4 cU), (2, oO 0 0 0 0 0 0 false (.slice none 0 0) (.slice none 0 0) (.slice none 0 0))], by omega, ⟨i + 1, ii + 1, by omega, rfl, by omega, rfl, rfl, rfl⟩, fun k q af => ?_, rfl, ⟨rfl, rfl, rfl, rfl, rfl, trivial⟩, ⟨rfl, rfl, trivial⟩, rfl⟩
  have eH : bM (lq b4 c4 cU hot fnd ch (sB hv fv cv hot fnd ch)) 6 (⟨53, 2, cU, ch.length, ey (eA ch) (ii.toNat * 2) [.p (cz 2 V.length (b3 V)), .p (cz 1 D.length (cD D))]⟩ : bL) = lq b4 c4 cU hot fnd ch (sB hv fv cv hot fnd ch) := by
   rw [cC]; exact adK
  exact (congrFun eH k).trans af
 ·have q2 : ¬ ii < (ch.length : Int) := by omega
  (repeat first | (with_reducible first | apply ba | apply aR | apply a7 | apply aU | apply db | apply j4 | apply j6 | apply j5) | (with_reducible apply c6); exact rfl; (exact bR (by omega)) | (with_reducible apply aM); exact rfl; (repeat first | (with_reducible apply aA); exact rfl); (with_reducible apply aB))
  ((refine yS rfl (eV rfl rfl rfl bf) (bH.refl _) rfl (fun j q h => ?_) ?_))
  ·match j with
   | 0 => cases h
   | 1 => exact ⟨_, rfl⟩
   | 2 => exact ⟨_, rfl⟩
   | 3 => exact ⟨_, rfl⟩
   | j + 4 => cases h
  ·exact ⟨b4, c4, cU, rfl, rfl, rfl⟩
theorem adD {b : Nat} {S : eZ} {hv fv cv : Value} {hot fnd : List ao} {ch : List (List ao × List Int)} : bH (sB hv fv cv hot fnd ch) (dG b S hv fv cv hot fnd ch)
 | 0, _, h => by cases h
 | 1, _, h => h
 | 2, _, h => h
 | 3, _, h => h
 | k + 4, _, h => by cases h
theorem adM {b : Nat} {S : eZ} {hv fv cv b4 c4 cU : Value} {hot fnd : List ao} {ch : List (List ao × List Int)} : bZ (lq b4 c4 cU hot fnd ch (sB hv fv cv hot fnd ch)) (dG b S hv fv cv hot fnd ch) = lq b4 c4 cU hot fnd ch (dG b S hv fv cv hot fnd ch) := by
 funext i
 match i with
 | 0 => rfl
 | 1 => rfl
 | 2 => rfl
 | 3 => rfl
 | 4 => rfl
 | 5 => rfl
 | 6 => rfl
 | i + 7 => rfl
theorem adL {hv fv cv : Value} {hot fnd : List ao} {ch : List (List ao × List Int)} {R : aJ} : ∀ i r, R i = some r → ∃ a8, lq hv fv cv hot fnd ch R i = some a8 := fun i r h => by
 by_cases rI : i = 6
 ·subst rI; exact ⟨_, cr _ _ _⟩
 ·by_cases k6 : i = 5
  ·subst k6; exact ⟨_, rfl⟩
  ·by_cases eH : i = 4
   ·subst eH; exact ⟨_, rfl⟩
   ·exact ⟨r, by unfold lq; rw [cj _ _ rI, cj _ _ k6, cj _ _ eH]; exact h⟩
section
variable {E : List (Int × b6)} {r rm : Nat}
theorem Zt {s : bx.aT ao} (aY : s.hot.length ≤ 900000) (au : s.fnd.length ≤ 900000) (ak : kb s.ch) {cs : List AC} {R : aJ} (bq : dv E r rm s cs R) :
  dn aj 28 [qZ] (cM 1000 cs) R (nS 1000 fun b7 ar az => ∃ hv fv cv, b7 = .w (.agg (oO r rm s.ph s.I s.J s.T s.dirty hv fv cv)) ∧ ar = cs ∧ az = lq hv fv cv s.hot s.fnd s.ch R) := by
 obtain ⟨hv, fv, cv, b, S, lk, hS, cQ, fQ, rfl, rfl⟩ := id bq;have aP := Zz (k := (r : Int)) (rm := (rm : Int)) (ph := (s.ph : Int)) (I := (s.I : Int)) (J := (s.J : Int)) (T := (s.T : Int)) (dirty := s.dirty) (hv := hv) (fv := fv) (cv := cv) aY au ak;refine dk (f := 28) Tryz.func28 rfl (dh rfl) (by exact ej rfl) ?_;(repeat first | (with_reducible first | apply ba | apply aR | apply a7 | apply aU) | (with_reducible apply aM); exact rfl; (repeat first | (with_reducible apply aA); exact rfl | (with_reducible apply c3); (iterate 3 exact rfl)); (with_reducible apply aB));refine MK (l := _) (args := [_]) rfl rfl rfl rfl aP adD rfl rfl ?_;rintro _ _ _ ⟨b4, c4, cU, rfl, rfl, rfl⟩;refine ⟨rfl, ?_⟩;rw [adM];(repeat first | (with_reducible first | apply aR | apply aU | apply db) | (with_reducible apply aM); exact rfl; (repeat first | (with_reducible apply aA); exact rfl); (with_reducible apply aB))
 ((refine eI rfl (eV rfl rfl rfl bf) rfl (bH.refl _) bq.closed rfl adL ?_))
 exact ⟨_, rfl, b4, c4, cU, rfl, rfl, rfl⟩
end
end Go.Proofs.YtpochbhajmbfdaaGreat
