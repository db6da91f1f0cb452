/-
  My own texts, without what this claim does not need. My own text.
-/
import Derived.Test.YtbcecodakfejaaaGreatSChainsK12
set_option maxRecDepth 100000
set_option maxHeartbeats 64000000
set_option linter.unusedVariables false
set_option linter.unusedSimpArgs false
set_option linter.unusedSectionVars false
open Go.Proofs.Tryz renaming prog → ag
namespace Go.Proofs.YtbcecodakfejaaaGreat
open Go.RowKit
open bq
theorem Ub {ch : List (List aj × List Int)} (al : ∀ c ∈ ch, c.1.length = c.2.length + 1 ∧ c.1.length ≤ 1100) (ak : ch.length ≤ 300) : pf ag 156 [qb ch] (fun v q => v = aQ q.v ∧ q = sb q.v (a6 ch)) := by
 refine E2 rfl (fun v q h => by obtain ⟨rfl, _⟩ := h; rfl) ?_;refine dt (f := 156) Tryz.func156 rfl (dl rfl) (by exact nQ) ?_;(refine ba ?_);refine mb 0 155 4 rfl ?_
 skip
 refine jW 28 (TB ch) ch.length (bt 0 (sb (.slice none 0 0) [])) _ [] ⟨0, 0, .slice none 0 0, dx _, rfl, rfl, rfl, rfl, rfl⟩ (kI _ _ _) rfl ⟨rfl, rfl, rfl, rfl, trivial⟩ trivial rfl ?_;rintro n R aM bi ⟨i, ii, v, hi, rfl, fp, rfl, rfl, rfl⟩ cT;clear cT
 by_cases an : i < ch.length
 ·have q2 : ii < (ch.length : Int) := by omega
  have bR : 0 ≤ ii := by omega
  obtain ⟨c, g1⟩ : ∃ c, ch[i]? = some c := ⟨_, bJ an⟩;obtain ⟨gd, fT⟩ := al c (cV g1);have iK := wk fp g1
  have aiR : (a6 (ch.take i)).length ≤ 300 * 1100 := by
   refine il (C6 (m := 1100) fun c ti => (al c (mI ti)).2) (kg _ ?_);rw [dX]; omega
  have cr : a6 (ch.take (i + 1)) = a6 (ch.take i) ++ iZ c.1 := by
   rw [jT an, C4, show ch[i] = c from ny ((bJ an).symm.trans g1)];simp [a6]
  have Ns : (iZ c.1).length = c.2.length := by rw [tA]; omega
  obtain ⟨V, D⟩ := c;simp only at gd fT iK cr Ns;generalize a6 (ch.take i) = pre at *;(refine ba ?_);refine jW 28 (TA ch V D ii pre) D.length (bt 0 (sb v pre)) _ [(5, [.p (bX 2 V.length (bD V)), .p (bX 1 D.length (ck D))])] ⟨0, 0, v, dx _, rfl, rfl, by simp, rfl, rfl⟩ (bz.refl _) rfl ⟨rfl, rfl, rfl, rfl, rfl, rfl, rfl, trivial⟩ ⟨rfl, trivial⟩ rfl ?_;rintro n R aM bi ⟨j, ek, v, ae, rfl, nc, rfl, rfl, rfl⟩ cT;clear cT;have hD : ((iZ V).take j).length = j := by rw [dX]; omega
  by_cases hs : j < D.length
  ·have s2 : ek < (D.length : Int) := by omega
   obtain ⟨a, b, g2⟩ : ∃ a b, V[j]? = some (a, b) := ⟨_, _, bJ (by omega)⟩;obtain ⟨c, d, g3⟩ : ∃ a b, V[j + 1]? = some (a, b) := ⟨_, _, bJ (by omega)⟩;have aW := Qv (D := D) g2 g3 (by omega);rw [← nc] at aW
   have ew : pre ++ (iZ V).take (j + 1) = (pre ++ (iZ V).take j) ++ [((a, b), (c, d))] := by
    have h1 : j + 1 < V.length := by omega
    have h2 := aa9 h1;rw [show V[j] = (a, b) from ny ((bJ (by omega)).symm.trans g2), show V[j + 1] = (c, d) from ny ((bJ (by omega)).symm.trans g3)] at h2;obtain ⟨ao, aD⟩ := bA.1 h2;rw [jT ao, aD, im]
   have hlen : (pre ++ (iZ V).take j).length ≤ 300 * 1100 + 1100 := by rw [cF, hD]; omega
   (refine nF ?_);refine n2 0 rfl rfl rfl rfl ?q1 ?q2 rfl rfl (fun v' bQ => ?_)
   case q1 => exact js (by show (pre ++ (iZ V).take j).length + 1 ≤ 1000000; omega)
   case q2 => show ((pre ++ (iZ V).take j).length + 1) * 32 ≤ 140737488355328; omega
   (refine ba ?_);exact ⟨D.length - (j + 1), bt 0 (sb v' (pre ++ (iZ V).take (j + 1))), _, [(5, [.p (bX 2 V.length (bD V)), .p (bX 1 D.length (ck D))])], by omega, ⟨j + 1, ek + 1, v', by omega, rfl, by omega, rfl, rfl, rfl⟩, by rw [ew, aa6]; exact kI _ _ _, rfl, ⟨rfl, rfl, rfl, rfl, rfl, rfl, rfl, trivial⟩, ⟨rfl, trivial⟩, rfl⟩
  ·have s2 : ¬ ek < (D.length : Int) := by omega
   have lN : (iZ V).take j = iZ V := gn (by omega);rw [lN, ← cr];(refine ba ?_);exact ⟨ch.length - (i + 1), bt 0 (sb v (a6 (ch.take (i + 1)))), _, [], by omega, ⟨i + 1, ii + 1, v, by omega, rfl, by omega, rfl, rfl, rfl⟩, bz.refl _, rfl, ⟨rfl, rfl, rfl, rfl, trivial⟩, trivial, rfl⟩
 ·have q2 : ¬ ii < (ch.length : Int) := by omega
  have cq : ch.take i = ch := gn (by omega);rw [cq];(refine ba ?_)
  ((refine yU rfl (a8 rfl aL) rfl rfl (jw _) ?_))
  exact ⟨rfl, rfl⟩
theorem aa7 (l : List (aj × aj)) : ul (mA l) := .of fun y ai => by
 obtain ⟨x, _, aa⟩ := List.mem_flatMap.1 ai;simp only [w8, gj, List.not_mem_nil, or_false] at aa;rcases aa with rfl | rfl | rfl | rfl <;> exact ⟨_, rfl⟩
theorem Bq {l : List (List aj × List Int)} {i : Nat} {ii : Int} {V : List aj} {D : List Int} (hi : ii = i) (h : l[i]? = some (V, D)) : (ii.toNat * 2 + 2 ≤ (eC l).length ∧ ((eC l).drop (ii.toNat * 2)).take 2 = [.p (bX 2 V.length (bD V)), .p (bX 1 D.length (ck D))]) ∧ (eC l)[ii.toNat * 2 + 1]? = some (.p (bX 1 D.length (ck D))) := by
 have h2 := wk hi h
 have h1 : ii.toNat * 2 + 2 ≤ (eC l).length := by
  have := BO (f := pz) (z := 2) (fun _ => rfl) l;unfold eC;rw [this];have := (bA.1 h).1;omega
 refine ⟨⟨h1, h2⟩, ?_⟩;have ao : (((eC l).drop (ii.toNat * 2)).take 2)[1]? = some (.p (bX 1 D.length (ck D))) := by rw [h2]; rfl
 rw [fw (by decide), fP] at ao;exact ao
theorem ZR {l : List aj} {i : Nat} {ii x y : Int} (hi : ii = i) (h : l[i]? = some (x, y)) : ii.toNat * 2 + 2 ≤ (bD l).length ∧ ((bD l).drop (ii.toNat * 2)).take 2 = [.c (.int .i64 x), .c (.int .i64 y)] := by
 have := (bA.1 h).1;refine ⟨by rw [n5]; omega, lV hi h⟩
section
variable {E : List (Int × bT)} {r rm : Nat}
def km (ch : List (List aj × List Int)) : Prop := ch.length ≤ 300 ∧ ∀ c ∈ ch, c.1.length = c.2.length + 1 ∧ c.1.length ≤ 1100
theorem OC {s : bq.aU aj} (hd : s.dirty = false) (au : s.fnd = []) : ga E r rm 104 [] s lG (fh s 4 0 0) := by
 obtain ⟨ph, I, J, T, dirty, hot, fnd, ch⟩ := s;obtain rfl : dirty = false := hd;obtain rfl : fnd = [] := au;rintro cs R ⟨hv, fv, cv, b, S, lk, hS, cS, fV, rfl, rfl⟩;have dz : (ez E r rm ph I J T false hv fv cv b lk).all AC.aY = true := by simp only [jV, l9, cS]; rfl
 have bH := HE (E := E) (k := r) (rm := rm) (ph := ph) (I := I) (J := J) (T := T) (dirty := false) (hv := hv) (fv := fv) (cv := cv) (b := b) cS 4;refine dt (f := 104) Tryz.func104 rfl (dl rfl) (by exact eo rfl) ?_;(refine ba ?_);refine kb 1000 rfl rfl rfl rfl bH rfl rfl dz rfl rfl ?_;(refine ba ?_)
 ((refine eN rfl aL rfl (bz.refl _) rfl rfl e8 ?_))
 exact ⟨_, rfl, rfl, hv, fv, cv, b, S, .c (.slice none 0 0), hS, rfl, fun h => (by cases h), rfl, rfl⟩
theorem aaC {s : bq.aU aj} (hd : s.dirty = false) (au : s.fnd = []) (al : km s.ch) : ga E r rm 132 [] s lG (if (a6 s.ch).length < 2 then fh s 4 0 0 else fh s 3 0 1) := by
 obtain ⟨ph, I, J, T, dirty, hot, fnd, ch⟩ := s;obtain rfl : dirty = false := hd;obtain rfl : fnd = [] := au;have al : km ch := al;rintro cs R ⟨hv, fv, cv, b, S, lk, hS, cS, fV, rfl, rfl⟩;have dz : (ez E r rm ph I J T false hv fv cv b lk).all AC.aY = true := by simp only [jV, l9, cS]; rfl
 have aW := CU (E := E) (k := r) (rm := rm) (ph := ph) (I := I) (J := J) (T := T) (dirty := false) (hv := hv) (fv := fv) (cv := cv) (b := b) cS 3 1;have bH := Ub (ch := ch) al.2 al.1;have eF := OC (E := E) (r := r) (rm := rm) (s := ⟨3, 0, 1, 0, false, hot, [], ch⟩) rfl rfl;simp only;have Nk := aa7 (a6 ch);have cC := VV ch;have hS : sQ rm hot (eb b) S := hS;generalize iQ : a6 ch = L at *
 by_cases h2 : L.length < 2
 ·rw [if_pos h2];have wD : (1 : Int) ≥ (L.length : Int) := by omega
  refine dt (f := 132) Tryz.func132 rfl (dl rfl) (by exact eo rfl) ?_;(refine ba ?_);refine kb 1000 rfl rfl rfl rfl aW rfl rfl dz rfl rfl ?_;(refine ba ?_);refine NS 3 9 (by decide) rfl rfl rfl rfl bH rfl (jw _) (fun y ai => b6.1 cC y ai) rfl rfl (fun v q h => ?_) (fun q h => ?_)
  ·obtain ⟨rfl, h⟩ := h;rw [h]; exact ⟨rfl, Nk⟩
  obtain ⟨_, h⟩ := h;rw [h];(repeat first | (with_reducible apply cQ (id := 2) [0,1,2,3,4,5,6,7,8,9,10]); kernel_rfl; kernel_rfl; rfl | refine cu ?_);refine ic rfl rfl rfl rfl rfl rfl rfl rfl eF ⟨hv, fv, cv, b, S, .p (bX 4 L.length (mA L)), hS, rfl, fun _ => by rw [iQ], rfl, rfl⟩ (fun ar ay b8 => ?_);(refine ba ?_);obtain ⟨bQ, c8, cZ, bS, dh, gY, fO, hg, iy, rfl, rfl⟩ := id b8
  ((refine eN rfl aL rfl (bz.refl _) b8.closed rfl e8 ?_))
  exact ⟨_, rfl, rfl, b8⟩
 ·rw [if_neg h2];have wD : ¬ (1 : Int) ≥ (L.length : Int) := by omega
  refine dt (f := 132) Tryz.func132 rfl (dl rfl) (by exact eo rfl) ?_;(refine ba ?_);refine kb 1000 rfl rfl rfl rfl aW rfl rfl dz rfl rfl ?_;(refine ba ?_);refine NS 3 9 (by decide) rfl rfl rfl rfl bH rfl (jw _) (fun y ai => b6.1 cC y ai) rfl rfl (fun v q h => ?_) (fun q h => ?_)
  ·obtain ⟨rfl, h⟩ := h;rw [h]; exact ⟨rfl, Nk⟩
  obtain ⟨_, h⟩ := h;rw [h];(repeat first | (with_reducible apply cQ (id := 2) [0,1,2,3,4,5,6,7,8,9,10]); kernel_rfl; kernel_rfl; rfl | refine cu ?_)
  ((refine eN rfl aL rfl (bz.refl _) rfl rfl e8 ?_))
  exact ⟨_, rfl, rfl, hv, fv, cv, b, S, .p (bX 4 L.length (mA L)), hS, rfl, fun _ => by show _ = AC.p (bX 4 (a6 ch).length (mA (a6 ch))); rw [iQ], rfl, rfl⟩
def T2 (E : List (Int × bT)) (r rm : Nat) (s : bq.aU aj) (hv fv cv : Value) (b : Nat) (S : e0) (lk : AC) (n : Nat) (R : aI) (aM : List (Nat × ah)) (bi : List (Nat × List AC)) : Prop :=
 ∃ (I J : Nat), I < s.ch.length ∧ n = s.ch.length - I ∧ mc s = mc { s with I := I, J := J } ∧ J ≤ 1100 ∧ R = dT b S hv fv cv s.hot [] s.ch ∧ aM = [(0, rr), (2, .w (.one (.own 1000 1)))] ∧ bi = [(1000, ez E r rm s.ph I J s.T false hv fv cv b lk)]
theorem afS {s : bq.aU aj} {I J : Nat} {V : List aj} {D : List Int} (h : s.ch[I]? = some (V, D)) : mc ({ s with I := I, J := J } : bq.aU aj) = if J + 1 < V.length then ({ s with I := I, J := J } : bq.aU aj) else mc ({ s with I := I + 1, J := 0 } : bq.aU aj) := by
 have ak := (bA.1 h).1;unfold mc;have e : s.ch.drop I = (V, D) :: s.ch.drop (I + 1) := by rw [mG ak, (bA.1 h).2]
 simp only [e, ua]
 by_cases ae : J + 1 < V.length
 ·rw [if_pos ae, if_pos ae]
 ·rw [if_neg ae, if_neg ae]; rfl
theorem afT {s : bq.aU aj} (h : s.ch.length ≤ s.I) : mc s = if (a6 s.ch).length < 2 then fh s 4 0 0 else fh s 3 0 1 := by
 unfold mc;rw [List.drop_eq_nil_of_le h];rfl
theorem OD {s : bq.aU aj} (hd : s.dirty = false) (au : s.fnd = []) (al : km s.ch) (bj : s.I < s.ch.length) (kt : s.J ≤ 1100) (hk : s.ph = 2) : ga E r rm 98 [] s lG (mc s) := by
 rintro cs R ⟨hv, fv, cv, b, S, lk, hS, cS, fV, rfl, rfl⟩;rw [hd, au];have dz : ∀ I J : Int, (ez E r rm s.ph I J s.T false hv fv cv b lk).all AC.aY = true := fun I J => by simp only [jV, l9, cS]; rfl
 refine dt (f := 98) Tryz.func98 rfl (dl rfl) (by exact eo rfl) ?_;(refine ba ?_);refine jW 46 (T2 E r rm s hv fv cv b S lk) (s.ch.length - s.I) (dT b S hv fv cv s.hot [] s.ch) _ [(1000, ez E r rm s.ph s.I s.J s.T false hv fv cv b lk)] ⟨s.I, s.J, bj, rfl, rfl, kt, rfl, rfl, rfl⟩ (bz.refl _) rfl ⟨rfl, rfl, trivial⟩ ⟨rfl, trivial⟩ ?_ ?_
 ·cases lk <;> first | rfl | cases cS
 rintro n R aM bi ⟨I, J, XO, rfl, Hh, XQ, rfl, rfl, rfl⟩ cT;clear cT;obtain ⟨V, D, g1⟩ : ∃ V D, s.ch[I]? = some (V, D) := ⟨_, _, bJ XO⟩;obtain ⟨gd, fT⟩ := al.2 _ (cV g1);have hlen := al.1;simp only at gd fT;obtain ⟨mR, sJ⟩ := Bq (ii := (I : Int)) rfl g1;have zh := afS (s := s) (J := J) g1;have c0 : (0 : Int) ≤ (I : Int) := by omega
 have q1 : (I : Int) < (s.ch.length : Int) := by omega
 have q2 : 0 < s.ch.length := by omega
 by_cases ae : J + 1 < V.length
 ·have jH : ¬ (J : Int) ≥ (D.length : Int) := by omega
  rw [if_pos ae] at zh;(repeat first | (with_reducible apply cQ (id := 1) [0,1,2,3,4,5,6,7,8,9,10,11,12,13,14,15,16]); kernel_rfl; kernel_rfl; rfl | refine cu ?_ | (with_reducible apply ib 3); (iterate 4 rfl); (omega); (assumption); rfl; kernel_rfl; rfl | (with_reducible apply rZ 3); (iterate 3 rfl); (assumption); kernel_rfl; rfl | (with_reducible apply za 3); (iterate 3 rfl); (assumption); assumption; rfl; kernel_rfl; rfl)
  ((refine eN rfl aL rfl (bz.refl _) (dz _ _) rfl e8 ?_))
  refine ⟨_, rfl, rfl, hv, fv, cv, b, S, lk, ?_⟩;rw [Hh, zh];exact ⟨hS, cS, fV, by rw [hd], by rw [au]⟩
 ·have jH : (J : Int) ≥ (D.length : Int) := by omega
  rw [if_neg ae] at zh
  by_cases ak : I + 1 = s.ch.length
  ·have fb : (I : Int) + 1 = (s.ch.length : Int) := by omega
   have eF := aaC (E := E) (r := r) (rm := rm) (s := { s with I := I + 1, J := 0 }) hd au al;have Zt := afT (s := { s with I := I + 1, J := 0 }) (by show s.ch.length ≤ I + 1; omega);rw [← Zt] at eF;(repeat first | (with_reducible apply cQ (id := 1) [0,1,2,3,4,5,6,7,8,9,10,11,12,13,14,15,16]); kernel_rfl; kernel_rfl; rfl | (with_reducible apply cQ (id := 3) [0,1,2,3,4,5,6,7,8,9]); kernel_rfl; kernel_rfl; rfl | refine cu ?_ | (with_reducible apply lr 3); (iterate 4 rfl); kernel_rfl; rfl | (with_reducible apply ib 3); (iterate 4 rfl); (omega); (assumption); rfl; kernel_rfl; rfl | (with_reducible apply rZ 3); (iterate 3 rfl); (assumption); kernel_rfl; rfl | (with_reducible apply za 3); (iterate 3 rfl); (assumption); assumption; rfl; kernel_rfl; rfl);refine ic rfl rfl rfl rfl rfl rfl rfl rfl eF ⟨hv, fv, cv, b, S, lk, hS, cS, fV, by rw [hd]; rfl, by rw [au]⟩ (fun ar ay b8 => ?_);(refine ba ?_);obtain ⟨bQ, c8, cZ, bS, dh, gY, fO, hg, iy, rfl, rfl⟩ := id b8
   ((refine eN rfl aL rfl (bz.refl _) b8.closed rfl e8 ?_))
   refine ⟨_, rfl, rfl, ?_⟩;rw [Hh, zh];exact b8
  ·have fb : ¬ (I : Int) + 1 = (s.ch.length : Int) := by omega
   (repeat first | (with_reducible apply cQ (id := 1) [0,1,2,3,4,5,6,7,8,9,10,11,12,13,14,15,16]); kernel_rfl; kernel_rfl; rfl | (with_reducible apply cQ (id := 3) [0,1,2,3,4,5,6,7,8,9]); kernel_rfl; kernel_rfl; rfl | refine cu ?_ | (with_reducible apply lr 3); (iterate 4 rfl); kernel_rfl; rfl | (with_reducible apply ib 3); (iterate 4 rfl); (omega); (assumption); rfl; kernel_rfl; rfl | (with_reducible apply rZ 3); (iterate 3 rfl); (assumption); kernel_rfl; rfl | (with_reducible apply za 3); (iterate 3 rfl); (assumption); assumption; rfl; kernel_rfl; rfl);refine ⟨s.ch.length - (I + 1), dT b S hv fv cv s.hot [] s.ch, _, [(1000, ez E r rm s.ph (I + 1 : Nat) (0 : Nat) s.T false hv fv cv b lk)], by omega, ⟨I + 1, 0, by omega, rfl, by rw [Hh, zh], by omega, rfl, rfl, rfl⟩, bz.refl _, rfl, ⟨rfl, rfl, trivial⟩, ⟨rfl, trivial⟩, ?_⟩;cases lk <;> first | rfl | cases cS
end
section
variable {P : Program} {bw : eZ} {bK A : Nat → Prop} {R : aI} {s : aC} {a : Act} {w : World} {ad : Nat → Nat} {c : Code} {Q : Exit → aI → aC → Prop}
theorem ev.ae1 {bV : Nat → Nat} (fE : ∀ i j, bV i = bV j → i = j) (h : ev bw bK R s a w A ad) : ev bw bK (fun i => R (bV i)) s a w A ad :=
 ⟨h.up, h.sub, h.rel, h.oO, h.below, fun i r hi => h.rows (bV i) r hi, fun i j r q hi ae gH g aq => h.apart (bV i) (bV j) r q hi ae (fun e => gH (fE i j e)) g aq, fun i r g hi aq => h.hot (bV i) r g hi aq, h.j7⟩
theorem afN (i j : Nat) (h : fl P c Q (fun x => R (swp i j x)) s) : fl P c Q R s := fun ok bw bK a w ⟨A, ad, aw⟩ => h ok bw bK a w ⟨A, ad, aw.ae1 fun x y e => by rw [← mO i j x, e, mO]⟩
end
theorem Jc {A B ds : List AC} {off : Nat} (h : A.length = off) : eD (A ++ B) off ds = A ++ ds ++ B.drop ds.length := by
 unfold eD;rw [← h, List.take_left, List.drop_append, tW (by omega), Nat.add_sub_cancel_left]; simp
def J9 (E : List (Int × bT)) (r rm : Nat) (s : bq.aU aj) (cs : List AC) (R : aI) : Prop := ∃ (hv fv cv : Value) (b : Nat) (S : e0) (lk : AC), sQ rm s.hot (eb b) S ∧ lk.aY = true ∧ cs = ez E r rm s.ph s.I s.J s.T s.dirty hv fv cv b lk ∧ R = dT b S hv fv cv s.hot s.fnd s.ch
def J7 (E : List (Int × bT)) (r rm : Nat) (f : FuncId) (args : List ah) (s : bq.aU aj) (v : ah) (s' : bq.aU aj) : Prop :=
 ∀ cs R, J9 E r rm s cs R → da ag f (rr :: args) (cG 1000 cs) R (oq 1000 fun bW ar ay => bW = v ∧ dy E r rm s' ar ay)
section
variable {P : Program} {R : aI} {s : aC} {ops : Array Oper} {dr : Option (List Nat)} {ty : Nat} {pos : String} {after : Array Edge} {guard : Option (Nat × Bool)} {K : aI → aC → Prop} {rest : List Oper}
theorem NQ {E : List (Int × bT)} {r rm : Nat} {dJ s1 : bq.aU aj} {v : ah} {dst : Option Nat} {f : FuncId} {g : Operand} {aM : Array TypeId} {l : List Operand} {args : List ah} {cs : List AC} [EC : Enters ag f] (hw : want ops ⟨dst, .call ⟨.value g, l.toArray, aM⟩, ty, pos, after, guard⟩ s = some true) (hm : dY dr ⟨dst, .call ⟨.value g, l.toArray, aM⟩, ty, pos, after, guard⟩ = true)
  (aq : s.look g = some (aQ (.func (.func f) #[] #[]))) (aJ : l.map s.look = (rr :: args).map some) (af : s.mem 1000 = some cs) (hD : pb dr 1000 = true) (eg : args.all ah.aY = true) (hd : kT dst s.n = true) (hp : J7 E r rm f args dJ v s1) (bj : J9 E r rm dJ cs R)
  (h : ∀ ar ay, dy E r rm s1 ar ay → cJ ag ops dr K rest ay ((s.ed 1000 ar).put dst v)) : cJ ag ops dr K (⟨dst, .call ⟨.value g, l.toArray, aM⟩, ty, pos, after, guard⟩ :: rest) R s := by
 have al : cs.all AC.aY = true := by
  obtain ⟨hv, fv, cv, b, S, lk, _, cS, rfl, _⟩ := bj;simp only [jV, l9, cS]; rfl
 refine Cy 1000 hw hm aq aJ (hp cs R bj) af hD (bz.refl _) al eg hd ?_;rintro _ ar ay ⟨rfl, aK⟩
 have : bP ay R = ay := by
  obtain ⟨_, _, _, _, _, _, _, _, _, rfl⟩ := bj;obtain ⟨_, _, _, _, _, _, _, _, _, _, rfl⟩ := aK;exact Rz
 rw [this];exact h ar ay aK
end
section
variable {E : List (Int × bT)} {r rm : Nat}
theorem OE {s : bq.aU aj} (hd : s.dirty = false) (au : s.fnd = []) (al : km s.ch) (az : 0 < s.ch.length) : J7 E r rm 130 [] s lG (mc (fh s 2 0 0)) := by
 have eF := OD (E := E) (r := r) (rm := rm) (s := fh s 2 0 0) hd rfl al az (dx _) rfl;obtain ⟨ph, I, J, T, dirty, hot, fnd, ch⟩ := s;obtain rfl : dirty = false := hd;obtain rfl : fnd = [] := au;rintro cs R ⟨hv, fv, cv, b, S, lk, hS, cS, rfl, rfl⟩;have dz : (ez E r rm ph I J T false hv fv cv b lk).all AC.aY = true := by simp only [jV, l9, cS]; rfl
 have aW := CU (E := E) (k := r) (rm := rm) (ph := ph) (I := I) (J := J) (T := T) (dirty := false) (hv := hv) (fv := fv) (cv := cv) (b := b) cS 2 0;refine dt (f := 130) Tryz.func130 rfl (dl rfl) (by exact eo rfl) ?_;(refine ba ?_);refine kb 1000 rfl rfl rfl rfl aW rfl rfl dz rfl rfl ?_;(refine ba ?_);refine ic rfl rfl rfl rfl rfl rfl rfl rfl eF ⟨hv, fv, cv, b, S, lk, hS, cS, fun h => (by cases h), rfl, rfl⟩ (fun ar ay b8 => ?_);(refine ba ?_);obtain ⟨bQ, c8, cZ, bS, dh, gY, fO, hg, iy, rfl, rfl⟩ := id b8
 ((refine eN rfl aL rfl (bz.refl _) b8.closed rfl e8 ?_))
 exact ⟨_, rfl, rfl, b8⟩
theorem OB {s : bq.aU aj} (au : s.fnd = []) (al : km s.ch) (az : 0 < s.ch.length) : ga E r rm 104 [] s lG (nE s) := by
 unfold nE
 by_cases hd : s.dirty = true
 ·rw [if_pos hd];have eF := OE (E := E) (r := r) (rm := rm) (s := { s with dirty := false }) rfl au al az;obtain ⟨ph, I, J, T, dirty, hot, fnd, ch⟩ := s;obtain rfl : dirty = true := hd;obtain rfl : fnd = [] := au;rintro cs R ⟨hv, fv, cv, b, S, lk, hS, cS, fV, rfl, rfl⟩;simp only at eF ⊢;refine dt (f := 104) Tryz.func104 rfl (dl rfl) (by exact eo rfl) ?_;(refine ba ?_);refine NQ rfl rfl rfl rfl rfl rfl rfl rfl eF ⟨hv, fv, cv, b, S, .c (.slice none 0 0), hS, rfl, rfl, rfl⟩ (fun ar ay b8 => ?_);(refine ba ?_);obtain ⟨bQ, c8, cZ, bS, dh, gY, fO, hg, iy, rfl, rfl⟩ := id b8
  ((refine eN rfl aL rfl (bz.refl _) b8.closed rfl e8 ?_))
  exact ⟨_, rfl, rfl, b8⟩
 ·have hd : s.dirty = false := by cases h : s.dirty <;> simp_all
  rw [if_neg (by rw [hd]; decide)];exact OC hd au
theorem ab3 (p q : aj) : hn p q = (vm p q, vl p q) := by
 unfold hn vm vl; split <;> rfl
def TC (E : List (Int × bT)) (r rm : Nat) (s : bq.aU aj) (hv fv cv v : Value) (b : Nat) (S : e0) (lk : AC) (ho : List (List aj × List Int)) (Z : List AC) (n : Nat) (R : aI) (aM : List (Nat × ah)) (bi : List (Nat × List AC)) : Prop :=
 ∃ (i : Nat) (ii : Int), i ≤ E.length ∧ n = E.length - i ∧ ii = i ∧ R = bG (dT b S hv fv cv s.hot [] s.ch) 4 ⟨34, 2, v, E.length, eC (ho.take i) ++ Z.drop (2 * i)⟩ ∧ aM = [(0, rr), (2, aQ v), (11, aE E.length), (12, aE ii)] ∧ bi = [(1000, ez E r rm s.ph s.I s.J s.T false hv fv cv b lk)]
theorem OA {s : bq.aU aj} (ap : r ≤ 28) (e7 : gK (E.map Prod.snd) = true) (ak : E.length ≤ 300) (az : 0 < E.length) (hd : s.dirty = false) (au : s.fnd = []) : ga E r rm 95 [] s lG (lx (bp E r rm) s) := by
 rintro cs R ⟨hv, fv, cv, b, S, lk, hS, cS, fV, rfl, rfl⟩;rw [hd, au];have dz : (ez E r rm s.ph s.I s.J s.T false hv fv cv b lk).all AC.aY = true := by simp only [jV, l9, cS]; rfl
 obtain ⟨ho, qO⟩ : ∃ ho, ho = (List.range (bp E r rm).n).map fun k => hn ((bp E r rm).P k) ((bp E r rm).Q k) := ⟨_, rfl⟩;have ax : ho.length = E.length := by rw [qO]; simp [q6]
 have Yg : km ho := by
  refine ⟨by omega, fun c al => ?_⟩;rw [qO] at al;obtain ⟨k, _, rfl⟩ := gm.1 al;unfold hn; split
  ·exact ⟨rfl, Nat.le_add_left 1 1099⟩
  ·exact ⟨rfl, Nat.le_add_left 2 1098⟩
 have eF := OE (E := E) (r := r) (rm := rm) (s := { s with ch := ho }) hd au Yg (by show 0 < ho.length; omega);rw [show mc (fh ({ s with ch := ho } : bq.aU aj) 2 0 0) = lx (bp E r rm) s by rw [qO]; rfl] at eF
 have gF : ∀ i o (a : bT), E[i]? = some (o, a) → ho[i]? = some (hn (kE r a.1) (kE r a.2)) := fun i o a h => by
  have hi := (bA.1 h).1;have e : (E.map Prod.snd).getD i kq = a := by rw [fX, eh, h]; rfl
  rw [qO, eh, List.getElem?_range (by simpa [q6] using hi)];show some (hn (kE r ((E.map Prod.snd).getD i kq).1) (kE r ((E.map Prod.snd).getD i kq).2)) = _;rw [e]
 have bU : ∀ i o (a : bT), E[i]? = some (o, a) → gg a.1 = true ∧ gg a.2 = true := fun i o a h => by
  have := oS e7 i;rw [fX, eh, h] at this;exact this
 have B5 : (h4 E.length 2 [.slice none 0 0, .slice none 0 0]).length = 2 * E.length := by unfold h4; simp; omega
 clear qO;refine dt (f := 95) Tryz.func95 rfl (dl rfl) (by exact eo rfl) ?_;(refine ba ?_);refine zb (l := E.length) (c' := E.length) 4 rfl rfl rfl rfl (dE _) rfl rfl ?h2 (js (by omega)) rfl (fun v iW => ?_)
 case h2 => omega
 (refine ba ?_);generalize h4 E.length 2 [.slice none 0 0, .slice none 0 0] = Z at *;(repeat first | refine cu ?_ | (with_reducible apply lr 4); (iterate 4 rfl); kernel_rfl; rfl);refine jW 32 (TC E r rm s hv fv cv v b S lk ho Z) E.length (bG (dT b S hv fv cv s.hot [] s.ch) 4 ⟨34, 2, v, E.length, Z⟩) _ [(1000, ez E r rm s.ph s.I s.J s.T false hv fv cv b lk)] ⟨0, 0, dx _, rfl, rfl, rfl, rfl, rfl⟩ (bz.refl _) rfl ⟨rfl, rfl, rfl, rfl, trivial⟩ ⟨rfl, trivial⟩ ?_ ?_
 ·cases lk <;> first | rfl | cases cS
 rintro n R aM bi ⟨i, ii, hi, rfl, fp, rfl, rfl, rfl⟩ cT;clear cT
 have aB : (eC (ho.take i)).length = 2 * i := by
  have := BO (f := pz) (z := 2) (fun _ => rfl) (ho.take i);rw [dX] at this;unfold eC; rw [this]; omega
 by_cases an : i < E.length
 ·have q2 : ii < (E.length : Int) := by omega
  have bR : 0 ≤ ii := by omega
  have dD : 0 < E.length := by omega
  obtain ⟨o, ⟨p1, p2⟩, ⟨cy, cz⟩, g1⟩ : ∃ o p q, E[i]? = some (o, p, q) := ⟨_, _, _, bJ an⟩;obtain ⟨eJ, ft⟩ := bU _ _ _ g1;have g2 := gF _ _ _ g1;have aW := HF (E := E) (k := r) (rm := rm) (ph := s.ph) (I := s.I) (J := s.J) (T := s.T) (dirty := false) (hv := hv) (fv := fv) (cv := cv) (b := b) ap rfl cS (by omega) g1 eJ ft;rw [← fp] at aW;have bH := aal (bB p1 r) (bB p2 r) (bB cy r) (bB cz r);have aP : hn (kE r (p1, p2)) (kE r (cy, cz)) = (vm (bB p1 r, bB p2 r) (bB cy r, bB cz r), vl (bB p1 r, bB p2 r) (bB cy r, bB cz r)) := ab3 _ _;rw [aP] at g2;clear aP eJ ft g1;generalize bB p1 r = a1 at *;generalize bB p2 r = a2 at *;generalize bB cy r = a3 at *;generalize bB cz r = a4 at *;generalize vm (a1, a2) (a3, a4) = V at *;generalize vl (a1, a2) (a3, a4) = D at *;have aF : ii.toNat * 2 = 2 * i := by omega
  have G5 : ii.toNat * 2 + 2 ≤ (eC (ho.take i) ++ Z.drop (2 * i)).length := by rw [cF, aB, h0, B5]; omega
  have cr : eD (eC (ho.take i) ++ Z.drop (2 * i)) (ii.toNat * 2) [.p (bX 2 V.length (bD V)), .p (bX 1 D.length (ck D))] = eC (ho.take (i + 1)) ++ Z.drop (2 * (i + 1)) := by
   rw [Jc (by rw [aB, aF]), re];congr 1;have bb : i < ho.length := by omega
   rw [jT bb, show ho[i] = (V, D) from ny ((bJ bb).symm.trans g2)];simp [eC, pz]
  (refine ba ?_);refine kb 1000 rfl rfl rfl rfl aW rfl rfl dz rfl rfl ?_;(repeat first | refine cu ?_ | refine iJ ?_ | (with_reducible apply ib 4); (iterate 4 rfl); (omega); (assumption); rfl; kernel_rfl; rfl);refine ze 4 rfl rfl rfl rfl dD rfl rfl G5 rfl ?_;(refine ba ?_);refine ⟨E.length - (i + 1), bG (dT b S hv fv cv s.hot [] s.ch) 4 ⟨34, 2, v, E.length, eC (ho.take (i + 1)) ++ Z.drop (2 * (i + 1))⟩, _, [(1000, ez E r rm s.ph s.I s.J s.T false hv fv cv b lk)], by omega, ⟨i + 1, ii + 1, by omega, rfl, by omega, rfl, rfl, rfl⟩, fun k q af => ?_, rfl, ⟨rfl, rfl, rfl, rfl, trivial⟩, ⟨rfl, trivial⟩, ?_⟩
  ·rw [← cr] at af
   by_cases hT : k = 4
   ·subst hT; exact af
   ·rw [b9 _ _ hT] at af ⊢;rw [b9 _ _ hT]; exact af
  ·cases lk <;> first | rfl | cases cS
 ·have q2 : ¬ ii < (E.length : Int) := by omega
  have cq : ho.take i = ho := gn (by omega);have aF : Z.drop (2 * i) = [] := List.drop_eq_nil_of_le (by omega);rw [cq, aF, p0];refine afN 3 4 ?_;refine D5 (dT b S hv fv v s.hot [] ho) (fun k q af => ?_) ?_
  ·match k with
   | 0 => exact af
   | 1 => exact af
   | 2 => exact af
   | 3 => rw [← ax]; exact af
   | k + 4 => cases af
  (refine ba ?_);refine NQ rfl rfl rfl rfl rfl rfl rfl rfl eF ⟨hv, fv, v, b, S, lk, hS, cS, by rw [hd], by rw [au]⟩ (fun ar ay b8 => ?_);(refine ba ?_);obtain ⟨bQ, c8, cZ, bS, dh, gY, fO, hg, iy, rfl, rfl⟩ := id b8
  ((refine eN rfl aL rfl (bz.refl _) b8.closed rfl e8 ?_))
  exact ⟨_, rfl, rfl, b8⟩
end
section
variable {E : List (Int × bT)} {r rm : Nat}
theorem Bk {n : Nat} (h : n ≠ 5) : Nat.beq n 5 = false := by
 cases aK : Nat.beq n 5 with
 | false => rfl
 | true => exact absurd (hr aK) h
theorem Ce {o : cP aj} {s : bq.aU aj} {q : aj} (h : s.fnd = []) : (dR o s q).fnd = [] := by
 unfold dR; split
 ·exact h
 ·split
  ·exact h
  ·rfl
theorem Cd {o : cP aj} {s : bq.aU aj} {q : aj} : (dR o s q).dirty = s.dirty ∧ (dR o s q).ch = s.ch ∧ (dR o s q).hot.length ≤ s.hot.length + 1 := by
 unfold dR; split
 ·exact ⟨rfl, rfl, Nat.le_succ _⟩
 ·split
  ·exact ⟨rfl, rfl, by simp⟩
  ·exact ⟨rfl, rfl, Nat.le_succ _⟩
theorem Cf {o : cP aj} {s : bq.aU aj} {q : aj} (h : (dR o s q).ph ≠ 5) : (dR o s q).ph = s.ph ∧ (dR o s q).I = s.I ∧ (dR o s q).J = s.J ∧ (dR o s q).T = s.T := by
 revert h
 unfold dR; split
 ·exact fun _ => ⟨rfl, rfl, rfl, rfl⟩
 ·split
  ·exact fun _ => ⟨rfl, rfl, rfl, rfl⟩
  ·exact fun h => absurd rfl h
theorem aaD {s : bq.aU aj} (ap : r ≤ 28) (e7 : gK (E.map Prod.snd) = true) (ak : E.length ≤ 300) (az : 0 < E.length) (hd : s.dirty = false) (au : s.fnd = []) : ga E r rm 91 [] s lG (if E.length < 2 then lx (bp E r rm) s else fh s 1 0 1) := by
 have eF := OA (E := E) (r := r) (rm := rm) (s := fh s 1 0 1) ap e7 ak az hd rfl;rw [show lx (bp E r rm) (fh s 1 0 1) = lx (bp E r rm) s from rfl] at eF;obtain ⟨ph, I, J, T, dirty, hot, fnd, ch⟩ := s;obtain rfl : dirty = false := hd;obtain rfl : fnd = [] := au;rintro cs R ⟨hv, fv, cv, b, S, lk, hS, cS, fV, rfl, rfl⟩;have dz : (ez E r rm ph I J T false hv fv cv b lk).all AC.aY = true := by simp only [jV, l9, cS]; rfl
 have X4 : (ez E r rm 1 0 1 0 false hv fv cv b lk).all AC.aY = true := by simp only [jV, l9, cS]; rfl
 have aW := CU (E := E) (k := r) (rm := rm) (ph := ph) (I := I) (J := J) (T := T) (dirty := false) (hv := hv) (fv := fv) (cv := cv) (b := b) cS 1 1
 by_cases h2 : E.length < 2
 ·rw [if_pos h2];have wD : (1 : Int) ≥ (E.length : Int) := by omega
  refine dt (f := 91) Tryz.func91 rfl (dl rfl) (by exact eo rfl) ?_;(refine ba ?_);refine kb 1000 rfl rfl rfl rfl aW rfl rfl dz rfl rfl ?_;(repeat first | (with_reducible apply cQ (id := 1) [0,1,2,3,4,5,6,7,8,9,10]); kernel_rfl; kernel_rfl; rfl | refine cu ?_);refine ic rfl rfl rfl rfl rfl rfl rfl rfl eF ⟨hv, fv, cv, b, S, lk, hS, cS, fun h => (by cases h), rfl, rfl⟩ (fun ar ay b8 => ?_);(refine ba ?_);obtain ⟨bQ, c8, cZ, bS, dh, gY, fO, hg, iy, rfl, rfl⟩ := id b8
  ((refine eN rfl aL rfl (bz.refl _) b8.closed rfl e8 ?_))
  exact ⟨_, rfl, rfl, b8⟩
 ·rw [if_neg h2];have wD : ¬ (1 : Int) ≥ (E.length : Int) := by omega
  refine dt (f := 91) Tryz.func91 rfl (dl rfl) (by exact eo rfl) ?_;(refine ba ?_);refine kb 1000 rfl rfl rfl rfl aW rfl rfl dz rfl rfl ?_;(repeat first | (with_reducible apply cQ (id := 1) [0,1,2,3,4,5,6,7,8,9,10]); kernel_rfl; kernel_rfl; rfl | refine cu ?_)
  ((refine eN rfl aL rfl (bz.refl _) X4 rfl e8 ?_))
  exact ⟨_, rfl, rfl, hv, fv, cv, b, S, lk, hS, cS, fun h => (by cases h), rfl, rfl⟩
theorem FK {i : Nat} {o : Int} {a : bT} (h : E[i]? = some (o, a)) : (E.map Prod.snd).getD i kq = a := by rw [fX, eh, h]; rfl
theorem aay {s : bq.aU aj} (ap : r ≤ 28) (e7 : gK (E.map Prod.snd) = true) (ak : E.length ≤ 300) (bj : s.I < E.length) (hd : s.dirty = false) (au : s.fnd = []) (aR : s.hot.length ≤ 1024) (hk : s.ph = 0) : ga E r rm 54 [] s lG (s6 (bp E r rm) s) := by
 obtain ⟨o, ⟨p1, p2⟩, ⟨cy, cz⟩, g1⟩ : ∃ o p q, E[s.I]? = some (o, p, q) := ⟨_, _, _, bJ bj⟩;have iv := FK g1;have ax := oS e7 s.I;rw [iv] at ax;have FG : (bp E r rm).P s.I = (bB p1 r, bB p2 r) := by show kE r ((E.map Prod.snd).getD s.I kq).1 = _; rw [iv]; rfl
 have FH : (bp E r rm).Q s.I = (bB cy r, bB cz r) := by show kE r ((E.map Prod.snd).getD s.I kq).2 = _; rw [iv]; rfl
 have BF : (bp E r rm).n = E.length := lA ..;have H1 := HG (E := E) (r := r) (rm := rm) (s := s) (x := bB p1 r) (y := bB p2 r) (by omega) au (by omega);unfold s6;rw [FG, FH, BF];have pK := Cd (o := bp E r rm) (s := s) (q := (bB p1 r, bB p2 r));have wL := Ce (o := bp E r rm) (q := (bB p1 r, bB p2 r)) au;have u1 := Cf (o := bp E r rm) (s := s) (q := (bB p1 r, bB p2 r));generalize tu : dR (bp E r rm) s (bB p1 r, bB p2 r) = s1 at *
 by_cases q1 : s1.ph = 5
 ·rw [if_pos q1];rw [q1] at H1;rintro cs R jF;obtain ⟨hv, fv, cv, b, S, lk, hS, cS, fV, rfl, rfl⟩ := id jF;have dz := jF.closed;have aW := HF (E := E) (k := r) (rm := rm) (ph := s.ph) (I := s.I) (J := s.J) (T := s.T) (dirty := s.dirty) (hv := hv) (fv := fv) (cv := cv) (b := b) ap rfl cS (by omega) g1 ax.1 ax.2;clear tu;generalize bB p1 r = a1 at *;generalize bB p2 r = a2 at *;generalize bB cy r = a3 at *;generalize bB cz r = a4 at *;refine dt (f := 54) Tryz.func54 rfl (dl rfl) (by exact eo rfl) ?_;(refine ba ?_);refine kb 1000 rfl rfl rfl rfl aW rfl rfl dz rfl rfl ?_;(refine ba ?_);refine ic rfl rfl rfl rfl rfl rfl rfl rfl H1 jF (fun ar ay b8 => ?_);(refine ba ?_);obtain ⟨bQ, c8, cZ, bS, dh, gY, fO, hg, iy, rfl, rfl⟩ := id b8
  ((refine eN rfl aL rfl (bz.refl _) b8.closed rfl e8 ?_))
  exact ⟨_, rfl, rfl, b8⟩
 ·rw [if_neg q1];obtain ⟨m1, m2, m3, m4⟩ := u1 q1;rw [Bk q1] at H1;have cW := HG (E := E) (r := r) (rm := rm) (s := s1) (x := bB cy r) (y := bB cz r) (by omega) wL q1;have wK := Cd (o := bp E r rm) (s := s1) (q := (bB cy r, bB cz r));have Yy := Ce (o := bp E r rm) (q := (bB cy r, bB cz r)) wL;have G1 := Cf (o := bp E r rm) (s := s1) (q := (bB cy r, bB cz r));generalize Zo : dR (bp E r rm) s1 (bB cy r, bB cz r) = s2 at *;have ef := aaD (E := E) (r := r) (rm := rm) (s := { s2 with I := s2.I + 1 }) ap e7 ak (by omega) (by show s2.dirty = false; rw [wK.1, pK.1]; exact hd) Yy;rw [show lx (bp E r rm) { s2 with I := s2.I + 1 } = lx (bp E r rm) s2 from rfl, show fh ({ s2 with I := s2.I + 1 } : bq.aU aj) 1 0 1 = fh s2 1 0 1 from rfl] at ef;rintro cs R jF;obtain ⟨hv, fv, cv, b, S, lk, hS, cS, fV, rfl, rfl⟩ := id jF;have dz := jF.closed;have aW := HF (E := E) (k := r) (rm := rm) (ph := s.ph) (I := s.I) (J := s.J) (T := s.T) (dirty := s.dirty) (hv := hv) (fv := fv) (cv := cv) (b := b) ap rfl cS (by omega) g1 ax.1 ax.2;clear tu Zo
  by_cases q2 : s2.ph = 5
  ·rw [if_pos q2];rw [q2] at cW;clear ef;generalize bB p1 r = a1 at *;generalize bB p2 r = a2 at *;generalize bB cy r = a3 at *;generalize bB cz r = a4 at *;refine dt (f := 54) Tryz.func54 rfl (dl rfl) (by exact eo rfl) ?_;(refine ba ?_);refine kb 1000 rfl rfl rfl rfl aW rfl rfl dz rfl rfl ?_;(refine ba ?_);refine ic rfl rfl rfl rfl rfl rfl rfl rfl H1 jF (fun ar ay b8 => ?_);(refine ba ?_);refine ic rfl rfl rfl rfl rfl rfl rfl rfl cW b8 (fun ar ay b8 => ?_);(refine ba ?_);obtain ⟨bQ, c8, cZ, bS, dh, gY, fO, hg, iy, rfl, rfl⟩ := id b8
   ((refine eN rfl aL rfl (bz.refl _) b8.closed rfl e8 ?_))
   exact ⟨_, rfl, rfl, b8⟩
  ·rw [if_neg q2];rw [Bk q2] at cW;obtain ⟨m5, m6, m7, m8⟩ := G1 q2;have WI : s.I = s2.I := by omega
   generalize bB p1 r = a1 at *;generalize bB p2 r = a2 at *;generalize bB cy r = a3 at *;generalize bB cz r = a4 at *
   by_cases bR : s.I + 1 < E.length
   ·rw [if_pos bR, show ({ s2 with I := s.I + 1 } : bq.aU aj) = { s2 with I := s2.I + 1 } by rw [WI]];have aeH : ¬ (s2.I : Int) + 1 = (E.length : Int) := by omega
    refine dt (f := 54) Tryz.func54 rfl (dl rfl) (by exact eo rfl) ?_;(refine ba ?_);refine kb 1000 rfl rfl rfl rfl aW rfl rfl dz rfl rfl ?_;(refine ba ?_);refine ic rfl rfl rfl rfl rfl rfl rfl rfl H1 jF (fun ar ay b8 => ?_);(refine ba ?_);refine ic rfl rfl rfl rfl rfl rfl rfl rfl cW b8 (fun ar ay Gj => ?_);clear b8;obtain ⟨bQ, c8, cZ, bS, dh, gY, fO, hg, iy, rfl, rfl⟩ := id Gj;have fC : dy E r rm { s2 with I := s2.I + 1 } (ez E r rm s2.ph ((s2.I : Int) + 1) s2.J s2.T s2.dirty bQ c8 cZ bS gY) (dT bS dh bQ c8 cZ s2.hot s2.fnd s2.ch) := ⟨bQ, c8, cZ, bS, dh, gY, fO, hg, iy, rfl, rfl⟩;(repeat first | (with_reducible apply cQ (id := 3) [0,1,2,3,4,5,6,7,8,9,10]); kernel_rfl; kernel_rfl; rfl | refine cu ?_)
    ((refine eN rfl aL rfl (bz.refl _) fC.closed rfl e8 ?_))
    exact ⟨_, rfl, rfl, fC⟩
   ·rw [if_neg bR];have aeH : (s2.I : Int) + 1 = (E.length : Int) := by omega
    refine dt (f := 54) Tryz.func54 rfl (dl rfl) (by exact eo rfl) ?_;(refine ba ?_);refine kb 1000 rfl rfl rfl rfl aW rfl rfl dz rfl rfl ?_;(refine ba ?_);refine ic rfl rfl rfl rfl rfl rfl rfl rfl H1 jF (fun ar ay b8 => ?_);(refine ba ?_);refine ic rfl rfl rfl rfl rfl rfl rfl rfl cW b8 (fun ar ay Gj => ?_);clear b8;obtain ⟨bQ, c8, cZ, bS, dh, gY, fO, hg, iy, rfl, rfl⟩ := id Gj;have fC : dy E r rm { s2 with I := s2.I + 1 } (ez E r rm s2.ph ((s2.I : Int) + 1) s2.J s2.T s2.dirty bQ c8 cZ bS gY) (dT bS dh bQ c8 cZ s2.hot s2.fnd s2.ch) := ⟨bQ, c8, cZ, bS, dh, gY, fO, hg, iy, rfl, rfl⟩;(repeat first | (with_reducible apply cQ (id := 3) [0,1,2,3,4,5,6,7,8,9,10]); kernel_rfl; kernel_rfl; rfl | refine cu ?_);refine ic rfl rfl rfl rfl rfl rfl rfl rfl ef fC (fun ar ay lj => ?_);(refine ba ?_);obtain ⟨CC, BS, Bw, cY, x5, C3, B4, Cp, Co, rfl, rfl⟩ := id lj
    ((refine eN rfl aL rfl (bz.refl _) lj.closed rfl e8 ?_))
    exact ⟨_, rfl, rfl, lj⟩
end
section
variable {E : List (Int × bT)} {r rm : Nat}
theorem Yt {o : cP aj} {s : bq.aU aj} {q : Option aj} (h : s.fnd = []) : (kw o s q).fnd = [] := by
 cases q with
 | none => exact h
 | some x => exact Ce h
theorem Yv {o : cP aj} {s : bq.aU aj} {q : Option aj} : (kw o s q).dirty = s.dirty ∧ (kw o s q).ch = s.ch ∧ (kw o s q).hot.length ≤ s.hot.length + 1 := by
 cases q with
 | none => exact ⟨rfl, rfl, Nat.le_succ _⟩
 | some x => exact Cd
theorem Yu {o : cP aj} {s : bq.aU aj} {q : Option aj} (h : (kw o s q).ph ≠ 5) : (kw o s q).ph = s.ph ∧ (kw o s q).I = s.I ∧ (kw o s q).J = s.J ∧ (kw o s q).T = s.T := by
 cases q with
 | none => exact ⟨rfl, rfl, rfl, rfl⟩
 | some x => exact Cf h
theorem tE {p : aj} (h : gg p = true) : b7 p.1 p.2 = true := by
 have h := pX.1 h;unfold b7; simp only [c5, b4]; omega
theorem Pl {a b : bT} (h1 : b7 a.1.1 a.1.2 = true) (h2 : b7 a.2.1 a.2.2 = true) (ao : b7 b.1.1 b.1.2 = true) (aD : b7 b.2.1 b.2.2 = true) : AQ (hl a b) := by
 rw [← HN h1 h2 ao aD]; exact abg ..
theorem PQ {n I J : Nat} (h : J < n) : ((cb n I J).1 : Int) = (if (J : Int) + 1 = (n : Int) then (I : Int) + 1 else I) ∧ ((cb n I J).2 : Int) = (if (J : Int) + 1 = (n : Int) then (I : Int) + 2 else (J : Int) + 1) ∧ (decide ((if (J : Int) + 1 = (n : Int) then (I : Int) + 2 else (J : Int) + 1) < (n : Int)) = decide ((cb n I J).2 < n)) := by
 unfold cb
 by_cases h1 : n ≤ J + 1
 ·have : (J : Int) + 1 = (n : Int) := by omega
  rw [if_pos h1, if_pos this, if_pos this];refine ⟨by simp, by simp, ?_⟩;rw [tV]; simp only; omega
 ·have : ¬ (J : Int) + 1 = (n : Int) := by omega
  rw [if_neg h1, if_neg this, if_neg this];refine ⟨by simp, by simp, ?_⟩;rw [tV]; simp only; omega
theorem aaA {s : bq.aU aj} (ap : r ≤ 28) (e7 : gK (E.map Prod.snd) = true) (ak : E.length ≤ 300) (pE : s.I < s.J) (kt : s.J < E.length) (hd : s.dirty = false) (au : s.fnd = []) (aR : s.hot.length ≤ 1024) (hk : s.ph = 1) : ga E r rm 55 [] s lG (tQ (bp E r rm) s) := by
 obtain ⟨o, ⟨p1, p2⟩, ⟨cy, cz⟩, g1⟩ : ∃ o p q, E[s.I]? = some (o, p, q) := ⟨_, _, _, bJ (by omega)⟩;obtain ⟨eV, ⟨v1, v2⟩, ⟨w1, w2⟩, g2⟩ : ∃ o p q, E[s.J]? = some (o, p, q) := ⟨_, _, _, bJ kt⟩;have iv := FK g1;have lO := FK g2;have ax := oS e7 s.I;have hm := oS e7 s.J;rw [iv] at ax;rw [lO] at hm;have BF : (bp E r rm).n = E.length := lA ..
 have Mg : (bp E r rm).tR s.I s.J = l3 r (hl ((p1, p2), (cy, cz)) ((v1, v2), (w1, w2))) := by
  show zS r ((E.map Prod.snd).getD s.I kq) ((E.map Prod.snd).getD s.J kq) = _;rw [iv, lO]; rfl
 have aW := Ii (a1 := p1) (a2 := p2) (b1 := cy) (b2 := cz) (c1 := v1) (c2 := v2) (d1 := w1) (d2 := w2);rw [show qW p1 p2 cy cz v1 v2 w1 w2 = hl ((p1, p2), (cy, cz)) ((v1, v2), (w1, w2)) from HN (a := ((p1, p2), (cy, cz))) (b := ((v1, v2), (w1, w2))) (tE ax.1) (tE ax.2) (tE hm.1) (tE hm.2)] at aW;have H1 := Oz (E := E) (r := r) (rm := rm) (s := s) ap (Pl (a := ((p1, p2), (cy, cz))) (b := ((v1, v2), (w1, w2))) (tE ax.1) (tE ax.2) (tE hm.1) (tE hm.2)) (fun af => QY ap (a := ((p1, p2), (cy, cz))) (b := ((v1, v2), (w1, w2))) ax.1 ax.2 (by unfold zS; rw [if_pos af])) (by omega) au (by omega);unfold tQ;rw [Mg, BF];have pK := Yv (o := bp E r rm) (s := s) (q := l3 r (hl ((p1, p2), (cy, cz)) ((v1, v2), (w1, w2))));have wL := Yt (o := bp E r rm) (q := l3 r (hl ((p1, p2), (cy, cz)) ((v1, v2), (w1, w2)))) au;have u1 := Yu (o := bp E r rm) (s := s) (q := l3 r (hl ((p1, p2), (cy, cz)) ((v1, v2), (w1, w2))));generalize kw (bp E r rm) s (l3 r (hl ((p1, p2), (cy, cz)) ((v1, v2), (w1, w2)))) = s1 at *;generalize hl ((p1, p2), (cy, cz)) ((v1, v2), (w1, w2)) = M at *;have mR := uO (ii := (s.I : Int)) rfl g1;have sJ := uO (ii := (s.J : Int)) rfl g2;have i0 : (0 : Int) ≤ (s.I : Int) := by omega
 have i1 : (s.I : Int) < (E.length : Int) := by omega
 have aac : (0 : Int) ≤ (s.J : Int) := by omega
 have qR : (s.J : Int) < (E.length : Int) := by omega
 rintro cs R jF;obtain ⟨hv, fv, cv, b, S, lk, hS, cS, fV, rfl, rfl⟩ := id jF;clear Mg iv lO ax hm BF
 by_cases q1 : s1.ph = 5
 ·rw [if_pos q1];rw [q1] at H1;refine dt (f := 55) Tryz.func55 rfl (dl rfl) (by exact eo rfl) ?_;(repeat first | (with_reducible apply cQ (id := 0) [22,23,0,1,2,3,4,5,6,7,8,9,10,11,12,13,14,15,16,17,18,19,20,21,24,25]); kernel_rfl; kernel_rfl; rfl | refine cu ?_ | refine iJ ?_);refine ic rfl rfl rfl rfl rfl rfl rfl rfl H1 jF (fun ar ay b8 => ?_);(refine ba ?_);obtain ⟨bQ, c8, cZ, bS, dh, gY, fO, hg, iy, rfl, rfl⟩ := id b8
  ((refine eN rfl aL rfl (bz.refl _) b8.closed rfl e8 ?_))
  exact ⟨_, rfl, rfl, b8⟩
 ·rw [if_neg q1];rw [Bk q1] at H1;obtain ⟨m1, m2, m3, m4⟩ := u1 q1;have jI := PQ (n := E.length) (I := s1.I) (J := s1.J) (by omega);rw [← m2, ← m3];have ef := OA (E := E) (r := r) (rm := rm) (s := { s1 with I := (cb E.length s1.I s1.J).1, J := (cb E.length s1.I s1.J).2 }) ap e7 ak (by omega) (by show s1.dirty = false; rw [pK.1]; exact hd) wL;rw [show lx (bp E r rm) { s1 with I := (cb E.length s1.I s1.J).1, J := (cb E.length s1.I s1.J).2 } = lx (bp E r rm) s1 from rfl] at ef
  by_cases q2 : (cb E.length s1.I s1.J).2 < E.length
  ·rw [if_pos q2];have hh := jI.2.2;rw [bZ q2] at hh;rw [m2, m3];refine dt (f := 55) Tryz.func55 rfl (dl rfl) (by exact eo rfl) ?_;(repeat first | (with_reducible apply cQ (id := 0) [22,23,0,1,2,3,4,5,6,7,8,9,10,11,12,13,14,15,16,17,18,19,20,21,24,25]); kernel_rfl; kernel_rfl; rfl | refine cu ?_ | refine iJ ?_);refine ic rfl rfl rfl rfl rfl rfl rfl rfl H1 jF (fun ar ay b8 => ?_);obtain ⟨bQ, c8, cZ, bS, dh, gY, fO, hg, iy, rfl, rfl⟩ := id b8;have bH := zw (E := E) (k := r) (rm := rm) (ph := s1.ph) (I := s1.I) (J := s1.J) (T := s1.T) (dirty := s1.dirty) (hv := bQ) (fv := c8) (cv := cZ) (b := bS) hg E.length (by omega) (by omega);rw [hh, ← jI.1, ← jI.2.1] at bH;have fC : dy E r rm { s1 with I := (cb E.length s1.I s1.J).1, J := (cb E.length s1.I s1.J).2 } (ez E r rm s1.ph (cb E.length s1.I s1.J).1 (cb E.length s1.I s1.J).2 s1.T s1.dirty bQ c8 cZ bS gY) (dT bS dh bQ c8 cZ s1.hot s1.fnd s1.ch) := ⟨bQ, c8, cZ, bS, dh, gY, fO, hg, iy, rfl, rfl⟩;(refine ba ?_);refine kb 1000 rfl rfl rfl rfl bH rfl rfl b8.closed rfl rfl ?_;(refine ba ?_)
   ((refine eN rfl aL rfl (bz.refl _) fC.closed rfl e8 ?_))
   refine ⟨_, rfl, rfl, ?_⟩;rw [← m2, ← m3];exact fC
  ·rw [if_neg q2];have hh := jI.2.2;rw [cp q2] at hh;rw [m2, m3];refine dt (f := 55) Tryz.func55 rfl (dl rfl) (by exact eo rfl) ?_;(repeat first | (with_reducible apply cQ (id := 0) [22,23,0,1,2,3,4,5,6,7,8,9,10,11,12,13,14,15,16,17,18,19,20,21,24,25]); kernel_rfl; kernel_rfl; rfl | refine cu ?_ | refine iJ ?_);refine ic rfl rfl rfl rfl rfl rfl rfl rfl H1 jF (fun ar ay b8 => ?_);obtain ⟨bQ, c8, cZ, bS, dh, gY, fO, hg, iy, rfl, rfl⟩ := id b8;have bH := zw (E := E) (k := r) (rm := rm) (ph := s1.ph) (I := s1.I) (J := s1.J) (T := s1.T) (dirty := s1.dirty) (hv := bQ) (fv := c8) (cv := cZ) (b := bS) hg E.length (by omega) (by omega);rw [hh, ← jI.1, ← jI.2.1] at bH;have fC : dy E r rm { s1 with I := (cb E.length s1.I s1.J).1, J := (cb E.length s1.I s1.J).2 } (ez E r rm s1.ph (cb E.length s1.I s1.J).1 (cb E.length s1.I s1.J).2 s1.T s1.dirty bQ c8 cZ bS gY) (dT bS dh bQ c8 cZ s1.hot s1.fnd s1.ch) := ⟨bQ, c8, cZ, bS, dh, gY, fO, hg, iy, rfl, rfl⟩;(refine ba ?_);refine kb 1000 rfl rfl rfl rfl bH rfl rfl b8.closed rfl rfl ?_;(refine ba ?_);refine ic rfl rfl rfl rfl rfl rfl rfl rfl ef fC (fun ar ay lj => ?_);(refine ba ?_);obtain ⟨CC, BS, Bw, cY, x5, C3, B4, Cp, Co, rfl, rfl⟩ := id lj
   ((refine eN rfl aL rfl (bz.refl _) lj.closed rfl e8 ?_))
   exact ⟨_, rfl, rfl, lj⟩
end
section
variable {E : List (Int × bT)} {r rm : Nat}
theorem VZ {r : Nat} {l m : aj × aj} (h1 : dd r l.1.1 l.1.2 = true) (h2 : dd r l.2.1 l.2.2 = true) (ao : dd r m.1.1 m.1.2 = true) (aD : dd r m.2.1 m.2.2 = true) : AQ (oy r l m) := by
 unfold oy
 split
 ·exact .inl rfl
 ·exact Pl (qD h1) (qD h2) (qD ao) (qD aD)
theorem aaz {s : bq.aU aj} (ap : r ≤ 28) (al : km s.ch) (az : 0 < s.ch.length) (pE : s.I < s.J) (kt : s.J < (a6 s.ch).length) (aq : ∀ l ∈ a6 s.ch, dd r l.1.1 l.1.2 = true ∧ dd r l.2.1 l.2.2 = true) (au : s.fnd = []) (aR : s.hot.length ≤ 1024) (hk : s.ph = 3) : ga E r rm 57 [] s lG (sc (bp E r rm) s) := by
 have pI : (a6 s.ch).length ≤ 300 * 1100 := il (C6 (m := 1100) fun c h => (al.2 c h).2) (kg _ al.1);obtain ⟨a1, a2, a3, a4, g1⟩ : ∃ a b c d, (a6 s.ch)[s.I]? = some ((a, b), (c, d)) := ⟨_, _, _, _, bJ (by omega)⟩;obtain ⟨b1, b2, dm, cY, g2⟩ : ∃ a b c d, (a6 s.ch)[s.J]? = some ((a, b), (c, d)) := ⟨_, _, _, _, bJ kt⟩;obtain ⟨h3, z2⟩ := aq _ (cV g1);obtain ⟨z3, z4⟩ := aq _ (cV g2);have aW := adw ap (l := ((a1, a2), (a3, a4))) (m := ((b1, b2), (dm, cY))) h3 z2 z3 z4;have gw := VZ (l := ((a1, a2), (a3, a4))) (m := ((b1, b2), (dm, cY))) h3 z2 z3 z4;have hcut : (bp E r rm).cut ((a1, a2), (a3, a4)) ((b1, b2), (dm, cY)) = l3 r (oy r ((a1, a2), (a3, a4)) ((b1, b2), (dm, cY))) := LR r _ _;have H1 := Oz (E := E) (r := r) (rm := rm) (s := s) ap gw (fun af => LS (l := ((a1, a2), (a3, a4))) (m := ((b1, b2), (dm, cY))) h3 z2 (by rw [LR, if_pos af])) (by omega) au (by omega);have mR := OT (ii := (s.I : Int)) rfl g1;have sJ := OT (ii := (s.J : Int)) rfl g2
 have em : sc (bp E r rm) s = if (bq.dY (bp E r rm) s (l3 r (oy r ((a1, a2), (a3, a4)) ((b1, b2), (dm, cY))))).ph = 5 then bq.dY (bp E r rm) s (l3 r (oy r ((a1, a2), (a3, a4)) ((b1, b2), (dm, cY)))) else
   if (cb (a6 s.ch).length s.I s.J).2 < (a6 s.ch).length then { bq.dY (bp E r rm) s (l3 r (oy r ((a1, a2), (a3, a4)) ((b1, b2), (dm, cY)))) with I := (cb (a6 s.ch).length s.I s.J).1, J := (cb (a6 s.ch).length s.I s.J).2 } else nE (bq.dY (bp E r rm) s (l3 r (oy r ((a1, a2), (a3, a4)) ((b1, b2), (dm, cY))))) := by
  unfold sc;simp only [g1, g2, hcut]
 rw [em];clear em hcut gw h3 z2 z3 z4 g1 g2;simp only at aW H1;generalize oy r ((a1, a2), (a3, a4)) ((b1, b2), (dm, cY)) = M at *;have jI := PQ (n := (a6 s.ch).length) (I := s.I) (J := s.J) kt;have i0 : (0 : Int) ≤ (s.I : Int) := by omega
 have i1 : (s.I : Int) < ((a6 s.ch).length : Int) := by omega
 have aac : (0 : Int) ≤ (s.J : Int) := by omega
 have qR : (s.J : Int) < ((a6 s.ch).length : Int) := by omega
 rintro cs R jF;obtain ⟨hv, fv, cv, b, S, lk, hS, cS, fV, rfl, rfl⟩ := id jF;obtain rfl := fV hk
 by_cases af : M.k = 1
 ·have rK : l3 r M = some (iC r M) := if_pos af;rw [rK] at H1 ⊢;have pK := Cd (o := bp E r rm) (s := s) (q := iC r M);have wL := Ce (o := bp E r rm) (q := iC r M) au;have u1 := Cf (o := bp E r rm) (s := s) (q := iC r M);unfold bq.dY;simp only [kw] at H1 ⊢;generalize dR (bp E r rm) s (iC r M) = s1 at *
  by_cases q1 : s1.ph = 5
  ·rw [if_pos q1, if_pos q1];rw [q1] at H1;obtain ⟨mk, HT, md, dC, HO, HU, HV, HW, HX⟩ := M;obtain rfl : mk = 1 := af;refine dt (f := 57) Tryz.func57 rfl (dl rfl) (by exact eo rfl) ?_;(repeat first | (with_reducible apply cQ (id := 1) [20,21,0,1,2,3,4,5,6,7,8,9,10,11,12,13,14,15,16,17,18,19,22,23]); kernel_rfl; kernel_rfl; rfl | (with_reducible apply cQ (id := 2) [7,0,1,2,3,4,5,6,8]); kernel_rfl; kernel_rfl; rfl | refine cu ?_ | refine iJ ?_);refine ic rfl rfl rfl rfl rfl rfl rfl rfl H1 jF (fun ar ay b8 => ?_);(refine ba ?_);obtain ⟨bQ, c8, cZ, bS, dh, gY, fO, hg, iy, rfl, rfl⟩ := id b8
   ((refine eN rfl aL rfl (bz.refl _) b8.closed rfl e8 ?_))
   exact ⟨_, rfl, rfl, b8⟩
  ·rw [if_neg q1, if_neg q1];rw [Bk q1] at H1;obtain ⟨m1, m2, m3, m4⟩ := u1 q1;have s4 : s1.ch = s.ch := pK.2.1;have ef := OB (E := E) (r := r) (rm := rm) (s := { s1 with dirty := true, I := (cb (a6 s.ch).length s.I s.J).1, J := (cb (a6 s.ch).length s.I s.J).2 }) wL (by show km s1.ch; rw [s4]; exact al) (by show 0 < s1.ch.length; rw [s4]; exact az);rw [show nE ({ s1 with dirty := true, I := (cb (a6 s.ch).length s.I s.J).1, J := (cb (a6 s.ch).length s.I s.J).2 } : bq.aU aj) = nE ({ s1 with dirty := true } : bq.aU aj) from rfl] at ef;have nZ : (s1.I : Int) = s.I := by omega
   have Cr : (s1.J : Int) = s.J := by omega
   obtain ⟨mk, HT, md, dC, HO, HU, HV, HW, HX⟩ := M;obtain rfl : mk = 1 := af
   by_cases q2 : (cb (a6 s.ch).length s.I s.J).2 < (a6 s.ch).length
   ·rw [if_pos q2];have hh := jI.2.2;rw [bZ q2] at hh;refine dt (f := 57) Tryz.func57 rfl (dl rfl) (by exact eo rfl) ?_;(repeat first | (with_reducible apply cQ (id := 1) [20,21,0,1,2,3,4,5,6,7,8,9,10,11,12,13,14,15,16,17,18,19,22,23]); kernel_rfl; kernel_rfl; rfl | (with_reducible apply cQ (id := 2) [7,0,1,2,3,4,5,6,8]); kernel_rfl; kernel_rfl; rfl | refine cu ?_ | refine iJ ?_);refine ic rfl rfl rfl rfl rfl rfl rfl rfl H1 jF (fun ar ay b8 => ?_);obtain ⟨bQ, c8, cZ, bS, dh, gY, fO, hg, iy, rfl, rfl⟩ := id b8;obtain rfl := iy (by omega);have bH := zw (E := E) (k := r) (rm := rm) (ph := s1.ph) (I := s1.I) (J := s1.J) (T := s1.T) (dirty := true) (hv := bQ) (fv := c8) (cv := cZ) (b := bS) hg (a6 s1.ch).length (by omega) (by omega);rw [s4, nZ, Cr, hh, ← jI.1, ← jI.2.1] at bH;have fC : dy E r rm { s1 with dirty := true, I := (cb (a6 s.ch).length s.I s.J).1, J := (cb (a6 s.ch).length s.I s.J).2 } (ez E r rm s1.ph (cb (a6 s.ch).length s.I s.J).1 (cb (a6 s.ch).length s.I s.J).2 s1.T true bQ c8 cZ bS (.p (bX 4 (a6 s1.ch).length (mA (a6 s1.ch))))) (dT bS dh bQ c8 cZ s1.hot s1.fnd s1.ch) := ⟨bQ, c8, cZ, bS, dh, _, fO, rfl, fun _ => rfl, rfl, rfl⟩;rw [s4] at fC;rw [nZ, Cr, s4];(refine ba ?_);refine kb 1000 rfl rfl rfl rfl bH rfl rfl rfl rfl rfl ?_;(refine ba ?_)
    ((refine eN rfl aL rfl (bz.refl _) fC.closed rfl e8 ?_))
    exact ⟨_, rfl, rfl, fC⟩
   ·rw [if_neg q2];have hh := jI.2.2;rw [cp q2] at hh;refine dt (f := 57) Tryz.func57 rfl (dl rfl) (by exact eo rfl) ?_;(repeat first | (with_reducible apply cQ (id := 1) [20,21,0,1,2,3,4,5,6,7,8,9,10,11,12,13,14,15,16,17,18,19,22,23]); kernel_rfl; kernel_rfl; rfl | (with_reducible apply cQ (id := 2) [7,0,1,2,3,4,5,6,8]); kernel_rfl; kernel_rfl; rfl | refine cu ?_ | refine iJ ?_);refine ic rfl rfl rfl rfl rfl rfl rfl rfl H1 jF (fun ar ay b8 => ?_);obtain ⟨bQ, c8, cZ, bS, dh, gY, fO, hg, iy, rfl, rfl⟩ := id b8;obtain rfl := iy (by omega);have bH := zw (E := E) (k := r) (rm := rm) (ph := s1.ph) (I := s1.I) (J := s1.J) (T := s1.T) (dirty := true) (hv := bQ) (fv := c8) (cv := cZ) (b := bS) hg (a6 s1.ch).length (by omega) (by omega);rw [s4, nZ, Cr, hh, ← jI.1, ← jI.2.1] at bH;have fC : dy E r rm { s1 with dirty := true, I := (cb (a6 s.ch).length s.I s.J).1, J := (cb (a6 s.ch).length s.I s.J).2 } (ez E r rm s1.ph (cb (a6 s.ch).length s.I s.J).1 (cb (a6 s.ch).length s.I s.J).2 s1.T true bQ c8 cZ bS (.p (bX 4 (a6 s1.ch).length (mA (a6 s1.ch))))) (dT bS dh bQ c8 cZ s1.hot s1.fnd s1.ch) := ⟨bQ, c8, cZ, bS, dh, _, fO, rfl, fun _ => rfl, rfl, rfl⟩;rw [s4] at fC ef;rw [nZ, Cr, s4];(refine ba ?_);refine kb 1000 rfl rfl rfl rfl bH rfl rfl rfl rfl rfl ?_;(refine ba ?_);refine ic rfl rfl rfl rfl rfl rfl rfl rfl ef fC (fun ar ay lj => ?_);(refine ba ?_);obtain ⟨CC, BS, Bw, cY, x5, C3, B4, Cp, Co, rfl, rfl⟩ := id lj
    ((refine eN rfl aL rfl (bz.refl _) lj.closed rfl e8 ?_))
    exact ⟨_, rfl, rfl, lj⟩
 ·have rK : l3 r M = none := if_neg af;rw [rK];have WM : bq.dY (bp E r rm) s none = s := rfl;rw [WM, if_neg (by omega)];clear H1;have ef := OB (E := E) (r := r) (rm := rm) (s := { s with I := (cb (a6 s.ch).length s.I s.J).1, J := (cb (a6 s.ch).length s.I s.J).2 }) au al az;rw [show nE ({ s with I := (cb (a6 s.ch).length s.I s.J).1, J := (cb (a6 s.ch).length s.I s.J).2 } : bq.aU aj) = nE s from rfl] at ef;have bH := zw (E := E) (k := r) (rm := rm) (ph := s.ph) (I := s.I) (J := s.J) (T := s.T) (dirty := s.dirty) (hv := hv) (fv := fv) (cv := cv) (b := b) cS (a6 s.ch).length (by omega) (by omega);have fC : dy E r rm { s with I := (cb (a6 s.ch).length s.I s.J).1, J := (cb (a6 s.ch).length s.I s.J).2 } (ez E r rm s.ph (cb (a6 s.ch).length s.I s.J).1 (cb (a6 s.ch).length s.I s.J).2 s.T s.dirty hv fv cv b (.p (bX 4 (a6 s.ch).length (mA (a6 s.ch))))) (dT b S hv fv cv s.hot s.fnd s.ch) := ⟨hv, fv, cv, b, S, _, hS, rfl, fun _ => rfl, rfl, rfl⟩;obtain ⟨mk, HT, md, dC, HO, HU, HV, HW, HX⟩ := M;have af : ¬ mk = 1 := af
  by_cases q2 : (cb (a6 s.ch).length s.I s.J).2 < (a6 s.ch).length
  ·rw [if_pos q2];have hh := jI.2.2;rw [bZ q2] at hh;rw [hh, ← jI.1, ← jI.2.1] at bH;refine dt (f := 57) Tryz.func57 rfl (dl rfl) (by exact eo rfl) ?_;(repeat first | (with_reducible apply cQ (id := 1) [20,21,0,1,2,3,4,5,6,7,8,9,10,11,12,13,14,15,16,17,18,19,22,23]); kernel_rfl; kernel_rfl; rfl | (with_reducible apply cQ (id := 2) [7,0,1,2,3,4,5,6,8]); kernel_rfl; kernel_rfl; rfl | refine cu ?_ | refine iJ ?_);refine kb 1000 rfl rfl rfl rfl bH rfl rfl rfl rfl rfl ?_;(refine ba ?_)
   ((refine eN rfl aL rfl (bz.refl _) fC.closed rfl e8 ?_))
   exact ⟨_, rfl, rfl, fC⟩
  ·rw [if_neg q2];have hh := jI.2.2;rw [cp q2] at hh;rw [hh, ← jI.1, ← jI.2.1] at bH;refine dt (f := 57) Tryz.func57 rfl (dl rfl) (by exact eo rfl) ?_;(repeat first | (with_reducible apply cQ (id := 1) [20,21,0,1,2,3,4,5,6,7,8,9,10,11,12,13,14,15,16,17,18,19,22,23]); kernel_rfl; kernel_rfl; rfl | (with_reducible apply cQ (id := 2) [7,0,1,2,3,4,5,6,8]); kernel_rfl; kernel_rfl; rfl | refine cu ?_ | refine iJ ?_);refine kb 1000 rfl rfl rfl rfl bH rfl rfl rfl rfl rfl ?_;(refine ba ?_);refine ic rfl rfl rfl rfl rfl rfl rfl rfl ef fC (fun ar ay lj => ?_);(refine ba ?_);obtain ⟨CC, BS, Bw, cY, x5, C3, B4, Cp, Co, rfl, rfl⟩ := id lj
   ((refine eN rfl aL rfl (bz.refl _) lj.closed rfl e8 ?_))
   exact ⟨_, rfl, rfl, lj⟩
end
end Go.Proofs.YtbcecodakfejaaaGreat
