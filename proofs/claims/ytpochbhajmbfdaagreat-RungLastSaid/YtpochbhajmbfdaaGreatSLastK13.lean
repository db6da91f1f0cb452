/-
  My own texts, without what this claim does not need. My own text.
-/
import Derived.Test.YtpochbhajmbfdaaGreatSLastK12
set_option maxRecDepth 100000
set_option maxHeartbeats 64000000
set_option linter.unusedVariables false
set_option linter.unusedSimpArgs false
set_option linter.unusedSectionVars false
open Go.Proofs.Tryz renaming prog → aj
namespace Go.Proofs.YtpochbhajmbfdaaGreat
open Go.RowKit
open bx
instance ahB : nU aj 28 91 5 40 := ⟨by kernel_rfl⟩
abbrev I3 : ai := aQ (.func (.func 100) #[] #[])
theorem Pj {x y : Int} : aX aj 101 [bh x y] (bF (gQ (x, y))) := by
 have cs : ((if y < x then y else x) ≥ -134217728 ∧ gQ (x, y) = decide ((if y > x then y else x) < 134217728)) ∨ (¬ (if y < x then y else x) ≥ -134217728 ∧ gQ (x, y) = false) := by
  by_cases h : (if y < x then y else x) ≥ -134217728
  ·refine .inl ⟨h, ?_⟩;rw [oK, nz, decide_eq_true_iff];show ((_ ≤ x ∧ x < _) ∧ _ ≤ y ∧ y < _) ↔ _
   split at h <;> split <;> omega
  ·refine .inr ⟨h, ?_⟩;cases aF : gQ (x, y) with
   | false => rfl
   | true =>
    obtain ⟨⟨a1, a2⟩, a3, a4⟩ : ((_ ≤ x ∧ x < _) ∧ _ ≤ y ∧ y < _) := nz.1 aF
    split at h <;> omega
 rcases cs with ⟨h, e⟩ | ⟨h, e⟩
 all_goals
  rw [e];refine cl (f := 101) Tryz.func101 rfl rfl rfl rfl ?_;(repeat first | (with_reducible apply aA); exact rfl | (with_reducible apply x6); (iterate 4 exact rfl) | (with_reducible apply uz); (iterate 4 exact rfl) | (with_reducible apply c8 (c := true)); exact rfl; exact rfl; (exact bB (by omega)) | (with_reducible apply c8 (c := false)); exact rfl; exact rfl; (exact bR (by omega)) | (with_reducible first | apply bX | apply bN | apply bV | apply aB | apply cd))
  ((refine bU rfl (bE rfl bf) ?_))
  exact ai.bo.refl _
abbrev wg (x : Int × b6) : Bool := !(gQ x.2.1 && gQ x.2.2)
theorem acm {o a b c d : Int} : aX aj 100 [.w (.agg [.c (.int .i64 a), .c (.int .i64 b), .c (.int .i64 c), .c (.int .i64 d), .c (.int .i64 o)])] (bF (wg (o, (a, b), (c, d)))) := by
 have aP := Pj (x := a) (y := b);have cc := Pj (x := c) (y := d);unfold wg;simp only;cases h1 : gQ (a, b) with
 | true =>
  rw [h1] at aP;rw [qO];refine cl (f := 100) Tryz.func100 rfl rfl rfl rfl ?_;(repeat first | (with_reducible apply aA); exact rfl | refine fN rfl rfl rfl (by (first | exact aP | exact cc)) rfl ?_ | (with_reducible first | apply bX | apply bN | apply bV | apply aB | apply cd))
  ((refine bU rfl (bE rfl bf) ?_))
  exact ai.bo.refl _
 | false =>
  rw [h1] at aP;rw [Bool.false_and];refine cl (f := 100) Tryz.func100 rfl rfl rfl rfl ?_;(repeat first | (with_reducible apply aA); exact rfl | refine fN rfl rfl rfl (by (exact aP)) rfl ?_ | (with_reducible first | apply bX | apply bN | apply bV | apply aB | apply cd))
  ((refine bU rfl (bE rfl bf) ?_))
  exact ai.bo.refl _
def tj : List (Int × b6) → Int → Int
 | [], _ => -1
 | p :: l, i => if wg p = true then i else tj l (i + 1)
theorem LF (p : Int × b6) (l : List (Int × b6)) (i : Int) : tj (p :: l) i = if wg p = true then i else tj l (i + 1) := rfl
theorem LD : ∀ (l : List (Int × b6)) (i : Int), 0 ≤ i → (decide (tj l i ≥ 0)) = !ja (l.map Prod.snd)
 | [], i, h => rfl
 | p :: l, i, h => by
  have cp := LD l (i + 1) (by omega);have e : ja ((p :: l).map Prod.snd) = ((gQ p.2.1 && gQ p.2.2) && ja (l.map Prod.snd)) := rfl;rw [e, LF];unfold wg;cases hp : (gQ p.2.1 && gQ p.2.2) with
  | false => rw [if_pos (show (!false) = true from rfl), Bool.false_and]; exact bB h
  | true => rw [if_neg (by decide), qO]; exact cp
def RJ (E : List (Int × b6)) (k : Nat) (aS : List (Nat × ai)) (bD : List (Nat × List AC)) : Prop :=
 ∃ (i : Nat) (ii : Int), i ≤ E.length ∧ k = E.length - i ∧ ii = i ∧ tj E 0 = tj (E.drop i) ii ∧ bD = [] ∧ aS = [(0, j9 E), (1, I3), (7, aW E.length), (8, aW ii)]
theorem acG {E : List (Int × b6)} (aq : E.length ≤ 4611686018427387904) : aX aj 163 [j9 E, I3] (aW (tj E 0)) := by
 refine cl (f := 163) Tryz.func163 rfl rfl rfl rfl ?_;(repeat first | (with_reducible apply aA); exact rfl | (with_reducible apply dC); (iterate 3 exact rfl) | (with_reducible first | apply bX | apply bN | apply bV | apply aB | apply iS));refine yc 19 (RJ E) E.length _ [] ⟨0, 0, eC _, rfl, rfl, rfl, rfl, rfl⟩ rfl ⟨rfl, rfl, rfl, rfl, trivial⟩ trivial rfl ?_;rintro n aS bD ⟨j, fb, ae, rfl, iX, qt, rfl, rfl⟩ dU;clear dU
 by_cases hp : j < E.length
 ·have p2 : fb < (E.length : Int) := by omega
  have p3 : 0 ≤ fb := by omega
  obtain ⟨o, a, b, c, d, g1⟩ : ∃ o a b c d, E[j]? = some (o, (a, b), (c, d)) := ⟨_, _, _, _, _, cm hp⟩;have kc := wx iX g1;have hd : E.drop j = (o, (a, b), (c, d)) :: E.drop (j + 1) := by rw [nE hp, (bS.1 g1).2]
  have kD := acm (o := o) (a := a) (b := b) (c := c) (d := d);rw [hd, LF] at qt;cases au : wg (o, (a, b), (c, d)) with
  | true =>
   rw [au] at qt kD;rw [if_pos rfl] at qt;rw [qt];(repeat first | (with_reducible apply aA); exact rfl | (with_reducible apply fZ); (iterate 5 exact rfl) | (with_reducible apply e7); (iterate 3 exact rfl); (omega); (omega); (assumption); exact rfl | refine fN rfl rfl rfl (by (exact kD)) rfl ?_ | (with_reducible first | apply bX | apply bN | apply bV | apply aB | apply cd | apply fr | apply gy | apply iS | apply rs) | (with_reducible apply kE); exact rfl | (with_reducible apply hI); exact rfl; (exact bB (by omega)))
   ((refine bU rfl (bE rfl bf) ?_))
   exact ai.bo.refl _
  | false =>
   rw [au] at qt kD;rw [if_neg (by simp)] at qt;(repeat first | (with_reducible apply aA); exact rfl | (with_reducible apply fZ); (iterate 5 exact rfl) | (with_reducible apply e7); (iterate 3 exact rfl); (omega); (omega); (assumption); exact rfl | (with_reducible apply fh); (iterate 3 exact rfl); (exact da (by omega)); exact rfl | refine fN rfl rfl rfl (by (exact kD)) rfl ?_ | (with_reducible first | apply bX | apply bN | apply bV | apply aB | apply fr | apply iS | apply mX) | (with_reducible apply jm); exact rfl | (with_reducible apply hI); exact rfl; (exact bB (by omega)));exact ⟨E.length - (j + 1), _, [], by omega, ⟨j + 1, fb + 1, hp, rfl, by omega, qt, rfl, rfl⟩, rfl, ⟨rfl, rfl, rfl, rfl, trivial⟩, trivial, rfl⟩
 ·have e : j = E.length := by omega
  subst e;rw [List.drop_length] at qt;rw [show tj [] fb = -1 from rfl] at qt;rw [qt];(repeat first | (with_reducible apply aA); exact rfl | (with_reducible first | apply bX | apply bN | apply bV | apply aB | apply cd | apply vW | apply wb | apply wa) | (with_reducible apply hZ); exact rfl; (exact bR (by omega)))
  ((refine bU rfl (bE rfl bf) ?_))
  exact ai.bo.refl _
theorem acu {E : List (Int × b6)} (aq : E.length ≤ 4611686018427387904) : aX aj 99 [j9 E, I3] (bF (!ja (E.map Prod.snd))) := by
 have kD := acG aq;rw [← LD E 0 (by decide)];refine cl (f := 99) Tryz.func99 rfl rfl rfl rfl ?_;(repeat first | (with_reducible apply aA); exact rfl | refine dM rfl rfl rfl rfl (by (exact kD)) rfl ?_ | (with_reducible first | apply bX | apply bN | apply bV | apply aB | apply cd))
 ((refine bU rfl (bE rfl bf) ?_))
 exact ai.bo.refl _
theorem ack {E : List (Int × b6)} (aq : E.length ≤ 4611686018427387904) : aX aj 53 [j9 E] (bF (ja (E.map Prod.snd))) := by
 have kD := acu aq;have e : ja (E.map Prod.snd) = !(!ja (E.map Prod.snd)) := (Bool.not_not _).symm;rw [e];generalize (!ja (E.map Prod.snd)) = q at *;refine cl (f := 53) Tryz.func53 rfl rfl rfl rfl ?_;(repeat first | (with_reducible apply aA); exact rfl | refine dM rfl rfl rfl rfl (by (exact kD)) rfl ?_ | (with_reducible first | apply bX | apply bN | apply bV | apply aB | apply cd))
 ((refine bU rfl (bE rfl bf) ?_))
 exact ai.bo.refl _
theorem acs {E : List (Int × b6)} (aq : E.length ≤ 900000) : aX aj 55 [j9 E] (j9 E) := by
 refine cl (f := 55) Tryz.func55 rfl rfl rfl rfl ?_;(repeat first | (with_reducible apply aA); exact rfl | (with_reducible apply Fg); (iterate 3 exact rfl) | (with_reducible first | apply bX | apply bN | apply bV | apply aB));refine TG 4 rfl ?_;intro b ab;cases b with
 | true =>
  have aG := mq (ab rfl);subst aG;clear ab;(repeat first | (with_reducible apply aA); exact rfl | (with_reducible first | apply bX | apply bN | apply bV | apply aB | apply cd | apply gy) | (with_reducible apply kE); exact rfl)
  ((refine bU rfl (bE rfl bf) ?_))
  exact Oz 5
 | false =>
  clear ab;have z0 : 0 + E.length = E.length := jF _;(repeat first | (with_reducible apply aA); exact rfl | (with_reducible apply To); exact rfl; exact rfl | (with_reducible apply SW); (iterate 3 exact rfl); (exact kR (by omega)); (omega); (assumption); (rfl); exact rfl | (with_reducible first | apply bX | apply bN | apply bV | apply aB | apply cd | apply fr) | (with_reducible apply jm); exact rfl)
  ((refine bU rfl (bE rfl bf) ?_))
  exact ai.bo.refl _
section
variable {P : Program} {f : FuncId} {args : List ai} {cs : List AC} {R0 : aJ} {Q : ai → List AC → aJ → Prop}
theorem dn.at (k : Nat) (h : dn P f (qZ :: args) (cM 1000 cs) R0 (nS 1000 Q)) (ek : args.all ai.bc = true) (ak : cs.all AC.bc = true) (al : ∀ b7 ds az, Q b7 ds az → b7.bc = true ∧ ds.all AC.bc = true) : dn P f (.w (.one (.own k 0)) :: args) (cM k cs) R0 (nS k Q) := by
 have h1 := h.bd (mQ 1000 k) (cq := fun j => j) (ir := fun j => j) (fun _ => rfl) (fun _ => rfl)
 have aI : (ai.w (.one (.own 1000 0)) :: args).map (ai.bd (swp 1000 k)) = .w (.one (.own k 0)) :: args := by
  have aN : args.map (ai.bd (swp 1000 k)) = args := by
   conv => rhs; rw [← List.map_id args]
   exact pG fun x aa => vr (cu.1 ek x aa)
  rw [kv, aN];show ai.w (.one (.own (swp 1000 k 1000) 0)) :: args = _;rw [show swp 1000 k 1000 = k by unfold swp; simp]
 rw [aI, xa ak] at h1;refine ⟨fun U ad W vs cK ee dH => (h1.call U ad W vs cK ee dH).mono ?_⟩;rintro dp W' ⟨v, r, aH, az, bg, cA, cY, ⟨cP, m1, bn, ⟨ds, rfl, mc⟩, rfl, rfl, rfl⟩, lT⟩;obtain ⟨c1, c2⟩ := al _ _ _ mc;rw [xa c2, vr c1] at lT;exact ⟨v, cP, cM k ds, bn, bg, cA, cY, ⟨ds, rfl, mc⟩, lT⟩
end
def qT (k : Int) : Nat := (if k < 0 then 0 else if 28 < k then 28 else k).toNat
def fe (n : Int) : Nat := (sC n).toNat
theorem P5 (n : Int) : ((fe n : Nat) : Int) = sC n := by unfold fe sC; (repeat split) <;> omega
theorem D3 (n : Int) : 1 ≤ fe n ∧ fe n ≤ 1024 := by unfold fe sC; (repeat split) <;> omega
theorem adE (k : Int) : ((qT k : Nat) : Int) = if 28 < (if 0 > k then 0 else k) then 28 else (if 0 > k then 0 else k) := by unfold qT; (repeat split) <;> omega
abbrev jB : Value := .slice none 0 0
theorem Oy {b : Nat} {S : eZ} {q : bL} : dG b S jB jB jB [] [] [] = bM (bM (bM (bM (bM fk 1 ⟨59, 2, jB, 0, []⟩) 2 ⟨59, 2, jB, 0, []⟩) 3 ⟨53, 2, jB, 0, []⟩) 0 q) 0 (hQ (dP b) S) := by
 funext i
 match i with
 | 0 => rfl
 | 1 => rfl
 | 2 => rfl
 | 3 => rfl
 | i + 4 => rfl
theorem Zp {E : List (Int × b6)} {k n : Int} (an : E.length ≤ 300) (h : ja (E.map Prod.snd) = true) : dn aj 17 [j9 E, aW k, aW n] ca fk fun b7 aH az => ∃ cs, b7 = .w (.one (.own 24 0)) ∧ aH = cM 24 cs ∧ dv E (qT k) (fe n) (hc (bz E (qT k) (fe n))) cs az := by
 have aP := ack (E := E) (by omega);rw [h] at aP;have cc := Zo n;have e5 := acs (E := E) (by omega);have gU := adE k
 by_cases aG : E = []
 ·subst aG;refine dk (f := 17) Tryz.func17 rfl (dh rfl) (by exact n2) ?_;refine nK 1 59 2 rfl ?_;refine nK 2 59 2 rfl ?_;refine nK 3 53 2 rfl ?_;(repeat first | (with_reducible first | apply ba | apply aR | apply a7 | apply aU | apply cS) | (with_reducible apply c6); exact rfl; (exact rfl) | (with_reducible apply aM); exact rfl; (repeat first | (with_reducible apply aA); exact rfl | refine fN rfl rfl rfl (by (exact aP)) rfl ?_); (with_reducible apply aB));refine MP 0 rfl rfl rfl rfl cc rfl rfl (fun p S ju => ?_);obtain ⟨b, rfl, hS⟩ := ju;rw [← P5 n] at hS;have mS := Nt _ _ _ _ hS (by decide);(repeat first | (with_reducible first | apply ba | apply aR | apply a7 | apply aU) | (with_reducible apply aM); exact rfl; (repeat first | (with_reducible apply aA); exact rfl | (with_reducible apply x6); (iterate 4 exact rfl) | (with_reducible apply uz); (iterate 4 exact rfl) | refine fN rfl rfl rfl (by (exact e5)) rfl ?_); (with_reducible apply aB));refine ze 0 rfl rfl rfl rfl mS rfl rfl rfl (fun v dd h => ?_);obtain ⟨rfl, fj⟩ := h;(repeat first | (with_reducible first | apply ba | apply aR | apply a7 | apply aU) | (with_reducible apply dz); exact rfl; (assumption) | (with_reducible apply aM); exact rfl; (repeat first | (with_reducible apply aA); exact rfl | (with_reducible apply dC); (iterate 3 exact rfl)); (with_reducible apply aB));have xK := dn.at 24 (HB (E := []) (k := (qT k : Int)) (rm := (fe n : Int)) (ph := 0) (I := 0) (J := 0) (T := 0) (dirty := false) (hv := jB) (fv := jB) (cv := jB) (b := b) (lk := .c jB) rfl 4) rfl rfl (fun b7 ds az h => by obtain ⟨rfl, rfl, _⟩ := h; exact ⟨rfl, rfl⟩);rw [← gU];refine jV 24 rfl rfl rfl rfl xK rfl rfl rfl rfl rfl ?_;(repeat first | (with_reducible first | apply ba | apply aR | apply a7 | apply aU | apply db) | (with_reducible apply aM); exact rfl; (repeat first | (with_reducible apply aA); exact rfl); (with_reducible apply aB))
  ((refine GH 24 rfl (bE rfl bf) rfl (bH.of_eq Oy) rfl rfl ?_))
  exact ⟨_, rfl, rfl, jB, jB, jB, b, dd, .c jB, fj, rfl, fun h => (by cases h), rfl, rfl⟩
 ·have h4 : ¬ (E.length : Int) = 0 := fun aY => aG (mq (by omega));refine dk (f := 17) Tryz.func17 rfl (dh rfl) (by exact n2) ?_;refine nK 1 59 2 rfl ?_;refine nK 2 59 2 rfl ?_;refine nK 3 53 2 rfl ?_;(repeat first | (with_reducible first | apply ba | apply aR | apply a7 | apply aU | apply cS) | (with_reducible apply c6); exact rfl; (exact rfl) | (with_reducible apply aM); exact rfl; (repeat first | (with_reducible apply aA); exact rfl | refine fN rfl rfl rfl (by (exact aP)) rfl ?_); (with_reducible apply aB));refine MP 0 rfl rfl rfl rfl cc rfl rfl (fun p S ju => ?_);obtain ⟨b, rfl, hS⟩ := ju;rw [← P5 n] at hS;have mS := Nt _ _ _ _ hS (by decide);(repeat first | (with_reducible first | apply ba | apply aR | apply a7 | apply aU) | (with_reducible apply aM); exact rfl; (repeat first | (with_reducible apply aA); exact rfl | (with_reducible apply x6); (iterate 4 exact rfl) | (with_reducible apply uz); (iterate 4 exact rfl) | refine fN rfl rfl rfl (by (exact e5)) rfl ?_); (with_reducible apply aB));refine ze 0 rfl rfl rfl rfl mS rfl rfl rfl (fun v dd h => ?_);obtain ⟨rfl, fj⟩ := h;(repeat first | (with_reducible first | apply ba | apply aR | apply a7 | apply aU | apply db | apply cS) | (with_reducible apply c6); exact rfl; (exact bR (by omega)) | (with_reducible apply aM); exact rfl; (repeat first | (with_reducible apply aA); exact rfl | (with_reducible apply dC); (iterate 3 exact rfl)); (with_reducible apply aB));rw [← gU]
  ((refine GH 24 rfl (bE rfl bf) rfl (bH.of_eq Oy) rfl rfl ?_))
  refine ⟨_, rfl, rfl, jB, jB, jB, b, dd, .c jB, fj, rfl, ?_, ?_, rfl⟩
  ·unfold hc;rw [if_neg (by rw [iw.n]; omega)];intro h; cases h
  ·unfold hc;rw [if_neg (by rw [iw.n]; omega)]; rfl
def uH (a b c d e f a' bK c' d' bu kJ : Int) : Bool := decide (a = a') && (decide (b = bK) && (decide (c = c') && (decide (d = d') && (decide (e = bu) && decide (f = kJ)))))
theorem Vu (n : Nat) (a b c d e f a' bK c' d' bu kJ : Int) (W : World) : (Op.equalIn (n + 1 + 1) 126 (.agg #[.int .i64 a, .int .i64 b, .int .i64 c, .int .i64 d, .int .i64 e, .int .i64 f]) (.agg #[.int .i64 a', .int .i64 bK, .int .i64 c', .int .i64 d', .int .i64 bu, .int .i64 kJ])).run aj W = .ok (uH a b c d e f a' bK c' d' bu kJ) W := by
 have hu : aj.underlying 126 = some (.array 6 3) := by kernel_rfl
 have hi : aj.underlying 3 = some (.int .i64) := by kernel_rfl
 obtain ⟨m, hm⟩ : ∃ m, m = n + 1 := ⟨_, rfl⟩;rw [← hm, Op.equalIn];simp only [Sem.run_bind, run_underlying hu, Result.andThen_ok];rw [hm];have a6 : (sizeOf 3).run aj W = .ok 1 W := by go_simp
 have hp : ∀ (xs : Array Value) (off : Nat) (v : Value), xs[off]? = some v → (part 3 xs off).run aj W = .ok v W := fun xs off v h => by
  have aK : (isAgg 3).run aj W = .ok false W := by
   unfold isAgg;simp only [Sem.run_bind, run_underlying hi, Result.andThen_ok, Sem.run_pure]
  unfold part;simp only [Sem.run_bind, aK, Result.andThen_ok, nG, if_false, h, Sem.run_pure]
 simp only [a6, Result.andThen_ok];rw [Std.Legacy.Range.forIn_eq_forIn_range'];unfold uH;have jD := hp #[.int .i64 a, .int .i64 b, .int .i64 c, .int .i64 d, .int .i64 e, .int .i64 f] (0 * 1) (.int .i64 a) rfl;have cY := hp #[.int .i64 a', .int .i64 bK, .int .i64 c', .int .i64 d', .int .i64 bu, .int .i64 kJ] (0 * 1) (.int .i64 a') rfl;have p1 := hp #[.int .i64 a, .int .i64 b, .int .i64 c, .int .i64 d, .int .i64 e, .int .i64 f] (1 * 1) (.int .i64 b) rfl;have q1 := hp #[.int .i64 a', .int .i64 bK, .int .i64 c', .int .i64 d', .int .i64 bu, .int .i64 kJ] (1 * 1) (.int .i64 bK) rfl;have p2 := hp #[.int .i64 a, .int .i64 b, .int .i64 c, .int .i64 d, .int .i64 e, .int .i64 f] (2 * 1) (.int .i64 c) rfl;have q2 := hp #[.int .i64 a', .int .i64 bK, .int .i64 c', .int .i64 d', .int .i64 bu, .int .i64 kJ] (2 * 1) (.int .i64 c') rfl;have p3 := hp #[.int .i64 a, .int .i64 b, .int .i64 c, .int .i64 d, .int .i64 e, .int .i64 f] (3 * 1) (.int .i64 d) rfl;have b5 := hp #[.int .i64 a', .int .i64 bK, .int .i64 c', .int .i64 d', .int .i64 bu, .int .i64 kJ] (3 * 1) (.int .i64 d') rfl;have p4 := hp #[.int .i64 a, .int .i64 b, .int .i64 c, .int .i64 d, .int .i64 e, .int .i64 f] (4 * 1) (.int .i64 e) rfl;have ew := hp #[.int .i64 a', .int .i64 bK, .int .i64 c', .int .i64 d', .int .i64 bu, .int .i64 kJ] (4 * 1) (.int .i64 bu) rfl;have qI := hp #[.int .i64 a, .int .i64 b, .int .i64 c, .int .i64 d, .int .i64 e, .int .i64 f] (5 * 1) (.int .i64 f) rfl;have lj := hp #[.int .i64 a', .int .i64 bK, .int .i64 c', .int .i64 d', .int .i64 bu, .int .i64 kJ] (5 * 1) (.int .i64 kJ) rfl;rw [show List.range' [:6].start [:6].size [:6].step = [0, 1, 2, 3, 4, 5] from rfl];simp only [List.forIn_cons, List.forIn_nil, Sem.run_bind, jD, cY, p1, q1, p2, q2, p3, b5, p4, ew, qI, lj, Result.andThen_ok, run_equalIn_int W n _ .i64 .i64 _ _ hi]
 by_cases aK : a = a'
 case neg => simp [aK]
 subst aK;simp only [beq_self_eq_true, Bool.not_true, nG, if_false, Sem.run_pure, Sem.run_bind, jD, cY, p1, q1, p2, q2, p3, b5, p4, ew, qI, lj, Result.andThen_ok, run_equalIn_int W n _ .i64 .i64 _ _ hi]
 by_cases ab : b = bK
 case neg => simp [ab]
 subst ab;simp only [beq_self_eq_true, Bool.not_true, nG, if_false, Sem.run_pure, Sem.run_bind, jD, cY, p1, q1, p2, q2, p3, b5, p4, ew, qI, lj, Result.andThen_ok, run_equalIn_int W n _ .i64 .i64 _ _ hi]
 by_cases ak : c = c'
 case neg => simp [ak]
 subst ak;simp only [beq_self_eq_true, Bool.not_true, nG, if_false, Sem.run_pure, Sem.run_bind, jD, cY, p1, q1, p2, q2, p3, b5, p4, ew, qI, lj, Result.andThen_ok, run_equalIn_int W n _ .i64 .i64 _ _ hi]
 by_cases hd : d = d'
 case neg => simp [hd]
 subst hd;simp only [beq_self_eq_true, Bool.not_true, nG, if_false, Sem.run_pure, Sem.run_bind, jD, cY, p1, q1, p2, q2, p3, b5, p4, ew, qI, lj, Result.andThen_ok, run_equalIn_int W n _ .i64 .i64 _ _ hi]
 by_cases he : e = bu
 case neg => simp [he]
 subst he;simp only [beq_self_eq_true, Bool.not_true, nG, if_false, Sem.run_pure, Sem.run_bind, jD, cY, p1, q1, p2, q2, p3, b5, p4, ew, qI, lj, Result.andThen_ok, run_equalIn_int W n _ .i64 .i64 _ _ hi]
 by_cases au : f = kJ
 case neg => simp [au]
 subst au;simp only [beq_self_eq_true, Bool.not_true, nG, if_false, Sem.run_pure, Sem.run_bind, jD, cY, p1, q1, p2, q2, p3, b5, p4, ew, qI, lj, Result.andThen_ok, run_equalIn_int W n _ .i64 .i64 _ _ hi];simp
abbrev v6 (a b c d e f : Int) : ai := .w (.agg [.c (.int .i64 a), .c (.int .i64 b), .c (.int .i64 c), .c (.int .i64 d), .c (.int .i64 e), .c (.int .i64 f)])
theorem Vv : aj.eqGuardType aj.depth 126 = false := by kernel_rfl
theorem Kb {s : aD} {ops : Array Oper} {K : aD → Prop} {rest : List Oper} {ty : Nat} {pos : String} {after : Array Edge} {guard : Option (Nat × Bool)} {o dI : Nat} {x y : Operand} {a b c d e f a' bK c' d' bu kJ : Int} (hw : want ops ⟨some o, .binOp .eql 126 x y dI, ty, pos, after, guard⟩ s = some true) (aa : s.look x = some (v6 a b c d e f)) (ag : s.look y = some (v6 a' bK c' d' bu kJ)) (hd : Nat.blt o s.n = true) (h : bj aj ops K rest (s.put (some o) (bF (uH a b c d e f a' bK c' d' bu kJ)))) : bj aj ops K (⟨some o, .binOp .eql 126 x y dI, ty, pos, after, guard⟩ :: rest) s :=
 rv hw aa ag rfl rfl (fun W => B1 Vv) (fun W => by rw [run_eql_struct, show (10000 : Nat) = 9998 + 1 + 1 from rfl, Vu]; rfl) rfl hd h
abbrev afa (k rm ph I J T : Int) (dirty : Bool) (hot fnd : List ao) (ch : List (List ao × List Int)) : List AC := [.c (.int .i64 k), .c (.int .i64 rm), .c (.int .i64 ph), .c (.int .i64 I), .c (.int .i64 J), .c (.int .i64 T), .c (.bool dirty), .p (cz 2 hot.length (b3 hot)), .p (cz 2 fnd.length (b3 fnd)), .p (cz 2 ch.length (eA ch))]
abbrev xD (k rm ph I J T : Int) (dirty : Bool) (hot fnd : List ao) (ch : List (List ao × List Int)) : ai := .w (.agg (afa k rm ph I J T dirty hot fnd ch))
theorem Ij {k rm ph I J T : Int} {dirty : Bool} {hot fnd : List ao} {ch : List (List ao × List Int)} : aX aj 83 [xD k rm ph I J T dirty hot fnd ch] (v6 k rm ph I J T) := by
 refine cl (f := 83) Tryz.func83 rfl rfl rfl rfl ?_;(repeat first | (with_reducible apply aA); exact rfl | (with_reducible first | apply bX | apply bN | apply bV | apply aB | apply cd))
 ((refine bU rfl (eV rfl rfl rfl bf) ?_))
 exact ai.bo.refl _
abbrev I2 : ai := aQ (.func (.func 50) #[] #[])
def RD (L M : List (List ao × List Int)) (k : Nat) (aS : List (Nat × ai)) (bD : List (Nat × List AC)) : Prop :=
 ∃ (i : Nat) (ii : Int), i ≤ L.length ∧ k = L.length - i ∧ ii = i ∧ bD = [] ∧ aS = [(1, sK M), (2, I2), (15, sK L), (16, aW L.length), (17, aW ii)]
theorem abW {L M : List (List ao × List Int)} (ak : kb L) (Gl : L = M) : aX aj 85 [sK L, sK M, I2] (bF true) := by
 have hlen := ak.1;have hq : (L.length : Int) = M.length := by rw [Gl]
 refine cl (f := 85) Tryz.func85 rfl rfl rfl rfl ?_;(repeat first | (with_reducible apply aA); exact rfl | (with_reducible apply dC); (iterate 3 exact rfl) | (with_reducible first | apply bX | apply bN | apply bV | apply aB | apply fr | apply iS) | (with_reducible apply hZ); exact rfl; ((simp only [iz]; (omega))));refine yc 32 (RD L M) L.length _ [] ⟨0, 0, eC _, rfl, rfl, rfl, rfl⟩ rfl ⟨rfl, rfl, rfl, rfl, rfl, trivial⟩ trivial rfl ?_;rintro n aS bD ⟨j, fb, ae, rfl, iX, rfl, rfl⟩ dU;clear dU
 by_cases hp : j < L.length
 ·have p2 : fb < (L.length : Int) := by omega
  have p3 : 0 ≤ fb := by omega
  have p4 : fb < (M.length : Int) := by omega
  obtain ⟨V, D, g1⟩ : ∃ V D, L[j]? = some (V, D) := ⟨_, _, cm hp⟩;have g2 : M[j]? = some (V, D) := by rw [← Gl]; exact g1
  obtain ⟨jR, h6⟩ := ak.2 _ (dF g1);simp only at jR h6;have kc := yk iX g1;have lW := yk iX g2;have aP := Zr V V D D h6 (by omega) h6 (by omega);rw [bB rfl, bB rfl] at aP;clear Gl;(repeat first | (with_reducible apply aA); exact rfl | (with_reducible apply fZ); (iterate 5 exact rfl) | (with_reducible apply e7); (iterate 3 exact rfl); (omega); (omega); (assumption); exact rfl | (with_reducible apply fh); (iterate 3 exact rfl); (exact da (by omega)); exact rfl | refine dM rfl rfl rfl rfl (by (exact aP)) rfl ?_ | (with_reducible first | apply bX | apply bN | apply bV | apply aB | apply fr | apply iS | apply mX) | (with_reducible apply jm); exact rfl | (with_reducible apply hI); exact rfl; (exact bB (by omega)));exact ⟨L.length - (j + 1), _, [], by omega, ⟨j + 1, fb + 1, hp, rfl, by omega, rfl, rfl⟩, rfl, ⟨rfl, rfl, rfl, rfl, rfl, trivial⟩, trivial, rfl⟩
 ·have p2 : ¬ fb < (L.length : Int) := by omega
  (repeat first | (with_reducible apply aA); exact rfl | (with_reducible first | apply bX | apply bN | apply bV | apply aB | apply cd | apply vW | apply wb | apply wa) | (with_reducible apply hZ); exact rfl; (exact bR (by omega)))
  ((refine bU rfl (bE rfl bf) ?_))
  exact ai.bo.refl _
theorem abV {L : List (List ao × List Int)} (ak : kb L) : aX aj 85 [sK L, sK L, I2] (bF true) := abW ak rfl
theorem acd {k rm ph I J T : Int} {dirty : Bool} {hot fnd : List ao} {ch : List (List ao × List Int)} (aY : hot.length ≤ 1000000) (au : fnd.length ≤ 1000000) (ak : kb ch) : aX aj 43 [xD k rm ph I J T dirty hot fnd ch, xD k rm ph I J T dirty hot fnd ch] (bF true) := by
 have aP := Ij (k := k) (rm := rm) (ph := ph) (I := I) (J := J) (T := T) (dirty := dirty) (hot := hot) (fnd := fnd) (ch := ch);have cc := Ie (D := hot) (E := hot) aY;have e5 := Ie (D := fnd) (E := fnd) au;have mS := abV ak;rw [bB rfl] at cc e5;have gd : uH k rm ph I J T k rm ph I J T = true := by unfold uH; simp
 refine cl (f := 43) Tryz.func43 rfl rfl rfl rfl ?_;(repeat first | (with_reducible apply aA); exact rfl | refine fN rfl rfl rfl (by (exact aP)) rfl ?_ | (with_reducible apply h0); kernel_rfl; kernel_rfl; exact rfl | (with_reducible first | apply bX | apply bN | apply bV | apply aB));refine Kb rfl rfl rfl rfl ?_;rw [gd];have uN : (dirty == dirty) = true := by simp
 have ag6 : decide (dirty = dirty) = true := by simp
 (repeat first | (with_reducible apply aA); exact rfl | refine dM rfl rfl rfl rfl (by (first | exact cc | exact e5)) rfl ?_ | refine jP rfl rfl rfl rfl rfl (by (exact mS)) rfl ?_ | (with_reducible apply rv); (iterate 5 exact rfl); (intro W; go_simp; try rfl); (intro W; go_simp; try rfl); exact rfl; exact rfl | (with_reducible apply hX); kernel_rfl | (with_reducible first | apply bN | apply cd))
 ((refine bU rfl (bE rfl bf) ?_))
 exact ai.bo.refl _
theorem acb {k rm ph I J T k' rm' ph' I' J' T' : Int} {dirty dirty' : Bool} {hot fnd hot' fnd' : List ao} {ch ch' : List (List ao × List Int)} (aF : uH k rm ph I J T k' rm' ph' I' J' T' = false) : aX aj 43 [xD k rm ph I J T dirty hot fnd ch, xD k' rm' ph' I' J' T' dirty' hot' fnd' ch'] (bF false) := by
 have aP := Ij (k := k) (rm := rm) (ph := ph) (I := I) (J := J) (T := T) (dirty := dirty) (hot := hot) (fnd := fnd) (ch := ch);have cc := Ij (k := k') (rm := rm') (ph := ph') (I := I') (J := J') (T := T') (dirty := dirty') (hot := hot') (fnd := fnd') (ch := ch');refine cl (f := 43) Tryz.func43 rfl rfl rfl rfl ?_;(repeat first | (with_reducible apply aA); exact rfl | refine fN rfl rfl rfl (by (first | exact aP | exact cc)) rfl ?_ | (with_reducible apply h0); kernel_rfl; kernel_rfl; exact rfl | (with_reducible first | apply bX | apply bN | apply bV | apply aB));refine Kb rfl rfl rfl rfl ?_;rw [aF];(repeat first | (with_reducible apply aA); exact rfl | (with_reducible apply hX); kernel_rfl | (with_reducible first | apply bN | apply cd))
 ((refine bU rfl (bE rfl bf) ?_))
 exact ai.bo.refl _
theorem bP.IK {U : Nat → Prop} {ad : Nat → Nat} {W : World} {cs : List AC} {vs : List Value} {i : Nat} {u : Value} {x : AC} (h : bP U ad W cs vs) (hi : cs[i]? = some (.c u)) (aa : gm U ad W x u) : bP U ad W (cs.set i x) vs := by
 refine ⟨by rw [List.length_set]; exact h.1, fun j y v ag hv => ?_⟩;rw [List.getElem?_set] at ag
 split at ag
 ·rename_i e;subst e
  split at ag
  ·cases ag;have := (h.2 i _ v hi hv).1;subst this; exact aa
  ·cases ag
 ·exact h.2 j y v ag hv
theorem adJ {hv fv cv : Value} {hot fnd : List ao} {ch : List (List ao × List Int)} {R : aJ} (aL : R 4 = none) (dx : R 5 = none) (gd : R 6 = none) : n6 4 (n6 5 (n6 6 (lq hv fv cv hot fnd ch R))) = R := by
 funext k;unfold n6
 by_cases eH : k = 4
 ·subst eH; rw [if_pos rfl, aL]
 ·rw [if_neg eH]
  by_cases k6 : k = 5
  ·subst k6; rw [if_pos rfl, dx]
  ·rw [if_neg k6]
   by_cases rI : k = 6
   ·subst rI; rw [if_pos rfl, gd]
   ·rw [if_neg rI];unfold lq; rw [cj _ _ rI, cj _ _ k6, cj _ _ eH]
section
variable {E : List (Int × b6)} {r rm : Nat}
theorem dv.ml {s : bx.aT ao} {cs : List AC} {R : aJ} (h : dv E r rm s cs R) : ∀ i, 4 ≤ i → R i = none := by
 obtain ⟨_, _, _, _, _, _, _, _, _, _, rfl⟩ := h;intro i hi
 match i, hi with
 | i + 4, _ => rfl
theorem dv.Ek {s : bx.aT ao} {cs : List AC} {R : aJ} (h : dv E r rm s cs R) : ∀ i, i < 4 → ∃ q, R i = some q := by
 obtain ⟨_, _, _, _, _, _, _, _, _, _, rfl⟩ := h;intro i hi
 match i, hi with
 | 0, _ => exact ⟨_, rfl⟩
 | 1, _ => exact ⟨_, rfl⟩
 | 2, _ => exact ⟨_, rfl⟩
 | 3, _ => exact ⟨_, rfl⟩
abbrev Ez (r rm : Nat) (s : bx.aT ao) : ai := xD r rm s.ph s.I s.J s.T s.dirty s.hot s.fnd s.ch
theorem Zu {s : bx.aT ao} (aY : s.hot.length ≤ 900000) (au : s.fnd.length ≤ 900000) (ak : kb s.ch) : fT E r rm 28 [] s (Ez r rm s) s := by
 intro cs R bq;have se := bq.ml 4 (by decide);have H4 := bq.ml 5 (by decide);have H5 := bq.ml 6 (by decide);have h := Zt aY au ak bq
 have h1 := h.uE 6 H5 (Post2 := fun b7 aH az => ∃ hv fv, b7 = .w (.agg ((oO r rm s.ph s.I s.J s.T s.dirty hv fv jB).set 9 (.p (cz 2 s.ch.length (eA s.ch))))) ∧ aH = cM 1000 cs ∧ ∃ cv, az = n6 6 (lq hv fv cv s.hot s.fnd s.ch R)) (by
  rintro b7 aH az ⟨ar, rfl, hv, fv, cv, rfl, rfl, rfl⟩;refine ⟨_, _, cr _ _ _, jd _, fun U ad W v h aE => ?_, fun j ae => ?_, hv, fv, rfl, rfl, cv, rfl⟩
  ·obtain ⟨vs, e, an⟩ := h;exact ⟨vs, e, (an.IK (i := 9) rfl aE : bP U ad W ((oO r rm s.ph s.I s.J s.T s.dirty hv fv cv).set 9 _) vs)⟩
  ·exact absurd ae (ai.dw rfl j))
 have h2 := h1.uE 5 H4 (Post2 := fun b7 aH az => ∃ hv, b7 = .w (.agg (((oO r rm s.ph s.I s.J s.T s.dirty hv jB jB).set 9 (.p (cz 2 s.ch.length (eA s.ch)))).set 8 (.p (cz 2 s.fnd.length (b3 s.fnd))))) ∧ aH = cM 1000 cs ∧ ∃ fv cv, az = n6 5 (n6 6 (lq hv fv cv s.hot s.fnd s.ch R))) (by
  rintro b7 aH az ⟨hv, fv, rfl, rfl, cv, rfl⟩;refine ⟨ie fv s.fnd, _, rfl, jd _, fun U ad W v h aE => ?_, fun j ae => ?_, hv, rfl, rfl, fv, cv, rfl⟩
  ·obtain ⟨vs, e, an⟩ := h;exact ⟨vs, e, (an.IK (i := 8) rfl aE)⟩
  ·exact absurd ae (ai.dw rfl j))
 have ap := h2.uE 4 se (Post2 := nS 1000 fun b7 ar az => b7 = Ez r rm s ∧ dv E r rm s ar az) (by
  rintro b7 aH az ⟨hv, rfl, rfl, fv, cv, rfl⟩;refine ⟨ie hv s.hot, Ez r rm s, rfl, jd _, fun U ad W v h aE => ?_, fun j ae => ?_, cs, rfl, rfl, ?_⟩
  ·obtain ⟨vs, e, an⟩ := h;exact ⟨vs, e, (an.IK (i := 7) rfl aE)⟩
  ·exact absurd ae (ai.dw rfl j)
  ·rw [adJ se H4 H5]; exact bq)
 exact ap
def e9 (i : Nat) : Nat := if i < 10 then i + 20 else if i < 20 then i else if i < 30 then i - 20 else i
theorem IG (j : Nat) : e9 (e9 j) = j := by
 unfold e9
 by_cases h1 : j < 10
 ·simp only [if_pos h1];rw [if_neg (by omega), if_neg (by omega), if_pos (by omega)]; omega
 ·by_cases h2 : j < 20
  ·simp only [if_neg h1, if_pos h2]
  ·by_cases ap : j < 30
   ·simp only [if_neg h1, if_neg h2, if_pos ap];rw [if_pos (by omega)]; omega
   ·simp only [if_neg h1, if_neg h2, if_neg ap]
def JD (k : Nat) (cq : Nat → Nat) (E : List (Int × b6)) (r rm : Nat) (f : FuncId) (args : List ai) (s : bx.aT ao) (v : ai) (s' : bx.aT ao) : Prop :=
 ∀ cs R, dv E r rm s cs R → dn aj f (.w (.one (.own k 0)) :: args) (cM k cs) (R.bd cq) (nS k fun b7 ar az => b7 = v ∧ ∃ bn, dv E r rm s' ar bn ∧ az = bn.bd cq)
theorem fT.n0 (k : Nat) {cq : Nat → Nat} (gq : ∀ j, cq (cq j) = j) {f : FuncId} {args : List ai} {s s' : bx.aT ao} {v : ai} (h : fT E r rm f args s v s') (ek : args.all ai.bc = true) (hv : v.bc = true) : JD k cq E r rm f args s v s' := fun cs R bq => by
 have h1 := dn.at k (h cs R bq) ek bq.closed (fun b7 ds az al => ⟨by rw [al.1]; exact hv, al.2.closed⟩);refine (h1.rn gq).imp ?_;rintro b7 aH az ⟨bn, ⟨ar, rfl, rfl, cg⟩, rfl⟩;exact ⟨ar, rfl, rfl, bn, cg, rfl⟩
end
section
variable {R : aJ} {s : aD} {ops : Array Oper} {dr : Option (List Nat)} {ty : Nat} {pos : String} {after : Array Edge} {guard : Option (Nat × Bool)} {K : aJ → aD → Prop} {rest : List Oper}
theorem nr (k : Nat) (cq : Nat → Nat) {E : List (Int × b6)} {r rm : Nat} {eF s1 : bx.aT ao} {v : ai} {dst : Option Nat} {f : FuncId} {g : Operand} {aS : Array TypeId} {l : List Operand} {args : List ai} {cs : List AC} {R0 : aJ} [EM : Enters aj f] (hw : want ops ⟨dst, .call ⟨.value g, l.toArray, aS⟩, ty, pos, after, guard⟩ s = some true) (hm : dJ dr ⟨dst, .call ⟨.value g, l.toArray, aS⟩, ty, pos, after, guard⟩ = true)
  (aw : s.look g = some (aQ (.func (.func f) #[] #[]))) (aK : l.map s.look = (ai.w (.one (.own k 0)) :: args).map some) (af : s.mem k = some cs) (gZ : oP dr k = true) (ek : args.all ai.bc = true) (hd : kH dst s.n = true) (hp : JD k cq E r rm f args eF v s1) (bq : dv E r rm eF cs R0) (aq : bH (R0.bd cq) R)
  (h : ∀ ar bn, dv E r rm s1 ar bn → cL aj ops dr K rest (bZ (bn.bd cq) R) ((s.dV k ar).put dst v)) : cL aj ops dr K (⟨dst, .call ⟨.value g, l.toArray, aS⟩, ty, pos, after, guard⟩ :: rest) R s := by
 refine CP k hw hm aw aK (hp cs R0 bq) af gZ aq bq.closed ek hd ?_;rintro _ ar az ⟨rfl, bn, aC, rfl⟩;exact h ar bn aC
end
abbrev two (gl fq : aJ) : aJ := bZ gl (fq.bd e9)
section
variable {E AX : List (Int × b6)} {r rm a8 rm' : Nat} {s s1 t t1 : bx.aT ao} {cs Us ds FM : List AC} {gl ur fq oZ : aJ}
theorem Et : bH gl (two gl fq) := fun i q h => hf h
theorem QK (aK : dv E r rm s cs gl) (ab : dv AX a8 rm' t ds fq) : bH (fq.bd e9) (two gl fq) := fun i q h => by
 have hi : 4 ≤ i := Nat.not_lt.1 fun bi => by
  have : fq (e9 i) = none := ab.ml _ (by unfold e9; rw [if_pos (by omega)]; omega);rw [show fq.bd e9 i = fq (e9 i) from rfl, this] at h; cases h
 rw [show two gl fq i = bZ gl (fq.bd e9) i from rfl, hg (aK.ml i hi)]; exact h
theorem Eu (aK : dv E r rm s cs gl) (Gw : dv E r rm s1 Us ur) : bZ ur (two gl fq) = two ur fq := by
 funext i
 by_cases hi : i < 4
 ·obtain ⟨q, al⟩ := Gw.Ek i hi;rw [hf al, show two ur fq i = bZ ur (fq.bd e9) i from rfl, hf al]
 ·rw [hg (Gw.ml i (by omega)), show two gl fq i = bZ gl (fq.bd e9) i from rfl, show two ur fq i = bZ ur (fq.bd e9) i from rfl, hg (aK.ml i (by omega)), hg (Gw.ml i (by omega))]
theorem QL (aK : dv E r rm s cs gl) (ab : dv AX a8 rm' t ds fq) (bC : dv AX a8 rm' t1 FM oZ) : bZ (oZ.bd e9) (two gl fq) = two gl oZ := by
 funext i
 by_cases hi : i < 4
 ·obtain ⟨q, al⟩ := aK.Ek i hi;have : oZ (e9 i) = none := bC.ml _ (by unfold e9; rw [if_pos (by omega)]; omega);rw [hg (show oZ.bd e9 i = none from this), show two gl fq i = bZ gl (fq.bd e9) i from rfl, show two gl oZ i = bZ gl (oZ.bd e9) i from rfl, hf al, hf al]
 ·have aF := aK.ml i (by omega);rw [show two gl oZ i = bZ gl (oZ.bd e9) i from rfl, hg aF]
  by_cases aL : e9 i < 4
  ·obtain ⟨q, al⟩ := bC.Ek _ aL;rw [hf (show oZ.bd e9 i = some q from al)]; exact al.symm
  ·have h1 : oZ.bd e9 i = none := bC.ml _ (by omega);have h2 : fq.bd e9 i = none := ab.ml _ (by omega);rw [hg h1, show two gl fq i = bZ gl (fq.bd e9) i from rfl, hg aF, h1, h2]
theorem afc (aK : dv E r rm s cs gl) (ab : dv AX a8 rm' t ds fq) : bZ (fq.bd e9) gl = two gl fq := by
 funext i
 by_cases hi : i < 4
 ·obtain ⟨q, al⟩ := aK.Ek i hi;have : fq (e9 i) = none := ab.ml _ (by unfold e9; rw [if_pos (by omega)]; omega);rw [hg (show fq.bd e9 i = none from this), show two gl fq i = bZ gl (fq.bd e9) i from rfl, hf al, al]
 ·rw [show two gl fq i = bZ gl (fq.bd e9) i from rfl, hg (aK.ml i (by omega))];cases al : fq.bd e9 i with
  | some q => exact hf al
  | none => rw [hg al]; exact aK.ml i (by omega)
end
theorem Hz (k : Nat) {cq : Nat → Nat} (gq : ∀ j, cq (cq j) = j) {E : List (Int × b6)} {K n : Int} (an : E.length ≤ 300) (h : ja (E.map Prod.snd) = true) : dn aj 17 [j9 E, aW K, aW n] ca fk fun b7 aH az => ∃ cs bn, b7 = .w (.one (.own k 0)) ∧ aH = cM k cs ∧ az = bn.bd cq ∧ dv E (qT K) (fe n) (hc (bz E (qT K) (fe n))) cs bn := by
 have h1 := (Zp (k := K) (n := n) an h).bd (mQ 24 k) (cq := cq) (ir := cq) gq gq;refine dn.imp (show dn aj 17 [j9 E, aW K, aW n] ca fk _ from h1) ?_;rintro b7 aH az ⟨cP, m1, bn, ⟨cs, rfl, rfl, bq⟩, rfl, rfl, rfl⟩;refine ⟨cs, bn, ?_, xa bq.closed, rfl, bq⟩;show ai.w (.one (.own (swp 24 k 24) 0)) = _;rw [Er]
abbrev na : List (Int × b6) := [(0, (0, 0), (4, 4)), (0, (0, 4), (4, 0))]
abbrev fY (rm : Nat) : cG ao := bz na 0 rm
def qa : bx.aT ao := (eE (fY 9) 3 (hc (fY 9))).2
def sU : bx.aT ao := (eE (fY 9) 1000 qa).2
def Bq : bx.aT ao := (eE (fY 4) 100 (hc (fY 4))).2
theorem J6 : (eE (fY 9) 3 (hc (fY 9))).2 = qa := by unfold qa; rfl
theorem J7 : (eE (fY 9) 1000 qa).2 = sU := by unfold sU; rfl
theorem J8 : (eE (fY 4) 100 (hc (fY 4))).2 = Bq := by unfold Bq; rfl
theorem SO : (eE (fY 9) 3 (hc (fY 9))).1 = 3 := by decide +kernel
theorem SP : qa.ph = 2 ∧ qa.hot.length = 5 := by decide +kernel
theorem SQ : (eE (fY 9) 1000 qa).1 = 36 := by decide +kernel
theorem SR : sU.ph = 4 ∧ sU.ch.length = 2 ∧ (sU.ch.map fun c => c.1.length) = [3, 3] ∧ sU.ch[0]? = some ([(0, 0), (2, 2), (4, 4)], [2, 2]) := by decide +kernel
theorem SS : Bq.ph = 5 := by decide +kernel
section
variable {E : List (Int × b6)} {r rm : Nat}
theorem Eb (h : iw E r rm) {n : Nat} {s : bx.aT ao} (bq : l0 E r rm s) : l0 E r rm (eE (bz E r rm) n s).2 := by
 rw [(IC n s).1]; exact (Hu h.ok _ bq).1
theorem iw.st (h : iw E r rm) {s : bx.aT ao} (bq : l0 E r rm s) : s.hot.length ≤ 1024 ∧ s.fnd.length ≤ 1024 ∧ kb s.ch := by
 have ab := bq.1;have aY := h.hot ab;have nil : kb [] := ⟨eC _, fun c ak => by cases ak⟩;refine ⟨aY, ?_⟩;obtain ⟨_, aG | h1 | h2 | ap | aL | dx⟩ := bq
 ·rw [aG.fnd, aG.ch]; exact ⟨eC _, nil⟩
 ·rw [h1.fnd, h1.ch]; exact ⟨eC _, nil⟩
 ·obtain ⟨c, p, q, _, _, _, au⟩ := h2.link;refine ⟨?_, h.wm ab h2.laid⟩;rw [au];refine ln (List.length_filter_le ..) ?_;rw [eg]; omega
 ·rw [ap.fnd]; exact ⟨eC _, h.wm ab ap.laid⟩
 ·rw [aL.fnd]; exact ⟨eC _, h.wm ab aL.laid⟩
 ·rw [dx.fnd];refine ⟨eC _, ?_⟩;rcases dx.ch with ⟨ak, _⟩ | an
  ·rw [ak]; exact nil
  ·exact h.wm ab an
theorem HA (h : iw E r rm) {s : bx.aT ao} (bq : l0 E r rm s) : fT E r rm 28 [] s (Ez r rm s) s := by
 obtain ⟨a, b, c⟩ := h.st bq;exact Zu (by omega) (by omega) c
end
section
variable {R : aJ} {s : aD} {ops : Array Oper} {dr : Option (List Nat)} {ty : Nat} {pos : String} {after : Array Edge} {guard : Option (Nat × Bool)} {K : aJ → aD → Prop} {rest : List Oper}
theorem Hd (k : Nat) (cq : Nat → Nat) {E : List (Int × b6)} {r rm : Nat} {eF : bx.aT ao} {dst : Option Nat} {f : FuncId} {g : Operand} {aS : Array TypeId} {l : List Operand} {args : List ai} [EM : Enters aj f] (hw : want ops ⟨dst, .call ⟨.value g, l.toArray, aS⟩, ty, pos, after, guard⟩ s = some true) (hm : dJ dr ⟨dst, .call ⟨.value g, l.toArray, aS⟩, ty, pos, after, guard⟩ = true)
  (aw : s.look g = some (aQ (.func (.func f) #[] #[]))) (aK : l.map s.look = args.map some) (hp : dn aj f args ca fk fun b7 aH az => ∃ cs bn, b7 = .w (.one (.own k 0)) ∧ aH = cM k cs ∧ az = bn.bd cq ∧ dv E r rm eF cs bn) (af : s.mem k = none) (bi : Nat.blt k s.n = true) (ek : args.all ai.bc = true) (hd : kH dst s.n = true)
  (h : ∀ cs bn, dv E r rm eF cs bn → cL aj ops dr K rest (bZ (bn.bd cq) R) ((s.dV k cs).put dst (.w (.one (.own k 0))))) : cL aj ops dr K (⟨dst, .call ⟨.value g, l.toArray, aS⟩, ty, pos, after, guard⟩ :: rest) R s := by
 refine u0 hw hm aw aK hp (fun x aa j ae => absurd ae (ai.dw (cu.1 ek x aa) j)) (fun k' ar aC => by cases aC) (fun ft a8 aC => by cases aC) (fun k' ar x j aC aa ae => by cases aC) hd ?_;rintro b7 aH az ⟨cs, bn, rfl, rfl, rfl, bq⟩;refine ⟨fun k' c aC => ?_, ?_⟩
 ·obtain ⟨rfl, rfl⟩ := hb aC;exact .inr ⟨af, by simpa [Nat.blt_eq] using bi⟩
 ·have aN : s.over (cM k cs) = s.dV k cs := by
   show ({ s with mem := bZ (bM ca k cs) s.mem } : aD) = { s with mem := bM s.mem k cs };rw [show bZ (bM ca k cs) s.mem = bM s.mem k cs from vl s.mem k cs]
  rw [aN];exact h cs bn bq
end
theorem O2 (R : aJ) : bZ R fk = R := by
 funext i;cases h : R i with
 | none => rw [hg h]; rfl
 | some q => exact hf h
abbrev dZ : Nat → Nat := fun j => j
theorem oo (j : Nat) : dZ (dZ j) = j := rfl
theorem x5 (rm : Nat) (h1 : 1 ≤ rm) (h2 : rm ≤ 1024) : iw na 0 rm := ⟨eC _, by decide, by decide, h1, h2⟩
theorem SU : rH sU.ch = 2 := by decide +kernel
theorem DN {α β : Type} (x : α × β) {a : α} (h : x.1 = a) : x = (a, x.2) := by subst h; rfl
theorem S8 : ∃ fA fU o0 : bx.aT ao, eE (fY 9) 3 (hc (fY 9)) = (3, fA) ∧ eE (fY 9) 1000 fA = (36, fU) ∧ eE (fY 4) 100 (hc (fY 4)) = ((eE (fY 4) 100 (hc (fY 4))).1, o0) ∧ l0 na 0 9 fA ∧ l0 na 0 9 fU ∧ l0 na 0 4 o0 ∧ fA.ph = 2 ∧ fA.hot.length = 5 ∧ fU.ph = 4 ∧ fU.ch.length = 2 ∧ fU.ch[0]? = some ([(0, 0), (2, 2), (4, 4)], [2, 2]) ∧ rH fU.ch = 2 ∧ o0.ph = 5 := by
 have i1 : l0 na 0 9 (eE (fY 9) 3 (hc (fY 9))).2 := Eb (n := 3) (s := hc (fY 9)) (x5 9 (by decide) (by decide)) (xf (fY 9) _);rw [J6] at i1;have i2 : l0 na 0 9 (eE (fY 9) 1000 qa).2 := Eb (n := 1000) (s := qa) (x5 9 (by decide) (by decide)) i1;rw [J7] at i2;have i3 : l0 na 0 4 (eE (fY 4) 100 (hc (fY 4))).2 := Eb (n := 100) (s := hc (fY 4)) (x5 4 (by decide) (by decide)) (xf (fY 4) _);rw [J8] at i3;have aI := DN _ SO;rw [J6] at aI;have aN := DN _ SQ;rw [J7] at aN;have cC := DN (eE (fY 4) 100 (hc (fY 4))) rfl;rw [J8] at cC;have f1 := SP;have f2 := SR;have f3 := SU;have f4 := SS;generalize qa = fA at *;generalize sU = fU at *;generalize Bq = o0 at *;exact ⟨fA, fU, o0, aI, aN, cC, i1, i2, i3, f1.1, f1.2, f2.1, f2.2.1, f2.2.2.2, f3, f4⟩
theorem ach : aX aj 16 [] (bF true) := by
 obtain ⟨fA, fU, o0, cP, ea, hB, i1, i2, i3, f1, f2, f3, f4, f5, f6, f7⟩ := S8;have pW := x5 9 (by decide) (by decide);have ff := x5 4 (by decide) (by decide);have xS := Hz 15 (cq := dZ) oo (E := na) (K := 0) (n := 9) (by decide) (by decide);have Jr := Hz 27 (cq := e9) IG (E := na) (K := 0) (n := 4) (by decide) (by decide);rw [show qT 0 = 0 from by decide, show fe 9 = 9 from by decide] at xS;rw [show qT 0 = 0 from by decide, show fe 4 = 4 from by decide] at Jr;have bn := C4 pW (xf _ _) (n := 3) (by decide);have eY := C4 pW i1 (n := 1000) (by decide);have jL := C4 ff (xf _ _) (n := 100) (by decide);rw [show (3 : Int).toNat = 3 from rfl, cP] at bn;rw [show (1000 : Int).toNat = 1000 from rfl, ea] at eY;rw [show (100 : Int).toNat = 100 from rfl, hB] at jL;clear cP ea hB;have bn := bn.n0 15 (cq := dZ) oo rfl rfl;have eY := eY.n0 15 (cq := dZ) oo rfl rfl;have jL := jL.n0 27 (cq := e9) IG rfl rfl;have rp := (HA pW i1).n0 15 (cq := dZ) oo rfl rfl;have vU := (HA pW i2).n0 15 (cq := dZ) oo rfl rfl;have iv := (Ns (E := na) (r := 0) (rm := 9) (s := fU)).n0 15 (cq := dZ) oo rfl rfl;have Bc := (Ns (E := na) (r := 0) (rm := 4) (s := o0)).n0 27 (cq := e9) IG rfl rfl;have Jj := (Nr (E := na) (r := 0) (rm := 9) (s := fU) (pW.st i2).2.2).n0 15 (cq := dZ) oo rfl rfl;have mz := (Nu pW i2).n0 15 (cq := dZ) oo rfl rfl;rw [(xC pW.ok i2).2.2 (by omega), bR (by omega)] at mz;have A9 := acd (k := (0 : Nat)) (rm := (9 : Nat)) (ph := fU.ph) (I := fU.I) (J := fU.J) (T := fU.T) (dirty := fU.dirty) (hot := fU.hot) (fnd := fU.fnd) (ch := fU.ch) (by have := (pW.st i2).1; omega) (by have := (pW.st i2).2.1; omega) (pW.st i2).2.2;have R4 := acb (k := (0 : Nat)) (rm := (9 : Nat)) (ph := fA.ph) (I := fA.I) (J := fA.J) (T := fA.T) (dirty := fA.dirty) (hot := fA.hot) (fnd := fA.fnd) (ch := fA.ch) (k' := (0 : Nat)) (rm' := (9 : Nat)) (ph' := fU.ph) (I' := fU.I) (J' := fU.J) (T' := fU.T) (dirty' := fU.dirty) (hot' := fU.hot) (fnd' := fU.fnd) (ch' := fU.ch) (by rw [f1, f3]; unfold uH; simp);rw [f6] at Jj;have g1 : (fA.ph : Int) = 2 := by rw [f1]; rfl
 have g2 : (fA.hot.length : Int) = 5 := by rw [f2]; rfl
 have g3 : (fU.ph : Int) = 4 := by rw [f3]; rfl
 have g4 : (fU.ch.length : Int) = 2 := by rw [f4]; rfl
 have g7 : (o0.ph : Int) = 5 := by rw [f7]; rfl
 have kc := yk (ii := 0) rfl f5;clear pW ff i1 i2 i3 f1 f2 f3 f4 f6 f7;refine cl (f := 16) Tryz.func16 rfl rfl rfl rfl ?_;refine uB ?_;(repeat first | (with_reducible first | apply ba | apply aR | apply a7 | apply aU) | (with_reducible apply aM); exact rfl; (repeat first | (with_reducible apply aA); exact rfl | (with_reducible apply l5); (iterate 10 exact rfl)); (with_reducible apply aB));refine Hd 15 dZ rfl rfl rfl rfl xS rfl rfl rfl rfl (fun cs E0 bY => ?_);rw [O2];(repeat first | (with_reducible first | apply ba | apply aR | apply a7 | apply aU | apply cS) | (with_reducible apply c6); exact rfl; (exact rfl) | (with_reducible apply aM); exact rfl; (repeat first | (with_reducible apply aA); exact rfl | (with_reducible apply Fh); exact rfl; exact rfl; kernel_rfl; exact rfl); (with_reducible apply aB));refine nr 15 dZ rfl rfl rfl rfl rfl rfl rfl rfl bn bY (bH.refl _) (fun Ut um mv => ?_);rw [show bZ (aJ.bd dZ um) (aJ.bd dZ E0) = aJ.bd dZ um from bY.bZ mv];(repeat first | (with_reducible first | apply ba | apply aR | apply a7 | apply aU) | (with_reducible apply aM); exact rfl; (repeat first | (with_reducible apply aA); exact rfl); (with_reducible apply aB));refine nr 15 dZ rfl rfl rfl rfl rfl rfl rfl rfl rp mv (bH.refl _) (fun Uu uo nR => ?_);rw [show bZ (aJ.bd dZ uo) (aJ.bd dZ um) = aJ.bd dZ uo from mv.bZ nR];(repeat first | (with_reducible first | apply ba | apply aR | apply a7 | apply aU) | (with_reducible apply aM); exact rfl; (repeat first | (with_reducible apply aA); exact rfl); (with_reducible apply aB));refine nr 15 dZ rfl rfl rfl rfl rfl rfl rfl rfl eY nR (bH.refl _) (fun Uv vO q4 => ?_);rw [show bZ (aJ.bd dZ vO) (aJ.bd dZ uo) = aJ.bd dZ vO from nR.bZ q4];(repeat first | (with_reducible first | apply ba | apply aR | apply a7 | apply aU) | (with_reducible apply aM); exact rfl; (repeat first | (with_reducible apply aA); exact rfl); (with_reducible apply aB));refine nr 15 dZ rfl rfl rfl rfl rfl rfl rfl rfl vU q4 (bH.refl _) (fun af1 xU vG => ?_);rw [show bZ (aJ.bd dZ xU) (aJ.bd dZ vO) = aJ.bd dZ xU from q4.bZ vG];(repeat first | (with_reducible first | apply ba | apply aR | apply a7 | apply aU) | (with_reducible apply aM); exact rfl; (repeat first | (with_reducible apply aA); exact rfl); (with_reducible apply aB));refine Hd 27 e9 rfl rfl rfl rfl Jr rfl rfl rfl rfl (fun ds JA br => ?_);rw [show bZ (aJ.bd e9 JA) (aJ.bd dZ xU) = two xU JA from afc vG br];(repeat first | (with_reducible first | apply ba | apply aR | apply a7 | apply aU | apply cS) | (with_reducible apply c6); exact rfl; (exact rfl) | (with_reducible apply aM); exact rfl; (repeat first | (with_reducible apply aA); exact rfl | (with_reducible apply Fh); exact rfl; exact rfl; kernel_rfl; exact rfl); (with_reducible apply aB));refine nr 27 e9 rfl rfl rfl rfl rfl rfl rfl rfl jL br (QK vG br) (fun FM vP mw => ?_);rw [QL vG br mw];(repeat first | (with_reducible apply lr (id := 13) [0,1,2,3,4,5,6,7,8,9,10,11,12,13,14,15,16,17,18,19,20,21,22,23,24,25,26,27,28,29,30,31,32,33,34,35,36,37,38,39,40,41,42,43,44,45,46,47,48,49,50,51,52,53,54,55,56,57,58,59,60,61,62,63,64,65,66,67,68,69,70,71,72,73,74,75] [51,82,87,92,98,2000015,2000027]); kernel_rfl; kernel_rfl; exact rfl | (with_reducible first | apply ba | apply aR | apply aU) | (with_reducible apply aM); exact rfl; (repeat first | (with_reducible apply aA); exact rfl | (with_reducible apply dC); (iterate 3 exact rfl) | (with_reducible apply c8 (c := true)); exact rfl; exact rfl; (exact bB (by omega))); (with_reducible apply aB));refine nr 15 dZ rfl rfl rfl rfl rfl rfl rfl rfl iv vG Et (fun af2 E1 EG => ?_);rw [show bZ (aJ.bd dZ E1) (two xU vP) = two E1 vP from Eu vG EG];(repeat first | (with_reducible apply aM); exact rfl; (repeat first | (with_reducible apply aA); exact rfl | (with_reducible apply qc); (iterate 5 exact rfl) | (with_reducible apply fZ); (iterate 5 exact rfl) | (with_reducible apply Tb); (iterate 3 exact rfl) | (with_reducible apply e7); (iterate 3 exact rfl); (decide); (first | decide | omega); (first | assumption | rfl); exact rfl | (with_reducible apply vY); (iterate 4 exact rfl) | (with_reducible apply dC); (iterate 3 exact rfl) | (with_reducible apply c8 (c := true)); exact rfl; exact rfl; (exact bB (by omega))); (with_reducible apply aB));refine nr 15 dZ rfl rfl rfl rfl rfl rfl rfl rfl Jj EG Et (fun af3 E2 EH => ?_);rw [show bZ (aJ.bd dZ E2) (two E1 vP) = two E2 vP from Eu EG EH];(repeat first | (with_reducible apply aM); exact rfl; (repeat first | (with_reducible apply aA); exact rfl | (with_reducible apply c8 (c := true)); exact rfl; exact rfl; (exact bB (by omega))); (with_reducible apply aB));refine nr 15 dZ rfl rfl rfl rfl rfl rfl rfl rfl mz EH Et (fun af4 E3 xJ => ?_);rw [show bZ (aJ.bd dZ E3) (two E2 vP) = two E3 vP from Eu EH xJ];(repeat first | (with_reducible apply aM); exact rfl; (repeat first | (with_reducible apply aA); exact rfl); (with_reducible apply aB));refine nr 27 e9 rfl rfl rfl rfl rfl rfl rfl rfl Bc mw (QK xJ mw) (fun agl JB sO => ?_);rw [QL xJ mw sO];(repeat first | (with_reducible apply aM); exact rfl; (repeat first | (with_reducible apply aA); exact rfl | (with_reducible apply c8 (c := true)); exact rfl; exact rfl; (exact bB (by omega))); (with_reducible apply aB));refine nr 15 dZ rfl rfl rfl rfl rfl rfl rfl rfl vU xJ Et (fun af5 Jz Rb => ?_);rw [show bZ (aJ.bd dZ Jz) (two E3 JB) = two Jz JB from Eu xJ Rb];(repeat first | (with_reducible apply ev); kernel_rfl | (with_reducible first | apply aR | apply db) | (with_reducible apply aM); exact rfl; (repeat first | (with_reducible apply aA); exact rfl | refine dM rfl rfl rfl rfl (by (first | exact A9 | exact R4)) rfl ?_); (with_reducible apply aB))
 ((refine bU rfl (bE rfl bf) ?_))
 exact ai.bo.refl _
def Sa (E : List (Int × b6)) (k : Nat) (R : aJ) (aS : List (Nat × ai)) (bD : List (Nat × List AC)) : Prop :=
 ∃ (i : Nat) (ii : Int) (v : Value), i ≤ E.length ∧ k = E.length - i ∧ ii = i ∧ R = bI 0 ⟨91, 5, v, i, pe (E.take i)⟩ ∧ bD = [] ∧ aS = [(3, aQ v), (6, j9 E), (7, aW E.length), (8, aW ii)]
theorem ab8 {E : List (Int × b6)} (aq : E.length ≤ 900000) : aX aj 18 [j9 E] (j9 E) := by
 refine cl (f := 18) Tryz.func18 rfl rfl rfl rfl ?_;refine uB ?_;refine ba ?_;(repeat first | (with_reducible first | apply ba | apply aR | apply a7 | apply aU | apply eM) | (with_reducible apply aM); exact rfl; (repeat first | (with_reducible apply aA); exact rfl | (with_reducible apply dC); (iterate 3 exact rfl)); (with_reducible apply aB));refine nK 0 91 5 rfl ?_
 skip
 refine ls 18 (Sa E) E.length (bI 0 ⟨91, 5, .slice none 0 0, 0, []⟩) _ [] ⟨0, 0, .slice none 0 0, eC _, rfl, rfl, rfl, rfl, rfl⟩ (nI _ _ _) rfl ⟨rfl, rfl, rfl, rfl, trivial⟩ trivial rfl ?_;rintro n R aS bD ⟨i, ii, v, hi, rfl, gX, rfl, rfl, rfl⟩ dU;clear dU
 by_cases al : i < E.length
 ·have q2 : ii < (E.length : Int) := by omega
  have b5 : 0 ≤ ii := by omega
  obtain ⟨o, a, b, c, d, g1⟩ : ∃ o a b c d, E[i]? = some (o, (a, b), (c, d)) := ⟨_, _, _, _, _, cm al⟩;have kc := wx gX g1
  have cC : pe (E.take (i + 1)) = pe (E.take i) ++ [.c (.int .i64 a), .c (.int .i64 b), .c (.int .i64 c), .c (.int .i64 d), .c (.int .i64 o)] := by
   rw [nF al, (bS.1 g1).2]; simp [pe, BV]
  (repeat first | (with_reducible first | apply ba | apply aR | apply a7 | apply aU | apply cS | apply eM) | (with_reducible apply dz); exact rfl; (exact bB (by omega)) | (with_reducible apply aM); exact rfl; (repeat first | (with_reducible apply aA); exact rfl | (with_reducible apply fZ); (iterate 5 exact rfl) | (with_reducible apply e7); (iterate 3 exact rfl); (omega); (omega); (assumption); exact rfl | (with_reducible apply l5); (iterate 10 exact rfl)); (with_reducible apply aB));refine qx 0 rfl rfl rfl rfl ?q1 ?q2 rfl rfl (fun v1 iF => ?_)
  case q1 => exact kR (by show i + 1 ≤ 1000000; omega)
  case q2 => show (i + 1) * 40 ≤ 140737488355328; omega
  (repeat first | (with_reducible first | apply aR | apply a7 | apply aU | apply j3) | (with_reducible apply aM); exact rfl; (repeat first | (with_reducible apply aA); exact rfl | (with_reducible apply fh); (iterate 3 exact rfl); (exact da (by omega)); exact rfl); (with_reducible apply aB));refine ⟨E.length - (i + 1), bI 0 ⟨91, 5, v1, i + 1, pe (E.take (i + 1))⟩, _, [], by omega, ⟨i + 1, ii + 1, v1, al, rfl, by omega, rfl, rfl, rfl⟩, ?_, rfl, ⟨rfl, rfl, rfl, rfl, trivial⟩, trivial, rfl⟩;rw [cC];exact nI _ _ _
 ·have q2 : ¬ ii < (E.length : Int) := by omega
  have dp : i = E.length := by omega
  subst dp;rw [List.take_length];refine Ed 0 3 ⟨91, 5, v, E.length, pe E⟩ rfl rfl ?_;(repeat first | (with_reducible first | apply ba | apply aR | apply a7 | apply aU | apply db | apply j4 | apply j6 | apply j5) | (with_reducible apply c6); exact rfl; (exact bR (by omega)) | (with_reducible apply aM); exact rfl; (repeat first | (with_reducible apply aA); exact rfl); (with_reducible apply aB))
  ((refine bU rfl (bE rfl bf) ?_))
  exact ai.bo.refl _
theorem Nl {o : cG ao} {ok : Nat → List ao × List Int → Prop} (af : jM o ok) : ∀ (n : Nat) {s : bx.aT ao}, hG o ok s → 4 ≤ s.ph → lO o n s = s
 | 0, s, _, _ => rfl
 | n + 1, s, h, aL => by
  have e := (xC af h).2.2 aL;show lO o n (eh o s) = s;rw [e]; exact Nl af n h aL
theorem run_eq {o : cG ao} {ok : Nat → List ao × List Int → Prop} (af : jM o ok) (n : Nat) {s : bx.aT ao} (h : hG o ok s) : (eE o n s).2 = lO o n s := by
 obtain ⟨h1, h2, ap⟩ := IC (o := o) n s
 by_cases ak : (eE o n s).1 < n
 ·have aL := ap ak;have e : n = (eE o n s).1 + (n - (eE o n s).1) := by omega
  have hi := (Hu af (eE o n s).1 h).1;rw [h1] at aL ⊢
  conv => rhs; rw [e, Nk]
  exact (Nl af _ hi aL).symm
 ·have e : (eE o n s).1 = n := by omega
  rw [h1, e]
section
variable {E : List (Int × b6)} {k room : Int}
end
def ql (p : ao) : Bool := decide (-67108864 ≤ p.1) && decide (p.1 ≤ 67108864) && decide (-67108864 ≤ p.2) && decide (p.2 ≤ 67108864)
theorem Ga {p : ao} : ql p = true ↔ ((-67108864 ≤ p.1 ∧ p.1 ≤ 67108864) ∧ -67108864 ≤ p.2 ∧ p.2 ≤ 67108864) := by
 unfold ql; simp only [dQ, cB]; omega
theorem LN {p : ao} (h : ql p = true) : gQ p = true := by
 rw [nz]; have := Ga.1 h; omega
theorem aa6 {E : List (Int × b6)} {r rm : Nat} : (news (bz E r rm)).length = E.length := by
 unfold news; rw [lU, List.length_range, iw.n]
theorem ZU {E : List (Int × b6)} {room : Int} (h : ja (E.map Prod.snd) = true) (aG : 0 < E.length) (an : E.length ≤ 40) : ∃ (d : Nat) (fA : bx.aT ao), eE (bz E 28 (fe room)) 2000 (hc (bz E 28 (fe room))) = (d, fA) ∧ l0 E 28 (fe room) fA ∧ fA.ph = 4 ∧ fA.hot.length = 1 ∧ fA.ch.length = E.length ∧ rH fA.ch = 0 := by
 have hw : iw E 28 (fe room) := ⟨dL _, h, by omega, (D3 room).1, (D3 room).2⟩;have aF := iw.n E 28 (fe room);have ax : vR (bz E 28 (fe room)) (0, 0) := adQ h (by have := hw.pos; omega);have hi : l0 E 28 (fe room) (hc (bz E 28 (fe room))) := xf _ _
 have WS : One (bz E 28 (fe room)) (0, 0) 2000 (hc (bz E 28 (fe room))) := by
  refine ⟨fun x aa => (by cases aa), .inl ⟨if_neg (by rw [aF]; omega), ?_⟩⟩;show ((bz E 28 (fe room)).n - 0) + (bz E 28 (fe room)).n * (bz E 28 (fe room)).n ≤ 2000;rw [aF];have := Nat.mul_le_mul an an;omega
 obtain ⟨a1, a2, a3⟩ := Nn hw.ok ax 2000 hi WS;have e := run_eq hw.ok 2000 hi;have i2 := Eb hw (n := 2000) hi;rw [← e] at a1 a2 a3;have aN := DN (eE (bz E 28 (fe room)) 2000 (hc (bz E 28 (fe room)))) rfl;clear e;generalize (eE (bz E 28 (fe room)) 2000 (hc (bz E 28 (fe room)))).2 = fA at *;refine ⟨_, fA, aN, i2, a1, by rw [a2]; rfl, by rw [a3]; exact aa6, ?_⟩;rw [a3];unfold rH news;have fC : ∀ i, fS ((bz E 28 (fe room)).P i) ((bz E 28 (fe room)).Q i) = fS ((bz E 28 (fe room)).P i) ((bz E 28 (fe room)).Q i) := fun _ => rfl
 have key : ∀ l : List Nat, (∀ i ∈ l, i < (bz E 28 (fe room)).n) → (l.map fun i => fS ((bz E 28 (fe room)).P i) ((bz E 28 (fe room)).Q i)).foldl (fun a c => max a (n5 c.2)) 0 = (0 : Int) := by
  intro l
  induction l with
  | nil => intro _; rfl
  | cons i l cp =>
   intro aY;obtain ⟨p1, p2⟩ := ax.P i (aY i (kr ..));rw [kv, sq, p1, p2];exact cp fun j ae => aY j (nD _ ae)
 exact key _ fun i hi => qN.1 hi
def RY (E : List (Int × b6)) (room : Int) (k : Nat) (R : aJ) (aS : List (Nat × ai)) (bD : List (Nat × List AC)) : Prop :=
 ∃ (i : Nat) (ii : Int), i ≤ E.length ∧ k = E.length - i ∧ ii = i ∧ ja ((E.take i).map Prod.snd) = true ∧ R = fk ∧ bD = [] ∧ aS = [(0, j9 E), (1, aW room), (20, j9 E), (21, aW E.length), (22, aW ii)]
def RZ (E : List (Int × b6)) (room : Int) (i : Nat) (ii o a b c d : Int) (k : Nat) (R : aJ) (aS : List (Nat × ai)) (bD : List (Nat × List AC)) : Prop :=
 ∃ (j : Nat) (fb : Int), j ≤ 2 ∧ k = 2 - j ∧ fb = j ∧ (1 ≤ j → ql (a, b) = true) ∧ (2 ≤ j → ql (c, d) = true) ∧ R = fk ∧ bD = [] ∧ aS = [(0, j9 E), (1, aW room), (20, j9 E), (21, aW E.length), (22, aW ii), (30, cI 2 2 [.c (.int .i64 a), .c (.int .i64 b), .c (.int .i64 c), .c (.int .i64 d)]), (31, aW 2), (32, aW fb)]
theorem LO {x y : Int} (h : ql (x, y) = false) : x < -67108864 ∨ (¬ x < -67108864 ∧ x > 67108864) ∨ (¬ x < -67108864 ∧ ¬ x > 67108864 ∧ y < -67108864) ∨ (¬ x < -67108864 ∧ ¬ x > 67108864 ∧ ¬ y < -67108864 ∧ y > 67108864) := by
 by_cases h1 : x < -67108864
 ·exact .inl h1
 ·by_cases h2 : x > 67108864
  ·exact .inr (.inl ⟨h1, h2⟩)
  ·by_cases ap : y < -67108864
   ·exact .inr (.inr (.inl ⟨h1, h2, ap⟩))
   ·by_cases aL : y > 67108864
    ·exact .inr (.inr (.inr ⟨h1, h2, ap, aL⟩))
    ·have : ql (x, y) = true := Ga.2 ⟨⟨by show _ ≤ x; omega, by show x ≤ _; omega⟩, by show _ ≤ y; omega, by show y ≤ _; omega⟩;rw [h] at this; cases this
theorem LP {x y : Int} (h : ql (x, y) = true) : ¬ x < -67108864 ∧ ¬ x > 67108864 ∧ ¬ y < -67108864 ∧ ¬ y > 67108864 := by
 obtain ⟨⟨a1, a2⟩, a3, a4⟩ : (_ ≤ x ∧ x ≤ _) ∧ _ ≤ y ∧ y ≤ _ := Ga.1 h;exact ⟨by omega, by omega, by omega, by omega⟩
theorem ZW {E : List (Int × b6)} {room : Int} : aX aj 9 [j9 E, aW room] (bF true) := by
 have fL := ach
 by_cases an : (E.length : Int) > 40
 ·refine cl (f := 9) Tryz.func9 rfl rfl rfl rfl ?_;(repeat first | (with_reducible apply aA); exact rfl | (with_reducible apply dC); (iterate 3 exact rfl) | refine o4 rfl rfl (by (exact fL)) rfl ?_ | (with_reducible apply c8 (c := true)); exact rfl; exact rfl; (exact bB (by omega)) | (with_reducible first | apply bX | apply bN | apply bV | apply aB | apply cd | apply gy) | (with_reducible apply kE); exact rfl)
  ((refine bU rfl (bE rfl bf) ?_))
  exact ai.bo.refl _
 by_cases aG : (E.length : Int) = 0
 ·refine cl (f := 9) Tryz.func9 rfl rfl rfl rfl ?_;(repeat first | (with_reducible apply aA); exact rfl | (with_reducible apply dC); (iterate 3 exact rfl) | refine o4 rfl rfl (by (exact fL)) rfl ?_ | (with_reducible apply c8 (c := false)); exact rfl; exact rfl; (exact bR (by omega)) | (with_reducible first | apply bX | apply bN | apply bV | apply aB | apply cd | apply gy) | (with_reducible apply hI); exact rfl; (exact bB (by omega)))
  ((refine bU rfl (bE rfl bf) ?_))
  exact ai.bo.refl _
 refine cl (f := 9) Tryz.func9 rfl rfl rfl rfl ?_;refine uB ?_;(repeat first | (with_reducible first | apply ba | apply aR | apply a7 | apply aU | apply cS | apply eM) | (with_reducible apply c6); exact rfl; (exact bR (by omega)) | (with_reducible apply aM); exact rfl; (repeat first | (with_reducible apply aA); exact rfl | (with_reducible apply dC); (iterate 3 exact rfl) | (with_reducible apply c8 (c := false)); exact rfl; exact rfl; (exact bR (by omega))); (with_reducible apply aB));refine ls 92 (RY E room) E.length fk _ [] ⟨0, 0, eC _, rfl, rfl, rfl, rfl, rfl, rfl⟩ (bH.refl _) rfl ⟨rfl, rfl, rfl, rfl, rfl, trivial⟩ trivial rfl ?_;rintro n R aS bD ⟨i, ii, hi, rfl, gX, wV, rfl, rfl, rfl⟩ dU;clear dU
 by_cases hp : i < E.length
 ·have p2 : ii < (E.length : Int) := by omega
  have p3 : 0 ≤ ii := by omega
  obtain ⟨o, a, b, c, d, g1⟩ : ∃ o a b c d, E[i]? = some (o, (a, b), (c, d)) := ⟨_, _, _, _, _, cm hp⟩;have kc := wx gX g1;(repeat first | (with_reducible first | apply ba | apply aR | apply a7 | apply aU | apply cS | apply eM) | (with_reducible apply dz); exact rfl; (exact bB (by omega)) | (with_reducible apply aM); exact rfl; (repeat first | (with_reducible apply aA); exact rfl | (with_reducible apply fZ); (iterate 5 exact rfl) | (with_reducible apply e7); (iterate 3 exact rfl); (omega); (omega); (assumption); exact rfl | (with_reducible apply dC); (iterate 3 exact rfl) | (with_reducible apply l5); (iterate 10 exact rfl)); (with_reducible apply aB));refine ls 92 (RZ E room i ii o a b c d) 2 fk _ [] ⟨0, 0, eC _, rfl, rfl, fun h => (by omega), fun h => (by omega), rfl, rfl, rfl⟩ (bH.refl _) rfl ⟨rfl, rfl, rfl, rfl, rfl, rfl, rfl, rfl, trivial⟩ trivial rfl ?_;rintro n R aS bD ⟨j, fb, ae, rfl, iX, aO, w2, rfl, rfl, rfl⟩ dU;clear dU
  match j, ae, iX, aO, w2 with
  | 0, ae, iX, aO, w2 =>
   have iX : fb = 0 := iX;subst iX;clear ae;have lW : (([.c (.int .i64 a), .c (.int .i64 b), .c (.int .i64 c), .c (.int .i64 d)] : List AC).drop ((0 : Int).toNat * 2)).take 2 = [.c (.int .i64 a), .c (.int .i64 b)] := rfl;cases aw : ql (a, b) with
   | false =>
    rcases LO aw with q1 | ⟨q1, q2⟩ | ⟨q1, q2, b5⟩ | ⟨q1, q2, b5, ew⟩
    ·(repeat first | (with_reducible first | apply ba | apply aR | apply a7 | apply aU | apply db | apply cS | apply hh | apply eM | apply sA) | (with_reducible apply dz); exact rfl; (first | exact bB (by omega) | exact rfl) | (with_reducible apply aM); exact rfl; (repeat first | (with_reducible apply aA); exact rfl | (with_reducible apply fZ); (iterate 5 exact rfl) | (with_reducible apply e7); (iterate 3 exact rfl); (decide); (decide); (assumption); exact rfl | refine o4 rfl rfl (by (exact fL)) rfl ?_ | (with_reducible apply c8 (c := true)); exact rfl; exact rfl; (exact bB (by omega))); (with_reducible apply aB))
     ((refine bU rfl (bE rfl bf) ?_))
     exact ai.bo.refl _
    ·(repeat first | (with_reducible first | apply ba | apply aR | apply a7 | apply aU | apply db | apply cS | apply hh | apply eM | apply sA) | (with_reducible apply dz); exact rfl; (first | exact bB (by omega) | exact rfl) | (with_reducible apply aM); exact rfl; (repeat first | (with_reducible apply aA); exact rfl | (with_reducible apply fZ); (iterate 5 exact rfl) | (with_reducible apply e7); (iterate 3 exact rfl); (decide); (decide); (assumption); exact rfl | refine o4 rfl rfl (by (exact fL)) rfl ?_ | (with_reducible apply c8 (c := true)); exact rfl; exact rfl; (exact bB (by omega)) | (with_reducible apply c8 (c := false)); exact rfl; exact rfl; (exact bR (by omega))); (with_reducible apply aB))
     ((refine bU rfl (bE rfl bf) ?_))
     exact ai.bo.refl _
    ·(repeat first | (with_reducible first | apply ba | apply aR | apply a7 | apply aU | apply db | apply cS | apply hh | apply eM | apply sA) | (with_reducible apply dz); exact rfl; (first | exact bB (by omega) | exact rfl) | (with_reducible apply aM); exact rfl; (repeat first | (with_reducible apply aA); exact rfl | (with_reducible apply fZ); (iterate 5 exact rfl) | (with_reducible apply e7); (iterate 3 exact rfl); (decide); (decide); (assumption); exact rfl | refine o4 rfl rfl (by (exact fL)) rfl ?_ | (with_reducible apply c8 (c := true)); exact rfl; exact rfl; (exact bB (by omega)) | (with_reducible apply c8 (c := false)); exact rfl; exact rfl; (exact bR (by omega))); (with_reducible apply aB))
     ((refine bU rfl (bE rfl bf) ?_))
     exact ai.bo.refl _
    ·(repeat first | (with_reducible first | apply ba | apply aR | apply a7 | apply aU | apply db | apply cS | apply hh | apply eM | apply sA) | (with_reducible apply dz); exact rfl; (exact bB (by omega)) | (with_reducible apply aM); exact rfl; (repeat first | (with_reducible apply aA); exact rfl | (with_reducible apply fZ); (iterate 5 exact rfl) | (with_reducible apply e7); (iterate 3 exact rfl); (decide); (decide); (assumption); exact rfl | refine o4 rfl rfl (by (exact fL)) rfl ?_ | (with_reducible apply c8 (c := false)); exact rfl; exact rfl; (exact bR (by omega))); (with_reducible apply aB))
     ((refine bU rfl (bE rfl bf) ?_))
     exact ai.bo.refl _
   | true =>
    obtain ⟨q1, q2, b5, ew⟩ := LP aw;(repeat first | (with_reducible first | apply ba | apply aR | apply a7 | apply aU | apply cS | apply eM | apply j3) | (with_reducible apply dz); exact rfl; (exact bB (by omega)) | (with_reducible apply c6); exact rfl; (exact bR (by omega)) | (with_reducible apply aM); exact rfl; (repeat first | (with_reducible apply aA); exact rfl | (with_reducible apply fZ); (iterate 5 exact rfl) | (with_reducible apply e7); (iterate 3 exact rfl); (decide); (decide); (assumption); exact rfl | (with_reducible apply fh); (iterate 3 exact rfl); (exact da (by omega)); exact rfl | (with_reducible apply c8 (c := false)); exact rfl; exact rfl; (exact bR (by omega))); (with_reducible apply aB));exact ⟨1, fk, _, [], by decide, ⟨1, 1, by decide, rfl, rfl, fun _ => aw, fun h => (by omega), rfl, rfl, rfl⟩, bH.refl _, rfl, ⟨rfl, rfl, rfl, rfl, rfl, rfl, rfl, rfl, trivial⟩, trivial, rfl⟩
  | 1, ae, iX, aO, w2 =>
   have iX : fb = 1 := iX;subst iX;clear ae;have lW : (([.c (.int .i64 a), .c (.int .i64 b), .c (.int .i64 c), .c (.int .i64 d)] : List AC).drop ((1 : Int).toNat * 2)).take 2 = [.c (.int .i64 c), .c (.int .i64 d)] := rfl;cases aw : ql (c, d) with
   | false =>
    rcases LO aw with q1 | ⟨q1, q2⟩ | ⟨q1, q2, b5⟩ | ⟨q1, q2, b5, ew⟩
    ·(repeat first | (with_reducible first | apply ba | apply aR | apply a7 | apply aU | apply db | apply cS | apply hh | apply eM | apply sA) | (with_reducible apply dz); exact rfl; (first | exact bB (by omega) | exact rfl) | (with_reducible apply aM); exact rfl; (repeat first | (with_reducible apply aA); exact rfl | (with_reducible apply fZ); (iterate 5 exact rfl) | (with_reducible apply e7); (iterate 3 exact rfl); (decide); (decide); (assumption); exact rfl | refine o4 rfl rfl (by (exact fL)) rfl ?_ | (with_reducible apply c8 (c := true)); exact rfl; exact rfl; (exact bB (by omega))); (with_reducible apply aB))
     ((refine bU rfl (bE rfl bf) ?_))
     exact ai.bo.refl _
    ·(repeat first | (with_reducible first | apply ba | apply aR | apply a7 | apply aU | apply db | apply cS | apply hh | apply eM | apply sA) | (with_reducible apply dz); exact rfl; (first | exact bB (by omega) | exact rfl) | (with_reducible apply aM); exact rfl; (repeat first | (with_reducible apply aA); exact rfl | (with_reducible apply fZ); (iterate 5 exact rfl) | (with_reducible apply e7); (iterate 3 exact rfl); (decide); (decide); (assumption); exact rfl | refine o4 rfl rfl (by (exact fL)) rfl ?_ | (with_reducible apply c8 (c := true)); exact rfl; exact rfl; (exact bB (by omega)) | (with_reducible apply c8 (c := false)); exact rfl; exact rfl; (exact bR (by omega))); (with_reducible apply aB))
     ((refine bU rfl (bE rfl bf) ?_))
     exact ai.bo.refl _
    ·(repeat first | (with_reducible first | apply ba | apply aR | apply a7 | apply aU | apply db | apply cS | apply hh | apply eM | apply sA) | (with_reducible apply dz); exact rfl; (first | exact bB (by omega) | exact rfl) | (with_reducible apply aM); exact rfl; (repeat first | (with_reducible apply aA); exact rfl | (with_reducible apply fZ); (iterate 5 exact rfl) | (with_reducible apply e7); (iterate 3 exact rfl); (decide); (decide); (assumption); exact rfl | refine o4 rfl rfl (by (exact fL)) rfl ?_ | (with_reducible apply c8 (c := true)); exact rfl; exact rfl; (exact bB (by omega)) | (with_reducible apply c8 (c := false)); exact rfl; exact rfl; (exact bR (by omega))); (with_reducible apply aB))
     ((refine bU rfl (bE rfl bf) ?_))
     exact ai.bo.refl _
    ·(repeat first | (with_reducible first | apply ba | apply aR | apply a7 | apply aU | apply db | apply cS | apply hh | apply eM | apply sA) | (with_reducible apply dz); exact rfl; (exact bB (by omega)) | (with_reducible apply aM); exact rfl; (repeat first | (with_reducible apply aA); exact rfl | (with_reducible apply fZ); (iterate 5 exact rfl) | (with_reducible apply e7); (iterate 3 exact rfl); (decide); (decide); (assumption); exact rfl | refine o4 rfl rfl (by (exact fL)) rfl ?_ | (with_reducible apply c8 (c := false)); exact rfl; exact rfl; (exact bR (by omega))); (with_reducible apply aB))
     ((refine bU rfl (bE rfl bf) ?_))
     exact ai.bo.refl _
   | true =>
    obtain ⟨q1, q2, b5, ew⟩ := LP aw;(repeat first | (with_reducible first | apply ba | apply aR | apply a7 | apply aU | apply cS | apply eM | apply j3) | (with_reducible apply dz); exact rfl; (exact bB (by omega)) | (with_reducible apply c6); exact rfl; (exact bR (by omega)) | (with_reducible apply aM); exact rfl; (repeat first | (with_reducible apply aA); exact rfl | (with_reducible apply fZ); (iterate 5 exact rfl) | (with_reducible apply e7); (iterate 3 exact rfl); (decide); (decide); (assumption); exact rfl | (with_reducible apply fh); (iterate 3 exact rfl); (exact da (by omega)); exact rfl | (with_reducible apply c8 (c := false)); exact rfl; exact rfl; (exact bR (by omega))); (with_reducible apply aB));exact ⟨0, fk, _, [], by decide, ⟨2, 2, by decide, rfl, rfl, fun _ => aO (by decide), fun _ => aw, rfl, rfl, rfl⟩, bH.refl _, rfl, ⟨rfl, rfl, rfl, rfl, rfl, rfl, rfl, rfl, trivial⟩, trivial, rfl⟩
  | 2, ae, iX, aO, w2 =>
   have iX : fb = 2 := iX;subst iX
   have aE : ja ((E.take (i + 1)).map Prod.snd) = true := by
    rw [nF hp, (bS.1 g1).2, List.map_append];unfold ja at wV ⊢;rw [List.all_append, wV, qO];show ((gQ (a, b) && gQ (c, d)) && true) = true;rw [LN (aO (by decide)), LN (w2 (by decide))]; rfl
   (repeat first | (with_reducible first | apply ba | apply aR | apply a7 | apply aU | apply j3 | apply j4 | apply j6 | apply j5) | (with_reducible apply c6); exact rfl; (exact bR (by omega)) | (with_reducible apply aM); exact rfl; (repeat first | (with_reducible apply aA); exact rfl | (with_reducible apply fh); (iterate 3 exact rfl); (exact da (by omega)); exact rfl); (with_reducible apply aB));exact ⟨E.length - (i + 1), fk, _, [], by omega, ⟨i + 1, ii + 1, hp, rfl, by omega, aE, rfl, rfl, rfl⟩, bH.refl _, rfl, ⟨rfl, rfl, rfl, rfl, rfl, trivial⟩, trivial, rfl⟩
  | j + 3, ae, _, _, _ => omega
 ·have p2 : ¬ ii < (E.length : Int) := by omega
  rw [hA (by omega)] at wV;obtain ⟨agi, fA, cP, i1, f1, f2, f3, f4⟩ := ZU (room := room) wV (by omega) (by omega);have hw : iw E 28 (fe room) := ⟨dL _, wV, by omega, (D3 room).1, (D3 room).2⟩;have xS := Hz 60 (cq := dZ) oo (E := E) (K := 28) (n := room) (by omega) wV;rw [show qT 28 = 28 from by decide] at xS;have aP := ab8 (E := E) (by omega);have bn := C4 hw (xf _ _) (n := 2000) (by decide);rw [show (2000 : Int).toNat = 2000 from rfl, cP] at bn;clear cP;have bn := bn.n0 60 (cq := dZ) oo rfl rfl;have rp := (HA hw i1).n0 60 (cq := dZ) oo rfl rfl;have AW := (Nr (E := E) (r := 28) (rm := fe room) (s := fA) (hw.st i1).2.2);rw [f4] at AW;have AW := AW.n0 60 (cq := dZ) oo rfl rfl;have g1 : (fA.ph : Int) = 4 := by rw [f1]; rfl
  have g2 : (fA.hot.length : Int) = 1 := by rw [f2]; rfl
  have g3 : (fA.ch.length : Int) = (E.length : Int) := by rw [f3]
  clear hw i1 f1 f2 f3 f4;(repeat first | (with_reducible first | apply ba | apply aR | apply a7 | apply aU | apply j4 | apply j6 | apply j5) | (with_reducible apply c6); exact rfl; (exact bR (by omega)) | (with_reducible apply aM); exact rfl; (repeat first | (with_reducible apply aA); exact rfl | refine fN rfl rfl rfl (by (exact aP)) rfl ?_); (with_reducible apply aB));refine Hd 60 dZ rfl rfl rfl rfl xS rfl rfl rfl rfl (fun cs E0 bY => ?_);rw [O2];(repeat first | (with_reducible first | apply ba | apply aR | apply a7 | apply aU | apply cS) | (with_reducible apply c6); exact rfl; (exact rfl) | (with_reducible apply aM); exact rfl; (repeat first | (with_reducible apply aA); exact rfl | (with_reducible apply Fh); exact rfl; exact rfl; kernel_rfl; exact rfl); (with_reducible apply aB));refine nr 60 dZ rfl rfl rfl rfl rfl rfl rfl rfl bn bY (bH.refl _) (fun Ut um mv => ?_);rw [show bZ (aJ.bd dZ um) (aJ.bd dZ E0) = aJ.bd dZ um from bY.bZ mv];(repeat first | (with_reducible first | apply ba | apply aR | apply a7 | apply aU) | (with_reducible apply aM); exact rfl; (repeat first | (with_reducible apply aA); exact rfl); (with_reducible apply aB));refine nr 60 dZ rfl rfl rfl rfl rfl rfl rfl rfl rp mv (bH.refl _) (fun Uu uo nR => ?_);rw [show bZ (aJ.bd dZ uo) (aJ.bd dZ um) = aJ.bd dZ uo from mv.bZ nR];(repeat first | (with_reducible first | apply ba | apply aR | apply a7 | apply aU) | (with_reducible apply aM); exact rfl; (repeat first | (with_reducible apply aA); exact rfl | (with_reducible apply dC); (iterate 3 exact rfl) | refine o4 rfl rfl (by (exact fL)) rfl ?_ | (with_reducible apply c8 (c := true)); exact rfl; exact rfl; (exact bB (by omega))); (with_reducible apply aB));refine nr 60 dZ rfl rfl rfl rfl rfl rfl rfl rfl AW nR (bH.refl _) (fun Uv vO q4 => ?_);rw [show bZ (aJ.bd dZ vO) (aJ.bd dZ uo) = aJ.bd dZ vO from nR.bZ q4];(repeat first | (with_reducible first | apply aR | apply aU | apply db) | (with_reducible apply aM); exact rfl; (repeat first | (with_reducible apply aA); exact rfl | (with_reducible apply dC); (iterate 3 exact rfl)); (with_reducible apply aB))
  ((refine bU rfl (bE rfl bf) ?_))
  rw [bB g3];exact ai.bo.refl _
end Go.Proofs.YtpochbhajmbfdaaGreat
namespace Go.Proofs.YtpochbhajmbfdaaGreat
theorem ZV (E : List (Int × bx.b6)) (room : Int) (_ : (E.length : Int) ≤ 9223372036854775807) (_ : -9223372036854775808 ≤ room ∧ room ≤ 9223372036854775807) : aX aj 9 [j9 E, aW room] (bF true) := ZW
end Go.Proofs.YtpochbhajmbfdaaGreat
namespace Go.Proofs.YtpochbhajmbfdaaGreat
open Go.ChangeShapes Go.WideShapes Go.ChangeAt Go.RowKit Go.Joins
theorem laidOut : laidOutB aj = true := by kernel_rfl
theorem Lw : ∀ (L : List (List Int)), (∀ x ∈ L, x.length = 5) → ∃ l : List (Int × bx.b6), l.length = L.length ∧ rN L = pe l
 | [], _ => ⟨[], rfl, rfl⟩
 | x :: L, h => by
  obtain ⟨l, h1, h2⟩ := Lw L fun y ag => h y (by simp [ag]);have aa := h x (by simp)
  match x, aa with
  | [a, b, c, d, o], _ =>
   refine ⟨(o, (a, b), (c, d)) :: l, by simp [h1], ?_⟩;show rN ([a, b, c, d, o] :: L) = BV (o, (a, b), (c, d)) ++ pe l;rw [← h2];unfold rN;rw [List.flatten_cons, List.map_append];rfl
theorem Vm {H : Type} {enc : TypeId × Value → H} {P : Program} {W : World} {e : TypeId} {g0 g1 g2 f0 f1 : Field} (he : P.underlying e = some (.struct #[g0, g1, g2])) (ce : P.cellsOf e = 5) (jD : g0.offset = 0) (p1 : g1.offset = 2) (p2 : g2.offset = 4) (d0 : P.cellsOf g0.type = 2) (aE : g1.type = g0.type) (d2 : P.cellsOf g2.type = 1) (b9 : P.underlying g2.type = some (.int .i64))
  (aw : P.underlying g0.type = some (.struct #[f0, f1])) (DB : f0.offset = 0) (o1 : f1.offset = 1) (k4 : P.cellsOf f0.type = 1) (c1 : P.cellsOf f1.type = 1) (jy : P.underlying f0.type = some (.int .i64)) (bA : P.underlying f1.type = some (.int .i64))
  {n : Nat} {cs : List Value} {d : DataW H × List MemPlace} (h : DataW.trod enc P W 0 (fun _ => true) true n e cs = some d) : ∃ a b x y v : Int, cs = [.int .i64 a, .int .i64 b, .int .i64 x, .int .i64 y, .int .i64 v] := by
 obtain ⟨xs, k, _, _, cO, oj, au⟩ := DataW.trod_struct he h;rw [ce] at cO
 match cs, cO, xs, oj with
 | [u, v, w, r, s], _, [dp, aI, aN], _ =>
  have cY := au 0 g0 rfl;have q1 := au 1 g1 rfl;have q2 := au 2 g2 rfl;simp [jD, p1, p2, d0, d2, aE] at cY q1 q2;obtain ⟨a, b, aa⟩ := La aw d0 DB o1 k4 c1 jy bA cY;obtain ⟨x, y, ag⟩ := La aw d0 DB o1 k4 c1 jy bA q1;obtain ⟨z, a6⟩ := FQ b9 q2 rfl;cases aa; cases ag; cases a6;exact ⟨a, b, x, y, z, rfl⟩
theorem abH {H : Type} {enc : TypeId × Value → H} {P : Program} {W : World} {t e : TypeId} (aE : P.underlying t = some (.slice e)) (ce : P.cellsOf e = 5)
  (yQ : ∀ (n : Nat) (cs : List Value) d, DataW.trod enc P W 0 (fun _ => true) true n e cs = some d → ∃ a b x y v : Int, cs = [.int .i64 a, .int .i64 b, .int .i64 x, .int .i64 y, .int .i64 v])
  {v : Value} {d : DataW H} {p : List MemPlace} (hv : ∃ a len cap, v = .slice a len cap) (aG : DataW.Trod enc P W 0 (fun _ => true) true t v d p) :
  ∃ l : List (Int × bx.b6), (l.length : Int) ≤ 9223372036854775807 ∧ dc (fun _ => True) id W (j9 l) v := by
 obtain ⟨L, h1, h2, ap⟩ := abI 5 aE ce (fun n cs d h => by obtain ⟨a, b, x, y, v, e⟩ := yQ n cs d h; exact ⟨[a, b, x, y, v], e⟩) hv aG (by decide);obtain ⟨l, aL, dx⟩ := Lw L h2;rw [dx] at ap;refine ⟨l, by rw [aL]; exact h1, ?_⟩;rw [← aL] at ap;exact ap
theorem acY {P : Program} {f : FuncId} {args : List ai} (h : aX P f args (bF true)) (ky : List Value) (W : World) (an : args.length = ky.length) (aq : ∀ (i : Nat) (x : ai) (v : Value), args[i]? = some x → ky[i]? = some v → dc (fun _ => True) id W x v) :
  Calls P f ky.toArray W fun e W' => e = .returned (.bool true) ∧ Below W.heap.size W W' :=
 (h.call (fun _ => True) W ky ⟨an, aq⟩).mono fun e W' ⟨v, he, ⟨hv, _⟩, ab⟩ => by subst hv; exact ⟨he, ab⟩
end Go.Proofs.YtpochbhajmbfdaaGreat
