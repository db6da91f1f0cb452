/-
  My own texts, without what this claim does not need. My own text.
-/
import Derived.Test.YtpochbhajmbfdaaGreatSEndsK12
set_option maxRecDepth 100000
set_option maxHeartbeats 64000000
set_option linter.unusedVariables false
set_option linter.unusedSimpArgs false
set_option linter.unusedSectionVars false
open Go.Proofs.Tryz renaming prog → ai
namespace Go.Proofs.YtpochbhajmbfdaaGreat
open Go.RowKit
open bA
instance ahJ : n0 ai 28 91 5 40 := ⟨by kernel_rfl⟩
abbrev Ja : aj := aQ (.func (.func 100) #[] #[])
theorem Pq {x y : Int} : aR ai 101 [bh x y] (bE (gx (x, y))) := by
 have cs : ((if y < x then y else x) ≥ -134217728 ∧ gx (x, y) = decide ((if y > x then y else x) < 134217728)) ∨ (¬ (if y < x then y else x) ≥ -134217728 ∧ gx (x, y) = false) := by
  by_cases h : (if y < x then y else x) ≥ -134217728
  ·refine .inl ⟨h, ?_⟩;rw [oL, sb, decide_eq_true_iff];show ((_ ≤ x ∧ x < _) ∧ _ ≤ y ∧ y < _) ↔ _
   split at h <;> split <;> omega
  ·refine .inr ⟨h, ?_⟩;cases aE : gx (x, y) with
   | false => rfl
   | true =>
    obtain ⟨⟨a1, a2⟩, a3, a4⟩ : ((_ ≤ x ∧ x < _) ∧ _ ≤ y ∧ y < _) := sb.1 aE
    split at h <;> omega
 rcases cs with ⟨h, e⟩ | ⟨h, e⟩
 all_goals
  rw [e];refine cc (f := 101) Tryz.func101 rfl rfl rfl rfl ?_;(repeat first | (with_reducible apply aA); exact rfl | (with_reducible apply v8); (iterate 4 exact rfl) | (with_reducible apply sR); (iterate 4 exact rfl) | (with_reducible apply dv (c := true)); exact rfl; exact rfl; (exact bG (by omega)) | (with_reducible apply dv (c := false)); exact rfl; exact rfl; (exact b3 (by omega)) | (with_reducible first | apply bN | apply bH | apply bL | apply aB | apply b6))
  ((refine bR rfl (bC rfl bf) ?_))
  exact aj.bp.refl _
abbrev wj (x : Int × b9) : Bool := !(gx x.2.1 && gx x.2.2)
theorem acq {o a b c d : Int} : aR ai 100 [.w (.agg [.c (.int .i64 a), .c (.int .i64 b), .c (.int .i64 c), .c (.int .i64 d), .c (.int .i64 o)])] (bE (wj (o, (a, b), (c, d)))) := by
 have aM := Pq (x := a) (y := b);have bU := Pq (x := c) (y := d);unfold wj;simp only;cases h1 : gx (a, b) with
 | true =>
  rw [h1] at aM;rw [pR];refine cc (f := 100) Tryz.func100 rfl rfl rfl rfl ?_;(repeat first | (with_reducible apply aA); exact rfl | refine eO rfl rfl rfl (by (first | exact aM | exact bU)) rfl ?_ | (with_reducible first | apply bN | apply bH | apply bL | apply aB | apply b6))
  ((refine bR rfl (bC rfl bf) ?_))
  exact aj.bp.refl _
 | false =>
  rw [h1] at aM;rw [Bool.false_and];refine cc (f := 100) Tryz.func100 rfl rfl rfl rfl ?_;(repeat first | (with_reducible apply aA); exact rfl | refine eO rfl rfl rfl (by (exact aM)) rfl ?_ | (with_reducible first | apply bN | apply bH | apply bL | apply aB | apply b6))
  ((refine bR rfl (bC rfl bf) ?_))
  exact aj.bp.refl _
def tg : List (Int × b9) → Int → Int
 | [], _ => -1
 | p :: l, i => if wj p = true then i else tg l (i + 1)
theorem LS (p : Int × b9) (l : List (Int × b9)) (i : Int) : tg (p :: l) i = if wj p = true then i else tg l (i + 1) := rfl
theorem LR : ∀ (l : List (Int × b9)) (i : Int), 0 ≤ i → (decide (tg l i ≥ 0)) = !gw (l.map Prod.snd)
 | [], i, h => rfl
 | p :: l, i, h => by
  have cw := LR l (i + 1) (by omega);have e : gw ((p :: l).map Prod.snd) = ((gx p.2.1 && gx p.2.2) && gw (l.map Prod.snd)) := rfl;rw [e, LS];unfold wj;cases hp : (gx p.2.1 && gx p.2.2) with
  | false => rw [if_pos (show (!false) = true from rfl), Bool.false_and]; exact bG h
  | true => rw [if_neg (by decide), pR]; exact cw
def RR (E : List (Int × b9)) (k : Nat) (aS : List (Nat × aj)) (bF : List (Nat × List AC)) : Prop :=
 ∃ (i : Nat) (ii : Int), i ≤ E.length ∧ k = E.length - i ∧ ii = i ∧ tg E 0 = tg (E.drop i) ii ∧ bF = [] ∧ aS = [(0, jK E), (1, Ja), (7, aT E.length), (8, aT ii)]
theorem acL {E : List (Int × b9)} (aq : E.length ≤ 4611686018427387904) : aR ai 163 [jK E, Ja] (aT (tg E 0)) := by
 refine cc (f := 163) Tryz.func163 rfl rfl rfl rfl ?_;(repeat first | (with_reducible apply aA); exact rfl | (with_reducible apply db); (iterate 3 exact rfl) | (with_reducible first | apply bN | apply bH | apply bL | apply aB | apply gp));refine wg 19 (RR E) E.length _ [] ⟨0, 0, eF _, rfl, rfl, rfl, rfl, rfl⟩ rfl ⟨rfl, rfl, rfl, rfl, trivial⟩ trivial rfl ?_;rintro n aS bF ⟨j, fu, ae, rfl, qt, gr, rfl, rfl⟩ ee;clear ee
 by_cases hp : j < E.length
 ·have p2 : fu < (E.length : Int) := by omega
  have p3 : 0 ≤ fu := by omega
  obtain ⟨o, a, b, c, d, g1⟩ : ∃ o a b c d, E[j]? = some (o, (a, b), (c, d)) := ⟨_, _, _, _, _, cp hp⟩;have j9 := wz qt g1;have hd : E.drop j = (o, (a, b), (c, d)) :: E.drop (j + 1) := by rw [mV hp, (bX.1 g1).2]
  have kB := acq (o := o) (a := a) (b := b) (c := c) (d := d);rw [hd, LS] at gr;cases ar : wj (o, (a, b), (c, d)) with
  | true =>
   rw [ar] at gr kB;rw [if_pos rfl] at gr;rw [gr];(repeat first | (with_reducible apply aA); exact rfl | (with_reducible apply ha); (iterate 5 exact rfl) | (with_reducible apply fB); (iterate 3 exact rfl); (omega); (omega); (assumption); exact rfl | refine eO rfl rfl rfl (by (exact kB)) rfl ?_ | (with_reducible first | apply bN | apply bH | apply bL | apply aB | apply b6 | apply eR | apply fC | apply gp | apply l6) | (with_reducible apply h8); exact rfl | (with_reducible apply gf); exact rfl; (exact bG (by omega)))
   ((refine bR rfl (bC rfl bf) ?_))
   exact aj.bp.refl _
  | false =>
   rw [ar] at gr kB;rw [if_neg (by simp)] at gr;(repeat first | (with_reducible apply aA); exact rfl | (with_reducible apply ha); (iterate 5 exact rfl) | (with_reducible apply fB); (iterate 3 exact rfl); (omega); (omega); (assumption); exact rfl | (with_reducible apply fe); (iterate 3 exact rfl); (exact cX (by omega)); exact rfl | refine eO rfl rfl rfl (by (exact kB)) rfl ?_ | (with_reducible first | apply bN | apply bH | apply bL | apply aB | apply eR | apply gp | apply mG) | (with_reducible apply hA); exact rfl | (with_reducible apply gf); exact rfl; (exact bG (by omega)));exact ⟨E.length - (j + 1), _, [], by omega, ⟨j + 1, fu + 1, hp, rfl, by omega, gr, rfl, rfl⟩, rfl, ⟨rfl, rfl, rfl, rfl, trivial⟩, trivial, rfl⟩
 ·have e : j = E.length := by omega
  subst e;rw [List.drop_length] at gr;rw [show tg [] fu = -1 from rfl] at gr;rw [gr];(repeat first | (with_reducible apply aA); exact rfl | (with_reducible first | apply bN | apply bH | apply bL | apply aB | apply b6 | apply uC | apply uG | apply uF) | (with_reducible apply hz); exact rfl; (exact b3 (by omega)))
  ((refine bR rfl (bC rfl bf) ?_))
  exact aj.bp.refl _
theorem acy {E : List (Int × b9)} (aq : E.length ≤ 4611686018427387904) : aR ai 99 [jK E, Ja] (bE (!gw (E.map Prod.snd))) := by
 have kB := acL aq;rw [← LR E 0 (by decide)];refine cc (f := 99) Tryz.func99 rfl rfl rfl rfl ?_;(repeat first | (with_reducible apply aA); exact rfl | refine dI rfl rfl rfl rfl (by (exact kB)) rfl ?_ | (with_reducible first | apply bN | apply bH | apply bL | apply aB | apply b6))
 ((refine bR rfl (bC rfl bf) ?_))
 exact aj.bp.refl _
theorem acp {E : List (Int × b9)} (aq : E.length ≤ 4611686018427387904) : aR ai 53 [jK E] (bE (gw (E.map Prod.snd))) := by
 have kB := acy aq;have e : gw (E.map Prod.snd) = !(!gw (E.map Prod.snd)) := (Bool.not_not _).symm;rw [e];generalize (!gw (E.map Prod.snd)) = q at *;refine cc (f := 53) Tryz.func53 rfl rfl rfl rfl ?_;(repeat first | (with_reducible apply aA); exact rfl | refine dI rfl rfl rfl rfl (by (exact kB)) rfl ?_ | (with_reducible first | apply bN | apply bH | apply bL | apply aB | apply b6))
 ((refine bR rfl (bC rfl bf) ?_))
 exact aj.bp.refl _
theorem acx {E : List (Int × b9)} (aq : E.length ≤ 900000) : aR ai 55 [jK E] (jK E) := by
 refine cc (f := 55) Tryz.func55 rfl rfl rfl rfl ?_;(repeat first | (with_reducible apply aA); exact rfl | (with_reducible apply Fg); (iterate 3 exact rfl) | (with_reducible first | apply bN | apply bH | apply bL | apply aB));refine TK 4 rfl ?_;intro b ab;cases b with
 | true =>
  have aH := mv (ab rfl);subst aH;clear ab;(repeat first | (with_reducible apply aA); exact rfl | (with_reducible first | apply bN | apply bH | apply bL | apply aB | apply b6 | apply fC) | (with_reducible apply h8); exact rfl)
  ((refine bR rfl (bC rfl bf) ?_))
  exact OE 5
 | false =>
  clear ab;have z0 : 0 + E.length = E.length := jH _;(repeat first | (with_reducible apply aA); exact rfl | (with_reducible apply Ts); exact rfl; exact rfl | (with_reducible apply S1); (iterate 3 exact rfl); (exact kO (by omega)); (omega); (assumption); (rfl); exact rfl | (with_reducible first | apply bN | apply bH | apply bL | apply aB | apply b6 | apply eR) | (with_reducible apply hA); exact rfl)
  ((refine bR rfl (bC rfl bf) ?_))
  exact aj.bp.refl _
section
variable {P : Program} {f : FuncId} {args : List aj} {cs : List AC} {R0 : aJ} {Q : aj → List AC → aJ → Prop}
theorem c6.at (k : Nat) (h : c6 P f (qX :: args) (cI 1000 cs) R0 (nY 1000 Q)) (ea : args.all aj.bb = true) (ak : cs.all AC.bb = true) (al : ∀ ca ds az, Q ca ds az → ca.bb = true ∧ ds.all AC.bb = true) : c6 P f (.w (.one (.own k 0)) :: args) (cI k cs) R0 (nY k Q) := by
 have h1 := h.ba (mz 1000 k) (b7 := fun j => j) (h4 := fun j => j) (fun _ => rfl) (fun _ => rfl)
 have aI : (aj.w (.one (.own 1000 0)) :: args).map (aj.ba (swp 1000 k)) = .w (.one (.own k 0)) :: args := by
  have aO : args.map (aj.ba (swp 1000 k)) = args := by
   conv => rhs; rw [← List.map_id args]
   exact oP fun x aa => ua (ct.1 ea x aa)
  rw [kU, aO];show aj.w (.one (.own (swp 1000 k 1000) 0)) :: args = _;rw [show swp 1000 k 1000 = k by unfold swp; simp]
 rw [aI, vk ak] at h1;refine ⟨fun U ad W vs cK ef dJ => (h1.call U ad W vs cK ef dJ).mono ?_⟩;rintro dp bo ⟨v, r, aG, az, bg, cC, cY, ⟨cQ, m1, bl, ⟨ds, rfl, mf⟩, rfl, rfl, rfl⟩, lV⟩;obtain ⟨c1, c2⟩ := al _ _ _ mf;rw [vk c2, ua c1] at lV;exact ⟨v, cQ, cI k ds, bl, bg, cC, cY, ⟨ds, rfl, mf⟩, lV⟩
end
def e7 (k : Int) : Nat := (if k < 0 then 0 else if 28 < k then 28 else k).toNat
def ez (n : Int) : Nat := (lv n).toNat
theorem IG (n : Int) : ((ez n : Nat) : Int) = lv n := by unfold ez lv; (repeat split) <;> omega
theorem Qe (n : Int) : 1 ≤ ez n ∧ ez n ≤ 1024 := by unfold ez lv; (repeat split) <;> omega
theorem adL (k : Int) : ((e7 k : Nat) : Int) = if 28 < (if 0 > k then 0 else k) then 28 else (if 0 > k then 0 else k) := by unfold e7; (repeat split) <;> omega
theorem adM (k : Int) : e7 k ≤ 28 := by unfold e7; (repeat split) <;> omega
theorem IE {E : List (Int × b9)} {k n : Int} (h : gw (E.map Prod.snd) = true) (ao : E.length ≤ 300) : iC E (e7 k) (ez n) := ⟨adM k, h, ao, (Qe n).1, (Qe n).2⟩
abbrev jD : Value := .slice none 0 0
theorem OD {b : Nat} {S : e2} {q : bP} : dH b S jD jD jD [] [] [] = bQ (bQ (bQ (bQ (bQ fW 1 ⟨59, 2, jD, 0, []⟩) 2 ⟨59, 2, jD, 0, []⟩) 3 ⟨53, 2, jD, 0, []⟩) 0 q) 0 (hY (dR b) S) := by
 funext i
 match i with
 | 0 => rfl
 | 1 => rfl
 | 2 => rfl
 | 3 => rfl
 | i + 4 => rfl
theorem Zs {E : List (Int × b9)} {k n : Int} (ao : E.length ≤ 300) (h : gw (E.map Prod.snd) = true) : c6 ai 17 [jK E, aT k, aT n] cb fW fun ca aG az => ∃ cs, ca = .w (.one (.own 24 0)) ∧ aG = cI 24 cs ∧ du E (e7 k) (ez n) (fw (bz E (e7 k) (ez n))) cs az := by
 have aM := acp (E := E) (by omega);rw [h] at aM;have bU := Zr n;have e8 := acx (E := E) (by omega);have hc := adL k
 by_cases aH : E = []
 ·subst aH;refine dh (f := 17) Tryz.func17 rfl (de rfl) (by exact nm) ?_;refine nQ 1 59 2 rfl ?_;refine nQ 2 59 2 rfl ?_;refine nQ 3 53 2 rfl ?_;(repeat first | (with_reducible first | apply bd | apply aX | apply a8 | apply aY | apply dm) | (with_reducible apply c8); exact rfl; (exact rfl) | (with_reducible apply aN); exact rfl; (repeat first | (with_reducible apply aA); exact rfl | refine eO rfl rfl rfl (by (exact aM)) rfl ?_); (with_reducible apply aB));refine MV 0 rfl rfl rfl rfl bU rfl rfl (fun p S jw => ?_);obtain ⟨b, rfl, hS⟩ := jw;rw [← IG n] at hS;have mZ := Nx _ _ _ _ hS (by decide);(repeat first | (with_reducible first | apply bd | apply aX | apply a8 | apply aY) | (with_reducible apply aN); exact rfl; (repeat first | (with_reducible apply aA); exact rfl | (with_reducible apply v8); (iterate 4 exact rfl) | (with_reducible apply sR); (iterate 4 exact rfl) | refine eO rfl rfl rfl (by (exact e8)) rfl ?_); (with_reducible apply aB));refine zh 0 rfl rfl rfl rfl mZ rfl rfl rfl (fun v da h => ?_);obtain ⟨rfl, fk⟩ := h;(repeat first | (with_reducible first | apply bd | apply aX | apply a8 | apply aY) | (with_reducible apply eu); exact rfl; (assumption) | (with_reducible apply aN); exact rfl; (repeat first | (with_reducible apply aA); exact rfl | (with_reducible apply db); (iterate 3 exact rfl)); (with_reducible apply aB));have xL := c6.at 24 (HC (E := []) (k := (e7 k : Int)) (rm := (ez n : Int)) (ph := 0) (I := 0) (J := 0) (T := 0) (dirty := false) (hv := jD) (fv := jD) (cv := jD) (b := b) (lk := .c jD) rfl 4) rfl rfl (fun ca ds az h => by obtain ⟨rfl, rfl, _⟩ := h; exact ⟨rfl, rfl⟩);rw [← hc];refine jX 24 rfl rfl rfl rfl xL rfl rfl rfl rfl rfl ?_;(repeat first | (with_reducible first | apply bd | apply aX | apply a8 | apply aY | apply dA) | (with_reducible apply aN); exact rfl; (repeat first | (with_reducible apply aA); exact rfl); (with_reducible apply aB))
  ((refine CC 24 rfl (bC rfl bf) rfl (bM.of_eq OD) rfl rfl ?_))
  exact ⟨_, rfl, rfl, jD, jD, jD, b, da, .c jD, fk, rfl, fun h => (by cases h), rfl, rfl⟩
 ·have jq : ¬ (E.length : Int) = 0 := fun a6 => aH (mv (by omega));refine dh (f := 17) Tryz.func17 rfl (de rfl) (by exact nm) ?_;refine nQ 1 59 2 rfl ?_;refine nQ 2 59 2 rfl ?_;refine nQ 3 53 2 rfl ?_;(repeat first | (with_reducible first | apply bd | apply aX | apply a8 | apply aY | apply dm) | (with_reducible apply c8); exact rfl; (exact rfl) | (with_reducible apply aN); exact rfl; (repeat first | (with_reducible apply aA); exact rfl | refine eO rfl rfl rfl (by (exact aM)) rfl ?_); (with_reducible apply aB));refine MV 0 rfl rfl rfl rfl bU rfl rfl (fun p S jw => ?_);obtain ⟨b, rfl, hS⟩ := jw;rw [← IG n] at hS;have mZ := Nx _ _ _ _ hS (by decide);(repeat first | (with_reducible first | apply bd | apply aX | apply a8 | apply aY) | (with_reducible apply aN); exact rfl; (repeat first | (with_reducible apply aA); exact rfl | (with_reducible apply v8); (iterate 4 exact rfl) | (with_reducible apply sR); (iterate 4 exact rfl) | refine eO rfl rfl rfl (by (exact e8)) rfl ?_); (with_reducible apply aB));refine zh 0 rfl rfl rfl rfl mZ rfl rfl rfl (fun v da h => ?_);obtain ⟨rfl, fk⟩ := h;(repeat first | (with_reducible first | apply bd | apply aX | apply a8 | apply aY | apply dA | apply dm) | (with_reducible apply c8); exact rfl; (exact b3 (by omega)) | (with_reducible apply aN); exact rfl; (repeat first | (with_reducible apply aA); exact rfl | (with_reducible apply db); (iterate 3 exact rfl)); (with_reducible apply aB));rw [← hc]
  ((refine CC 24 rfl (bC rfl bf) rfl (bM.of_eq OD) rfl rfl ?_))
  refine ⟨_, rfl, rfl, jD, jD, jD, b, da, .c jD, fk, rfl, ?_, ?_, rfl⟩
  ·unfold fw;rw [if_neg (by rw [iC.n]; omega)];intro h; cases h
  ·unfold fw;rw [if_neg (by rw [iC.n]; omega)]; rfl
def uN (a b c d e f a' bO c' d' bw kH : Int) : Bool := decide (a = a') && (decide (b = bO) && (decide (c = c') && (decide (d = d') && (decide (e = bw) && decide (f = kH)))))
theorem VA (n : Nat) (a b c d e f a' bO c' d' bw kH : Int) (W : World) : (Op.equalIn (n + 1 + 1) 126 (.agg #[.int .i64 a, .int .i64 b, .int .i64 c, .int .i64 d, .int .i64 e, .int .i64 f]) (.agg #[.int .i64 a', .int .i64 bO, .int .i64 c', .int .i64 d', .int .i64 bw, .int .i64 kH])).run ai W = .ok (uN a b c d e f a' bO c' d' bw kH) W := by
 have hu : ai.underlying 126 = some (.array 6 3) := by kernel_rfl
 have hi : ai.underlying 3 = some (.int .i64) := by kernel_rfl
 obtain ⟨m, hm⟩ : ∃ m, m = n + 1 := ⟨_, rfl⟩;rw [← hm, Op.equalIn];simp only [Sem.run_bind, run_underlying hu, Result.andThen_ok];rw [hm];have aZ : (sizeOf 3).run ai W = .ok 1 W := by go_simp
 have hp : ∀ (xs : Array Value) (off : Nat) (v : Value), xs[off]? = some v → (part 3 xs off).run ai W = .ok v W := fun xs off v h => by
  have aK : (isAgg 3).run ai W = .ok false W := by
   unfold isAgg;simp only [Sem.run_bind, run_underlying hi, Result.andThen_ok, Sem.run_pure]
  unfold part;simp only [Sem.run_bind, aK, Result.andThen_ok, nM, if_false, h, Sem.run_pure]
 simp only [aZ, Result.andThen_ok];rw [Std.Legacy.Range.forIn_eq_forIn_range'];unfold uN;have jF := hp #[.int .i64 a, .int .i64 b, .int .i64 c, .int .i64 d, .int .i64 e, .int .i64 f] (0 * 1) (.int .i64 a) rfl;have cY := hp #[.int .i64 a', .int .i64 bO, .int .i64 c', .int .i64 d', .int .i64 bw, .int .i64 kH] (0 * 1) (.int .i64 a') rfl;have p1 := hp #[.int .i64 a, .int .i64 b, .int .i64 c, .int .i64 d, .int .i64 e, .int .i64 f] (1 * 1) (.int .i64 b) rfl;have q1 := hp #[.int .i64 a', .int .i64 bO, .int .i64 c', .int .i64 d', .int .i64 bw, .int .i64 kH] (1 * 1) (.int .i64 bO) rfl;have p2 := hp #[.int .i64 a, .int .i64 b, .int .i64 c, .int .i64 d, .int .i64 e, .int .i64 f] (2 * 1) (.int .i64 c) rfl;have q2 := hp #[.int .i64 a', .int .i64 bO, .int .i64 c', .int .i64 d', .int .i64 bw, .int .i64 kH] (2 * 1) (.int .i64 c') rfl;have p3 := hp #[.int .i64 a, .int .i64 b, .int .i64 c, .int .i64 d, .int .i64 e, .int .i64 f] (3 * 1) (.int .i64 d) rfl;have cg := hp #[.int .i64 a', .int .i64 bO, .int .i64 c', .int .i64 d', .int .i64 bw, .int .i64 kH] (3 * 1) (.int .i64 d') rfl;have p4 := hp #[.int .i64 a, .int .i64 b, .int .i64 c, .int .i64 d, .int .i64 e, .int .i64 f] (4 * 1) (.int .i64 e) rfl;have ep := hp #[.int .i64 a', .int .i64 bO, .int .i64 c', .int .i64 d', .int .i64 bw, .int .i64 kH] (4 * 1) (.int .i64 bw) rfl;have qK := hp #[.int .i64 a, .int .i64 b, .int .i64 c, .int .i64 d, .int .i64 e, .int .i64 f] (5 * 1) (.int .i64 f) rfl;have ln := hp #[.int .i64 a', .int .i64 bO, .int .i64 c', .int .i64 d', .int .i64 bw, .int .i64 kH] (5 * 1) (.int .i64 kH) rfl;rw [show List.range' [:6].start [:6].size [:6].step = [0, 1, 2, 3, 4, 5] from rfl];simp only [List.forIn_cons, List.forIn_nil, Sem.run_bind, jF, cY, p1, q1, p2, q2, p3, cg, p4, ep, qK, ln, Result.andThen_ok, run_equalIn_int W n _ .i64 .i64 _ _ hi]
 by_cases aK : a = a'
 case neg => simp [aK]
 subst aK;simp only [beq_self_eq_true, Bool.not_true, nM, if_false, Sem.run_pure, Sem.run_bind, jF, cY, p1, q1, p2, q2, p3, cg, p4, ep, qK, ln, Result.andThen_ok, run_equalIn_int W n _ .i64 .i64 _ _ hi]
 by_cases ab : b = bO
 case neg => simp [ab]
 subst ab;simp only [beq_self_eq_true, Bool.not_true, nM, if_false, Sem.run_pure, Sem.run_bind, jF, cY, p1, q1, p2, q2, p3, cg, p4, ep, qK, ln, Result.andThen_ok, run_equalIn_int W n _ .i64 .i64 _ _ hi]
 by_cases ak : c = c'
 case neg => simp [ak]
 subst ak;simp only [beq_self_eq_true, Bool.not_true, nM, if_false, Sem.run_pure, Sem.run_bind, jF, cY, p1, q1, p2, q2, p3, cg, p4, ep, qK, ln, Result.andThen_ok, run_equalIn_int W n _ .i64 .i64 _ _ hi]
 by_cases hd : d = d'
 case neg => simp [hd]
 subst hd;simp only [beq_self_eq_true, Bool.not_true, nM, if_false, Sem.run_pure, Sem.run_bind, jF, cY, p1, q1, p2, q2, p3, cg, p4, ep, qK, ln, Result.andThen_ok, run_equalIn_int W n _ .i64 .i64 _ _ hi]
 by_cases he : e = bw
 case neg => simp [he]
 subst he;simp only [beq_self_eq_true, Bool.not_true, nM, if_false, Sem.run_pure, Sem.run_bind, jF, cY, p1, q1, p2, q2, p3, cg, p4, ep, qK, ln, Result.andThen_ok, run_equalIn_int W n _ .i64 .i64 _ _ hi]
 by_cases ar : f = kH
 case neg => simp [ar]
 subst ar;simp only [beq_self_eq_true, Bool.not_true, nM, if_false, Sem.run_pure, Sem.run_bind, jF, cY, p1, q1, p2, q2, p3, cg, p4, ep, qK, ln, Result.andThen_ok, run_equalIn_int W n _ .i64 .i64 _ _ hi];simp
abbrev v6 (a b c d e f : Int) : aj := .w (.agg [.c (.int .i64 a), .c (.int .i64 b), .c (.int .i64 c), .c (.int .i64 d), .c (.int .i64 e), .c (.int .i64 f)])
theorem VB : ai.eqGuardType ai.depth 126 = false := by kernel_rfl
theorem Kj {s : aC} {ops : Array Oper} {K : aC → Prop} {rest : List Oper} {ty : Nat} {pos : String} {after : Array Edge} {guard : Option (Nat × Bool)} {o dK : Nat} {x y : Operand} {a b c d e f a' bO c' d' bw kH : Int} (hw : want ops ⟨some o, .binOp .eql 126 x y dK, ty, pos, after, guard⟩ s = some true) (aa : s.look x = some (v6 a b c d e f)) (ah : s.look y = some (v6 a' bO c' d' bw kH)) (hd : Nat.blt o s.n = true) (h : bi ai ops K rest (s.put (some o) (bE (uN a b c d e f a' bO c' d' bw kH)))) : bi ai ops K (⟨some o, .binOp .eql 126 x y dK, ty, pos, after, guard⟩ :: rest) s :=
 rp hw aa ah rfl rfl (fun W => B3 VB) (fun W => by rw [run_eql_struct, show (10000 : Nat) = 9998 + 1 + 1 from rfl, VA]; rfl) rfl hd h
abbrev afh (k rm ph I J T : Int) (dirty : Bool) (hot fnd : List an) (ch : List (List an × List Int)) : List AC := [.c (.int .i64 k), .c (.int .i64 rm), .c (.int .i64 ph), .c (.int .i64 I), .c (.int .i64 J), .c (.int .i64 T), .c (.bool dirty), .p (cB 2 hot.length (b5 hot)), .p (cB 2 fnd.length (b5 fnd)), .p (cB 2 ch.length (eC ch))]
abbrev xF (k rm ph I J T : Int) (dirty : Bool) (hot fnd : List an) (ch : List (List an × List Int)) : aj := .w (.agg (afh k rm ph I J T dirty hot fnd ch))
theorem Im {k rm ph I J T : Int} {dirty : Bool} {hot fnd : List an} {ch : List (List an × List Int)} : aR ai 83 [xF k rm ph I J T dirty hot fnd ch] (v6 k rm ph I J T) := by
 refine cc (f := 83) Tryz.func83 rfl rfl rfl rfl ?_;(repeat first | (with_reducible apply aA); exact rfl | (with_reducible first | apply bN | apply bH | apply bL | apply aB | apply b6))
 ((refine bR rfl (e0 rfl rfl rfl bf) ?_))
 exact aj.bp.refl _
abbrev I9 : aj := aQ (.func (.func 50) #[] #[])
def RL (L M : List (List an × List Int)) (k : Nat) (aS : List (Nat × aj)) (bF : List (Nat × List AC)) : Prop :=
 ∃ (i : Nat) (ii : Int), i ≤ L.length ∧ k = L.length - i ∧ ii = i ∧ bF = [] ∧ aS = [(1, sF M), (2, I9), (15, sF L), (16, aT L.length), (17, aT ii)]
theorem abZ {L M : List (List an × List Int)} (ak : j8 L) (Gm : L = M) : aR ai 85 [sF L, sF M, I9] (bE true) := by
 have hlen := ak.1;have hD : (L.length : Int) = M.length := by rw [Gm]
 refine cc (f := 85) Tryz.func85 rfl rfl rfl rfl ?_;(repeat first | (with_reducible apply aA); exact rfl | (with_reducible apply db); (iterate 3 exact rfl) | (with_reducible first | apply bN | apply bH | apply bL | apply aB | apply eR | apply gp) | (with_reducible apply hz); exact rfl; ((simp only [iF]; (omega))));refine wg 32 (RL L M) L.length _ [] ⟨0, 0, eF _, rfl, rfl, rfl, rfl⟩ rfl ⟨rfl, rfl, rfl, rfl, rfl, trivial⟩ trivial rfl ?_;rintro n aS bF ⟨j, fu, ae, rfl, qt, rfl, rfl⟩ ee;clear ee
 by_cases hp : j < L.length
 ·have p2 : fu < (L.length : Int) := by omega
  have p3 : 0 ≤ fu := by omega
  have p4 : fu < (M.length : Int) := by omega
  obtain ⟨V, D, g1⟩ : ∃ V D, L[j]? = some (V, D) := ⟨_, _, cp hp⟩;have g2 : M[j]? = some (V, D) := by rw [← Gm]; exact g1
  obtain ⟨jU, hB⟩ := ak.2 _ (dG g1);simp only at jU hB;have j9 := yl qt g1;have na := yl qt g2;have aM := Zu V V D D hB (by omega) hB (by omega);rw [bG rfl, bG rfl] at aM;clear Gm;(repeat first | (with_reducible apply aA); exact rfl | (with_reducible apply ha); (iterate 5 exact rfl) | (with_reducible apply fB); (iterate 3 exact rfl); (omega); (omega); (assumption); exact rfl | (with_reducible apply fe); (iterate 3 exact rfl); (exact cX (by omega)); exact rfl | refine dI rfl rfl rfl rfl (by (exact aM)) rfl ?_ | (with_reducible first | apply bN | apply bH | apply bL | apply aB | apply eR | apply gp | apply mG) | (with_reducible apply hA); exact rfl | (with_reducible apply gf); exact rfl; (exact bG (by omega)));exact ⟨L.length - (j + 1), _, [], by omega, ⟨j + 1, fu + 1, hp, rfl, by omega, rfl, rfl⟩, rfl, ⟨rfl, rfl, rfl, rfl, rfl, trivial⟩, trivial, rfl⟩
 ·have p2 : ¬ fu < (L.length : Int) := by omega
  (repeat first | (with_reducible apply aA); exact rfl | (with_reducible first | apply bN | apply bH | apply bL | apply aB | apply b6 | apply uC | apply uG | apply uF) | (with_reducible apply hz); exact rfl; (exact b3 (by omega)))
  ((refine bR rfl (bC rfl bf) ?_))
  exact aj.bp.refl _
theorem abY {L : List (List an × List Int)} (ak : j8 L) : aR ai 85 [sF L, sF L, I9] (bE true) := abZ ak rfl
theorem ach {k rm ph I J T : Int} {dirty : Bool} {hot fnd : List an} {ch : List (List an × List Int)} (a6 : hot.length ≤ 1000000) (ar : fnd.length ≤ 1000000) (ak : j8 ch) : aR ai 43 [xF k rm ph I J T dirty hot fnd ch, xF k rm ph I J T dirty hot fnd ch] (bE true) := by
 have aM := Im (k := k) (rm := rm) (ph := ph) (I := I) (J := J) (T := T) (dirty := dirty) (hot := hot) (fnd := fnd) (ch := ch);have bU := Ii (D := hot) (E := hot) a6;have e8 := Ii (D := fnd) (E := fnd) ar;have mZ := abY ak;rw [bG rfl] at bU e8;have fV : uN k rm ph I J T k rm ph I J T = true := by unfold uN; simp
 refine cc (f := 43) Tryz.func43 rfl rfl rfl rfl ?_;(repeat first | (with_reducible apply aA); exact rfl | refine eO rfl rfl rfl (by (exact aM)) rfl ?_ | (with_reducible apply h9); kernel_rfl; kernel_rfl; exact rfl | (with_reducible first | apply bN | apply bH | apply bL | apply aB));refine Kj rfl rfl rfl rfl ?_;rw [fV];have uT : (dirty == dirty) = true := by simp
 have ahd : decide (dirty = dirty) = true := by simp
 (repeat first | (with_reducible apply aA); exact rfl | refine dI rfl rfl rfl rfl (by (first | exact bU | exact e8)) rfl ?_ | refine jS rfl rfl rfl rfl rfl (by (exact mZ)) rfl ?_ | (with_reducible apply rp); (iterate 5 exact rfl); (intro W; go_simp; try rfl); (intro W; go_simp; try rfl); exact rfl; exact rfl | (with_reducible apply h6); kernel_rfl | (with_reducible first | apply bH | apply b6))
 ((refine bR rfl (bC rfl bf) ?_))
 exact aj.bp.refl _
theorem acg {k rm ph I J T k' rm' ph' I' J' T' : Int} {dirty dirty' : Bool} {hot fnd hot' fnd' : List an} {ch ch' : List (List an × List Int)} (aE : uN k rm ph I J T k' rm' ph' I' J' T' = false) : aR ai 43 [xF k rm ph I J T dirty hot fnd ch, xF k' rm' ph' I' J' T' dirty' hot' fnd' ch'] (bE false) := by
 have aM := Im (k := k) (rm := rm) (ph := ph) (I := I) (J := J) (T := T) (dirty := dirty) (hot := hot) (fnd := fnd) (ch := ch);have bU := Im (k := k') (rm := rm') (ph := ph') (I := I') (J := J') (T := T') (dirty := dirty') (hot := hot') (fnd := fnd') (ch := ch');refine cc (f := 43) Tryz.func43 rfl rfl rfl rfl ?_;(repeat first | (with_reducible apply aA); exact rfl | refine eO rfl rfl rfl (by (first | exact aM | exact bU)) rfl ?_ | (with_reducible apply h9); kernel_rfl; kernel_rfl; exact rfl | (with_reducible first | apply bN | apply bH | apply bL | apply aB));refine Kj rfl rfl rfl rfl ?_;rw [aE];(repeat first | (with_reducible apply aA); exact rfl | (with_reducible apply h6); kernel_rfl | (with_reducible first | apply bH | apply b6))
 ((refine bR rfl (bC rfl bf) ?_))
 exact aj.bp.refl _
theorem bV.IV {U : Nat → Prop} {ad : Nat → Nat} {W : World} {cs : List AC} {vs : List Value} {i : Nat} {u : Value} {x : AC} (h : bV U ad W cs vs) (hi : cs[i]? = some (.c u)) (aa : gn U ad W x u) : bV U ad W (cs.set i x) vs := by
 refine ⟨by rw [List.length_set]; exact h.1, fun j y v ah hv => ?_⟩;rw [List.getElem?_set] at ah
 split at ah
 ·rename_i e;subst e
  split at ah
  ·cases ah;have := (h.2 i _ v hi hv).1;subst this; exact aa
  ·cases ah
 ·exact h.2 j y v ah hv
theorem adR {hv fv cv : Value} {hot fnd : List an} {ch : List (List an × List Int)} {R : aJ} (aL : R 4 = none) (dk : R 5 = none) (fV : R 6 = none) : n9 4 (n9 5 (n9 6 (lu hv fv cv hot fnd ch R))) = R := by
 funext k;unfold n9
 by_cases eD : k = 4
 ·subst eD; rw [if_pos rfl, aL]
 ·rw [if_neg eD]
  by_cases k9 : k = 5
  ·subst k9; rw [if_pos rfl, dk]
  ·rw [if_neg k9]
   by_cases rE : k = 6
   ·subst rE; rw [if_pos rfl, fV]
   ·rw [if_neg rE];unfold lu; rw [cl _ _ rE, cl _ _ k9, cl _ _ eD]
section
variable {E : List (Int × b9)} {r rm : Nat}
theorem du.mo {s : bA.aW an} {cs : List AC} {R : aJ} (h : du E r rm s cs R) : ∀ i, 4 ≤ i → R i = none := by
 obtain ⟨_, _, _, _, _, _, _, _, _, _, rfl⟩ := h;intro i hi
 match i, hi with
 | i + 4, _ => rfl
theorem du.Em {s : bA.aW an} {cs : List AC} {R : aJ} (h : du E r rm s cs R) : ∀ i, i < 4 → ∃ q, R i = some q := by
 obtain ⟨_, _, _, _, _, _, _, _, _, _, rfl⟩ := h;intro i hi
 match i, hi with
 | 0, _ => exact ⟨_, rfl⟩
 | 1, _ => exact ⟨_, rfl⟩
 | 2, _ => exact ⟨_, rfl⟩
 | 3, _ => exact ⟨_, rfl⟩
abbrev EA (r rm : Nat) (s : bA.aW an) : aj := xF r rm s.ph s.I s.J s.T s.dirty s.hot s.fnd s.ch
theorem Zx {s : bA.aW an} (a6 : s.hot.length ≤ 900000) (ar : s.fnd.length ≤ 900000) (ak : j8 s.ch) : fT E r rm 28 [] s (EA r rm s) s := by
 intro cs R br;have r9 := br.mo 4 (by decide);have H6 := br.mo 5 (by decide);have H7 := br.mo 6 (by decide);have h := Zw a6 ar ak br
 have h1 := h.uJ 6 H7 (Post2 := fun ca aG az => ∃ hv fv, ca = .w (.agg ((oR r rm s.ph s.I s.J s.T s.dirty hv fv jD).set 9 (.p (cB 2 s.ch.length (eC s.ch))))) ∧ aG = cI 1000 cs ∧ ∃ cv, az = n9 6 (lu hv fv cv s.hot s.fnd s.ch R)) (by
  rintro ca aG az ⟨au, rfl, hv, fv, cv, rfl, rfl, rfl⟩;refine ⟨_, _, cr _ _ _, jd _, fun U ad W v h aD => ?_, fun j ae => ?_, hv, fv, rfl, rfl, cv, rfl⟩
  ·obtain ⟨vs, e, ao⟩ := h;exact ⟨vs, e, (ao.IV (i := 9) rfl aD : bV U ad W ((oR r rm s.ph s.I s.J s.T s.dirty hv fv cv).set 9 _) vs)⟩
  ·exact absurd ae (aj.dy rfl j))
 have h2 := h1.uJ 5 H6 (Post2 := fun ca aG az => ∃ hv, ca = .w (.agg (((oR r rm s.ph s.I s.J s.T s.dirty hv jD jD).set 9 (.p (cB 2 s.ch.length (eC s.ch)))).set 8 (.p (cB 2 s.fnd.length (b5 s.fnd))))) ∧ aG = cI 1000 cs ∧ ∃ fv cv, az = n9 5 (n9 6 (lu hv fv cv s.hot s.fnd s.ch R))) (by
  rintro ca aG az ⟨hv, fv, rfl, rfl, cv, rfl⟩;refine ⟨im fv s.fnd, _, rfl, jd _, fun U ad W v h aD => ?_, fun j ae => ?_, hv, rfl, rfl, fv, cv, rfl⟩
  ·obtain ⟨vs, e, ao⟩ := h;exact ⟨vs, e, (ao.IV (i := 8) rfl aD)⟩
  ·exact absurd ae (aj.dy rfl j))
 have ap := h2.uJ 4 r9 (Post2 := nY 1000 fun ca au az => ca = EA r rm s ∧ du E r rm s au az) (by
  rintro ca aG az ⟨hv, rfl, rfl, fv, cv, rfl⟩;refine ⟨im hv s.hot, EA r rm s, rfl, jd _, fun U ad W v h aD => ?_, fun j ae => ?_, cs, rfl, rfl, ?_⟩
  ·obtain ⟨vs, e, ao⟩ := h;exact ⟨vs, e, (ao.IV (i := 7) rfl aD)⟩
  ·exact absurd ae (aj.dy rfl j)
  ·rw [adR r9 H6 H7]; exact br)
 exact ap
def fc (i : Nat) : Nat := if i < 10 then i + 20 else if i < 20 then i else if i < 30 then i - 20 else i
theorem IP (j : Nat) : fc (fc j) = j := by
 unfold fc
 by_cases h1 : j < 10
 ·simp only [if_pos h1];rw [if_neg (by omega), if_neg (by omega), if_pos (by omega)]; omega
 ·by_cases h2 : j < 20
  ·simp only [if_neg h1, if_pos h2]
  ·by_cases ap : j < 30
   ·simp only [if_neg h1, if_neg h2, if_pos ap];rw [if_pos (by omega)]; omega
   ·simp only [if_neg h1, if_neg h2, if_neg ap]
def JL (k : Nat) (b7 : Nat → Nat) (E : List (Int × b9)) (r rm : Nat) (f : FuncId) (args : List aj) (s : bA.aW an) (v : aj) (s' : bA.aW an) : Prop :=
 ∀ cs R, du E r rm s cs R → c6 ai f (.w (.one (.own k 0)) :: args) (cI k cs) (R.ba b7) (nY k fun ca au az => ca = v ∧ ∃ bl, du E r rm s' au bl ∧ az = bl.ba b7)
theorem fT.n5 (k : Nat) {b7 : Nat → Nat} (fF : ∀ j, b7 (b7 j) = j) {f : FuncId} {args : List aj} {s s' : bA.aW an} {v : aj} (h : fT E r rm f args s v s') (ea : args.all aj.bb = true) (hv : v.bb = true) : JL k b7 E r rm f args s v s' := fun cs R br => by
 have h1 := c6.at k (h cs R br) ea br.closed (fun ca ds az al => ⟨by rw [al.1]; exact hv, al.2.closed⟩);refine (h1.rn fF).imp ?_;rintro ca aG az ⟨bl, ⟨au, rfl, rfl, ck⟩, rfl⟩;exact ⟨au, rfl, rfl, bl, ck, rfl⟩
end
section
variable {R : aJ} {s : aC} {ops : Array Oper} {dr : Option (List Nat)} {ty : Nat} {pos : String} {after : Array Edge} {guard : Option (Nat × Bool)} {K : aJ → aC → Prop} {rest : List Oper}
theorem mN (k : Nat) (b7 : Nat → Nat) {E : List (Int × b9)} {r rm : Nat} {en s1 : bA.aW an} {v : aj} {dst : Option Nat} {f : FuncId} {g : Operand} {aS : Array TypeId} {l : List Operand} {args : List aj} {cs : List AC} {R0 : aJ} [EN : Enters ai f] (hw : want ops ⟨dst, .call ⟨.value g, l.toArray, aS⟩, ty, pos, after, guard⟩ s = some true) (hm : dL dr ⟨dst, .call ⟨.value g, l.toArray, aS⟩, ty, pos, after, guard⟩ = true)
  (aw : s.look g = some (aQ (.func (.func f) #[] #[]))) (aK : l.map s.look = (aj.w (.one (.own k 0)) :: args).map some) (af : s.mem k = some cs) (hj : oS dr k = true) (ea : args.all aj.bb = true) (hd : kF dst s.n = true) (hp : JL k b7 E r rm f args en v s1) (br : du E r rm en cs R0) (aq : bM (R0.ba b7) R)
  (h : ∀ au bl, du E r rm s1 au bl → cL ai ops dr K rest (b0 (bl.ba b7) R) ((s.dX k au).put dst v)) : cL ai ops dr K (⟨dst, .call ⟨.value g, l.toArray, aS⟩, ty, pos, after, guard⟩ :: rest) R s := by
 refine CP k hw hm aw aK (hp cs R0 br) af hj aq br.closed ea hd ?_;rintro _ au az ⟨rfl, bl, aF, rfl⟩;exact h au bl aF
end
abbrev two (gm fr : aJ) : aJ := b0 gm (fr.ba fc)
section
variable {E AX : List (Int × b9)} {r rm a7 rm' : Nat} {s s1 t t1 : bA.aW an} {cs Ux ds FN : List AC} {gm uw fr o4 : aJ}
theorem Eu : bM gm (two gm fr) := fun i q h => hn h
theorem QS (aK : du E r rm s cs gm) (ab : du AX a7 rm' t ds fr) : bM (fr.ba fc) (two gm fr) := fun i q h => by
 have hi : 4 ≤ i := Nat.not_lt.1 fun bj => by
  have : fr (fc i) = none := ab.mo _ (by unfold fc; rw [if_pos (by omega)]; omega);rw [show fr.ba fc i = fr (fc i) from rfl, this] at h; cases h
 rw [show two gm fr i = b0 gm (fr.ba fc) i from rfl, ho (aK.mo i hi)]; exact h
theorem Ev (aK : du E r rm s cs gm) (Gx : du E r rm s1 Ux uw) : b0 uw (two gm fr) = two uw fr := by
 funext i
 by_cases hi : i < 4
 ·obtain ⟨q, al⟩ := Gx.Em i hi;rw [hn al, show two uw fr i = b0 uw (fr.ba fc) i from rfl, hn al]
 ·rw [ho (Gx.mo i (by omega)), show two gm fr i = b0 gm (fr.ba fc) i from rfl, show two uw fr i = b0 uw (fr.ba fc) i from rfl, ho (aK.mo i (by omega)), ho (Gx.mo i (by omega))]
theorem QT (aK : du E r rm s cs gm) (ab : du AX a7 rm' t ds fr) (bD : du AX a7 rm' t1 FN o4) : b0 (o4.ba fc) (two gm fr) = two gm o4 := by
 funext i
 by_cases hi : i < 4
 ·obtain ⟨q, al⟩ := aK.Em i hi;have : o4 (fc i) = none := bD.mo _ (by unfold fc; rw [if_pos (by omega)]; omega);rw [ho (show o4.ba fc i = none from this), show two gm fr i = b0 gm (fr.ba fc) i from rfl, show two gm o4 i = b0 gm (o4.ba fc) i from rfl, hn al, hn al]
 ·have aE := aK.mo i (by omega);rw [show two gm o4 i = b0 gm (o4.ba fc) i from rfl, ho aE]
  by_cases aL : fc i < 4
  ·obtain ⟨q, al⟩ := bD.Em _ aL;rw [hn (show o4.ba fc i = some q from al)]; exact al.symm
  ·have h1 : o4.ba fc i = none := bD.mo _ (by omega);have h2 : fr.ba fc i = none := ab.mo _ (by omega);rw [ho h1, show two gm fr i = b0 gm (fr.ba fc) i from rfl, ho aE, h1, h2]
theorem afj (aK : du E r rm s cs gm) (ab : du AX a7 rm' t ds fr) : b0 (fr.ba fc) gm = two gm fr := by
 funext i
 by_cases hi : i < 4
 ·obtain ⟨q, al⟩ := aK.Em i hi;have : fr (fc i) = none := ab.mo _ (by unfold fc; rw [if_pos (by omega)]; omega);rw [ho (show fr.ba fc i = none from this), show two gm fr i = b0 gm (fr.ba fc) i from rfl, hn al, al]
 ·rw [show two gm fr i = b0 gm (fr.ba fc) i from rfl, ho (aK.mo i (by omega))];cases al : fr.ba fc i with
  | some q => exact hn al
  | none => rw [ho al]; exact aK.mo i (by omega)
end
theorem Hz (k : Nat) {b7 : Nat → Nat} (fF : ∀ j, b7 (b7 j) = j) {E : List (Int × b9)} {K n : Int} (ao : E.length ≤ 300) (h : gw (E.map Prod.snd) = true) : c6 ai 17 [jK E, aT K, aT n] cb fW fun ca aG az => ∃ cs bl, ca = .w (.one (.own k 0)) ∧ aG = cI k cs ∧ az = bl.ba b7 ∧ du E (e7 K) (ez n) (fw (bz E (e7 K) (ez n))) cs bl := by
 have h1 := (Zs (k := K) (n := n) ao h).ba (mz 24 k) (b7 := b7) (h4 := b7) fF fF;refine c6.imp (show c6 ai 17 [jK E, aT K, aT n] cb fW _ from h1) ?_;rintro ca aG az ⟨cQ, m1, bl, ⟨cs, rfl, rfl, br⟩, rfl, rfl, rfl⟩;refine ⟨cs, bl, ?_, vk br.closed, rfl, br⟩;show aj.w (.one (.own (swp 24 k 24) 0)) = _;rw [Ar]
abbrev nk : List (Int × b9) := [(0, (0, 0), (4, 4)), (0, (0, 4), (4, 0))]
abbrev gd (rm : Nat) : cP an := bz nk 0 rm
def qd : bA.aW an := (eH (gd 9) 3 (fw (gd 9))).2
def sO : bA.aW an := (eH (gd 9) 1000 qd).2
def Bt : bA.aW an := (eH (gd 4) 100 (fw (gd 4))).2
theorem Ke : (eH (gd 9) 3 (fw (gd 9))).2 = qd := by unfold qd; rfl
theorem Kf : (eH (gd 9) 1000 qd).2 = sO := by unfold sO; rfl
theorem Kg : (eH (gd 4) 100 (fw (gd 4))).2 = Bt := by unfold Bt; rfl
theorem SU : (eH (gd 9) 3 (fw (gd 9))).1 = 3 := by decide +kernel
theorem SV : qd.ph = 2 ∧ qd.hot.length = 5 := by decide +kernel
theorem SW : (eH (gd 9) 1000 qd).1 = 36 := by decide +kernel
theorem SX : sO.ph = 4 ∧ sO.ch.length = 2 ∧ (sO.ch.map fun c => c.1.length) = [3, 3] ∧ sO.ch[0]? = some ([(0, 0), (2, 2), (4, 4)], [2, 2]) := by decide +kernel
theorem SY : Bt.ph = 5 := by decide +kernel
section
variable {E : List (Int × b9)} {r rm : Nat}
theorem IJ (h : iC E r rm) {n : Nat} {s : bA.aW an} (br : mF E r rm s) : mF E r rm (eH (bz E r rm) n s).2 := by
 rw [(Ed n s).1]; exact (C3 h.ok _ br).1
theorem iC.st (h : iC E r rm) {s : bA.aW an} (br : mF E r rm s) : s.hot.length ≤ 1024 ∧ s.fnd.length ≤ 1024 ∧ j8 s.ch := by
 have ab := br.1;have a6 := h.hot ab;have nil : j8 [] := ⟨eF _, fun c ak => by cases ak⟩;refine ⟨a6, ?_⟩;obtain ⟨_, aH | h1 | h2 | ap | aL | dk⟩ := br
 ·rw [aH.fnd, aH.ch]; exact ⟨eF _, nil⟩
 ·rw [h1.fnd, h1.ch]; exact ⟨eF _, nil⟩
 ·obtain ⟨c, p, q, _, _, _, ar⟩ := h2.link;refine ⟨?_, h.wq ab h2.laid⟩;rw [ar];refine kS (List.length_filter_le ..) ?_;rw [eh]; omega
 ·rw [ap.fnd]; exact ⟨eF _, h.wq ab ap.laid⟩
 ·rw [aL.fnd]; exact ⟨eF _, h.wq ab aL.laid⟩
 ·rw [dk.fnd];refine ⟨eF _, ?_⟩;rcases dk.ch with ⟨ak, _⟩ | ao
  ·rw [ak]; exact nil
  ·exact h.wq ab ao
theorem HA (h : iC E r rm) {s : bA.aW an} (br : mF E r rm s) : fT E r rm 28 [] s (EA r rm s) s := by
 obtain ⟨a, b, c⟩ := h.st br;exact Zx (by omega) (by omega) c
end
section
variable {R : aJ} {s : aC} {ops : Array Oper} {dr : Option (List Nat)} {ty : Nat} {pos : String} {after : Array Edge} {guard : Option (Nat × Bool)} {K : aJ → aC → Prop} {rest : List Oper}
theorem ze (k : Nat) (b7 : Nat → Nat) {E : List (Int × b9)} {r rm : Nat} {en : bA.aW an} {dst : Option Nat} {f : FuncId} {g : Operand} {aS : Array TypeId} {l : List Operand} {args : List aj} [EN : Enters ai f] (hw : want ops ⟨dst, .call ⟨.value g, l.toArray, aS⟩, ty, pos, after, guard⟩ s = some true) (hm : dL dr ⟨dst, .call ⟨.value g, l.toArray, aS⟩, ty, pos, after, guard⟩ = true)
  (aw : s.look g = some (aQ (.func (.func f) #[] #[]))) (aK : l.map s.look = args.map some) (hp : c6 ai f args cb fW fun ca aG az => ∃ cs bl, ca = .w (.one (.own k 0)) ∧ aG = cI k cs ∧ az = bl.ba b7 ∧ du E r rm en cs bl) (af : s.mem k = none) (bj : Nat.blt k s.n = true) (ea : args.all aj.bb = true) (hd : kF dst s.n = true)
  (h : ∀ cs bl, du E r rm en cs bl → cL ai ops dr K rest (b0 (bl.ba b7) R) ((s.dX k cs).put dst (.w (.one (.own k 0))))) : cL ai ops dr K (⟨dst, .call ⟨.value g, l.toArray, aS⟩, ty, pos, after, guard⟩ :: rest) R s := by
 refine u6 hw hm aw aK hp (fun x aa j ae => absurd ae (aj.dy (ct.1 ea x aa) j)) (fun k' au aF => by cases aF) (fun ft a7 aF => by cases aF) (fun k' au x j aF aa ae => by cases aF) hd ?_;rintro ca aG az ⟨cs, bl, rfl, rfl, rfl, br⟩;refine ⟨fun k' c aF => ?_, ?_⟩
 ·obtain ⟨rfl, rfl⟩ := hl aF;exact .inr ⟨af, by simpa [Nat.blt_eq] using bj⟩
 ·have aO : s.over (cI k cs) = s.dX k cs := by
   show ({ s with mem := b0 (bQ cb k cs) s.mem } : aC) = { s with mem := bQ s.mem k cs };rw [show b0 (bQ cb k cs) s.mem = bQ s.mem k cs from vu s.mem k cs]
  rw [aO];exact h cs bl br
end
theorem DJ (R : aJ) : b0 R fW = R := by
 funext i;cases h : R i with
 | none => rw [ho h]; rfl
 | some q => exact hn h
abbrev dq : Nat → Nat := fun j => j
theorem nF (j : Nat) : dq (dq j) = j := rfl
theorem x7 (rm : Nat) (h1 : 1 ≤ rm) (h2 : rm ≤ 1024) : iC nk 0 rm := ⟨eF _, by decide, by decide, h1, h2⟩
theorem SZ : uL sO.ch = 2 := by decide +kernel
theorem Iq {α β : Type} (x : α × β) {a : α} (h : x.1 = a) : x = (a, x.2) := by subst h; rfl
theorem Td : ∃ fK fU o5 : bA.aW an, eH (gd 9) 3 (fw (gd 9)) = (3, fK) ∧ eH (gd 9) 1000 fK = (36, fU) ∧ eH (gd 4) 100 (fw (gd 4)) = ((eH (gd 4) 100 (fw (gd 4))).1, o5) ∧ mF nk 0 9 fK ∧ mF nk 0 9 fU ∧ mF nk 0 4 o5 ∧ fK.ph = 2 ∧ fK.hot.length = 5 ∧ fU.ph = 4 ∧ fU.ch.length = 2 ∧ fU.ch[0]? = some ([(0, 0), (2, 2), (4, 4)], [2, 2]) ∧ uL fU.ch = 2 ∧ o5.ph = 5 := by
 have i1 : mF nk 0 9 (eH (gd 9) 3 (fw (gd 9))).2 := IJ (n := 3) (s := fw (gd 9)) (x7 9 (by decide) (by decide)) (vq (gd 9) _);rw [Ke] at i1;have i2 : mF nk 0 9 (eH (gd 9) 1000 qd).2 := IJ (n := 1000) (s := qd) (x7 9 (by decide) (by decide)) i1;rw [Kf] at i2;have i3 : mF nk 0 4 (eH (gd 4) 100 (fw (gd 4))).2 := IJ (n := 100) (s := fw (gd 4)) (x7 4 (by decide) (by decide)) (vq (gd 4) _);rw [Kg] at i3;have aI := Iq _ SU;rw [Ke] at aI;have aO := Iq _ SW;rw [Kf] at aO;have cD := Iq (eH (gd 4) 100 (fw (gd 4))) rfl;rw [Kg] at cD;have f1 := SV;have f2 := SX;have f3 := SZ;have f4 := SY;generalize qd = fK at *;generalize sO = fU at *;generalize Bt = o5 at *;exact ⟨fK, fU, o5, aI, aO, cD, i1, i2, i3, f1.1, f1.2, f2.1, f2.2.1, f2.2.2.2, f3, f4⟩
theorem acm : aR ai 16 [] (bE true) := by
 obtain ⟨fK, fU, o5, cQ, dN, hM, i1, i2, i3, f1, f2, f3, f4, f5, f6, f7⟩ := Td;have pZ := x7 9 (by decide) (by decide);have fh := x7 4 (by decide) (by decide);have Bd := Hz 15 (b7 := dq) nF (E := nk) (K := 0) (n := 9) (by decide) (by decide);have Jz := Hz 27 (b7 := fc) IP (E := nk) (K := 0) (n := 4) (by decide) (by decide);rw [show e7 0 = 0 from by decide, show ez 9 = 9 from by decide] at Bd;rw [show e7 0 = 0 from by decide, show ez 4 = 4 from by decide] at Jz;have bl := C6 pZ (vq _ _) (n := 3) (by decide);have eV := C6 pZ i1 (n := 1000) (by decide);have jO := C6 fh (vq _ _) (n := 100) (by decide);rw [show (3 : Int).toNat = 3 from rfl, cQ] at bl;rw [show (1000 : Int).toNat = 1000 from rfl, dN] at eV;rw [show (100 : Int).toNat = 100 from rfl, hM] at jO;clear cQ dN hM;have bl := bl.n5 15 (b7 := dq) nF rfl rfl;have eV := eV.n5 15 (b7 := dq) nF rfl rfl;have jO := jO.n5 27 (b7 := fc) IP rfl rfl;have qb := (HA pZ i1).n5 15 (b7 := dq) nF rfl rfl;have vX := (HA pZ i2).n5 15 (b7 := dq) nF rfl rfl;have iB := (Nw (E := nk) (r := 0) (rm := 9) (s := fU)).n5 15 (b7 := dq) nF rfl rfl;have Bf := (Nw (E := nk) (r := 0) (rm := 4) (s := o5)).n5 27 (b7 := fc) IP rfl rfl;have Jq := (Zn (E := nk) (r := 0) (rm := 9) (s := fU) (pZ.st i2).2.2).n5 15 (b7 := dq) nF rfl rfl;have mE := (HB pZ i2).n5 15 (b7 := dq) nF rfl rfl;rw [(xE pZ.ok i2).2.2 (by omega), b3 (by omega)] at mE;have Bb := ach (k := (0 : Nat)) (rm := (9 : Nat)) (ph := fU.ph) (I := fU.I) (J := fU.J) (T := fU.T) (dirty := fU.dirty) (hot := fU.hot) (fnd := fU.fnd) (ch := fU.ch) (by have := (pZ.st i2).1; omega) (by have := (pZ.st i2).2.1; omega) (pZ.st i2).2.2;have R8 := acg (k := (0 : Nat)) (rm := (9 : Nat)) (ph := fK.ph) (I := fK.I) (J := fK.J) (T := fK.T) (dirty := fK.dirty) (hot := fK.hot) (fnd := fK.fnd) (ch := fK.ch) (k' := (0 : Nat)) (rm' := (9 : Nat)) (ph' := fU.ph) (I' := fU.I) (J' := fU.J) (T' := fU.T) (dirty' := fU.dirty) (hot' := fU.hot) (fnd' := fU.fnd) (ch' := fU.ch) (by rw [f1, f3]; unfold uN; simp);rw [f6] at Jq;have g1 : (fK.ph : Int) = 2 := by rw [f1]; rfl
 have g2 : (fK.hot.length : Int) = 5 := by rw [f2]; rfl
 have g3 : (fU.ph : Int) = 4 := by rw [f3]; rfl
 have g4 : (fU.ch.length : Int) = 2 := by rw [f4]; rfl
 have g7 : (o5.ph : Int) = 5 := by rw [f7]; rfl
 have j9 := yl (ii := 0) rfl f5;clear pZ fh i1 i2 i3 f1 f2 f3 f4 f6 f7;refine cc (f := 16) Tryz.func16 rfl rfl rfl rfl ?_;refine sT ?_;(repeat first | (with_reducible first | apply bd | apply aX | apply a8 | apply aY) | (with_reducible apply aN); exact rfl; (repeat first | (with_reducible apply aA); exact rfl | (with_reducible apply mH); (iterate 10 exact rfl)); (with_reducible apply aB));refine ze 15 dq rfl rfl rfl rfl Bd rfl rfl rfl rfl (fun cs ur bS => ?_);rw [DJ];(repeat first | (with_reducible first | apply bd | apply aX | apply a8 | apply aY | apply dm) | (with_reducible apply c8); exact rfl; (exact rfl) | (with_reducible apply aN); exact rfl; (repeat first | (with_reducible apply aA); exact rfl | (with_reducible apply x8); exact rfl; exact rfl; kernel_rfl; exact rfl); (with_reducible apply aB));refine mN 15 dq rfl rfl rfl rfl rfl rfl rfl rfl bl bS (bM.refl _) (fun FH nh kx => ?_);rw [show b0 (aJ.ba dq nh) (aJ.ba dq ur) = aJ.ba dq nh from bS.b0 kx];(repeat first | (with_reducible first | apply bd | apply aX | apply a8 | apply aY) | (with_reducible apply aN); exact rfl; (repeat first | (with_reducible apply aA); exact rfl); (with_reducible apply aB));refine mN 15 dq rfl rfl rfl rfl rfl rfl rfl rfl qb kx (bM.refl _) (fun KY uu nX => ?_);rw [show b0 (aJ.ba dq uu) (aJ.ba dq nh) = aJ.ba dq uu from kx.b0 nX];(repeat first | (with_reducible first | apply bd | apply aX | apply a8 | apply aY) | (with_reducible apply aN); exact rfl; (repeat first | (with_reducible apply aA); exact rfl); (with_reducible apply aB));refine mN 15 dq rfl rfl rfl rfl rfl rfl rfl rfl eV nX (bM.refl _) (fun af9 E0 uf => ?_);rw [show b0 (aJ.ba dq E0) (aJ.ba dq uu) = aJ.ba dq E0 from nX.b0 uf];(repeat first | (with_reducible first | apply bd | apply aX | apply a8 | apply aY) | (with_reducible apply aN); exact rfl; (repeat first | (with_reducible apply aA); exact rfl); (with_reducible apply aB));refine mN 15 dq rfl rfl rfl rfl rfl rfl rfl rfl vX uf (bM.refl _) (fun aga xV vL => ?_);rw [show b0 (aJ.ba dq xV) (aJ.ba dq E0) = aJ.ba dq xV from uf.b0 vL];(repeat first | (with_reducible first | apply bd | apply aX | apply a8 | apply aY) | (with_reducible apply aN); exact rfl; (repeat first | (with_reducible apply aA); exact rfl); (with_reducible apply aB));refine ze 27 fc rfl rfl rfl rfl Jz rfl rfl rfl rfl (fun ds JI bt => ?_);rw [show b0 (aJ.ba fc JI) (aJ.ba dq xV) = two xV JI from afj vL bt];(repeat first | (with_reducible first | apply bd | apply aX | apply a8 | apply aY | apply dm) | (with_reducible apply c8); exact rfl; (exact rfl) | (with_reducible apply aN); exact rfl; (repeat first | (with_reducible apply aA); exact rfl | (with_reducible apply x8); exact rfl; exact rfl; kernel_rfl; exact rfl); (with_reducible apply aB));refine mN 27 fc rfl rfl rfl rfl rfl rfl rfl rfl jO bt (QS vL bt) (fun FN vT mB => ?_);rw [QT vL bt mB];(repeat first | (with_reducible apply lx (id := 13) [0,1,2,3,4,5,6,7,8,9,10,11,12,13,14,15,16,17,18,19,20,21,22,23,24,25,26,27,28,29,30,31,32,33,34,35,36,37,38,39,40,41,42,43,44,45,46,47,48,49,50,51,52,53,54,55,56,57,58,59,60,61,62,63,64,65,66,67,68,69,70,71,72,73,74,75] [51,82,87,92,98,2000015,2000027]); kernel_rfl; kernel_rfl; exact rfl | (with_reducible first | apply bd | apply aX | apply aY) | (with_reducible apply aN); exact rfl; (repeat first | (with_reducible apply aA); exact rfl | (with_reducible apply db); (iterate 3 exact rfl) | (with_reducible apply dv (c := true)); exact rfl; exact rfl; (exact bG (by omega))); (with_reducible apply aB));refine mN 15 dq rfl rfl rfl rfl rfl rfl rfl rfl iB vL Eu (fun agb E1 EH => ?_);rw [show b0 (aJ.ba dq E1) (two xV vT) = two E1 vT from Ev vL EH];(repeat first | (with_reducible apply aN); exact rfl; (repeat first | (with_reducible apply aA); exact rfl | (with_reducible apply l7); (iterate 5 exact rfl) | (with_reducible apply ha); (iterate 5 exact rfl) | (with_reducible apply sP); (iterate 3 exact rfl) | (with_reducible apply fB); (iterate 3 exact rfl); (decide); (first | decide | omega); (first | assumption | rfl); exact rfl | (with_reducible apply v7); (iterate 4 exact rfl) | (with_reducible apply db); (iterate 3 exact rfl) | (with_reducible apply dv (c := true)); exact rfl; exact rfl; (exact bG (by omega))); (with_reducible apply aB));refine mN 15 dq rfl rfl rfl rfl rfl rfl rfl rfl Jq EH Eu (fun agc E2 EI => ?_);rw [show b0 (aJ.ba dq E2) (two E1 vT) = two E2 vT from Ev EH EI];(repeat first | (with_reducible apply aN); exact rfl; (repeat first | (with_reducible apply aA); exact rfl | (with_reducible apply dv (c := true)); exact rfl; exact rfl; (exact bG (by omega))); (with_reducible apply aB));refine mN 15 dq rfl rfl rfl rfl rfl rfl rfl rfl mE EI Eu (fun agd E3 xK => ?_);rw [show b0 (aJ.ba dq E3) (two E2 vT) = two E3 vT from Ev EI xK];(repeat first | (with_reducible apply aN); exact rfl; (repeat first | (with_reducible apply aA); exact rfl); (with_reducible apply aB));refine mN 27 fc rfl rfl rfl rfl rfl rfl rfl rfl Bf mB (QS xK mB) (fun Vf JJ sJ => ?_);rw [QT xK mB sJ];(repeat first | (with_reducible apply aN); exact rfl; (repeat first | (with_reducible apply aA); exact rfl | (with_reducible apply dv (c := true)); exact rfl; exact rfl; (exact bG (by omega))); (with_reducible apply aB));refine mN 15 dq rfl rfl rfl rfl rfl rfl rfl rfl vX xK Eu (fun age JH Rj => ?_);rw [show b0 (aJ.ba dq JH) (two E3 JJ) = two JH JJ from Ev xK Rj];(repeat first | (with_reducible apply ey); kernel_rfl | (with_reducible first | apply aX | apply dA) | (with_reducible apply aN); exact rfl; (repeat first | (with_reducible apply aA); exact rfl | refine dI rfl rfl rfl rfl (by (first | exact Bb | exact R8)) rfl ?_); (with_reducible apply aB))
 ((refine bR rfl (bC rfl bf) ?_))
 exact aj.bp.refl _
theorem acF {E : List (Int × b9)} : aR ai 15 [jK E] (bE (decide ((E.length : Int) ≤ 7))) := by
 refine cc (f := 15) Tryz.func15 rfl rfl rfl rfl ?_;(repeat first | (with_reducible apply aA); exact rfl | (with_reducible apply db); (iterate 3 exact rfl) | (with_reducible first | apply bN | apply bH | apply bL | apply aB | apply b6))
 ((refine bR rfl (bC rfl bf) ?_))
 exact aj.bp.refl _
def mm (n room : Int) : Int := 8 * (lv room + 2) * (n * lv room + 1) * (n * lv room + 1)
theorem Of {n R : Int} (aH : 0 ≤ n) (jo : n ≤ 7) (h1 : 1 ≤ R) (h2 : R ≤ 1024) : (0 ≤ n * R ∧ n * R ≤ 7168) ∧ (0 ≤ 8 * (R + 2) * (n * R + 1) ∧ 8 * (R + 2) * (n * R + 1) ≤ 58843152) ∧ (0 ≤ 8 * (R + 2) * (n * R + 1) * (n * R + 1) ∧ 8 * (R + 2) * (n * R + 1) * (n * R + 1) ≤ 421846556688) := by
 have a1 : 0 ≤ n * R := hL aH (by omega);have a2 : n * R ≤ 7 * 1024 := sq jo h2 (by omega) (by omega);have b1 : 0 ≤ 8 * (R + 2) * (n * R + 1) := hL (by omega) (by omega);have b2 : 8 * (R + 2) * (n * R + 1) ≤ 8208 * 7169 := sq (by omega) (by omega) (by omega) (by omega);have c1 : 0 ≤ 8 * (R + 2) * (n * R + 1) * (n * R + 1) := hL b1 (by omega);have c2 : 8 * (R + 2) * (n * R + 1) * (n * R + 1) ≤ (8208 * 7169) * 7169 := sq b2 (by omega) (by omega) (by omega);exact ⟨⟨a1, by omega⟩, ⟨b1, by omega⟩, c1, by omega⟩
theorem adY (n : Int) : lv n = if 1024 < (if 1 > n then 1 else n) then 1024 else (if 1 > n then 1 else n) := by unfold lv; (repeat split) <;> omega
theorem Oe {n room : Int} (aH : 0 ≤ n) (jo : n ≤ 7) : 0 ≤ mm n room ∧ mm n room ≤ 421846556688 := by
 have h := Of aH jo (R := lv room) (by unfold lv; (repeat split) <;> omega) (by unfold lv; (repeat split) <;> omega);exact h.2.2
theorem acR {n room : Int} (aH : 0 ≤ n) (jo : n ≤ 7) : aR ai 49 [aT n, aT room] (aT (mm n room)) := by
 unfold mm;rw [adY];obtain ⟨⟨a1, a2⟩, ⟨b1, b2⟩, c1, c2⟩ := Of aH jo (R := if 1024 < (if 1 > room then 1 else room) then 1024 else (if 1 > room then 1 else room)) (by (repeat split) <;> omega) (by (repeat split) <;> omega);have cQ : 1 ≤ (if 1024 < (if 1 > room then 1 else room) then 1024 else (if 1 > room then 1 else room)) := by (repeat split) <;> omega
 have dN : (if 1024 < (if 1 > room then 1 else room) then 1024 else (if 1 > room then 1 else room)) ≤ 1024 := by (repeat split) <;> omega
 refine cc (f := 49) Tryz.func49 rfl rfl rfl rfl ?_;(repeat first | (with_reducible apply aA); exact rfl | (with_reducible apply fe); (iterate 3 exact rfl); (exact cX (by omega)); exact rfl | (with_reducible apply rq); (iterate 3 exact rfl); (exact cX (by omega)); exact rfl | (with_reducible apply v8); (iterate 4 exact rfl) | (with_reducible apply sR); (iterate 4 exact rfl) | (with_reducible first | apply bN | apply bH | apply bL | apply aB | apply b6))
 ((refine bR rfl (bC rfl bf) ?_))
 exact aj.bp.refl _
def Se (E : List (Int × b9)) (k : Nat) (R : aJ) (aS : List (Nat × aj)) (bF : List (Nat × List AC)) : Prop :=
 ∃ (i : Nat) (ii : Int) (v : Value), i ≤ E.length ∧ k = E.length - i ∧ ii = i ∧ R = bJ 0 ⟨91, 5, v, i, pj (E.take i)⟩ ∧ bF = [] ∧ aS = [(3, aQ v), (6, jK E), (7, aT E.length), (8, aT ii)]
theorem acb {E : List (Int × b9)} (aq : E.length ≤ 900000) : aR ai 18 [jK E] (jK E) := by
 refine cc (f := 18) Tryz.func18 rfl rfl rfl rfl ?_;refine sT ?_;refine bd ?_;(repeat first | (with_reducible first | apply bd | apply aX | apply a8 | apply aY | apply fZ) | (with_reducible apply aN); exact rfl; (repeat first | (with_reducible apply aA); exact rfl | (with_reducible apply db); (iterate 3 exact rfl)); (with_reducible apply aB));refine nQ 0 91 5 rfl ?_
 skip
 refine mx 18 (Se E) E.length (bJ 0 ⟨91, 5, .slice none 0 0, 0, []⟩) _ [] ⟨0, 0, .slice none 0 0, eF _, rfl, rfl, rfl, rfl, rfl⟩ (nO _ _ _) rfl ⟨rfl, rfl, rfl, rfl, trivial⟩ trivial rfl ?_;rintro n R aS bF ⟨i, ii, v, hi, rfl, hT, rfl, rfl, rfl⟩ ee;clear ee
 by_cases al : i < E.length
 ·have q2 : ii < (E.length : Int) := by omega
  have cg : 0 ≤ ii := by omega
  obtain ⟨o, a, b, c, d, g1⟩ : ∃ o a b c d, E[i]? = some (o, (a, b), (c, d)) := ⟨_, _, _, _, _, cp al⟩;have j9 := wz hT g1
  have cD : pj (E.take (i + 1)) = pj (E.take i) ++ [.c (.int .i64 a), .c (.int .i64 b), .c (.int .i64 c), .c (.int .i64 d), .c (.int .i64 o)] := by
   rw [oO al, (bX.1 g1).2]; simp [pj, BX]
  (repeat first | (with_reducible first | apply bd | apply aX | apply a8 | apply aY | apply dm | apply fZ) | (with_reducible apply eu); exact rfl; (exact bG (by omega)) | (with_reducible apply aN); exact rfl; (repeat first | (with_reducible apply aA); exact rfl | (with_reducible apply ha); (iterate 5 exact rfl) | (with_reducible apply fB); (iterate 3 exact rfl); (omega); (omega); (assumption); exact rfl | (with_reducible apply mH); (iterate 10 exact rfl)); (with_reducible apply aB));refine qx 0 rfl rfl rfl rfl ?q1 ?q2 rfl rfl (fun v1 iL => ?_)
  case q1 => exact kO (by show i + 1 ≤ 1000000; omega)
  case q2 => show (i + 1) * 40 ≤ 140737488355328; omega
  (repeat first | (with_reducible first | apply aX | apply a8 | apply aY | apply ls) | (with_reducible apply aN); exact rfl; (repeat first | (with_reducible apply aA); exact rfl | (with_reducible apply fe); (iterate 3 exact rfl); (exact cX (by omega)); exact rfl); (with_reducible apply aB));refine ⟨E.length - (i + 1), bJ 0 ⟨91, 5, v1, i + 1, pj (E.take (i + 1))⟩, _, [], by omega, ⟨i + 1, ii + 1, v1, al, rfl, by omega, rfl, rfl, rfl⟩, ?_, rfl, ⟨rfl, rfl, rfl, rfl, trivial⟩, trivial, rfl⟩;rw [cD];exact nO _ _ _
 ·have q2 : ¬ ii < (E.length : Int) := by omega
  have dp : i = E.length := by omega
  subst dp;rw [List.take_length];refine Ef 0 3 ⟨91, 5, v, E.length, pj E⟩ rfl rfl ?_;(repeat first | (with_reducible first | apply bd | apply aX | apply a8 | apply aY | apply dA | apply kX | apply kZ | apply kY) | (with_reducible apply c8); exact rfl; (exact b3 (by omega)) | (with_reducible apply aN); exact rfl; (repeat first | (with_reducible apply aA); exact rfl); (with_reducible apply aB))
  ((refine bR rfl (bC rfl bf) ?_))
  exact aj.bp.refl _
def Sr (E : List (Int × b9)) (k : Nat) (aS : List (Nat × aj)) (bF : List (Nat × List AC)) : Prop :=
 ∃ (i : Nat) (ii : Int), i ≤ E.length ∧ k = E.length - i ∧ ii = i ∧ gw (E.map Prod.snd) = gw ((E.drop i).map Prod.snd) ∧ bF = [] ∧ aS = [(0, jK E), (3, aT ii)]
theorem OA {a b : Int} : gx (a, b) = true ↔ cy a b = true ∧ a ≠ 134217728 ∧ b ≠ 134217728 := by
 rw [sb];unfold cy;simp only [dS, cE];omega
theorem acf {E : List (Int × b9)} (aq : E.length ≤ 4611686018427387904) : aR ai 19 [jK E] (bE (gw (E.map Prod.snd))) := by
 refine cc (f := 19) Tryz.func19 rfl rfl rfl rfl ?_;(repeat first | (with_reducible apply aA); exact rfl | (with_reducible first | apply bN | apply bH | apply bL | apply aB | apply gp));refine wg 60 (Sr E) E.length _ [] ⟨0, 0, eF _, rfl, rfl, rfl, rfl, rfl⟩ rfl ⟨rfl, rfl, trivial⟩ trivial rfl ?_;rintro n aS bF ⟨j, fu, ae, rfl, qt, gr, rfl, rfl⟩ ee;clear ee
 by_cases hp : j < E.length
 ·have p2 : fu < (E.length : Int) := by omega
  have p3 : 0 ≤ fu := by omega
  obtain ⟨o, a, b, c, d, g1⟩ : ∃ o a b c d, E[j]? = some (o, (a, b), (c, d)) := ⟨_, _, _, _, _, cp hp⟩;have j9 := wz qt g1;have hd : E.drop j = (o, (a, b), (c, d)) :: E.drop (j + 1) := by rw [mV hp, (bX.1 g1).2]
  have e : gw ((E.drop j).map Prod.snd) = ((gx (a, b) && gx (c, d)) && gw ((E.drop (j + 1)).map Prod.snd)) := by rw [hd]; rfl
  rw [e] at gr;have y6 := OA (a := a) (b := b);have tA := OA (a := c) (b := d);have DA : gx (a, b) = false → gw (E.map Prod.snd) = false := fun h => by rw [gr, h]; rfl
  have DB : gx (c, d) = false → gw (E.map Prod.snd) = false := fun h => by rw [gr, h, Bool.and_false]; rfl
  cases fa : cy a b with
  | false =>
   have aM := DR fa;have gr := DA (Bool.eq_false_iff.2 fun h => by have := y6.1 h; rw [fa] at this; exact absurd this.1 (by decide));rw [gr];(repeat first | (with_reducible apply aA); exact rfl | (with_reducible apply ha); (iterate 5 exact rfl) | (with_reducible apply sP); (iterate 3 exact rfl) | (with_reducible apply fB); (iterate 3 exact rfl); (omega); (omega); (assumption); exact rfl | (with_reducible apply db); (iterate 3 exact rfl) | refine eO rfl rfl rfl (by (exact aM)) rfl ?_ | (with_reducible first | apply bN | apply bH | apply bL | apply aB | apply b6 | apply eR | apply fC | apply gp | apply l6) | (with_reducible apply h8); exact rfl | (with_reducible apply gf); exact rfl; (exact bG (by omega)))
   ((refine bR rfl (bC rfl bf) ?_))
   exact aj.bp.refl _
  | true =>
   have aM := DR fa;cases iZ : cy c d with
   | false =>
    have bU := DR iZ;have gr := DB (Bool.eq_false_iff.2 fun h => by have := tA.1 h; rw [iZ] at this; exact absurd this.1 (by decide));rw [gr];(repeat first | (with_reducible apply aA); exact rfl | (with_reducible apply ha); (iterate 5 exact rfl) | (with_reducible apply sP); (iterate 3 exact rfl) | (with_reducible apply fB); (iterate 3 exact rfl); (omega); (omega); (assumption); exact rfl | (with_reducible apply db); (iterate 3 exact rfl) | refine eO rfl rfl rfl (by (first | exact aM | exact bU)) rfl ?_ | (with_reducible first | apply bN | apply bH | apply bL | apply aB | apply b6 | apply eR | apply fC | apply gp | apply l6) | (with_reducible apply h8); exact rfl | (with_reducible apply gf); exact rfl; (exact bG (by omega)))
    ((refine bR rfl (bC rfl bf) ?_))
    exact aj.bp.refl _
   | true =>
    have bU := DR iZ
    by_cases aK : a = 134217728
    ·have gr := DA (Bool.eq_false_iff.2 fun h => by have := y6.1 h; omega);rw [gr];(repeat first | (with_reducible apply aA); exact rfl | (with_reducible apply l7); (iterate 5 exact rfl) | (with_reducible apply ha); (iterate 5 exact rfl) | (with_reducible apply sP); (iterate 3 exact rfl) | (with_reducible apply fB); (iterate 3 exact rfl); (omega); (omega); (assumption); exact rfl | (with_reducible apply db); (iterate 3 exact rfl) | refine eO rfl rfl rfl (by (first | exact aM | exact bU)) rfl ?_ | (with_reducible apply dv (c := true)); exact rfl; exact rfl; (exact bG (by omega)) | (with_reducible first | apply bN | apply bH | apply bL | apply aB | apply b6 | apply eR | apply fC | apply gp | apply l6) | (with_reducible apply h8); exact rfl | (with_reducible apply hA); exact rfl | (with_reducible apply gf); exact rfl; (exact bG (by omega)))
     ((refine bR rfl (bC rfl bf) ?_))
     exact aj.bp.refl _
    by_cases ab : b = 134217728
    ·have gr := DA (Bool.eq_false_iff.2 fun h => by have := y6.1 h; omega);rw [gr];(repeat first | (with_reducible apply aA); exact rfl | (with_reducible apply l7); (iterate 5 exact rfl) | (with_reducible apply ha); (iterate 5 exact rfl) | (with_reducible apply sP); (iterate 3 exact rfl) | (with_reducible apply fB); (iterate 3 exact rfl); (omega); (omega); (assumption); exact rfl | (with_reducible apply db); (iterate 3 exact rfl) | refine eO rfl rfl rfl (by (first | exact aM | exact bU)) rfl ?_ | (with_reducible apply dv (c := true)); exact rfl; exact rfl; (exact bG (by omega)) | (with_reducible apply dv (c := false)); exact rfl; exact rfl; (exact b3 (by omega)) | (with_reducible first | apply bN | apply bH | apply bL | apply aB | apply b6 | apply eR | apply fC | apply gp | apply l6) | (with_reducible apply h8); exact rfl | (with_reducible apply hA); exact rfl | (with_reducible apply gf); exact rfl; (exact bG (by omega)))
     ((refine bR rfl (bC rfl bf) ?_))
     exact aj.bp.refl _
    by_cases ak : c = 134217728
    ·have gr := DB (Bool.eq_false_iff.2 fun h => by have := tA.1 h; omega);rw [gr];(repeat first | (with_reducible apply aA); exact rfl | (with_reducible apply l7); (iterate 5 exact rfl) | (with_reducible apply ha); (iterate 5 exact rfl) | (with_reducible apply sP); (iterate 3 exact rfl) | (with_reducible apply fB); (iterate 3 exact rfl); (omega); (omega); (assumption); exact rfl | (with_reducible apply db); (iterate 3 exact rfl) | refine eO rfl rfl rfl (by (first | exact aM | exact bU)) rfl ?_ | (with_reducible apply dv (c := true)); exact rfl; exact rfl; (exact bG (by omega)) | (with_reducible apply dv (c := false)); exact rfl; exact rfl; (exact b3 (by omega)) | (with_reducible first | apply bN | apply bH | apply bL | apply aB | apply b6 | apply eR | apply fC | apply gp | apply l6) | (with_reducible apply h8); exact rfl | (with_reducible apply hA); exact rfl | (with_reducible apply gf); exact rfl; (exact bG (by omega)))
     ((refine bR rfl (bC rfl bf) ?_))
     exact aj.bp.refl _
    by_cases wO : d = 134217728
    ·have gr := DB (Bool.eq_false_iff.2 fun h => by have := tA.1 h; omega);rw [gr];(repeat first | (with_reducible apply aA); exact rfl | (with_reducible apply l7); (iterate 5 exact rfl) | (with_reducible apply ha); (iterate 5 exact rfl) | (with_reducible apply sP); (iterate 3 exact rfl) | (with_reducible apply fB); (iterate 3 exact rfl); (omega); (omega); (assumption); exact rfl | (with_reducible apply db); (iterate 3 exact rfl) | refine eO rfl rfl rfl (by (first | exact aM | exact bU)) rfl ?_ | (with_reducible apply dv (c := false)); exact rfl; exact rfl; (exact b3 (by omega)) | (with_reducible first | apply bN | apply bH | apply bL | apply aB | apply b6 | apply eR | apply fC | apply gp | apply l6) | (with_reducible apply hA); exact rfl | (with_reducible apply gf); exact rfl; (exact bG (by omega)))
     ((refine bR rfl (bC rfl bf) ?_))
     exact aj.bp.refl _
    rw [y6.2 ⟨fa, aK, ab⟩, tA.2 ⟨iZ, ak, wO⟩, pR, pR] at gr;clear DA DB y6 tA;(repeat first | (with_reducible apply aA); exact rfl | (with_reducible apply l7); (iterate 5 exact rfl) | (with_reducible apply ha); (iterate 5 exact rfl) | (with_reducible apply sP); (iterate 3 exact rfl) | (with_reducible apply fB); (iterate 3 exact rfl); (omega); (omega); (assumption); exact rfl | (with_reducible apply fe); (iterate 3 exact rfl); (exact cX (by omega)); exact rfl | (with_reducible apply db); (iterate 3 exact rfl) | refine eO rfl rfl rfl (by (first | exact aM | exact bU)) rfl ?_ | (with_reducible apply dv (c := false)); exact rfl; exact rfl; (exact b3 (by omega)) | (with_reducible first | apply bN | apply bH | apply bL | apply aB | apply eR | apply gp | apply mG) | (with_reducible apply hA); exact rfl | (with_reducible apply gf); exact rfl; (exact bG (by omega)) | (with_reducible apply hz); exact rfl; (exact b3 (by omega)));exact ⟨E.length - (j + 1), _, [], by omega, ⟨j + 1, fu + 1, hp, rfl, by omega, gr, rfl, rfl⟩, rfl, ⟨rfl, rfl, trivial⟩, trivial, rfl⟩
 ·have p2 : ¬ fu < (E.length : Int) := by omega
  rw [tY (by omega)] at gr;rw [gr];(repeat first | (with_reducible apply aA); exact rfl | (with_reducible apply db); (iterate 3 exact rfl) | (with_reducible first | apply bN | apply bH | apply bL | apply aB | apply b6 | apply uC | apply uG | apply uF) | (with_reducible apply hz); exact rfl; (exact b3 (by omega)))
  ((refine bR rfl (bC rfl bf) ?_))
  exact aj.bp.refl _
def xY (k : Nat) (b7 : Nat → Nat) (E : List (Int × b9)) (r rm : Nat) (f : FuncId) (args : List aj) (en : bA.aW an) : Prop :=
 c6 ai f args cb fW fun ca aG az => ∃ cs bl, ca = .w (.one (.own k 0)) ∧ aG = cI k cs ∧ az = bl.ba b7 ∧ du E r rm en cs bl
theorem xY.tO9 {gV : Nat} {E : List (Int × b9)} {r rm : Nat} {f : FuncId} {args : List aj} {en : bA.aW an} (h : xY gV dq E r rm f args en) (ea : args.all aj.bb = true) (k : Nat) {b7 : Nat → Nat} (fF : ∀ j, b7 (b7 j) = j) : xY k b7 E r rm f args en := by
 have h1 := c6.ba (bK := swp gV k) (mz gV k) (b7 := b7) (h4 := b7) fF fF h
 have aO : args.map (aj.ba (swp gV k)) = args := by
  conv => rhs; rw [← List.map_id args]
  exact oP fun x aa => ua (ct.1 ea x aa)
 rw [aO] at h1;refine c6.imp (show c6 ai f args cb fW _ from h1) ?_;rintro ca aG az ⟨cQ, m1, bl, ⟨cs, eV, rfl, rfl, rfl, br⟩, rfl, rfl, rfl⟩;refine ⟨cs, eV, ?_, vk br.closed, rfl, br⟩;show aj.w (.one (.own (swp gV k gV) 0)) = _;rw [Ar]
theorem Nt {o : cP an} {ok : Nat → List an × List Int → Prop} (af : kb o ok) : ∀ (n : Nat) {s : bA.aW an}, hP o ok s → 4 ≤ s.ph → li o n s = s
 | 0, s, _, _ => rfl
 | n + 1, s, h, aL => by
  have e := (xE af h).2.2 aL;show li o n (eN o s) = s;rw [e]; exact Nt af n h aL
theorem run_eq {o : cP an} {ok : Nat → List an × List Int → Prop} (af : kb o ok) (n : Nat) {s : bA.aW an} (h : hP o ok s) : (eH o n s).2 = li o n s := by
 obtain ⟨h1, h2, ap⟩ := Ed (o := o) n s
 by_cases ak : (eH o n s).1 < n
 ·have aL := ap ak;have e : n = (eH o n s).1 + (n - (eH o n s).1) := by omega
  have hi := (C3 af (eH o n s).1 h).1;rw [h1] at aL ⊢
  conv => rhs; rw [e, Ns]
  exact (Nt af _ hi aL).symm
 ·have e : (eH o n s).1 = n := by omega
  rw [h1, e]
section
variable {E : List (Int × b9)} {k room : Int}
def qY (E : List (Int × b9)) (k room : Int) : bA.aW an := li (bz E (e7 k) (ez room)) (mm E.length room).toNat (fw (bz E (e7 k) (ez room)))
theorem Je (h : gw (E.map Prod.snd) = true) (ao : E.length ≤ 7) : mF E (e7 k) (ez room) (qY E k room) ∧ 4 ≤ (qY E k room).ph ∧ (eH (bz E (e7 k) (ez room)) (mm E.length room).toNat (fw (bz E (e7 k) (ez room)))).2 = qY E k room ∧ ((eH (bz E (e7 k) (ez room)) (mm E.length room).toNat (fw (bz E (e7 k) (ez room)))).1 : Int) ≤ mm E.length room := by
 have hw : iC E (e7 k) (ez room) := IE h (by omega);have ax : (bz E (e7 k) (ez room)).R = ez room := rfl;have aE := iC.n E (e7 k) (ez room);have ab := Oe (n := E.length) (room := room) (by omega) (by omega)
 have hm : 8 * ((bz E (e7 k) (ez room)).R + 2) * (((bz E (e7 k) (ez room)).n * (bz E (e7 k) (ez room)).R + 1) * ((bz E (e7 k) (ez room)).n * (bz E (e7 k) (ez room)).R + 1)) ≤ (mm E.length room).toNat := by
  rw [ax, aE]
  have e : ((8 * (ez room + 2) * ((E.length * ez room + 1) * (E.length * ez room + 1)) : Nat) : Int) = mm E.length room := by
   unfold mm;rw [← IG room]
   push_cast
   rw [kV (8 * ((ez room : Int) + 2)), show ((ez room : Int) + 1 + 1) = (ez room : Int) + 2 by omega]
  omega
 have he := Vw hw.ok (by rw [ax]; exact hw.pos) hm;refine ⟨he.1, ?_, run_eq hw.ok _ (vq _ _), ?_⟩
 ·unfold qY;rcases he.2 with aL | dk
  ·rw [aL.ph]; decide
  ·rw [dk.ph]; decide
 ·have := (Ed (o := bz E (e7 k) (ez room)) (mm E.length room).toNat (fw (bz E (e7 k) (ez room)))).2.1;omega
theorem ZK (h : gw (E.map Prod.snd) = true) (ao : E.length ≤ 7) : xY 12 dq E (e7 k) (ez room) 27 [jK E, aT k, aT room] (qY E k room) := by
 obtain ⟨i1, aL, aI, aO⟩ := Je (k := k) (room := room) h ao;have hw : iC E (e7 k) (ez room) := IE h (by omega);have Bd := Hz 12 (b7 := dq) nF (E := E) (K := k) (n := room) (by omega) h;have aM := acb (E := E) (by omega);have bU := acR (n := E.length) (room := room) (by omega) (by omega);have ab := Oe (n := E.length) (room := room) (by omega) (by omega);have bl := C6 hw (vq _ _) (n := mm E.length room) (by omega);have ka := HB hw i1;rw [(xE hw.ok i1).2.2 aL, b3 (by omega)] at ka;rw [aI] at bl;generalize (eH (bz E (e7 k) (ez room)) (mm E.length room).toNat (fw (bz E (e7 k) (ez room)))).1 = did at *;generalize qY E k room = fK at *;generalize fw (bz E (e7 k) (ez room)) = afQ at *;clear aI;generalize mm E.length room = M at *;have ahi : ¬ (did : Int) > M := by omega
 have bl := bl.n5 12 (b7 := dq) nF rfl rfl;have ka := ka.n5 12 (b7 := dq) nF rfl rfl;refine dh (f := 27) Tryz.func27 rfl (de rfl) (by exact nm) ?_;(repeat first | (with_reducible first | apply bd | apply aX | apply a8 | apply aY) | (with_reducible apply aN); exact rfl; (repeat first | (with_reducible apply aA); exact rfl | refine eO rfl rfl rfl (by (exact aM)) rfl ?_); (with_reducible apply aB));refine ze 12 dq rfl rfl rfl rfl Bd rfl rfl rfl rfl (fun cs ur bS => ?_);rw [DJ];(repeat first | (with_reducible first | apply bd | apply aX | apply a8 | apply aY) | (with_reducible apply aN); exact rfl; (repeat first | (with_reducible apply aA); exact rfl | (with_reducible apply db); (iterate 3 exact rfl) | refine dI rfl rfl rfl rfl (by (exact bU)) rfl ?_ | (with_reducible apply x8); exact rfl; exact rfl; kernel_rfl; exact rfl); (with_reducible apply aB));refine mN 12 dq rfl rfl rfl rfl rfl rfl rfl rfl bl bS (bM.refl _) (fun FH nh kx => ?_);rw [show b0 (aJ.ba dq nh) (aJ.ba dq ur) = aJ.ba dq nh from bS.b0 kx];(repeat first | (with_reducible apply aN); exact rfl; (repeat first | (with_reducible apply aA); exact rfl | (with_reducible apply db); (iterate 3 exact rfl) | refine dI rfl rfl rfl rfl (by (exact bU)) rfl ?_ | (with_reducible apply dv (c := false)); exact rfl; exact rfl; (exact b3 (by omega))); (with_reducible apply aB));refine mN 12 dq rfl rfl rfl rfl rfl rfl rfl rfl ka kx (bM.refl _) (fun KY uu nX => ?_);rw [show b0 (aJ.ba dq uu) (aJ.ba dq nh) = aJ.ba dq uu from kx.b0 nX];(repeat first | (with_reducible first | apply bd | apply aX | apply a8 | apply aY | apply dA | apply dm) | (with_reducible apply c8); exact rfl; (exact rfl) | (with_reducible apply aN); exact rfl; (repeat first | (with_reducible apply aA); exact rfl); (with_reducible apply aB))
 ((refine CC 12 rfl (bC rfl bf) rfl (bM.refl _) nX.closed rfl ?_))
 exact ⟨KY, uu, rfl, rfl, rfl, nX⟩
theorem ZJ (h : gw (E.map Prod.snd) = true) (ao : E.length ≤ 7) (j : Nat) {b7 : Nat → Nat} (fF : ∀ j, b7 (b7 j) = j) : xY j b7 E (e7 k) (ez room) 27 [jK E, aT k, aT room] (qY E k room) := (ZK h ao).tO9 rfl j fF
end
theorem Vv {E : List (Int × b9)} {k room : Int} (h : gw (E.map Prod.snd) = true) (ao : E.length ≤ 7) : A7 (bz E (e7 k) (ez room)) (xk (E.map Prod.snd) (e7 k)) (qY E k room) ∨ A8 (bz E (e7 k) (ez room)) (xk (E.map Prod.snd) (e7 k)) (qY E k room) := by
 obtain ⟨i1, aL, _, _⟩ := Je (k := k) (room := room) h ao;exact Lw i1 aL
theorem Z0 {E : List (Int × b9)} {k room : Int} : aR ai 4 [jK E, aT k, aT room] (bE true) := by
 have aM := acF (E := E);have hx := acm
 by_cases ao : (E.length : Int) ≤ 7
 ·rw [bG ao] at aM;have bU := acf (E := E) (by omega);cases aE : gw (E.map Prod.snd) with
  | false =>
   rw [aE] at bU;refine cc (f := 4) Tryz.func4 rfl rfl rfl rfl ?_;(repeat first | (with_reducible apply aA); exact rfl | refine Bu rfl rfl (by (exact hx)) rfl ?_ | refine eO rfl rfl rfl (by (first | exact aM | exact bU)) rfl ?_ | (with_reducible first | apply bN | apply bH | apply bL | apply aB | apply b6 | apply fC) | (with_reducible apply h8); exact rfl)
   ((refine bR rfl (bC rfl bf) ?_))
   exact aj.bp.refl _
  | true =>
   rw [aE] at bU;have gD := ZJ (k := k) (room := room) aE (by omega) 21 (b7 := dq) nF;obtain ⟨i1, _, _, _⟩ := Je (k := k) (room := room) aE (by omega);have qb := (HA (IE aE (by omega)) i1).n5 21 (b7 := dq) nF rfl rfl;have ar := Vv (k := k) (room := room) aE (by omega);generalize qY E k room = fK at *;clear i1 aE;have jk : (fK.I : Int) + (fK.J : Int) + (fK.T : Int) = 0 := by rcases ar with h | h <;> rw [h.I, h.J, h.T] <;> rfl
   have z0 : (fK.I : Int) = 0 := by rcases ar with h | h <;> rw [h.I] <;> rfl
   have z3 : (fK.J : Int) = 0 := by rcases ar with h | h <;> rw [h.J] <;> rfl
   have z4 : (fK.T : Int) = 0 := by rcases ar with h | h <;> rw [h.T] <;> rfl
   have z2 : (fK.fnd.length : Int) = 0 := by rcases ar with h | h <;> rw [h.fnd] <;> rfl
   have cs : (fK.ph : Int) = 4 ∨ (¬ (fK.ph : Int) = 4 ∧ (fK.ph : Int) = 5 ∧ (fK.hot.length : Int) = ((ez room : Nat) : Int)) := by
    rcases ar with h | h
    ·exact .inl (by rw [h.ph]; rfl)
    ·refine .inr ⟨by rw [h.ph]; decide, by rw [h.ph]; rfl, ?_⟩;have : (bz E (e7 k) (ez room)).R = ez room := rfl;rw [h.full, this]
   clear ar;rcases cs with p1 | ⟨p1, p2, p3⟩
   ·refine cc (f := 4) Tryz.func4 rfl rfl rfl rfl ?_;refine sT ?_;(repeat first | (with_reducible first | apply bd | apply aX | apply a8 | apply aY | apply dm) | (with_reducible apply c8); exact rfl; (exact rfl) | (with_reducible apply aN); exact rfl; (repeat first | (with_reducible apply aA); exact rfl | refine eO rfl rfl rfl (by (first | exact aM | exact bU)) rfl ?_); (with_reducible apply aB));refine ze 21 dq rfl rfl rfl rfl gD rfl rfl rfl rfl (fun cs ur bS => ?_);rw [DJ];(repeat first | (with_reducible first | apply bd | apply aX | apply a8 | apply aY | apply dm) | (with_reducible apply c8); exact rfl; (exact rfl) | (with_reducible apply aN); exact rfl; (repeat first | (with_reducible apply aA); exact rfl | (with_reducible apply x8); exact rfl; exact rfl; kernel_rfl; exact rfl); (with_reducible apply aB));refine mN 21 dq rfl rfl rfl rfl rfl rfl rfl rfl qb bS (bM.refl _) (fun FH nh kx => ?_);rw [show b0 (aJ.ba dq nh) (aJ.ba dq ur) = aJ.ba dq nh from bS.b0 kx];(repeat first | (with_reducible first | apply bd | apply aX | apply a8 | apply aY | apply dA) | (with_reducible apply aN); exact rfl; (repeat first | (with_reducible apply aA); exact rfl | (with_reducible apply fe); (iterate 3 exact rfl); (exact cX (by omega)); exact rfl | (with_reducible apply db); (iterate 3 exact rfl) | refine Bu rfl rfl (by (exact hx)) rfl ?_ | (with_reducible apply dv (c := true)); exact rfl; exact rfl; (exact bG (by omega))); (with_reducible apply aB))
    ((refine bR rfl (bC rfl bf) ?_))
    rw [bG z2];exact aj.bp.refl _
   ·refine cc (f := 4) Tryz.func4 rfl rfl rfl rfl ?_;refine sT ?_;(repeat first | (with_reducible first | apply bd | apply aX | apply a8 | apply aY | apply dm) | (with_reducible apply c8); exact rfl; (exact rfl) | (with_reducible apply aN); exact rfl; (repeat first | (with_reducible apply aA); exact rfl | refine eO rfl rfl rfl (by (first | exact aM | exact bU)) rfl ?_); (with_reducible apply aB));refine ze 21 dq rfl rfl rfl rfl gD rfl rfl rfl rfl (fun cs ur bS => ?_);rw [DJ];(repeat first | (with_reducible first | apply bd | apply aX | apply a8 | apply aY | apply dm) | (with_reducible apply c8); exact rfl; (exact rfl) | (with_reducible apply aN); exact rfl; (repeat first | (with_reducible apply aA); exact rfl | (with_reducible apply x8); exact rfl; exact rfl; kernel_rfl; exact rfl); (with_reducible apply aB));refine mN 21 dq rfl rfl rfl rfl rfl rfl rfl rfl qb bS (bM.refl _) (fun FH nh kx => ?_);rw [show b0 (aJ.ba dq nh) (aJ.ba dq ur) = aJ.ba dq nh from bS.b0 kx];(repeat first | (with_reducible first | apply bd | apply aX | apply a8 | apply aY | apply dA) | (with_reducible apply aN); exact rfl; (repeat first | (with_reducible apply aA); exact rfl | (with_reducible apply fe); (iterate 3 exact rfl); (exact cX (by omega)); exact rfl | (with_reducible apply db); (iterate 3 exact rfl) | refine Bu rfl rfl (by (exact hx)) rfl ?_ | (with_reducible apply dv (c := true)); exact rfl; exact rfl; (exact bG (by omega)) | (with_reducible apply dv (c := false)); exact rfl; exact rfl; (exact b3 (by omega))); (with_reducible apply aB))
    ((refine bR rfl (bC rfl bf) ?_))
    rw [bG z2];exact aj.bp.refl _
 ·rw [b3 ao] at aM;refine cc (f := 4) Tryz.func4 rfl rfl rfl rfl ?_;(repeat first | (with_reducible apply aA); exact rfl | refine Bu rfl rfl (by (exact hx)) rfl ?_ | refine eO rfl rfl rfl (by (exact aM)) rfl ?_ | (with_reducible first | apply bN | apply bH | apply bL | apply aB | apply b6 | apply fC) | (with_reducible apply h8); exact rfl)
  ((refine bR rfl (bC rfl bf) ?_))
  exact aj.bp.refl _
end Go.Proofs.YtpochbhajmbfdaaGreat
namespace Go.Proofs.YtpochbhajmbfdaaGreat
theorem Vy (E : List (Int × bA.b9)) (k room : Int) (_ : (E.length : Int) ≤ 9223372036854775807) (_ : -9223372036854775808 ≤ k ∧ k ≤ 9223372036854775807) (_ : -9223372036854775808 ≤ room ∧ room ≤ 9223372036854775807) : aR ai 4 [jK E, aT k, aT room] (bE true) := Z0
end Go.Proofs.YtpochbhajmbfdaaGreat
namespace Go.Proofs.YtpochbhajmbfdaaGreat
open Go.ChangeShapes Go.WideShapes Go.ChangeAt Go.RowKit Go.Joins
theorem laidOut : laidOutB ai = true := by kernel_rfl
theorem LJ : ∀ (L : List (List Int)), (∀ x ∈ L, x.length = 5) → ∃ l : List (Int × bA.b9), l.length = L.length ∧ rJ L = pj l
 | [], _ => ⟨[], rfl, rfl⟩
 | x :: L, h => by
  obtain ⟨l, h1, h2⟩ := LJ L fun y ah => h y (by simp [ah]);have aa := h x (by simp)
  match x, aa with
  | [a, b, c, d, o], _ =>
   refine ⟨(o, (a, b), (c, d)) :: l, by simp [h1], ?_⟩;show rJ ([a, b, c, d, o] :: L) = BX (o, (a, b), (c, d)) ++ pj l;rw [← h2];unfold rJ;rw [List.flatten_cons, List.map_append];rfl
theorem Vp {H : Type} {enc : TypeId × Value → H} {P : Program} {W : World} {e : TypeId} {g0 g1 g2 f0 f1 : Field} (he : P.underlying e = some (.struct #[g0, g1, g2])) (ce : P.cellsOf e = 5) (jF : g0.offset = 0) (p1 : g1.offset = 2) (p2 : g2.offset = 4) (d0 : P.cellsOf g0.type = 2) (aD : g1.type = g0.type) (d2 : P.cellsOf g2.type = 1) (cf : P.underlying g2.type = some (.int .i64))
  (aw : P.underlying g0.type = some (.struct #[f0, f1])) (DF : f0.offset = 0) (o1 : f1.offset = 1) (k7 : P.cellsOf f0.type = 1) (c1 : P.cellsOf f1.type = 1) (gV : P.underlying f0.type = some (.int .i64)) (bB : P.underlying f1.type = some (.int .i64))
  {n : Nat} {cs : List Value} {d : DataW H × List MemPlace} (h : DataW.trod enc P W 0 (fun _ => true) true n e cs = some d) : ∃ a b x y v : Int, cs = [.int .i64 a, .int .i64 b, .int .i64 x, .int .i64 y, .int .i64 v] := by
 obtain ⟨xs, k, _, _, cO, oo, ar⟩ := DataW.trod_struct he h;rw [ce] at cO
 match cs, cO, xs, oo with
 | [u, v, w, r, s], _, [dp, aI, aO], _ =>
  have cY := ar 0 g0 rfl;have q1 := ar 1 g1 rfl;have q2 := ar 2 g2 rfl;simp [jF, p1, p2, d0, d2, aD] at cY q1 q2;obtain ⟨a, b, aa⟩ := Lk aw d0 DF o1 k7 c1 gV bB cY;obtain ⟨x, y, ah⟩ := Lk aw d0 DF o1 k7 c1 gV bB q1;obtain ⟨z, aZ⟩ := FR cf q2 rfl;cases aa; cases ah; cases aZ;exact ⟨a, b, x, y, z, rfl⟩
theorem abK {H : Type} {enc : TypeId × Value → H} {P : Program} {W : World} {t e : TypeId} (aD : P.underlying t = some (.slice e)) (ce : P.cellsOf e = 5)
  (yR : ∀ (n : Nat) (cs : List Value) d, DataW.trod enc P W 0 (fun _ => true) true n e cs = some d → ∃ a b x y v : Int, cs = [.int .i64 a, .int .i64 b, .int .i64 x, .int .i64 y, .int .i64 v])
  {v : Value} {d : DataW H} {p : List MemPlace} (hv : ∃ a len cap, v = .slice a len cap) (aH : DataW.Trod enc P W 0 (fun _ => true) true t v d p) :
  ∃ l : List (Int × bA.b9), (l.length : Int) ≤ 9223372036854775807 ∧ c9 (fun _ => True) id W (jK l) v := by
 obtain ⟨L, h1, h2, ap⟩ := abL 5 aD ce (fun n cs d h => by obtain ⟨a, b, x, y, v, e⟩ := yR n cs d h; exact ⟨[a, b, x, y, v], e⟩) hv aH (by decide);obtain ⟨l, aL, dk⟩ := LJ L h2;rw [dk] at ap;refine ⟨l, by rw [aL]; exact h1, ?_⟩;rw [← aL] at ap;exact ap
theorem ac4 {P : Program} {f : FuncId} {args : List aj} (h : aR P f args (bE true)) (kv : List Value) (W : World) (ao : args.length = kv.length) (aq : ∀ (i : Nat) (x : aj) (v : Value), args[i]? = some x → kv[i]? = some v → c9 (fun _ => True) id W x v) :
  Calls P f kv.toArray W fun e bo => e = .returned (.bool true) ∧ Below W.heap.size W bo :=
 (h.call (fun _ => True) W kv ⟨ao, aq⟩).mono fun e bo ⟨v, he, ⟨hv, _⟩, ab⟩ => by subst hv; exact ⟨he, ab⟩
end Go.Proofs.YtpochbhajmbfdaaGreat
