/-
  My own texts, without what this claim does not need. My own text.
-/
import Derived.Test.YtpochbhajmbfdaaGreatSTurnedK12
set_option maxRecDepth 100000
set_option maxHeartbeats 64000000
set_option linter.unusedVariables false
set_option linter.unusedSimpArgs false
set_option linter.unusedSectionVars false
open Go.Proofs.Tryz renaming prog → aj
namespace Go.Proofs.YtpochbhajmbfdaaGreat
open Go.RowKit
open bt
instance ajw : nu aj 28 91 5 40 := ⟨by kernel_rfl⟩
abbrev Ky : ai := aU (.func (.func 100) #[] #[])
theorem QX {x y : Int} : aY aj 101 [bi x y] (bG (gd (x, y))) := by
 have cs : ((if y < x then y else x) ≥ -134217728 ∧ gd (x, y) = decide ((if y > x then y else x) < 134217728)) ∨ (¬ (if y < x then y else x) ≥ -134217728 ∧ gd (x, y) = false) := by
  by_cases h : (if y < x then y else x) ≥ -134217728
  ·refine .inl ⟨h, ?_⟩;rw [mC, s8, decide_eq_true_iff];show ((_ ≤ x ∧ x < _) ∧ _ ≤ y ∧ y < _) ↔ _
   split at h <;> split <;> omega
  ·refine .inr ⟨h, ?_⟩;cases aD : gd (x, y) with
   | false => rfl
   | true =>
    obtain ⟨⟨a1, a2⟩, a3, a4⟩ : ((_ ≤ x ∧ x < _) ∧ _ ≤ y ∧ y < _) := s8.1 aD
    split at h <;> omega
 rcases cs with ⟨h, e⟩ | ⟨h, e⟩
 all_goals
  rw [e];refine cq (f := 101) Tryz.func101 rfl rfl rfl rfl ?_;(repeat first | (with_reducible apply az); exact rfl | (with_reducible apply xn); (iterate 4 exact rfl) | (with_reducible apply tN); (iterate 4 exact rfl) | (with_reducible apply dO (c := true)); exact rfl; exact rfl; (exact bF (by omega)) | (with_reducible apply dO (c := false)); exact rfl; exact rfl; (exact b5 (by omega)) | (with_reducible first | apply bQ | apply bI | apply bO | apply aA | apply cf))
  ((refine bY rfl (bD rfl bf) ?_))
  exact ai.bo.refl _
abbrev xu (x : Int × bV) : Bool := !(gd x.2.1 && gd x.2.2)
theorem ad8 {o a b c d : Int} : aY aj 100 [.w (.agg [.c (.int .i64 a), .c (.int .i64 b), .c (.int .i64 c), .c (.int .i64 d), .c (.int .i64 o)])] (bG (xu (o, (a, b), (c, d)))) := by
 have aP := QX (x := a) (y := b);have b6 := QX (x := c) (y := d);unfold xu;simp only;cases h1 : gd (a, b) with
 | true =>
  rw [h1] at aP;rw [qH];refine cq (f := 100) Tryz.func100 rfl rfl rfl rfl ?_;(repeat first | (with_reducible apply az); exact rfl | refine e2 rfl rfl rfl (by (first | exact aP | exact b6)) rfl ?_ | (with_reducible first | apply bQ | apply bI | apply bO | apply aA | apply cf))
  ((refine bY rfl (bD rfl bf) ?_))
  exact ai.bo.refl _
 | false =>
  rw [h1] at aP;rw [Bool.false_and];refine cq (f := 100) Tryz.func100 rfl rfl rfl rfl ?_;(repeat first | (with_reducible apply az); exact rfl | refine e2 rfl rfl rfl (by (exact aP)) rfl ?_ | (with_reducible first | apply bQ | apply bI | apply bO | apply aA | apply cf))
  ((refine bY rfl (bD rfl bf) ?_))
  exact ai.bo.refl _
def ui : List (Int × bV) → Int → Int
 | [], _ => -1
 | p :: l, i => if xu p = true then i else ui l (i + 1)
theorem Nh (p : Int × bV) (l : List (Int × bV)) (i : Int) : ui (p :: l) i = if xu p = true then i else ui l (i + 1) := rfl
theorem Ng : ∀ (l : List (Int × bV)) (i : Int), 0 ≤ i → (decide (ui l i ≥ 0)) = !fK (l.map Prod.snd)
 | [], i, h => rfl
 | p :: l, i, h => by
  have bW := Ng l (i + 1) (by omega);have e : fK ((p :: l).map Prod.snd) = ((gd p.2.1 && gd p.2.2) && fK (l.map Prod.snd)) := rfl;rw [e, Nh];unfold xu;cases hp : (gd p.2.1 && gd p.2.2) with
  | false => rw [if_pos (show (!false) = true from rfl), Bool.false_and]; exact bF h
  | true => rw [if_neg (by decide), qH]; exact bW
def Tr (E : List (Int × bV)) (k : Nat) (aS : List (Nat × ai)) (bw : List (Nat × List AC)) : Prop :=
 ∃ (i : Nat) (ii : Int), i ≤ E.length ∧ k = E.length - i ∧ ii = i ∧ ui E 0 = ui (E.drop i) ii ∧ bw = [] ∧ aS = [(0, jx E), (1, Ky), (7, aR E.length), (8, aR ii)]
theorem aes {E : List (Int × bV)} (al : E.length ≤ 4611686018427387904) : aY aj 163 [jx E, Ky] (aR (ui E 0)) := by
 refine cq (f := 163) Tryz.func163 rfl rfl rfl rfl ?_;(repeat first | (with_reducible apply az); exact rfl | (with_reducible apply c6); (iterate 3 exact rfl) | (with_reducible first | apply bQ | apply bI | apply bO | apply aA | apply gW));refine xr 19 (Tr E) E.length _ [] ⟨0, 0, eF _, rfl, rfl, rfl, rfl, rfl⟩ rfl ⟨rfl, rfl, rfl, rfl, trivial⟩ trivial rfl ?_;rintro n aS bw ⟨j, dS, af, rfl, ob, gZ, rfl, rfl⟩ dK;clear dK
 by_cases hp : j < E.length
 ·have p2 : dS < (E.length : Int) := by omega
  have p3 : 0 ≤ dS := by omega
  obtain ⟨o, a, b, c, d, g1⟩ : ∃ o a b c d, E[j]? = some (o, (a, b), (c, d)) := ⟨_, _, _, _, _, cj hp⟩;have jW := vP ob g1;have hd : E.drop j = (o, (a, b), (c, d)) :: E.drop (j + 1) := by rw [nL hp, (bP.1 g1).2]
  have jA := ad8 (o := o) (a := a) (b := b) (c := c) (d := d);rw [hd, Nh] at gZ;cases aw : xu (o, (a, b), (c, d)) with
  | true =>
   rw [aw] at gZ jA;rw [if_pos rfl] at gZ;rw [gZ];(repeat first | (with_reducible apply az); exact rfl | (with_reducible apply gN); (iterate 5 exact rfl) | (with_reducible apply fi); (iterate 3 exact rfl); (omega); (omega); (assumption); exact rfl | refine e2 rfl rfl rfl (by (exact jA)) rfl ?_ | (with_reducible first | apply bQ | apply bI | apply bO | apply aA | apply cf | apply e3 | apply fV | apply gW | apply mM) | (with_reducible apply iK); exact rfl | (with_reducible apply gO); exact rfl; (exact bF (by omega)))
   ((refine bY rfl (bD rfl bf) ?_))
   exact ai.bo.refl _
  | false =>
   rw [aw] at gZ jA;rw [if_neg (by simp)] at gZ;(repeat first | (with_reducible apply az); exact rfl | (with_reducible apply gN); (iterate 5 exact rfl) | (with_reducible apply fi); (iterate 3 exact rfl); (omega); (omega); (assumption); exact rfl | (with_reducible apply fh); (iterate 3 exact rfl); (exact cZ (by omega)); exact rfl | refine e2 rfl rfl rfl (by (exact jA)) rfl ?_ | (with_reducible first | apply bQ | apply bI | apply bO | apply aA | apply e3 | apply gW | apply nw) | (with_reducible apply ib); exact rfl | (with_reducible apply gO); exact rfl; (exact bF (by omega)));exact ⟨E.length - (j + 1), _, [], by omega, ⟨j + 1, dS + 1, hp, rfl, by omega, gZ, rfl, rfl⟩, rfl, ⟨rfl, rfl, rfl, rfl, trivial⟩, trivial, rfl⟩
 ·have e : j = E.length := by omega
  subst e;rw [List.drop_length] at gZ;rw [show ui [] dS = -1 from rfl] at gZ;rw [gZ];(repeat first | (with_reducible apply az); exact rfl | (with_reducible first | apply bQ | apply bI | apply bO | apply aA | apply cf | apply vy | apply vC | apply vB) | (with_reducible apply ia); exact rfl; (exact b5 (by omega)))
  ((refine bY rfl (bD rfl bf) ?_))
  exact ai.bo.refl _
theorem aef {E : List (Int × bV)} (al : E.length ≤ 4611686018427387904) : aY aj 99 [jx E, Ky] (bG (!fK (E.map Prod.snd))) := by
 have jA := aes al;rw [← Ng E 0 (by decide)];refine cq (f := 99) Tryz.func99 rfl rfl rfl rfl ?_;(repeat first | (with_reducible apply az); exact rfl | refine dP rfl rfl rfl rfl (by (exact jA)) rfl ?_ | (with_reducible first | apply bQ | apply bI | apply bO | apply aA | apply cf))
 ((refine bY rfl (bD rfl bf) ?_))
 exact ai.bo.refl _
theorem ad7 {E : List (Int × bV)} (al : E.length ≤ 4611686018427387904) : aY aj 53 [jx E] (bG (fK (E.map Prod.snd))) := by
 have jA := aef al;have e : fK (E.map Prod.snd) = !(!fK (E.map Prod.snd)) := (Bool.not_not _).symm;rw [e];generalize (!fK (E.map Prod.snd)) = q at *;refine cq (f := 53) Tryz.func53 rfl rfl rfl rfl ?_;(repeat first | (with_reducible apply az); exact rfl | refine dP rfl rfl rfl rfl (by (exact jA)) rfl ?_ | (with_reducible first | apply bQ | apply bI | apply bO | apply aA | apply cf))
 ((refine bY rfl (bD rfl bf) ?_))
 exact ai.bo.refl _
theorem aee {E : List (Int × bV)} (al : E.length ≤ 900000) : aY aj 55 [jx E] (jx E) := by
 refine cq (f := 55) Tryz.func55 rfl rfl rfl rfl ?_;(repeat first | (with_reducible apply az); exact rfl | (with_reducible apply GA); (iterate 3 exact rfl) | (with_reducible first | apply bQ | apply bI | apply bO | apply aA));refine Vm 4 rfl ?_;intro b ab;cases b with
 | true =>
  have aJ := mE (ab rfl);subst aJ;clear ab;(repeat first | (with_reducible apply az); exact rfl | (with_reducible first | apply bQ | apply bI | apply bO | apply aA | apply cf | apply fV) | (with_reducible apply iK); exact rfl)
  ((refine bY rfl (bD rfl bf) ?_))
  exact Qd 5
 | false =>
  clear ab;have z0 : 0 + E.length = E.length := ju _;(repeat first | (with_reducible apply az); exact rfl | (with_reducible apply U5); exact rfl; exact rfl | (with_reducible apply UD); (iterate 3 exact rfl); (exact ka (by omega)); (omega); (assumption); (rfl); exact rfl | (with_reducible first | apply bQ | apply bI | apply bO | apply aA | apply cf | apply e3) | (with_reducible apply ib); exact rfl)
  ((refine bY rfl (bD rfl bf) ?_))
  exact ai.bo.refl _
section
variable {P : Program} {f : FuncId} {args : List ai} {cs : List AC} {R0 : aL} {Q : ai → List AC → aL → Prop}
theorem dk.at (k : Nat) (h : dk P f (rU :: args) (cO 1000 cs) R0 (oM 1000 Q)) (et : args.all ai.bd = true) (ak : cs.all AC.bd = true) (an : ∀ ck ds aC, Q ck ds aC → ck.bd = true ∧ ds.all AC.bd = true) : dk P f (.w (.one (.own k 0)) :: args) (cO k cs) R0 (oM k Q) := by
 have h1 := h.bc (nk 1000 k) (cb := fun j => j) (iE := fun j => j) (fun _ => rfl) (fun _ => rfl)
 have aG : (ai.w (.one (.own 1000 0)) :: args).map (ai.bc (swp 1000 k)) = .w (.one (.own k 0)) :: args := by
  have aM : args.map (ai.bc (swp 1000 k)) = args := by
   conv => rhs; rw [← List.map_id args]
   exact oD fun x aa => u6 (cB.1 et x aa)
  rw [k5, aM];show ai.w (.one (.own (swp 1000 k 1000) 0)) :: args = _;rw [show swp 1000 k 1000 = k by unfold swp; simp]
 rw [aG, wB ak] at h1;refine ⟨fun U ad W vs cA ez dX => (h1.call U ad W vs cA ez dX).mono ?_⟩;rintro dl bn ⟨v, r, aK, aC, bg, cK, db, ⟨cN, m1, bl, ⟨ds, rfl, fJ⟩, rfl, rfl, rfl⟩, mB⟩;obtain ⟨c1, c2⟩ := an _ _ _ fJ;rw [wB c2, u6 c1] at mB;exact ⟨v, cN, cO k ds, bl, bg, cK, db, ⟨ds, rfl, fJ⟩, mB⟩
end
def da (k : Int) : Nat := (if k < 0 then 0 else if 28 < k then 28 else k).toNat
def cS (n : Int) : Nat := (l4 n).toNat
theorem J7 (n : Int) : ((cS n : Nat) : Int) = l4 n := by unfold cS l4; (repeat split) <;> omega
theorem RL (n : Int) : 1 ≤ cS n ∧ cS n ≤ 1024 := by unfold cS l4; (repeat split) <;> omega
theorem afs (k : Int) : ((da k : Nat) : Int) = if 28 < (if 0 > k then 0 else k) then 28 else (if 0 > k then 0 else k) := by unfold da; (repeat split) <;> omega
theorem aft (k : Int) : da k ≤ 28 := by unfold da; (repeat split) <;> omega
theorem yA {E : List (Int × bV)} {k n : Int} (h : fK (E.map Prod.snd) = true) (ap : E.length ≤ 300) : hE E (da k) (cS n) := ⟨aft k, h, ap, (RL n).1, (RL n).2⟩
abbrev gC : Value := .slice none 0 0
theorem Qc {b : Nat} {S : ff} {q : bS} : dT b S gC gC gC [] [] [] = bJ (bJ (bJ (bJ (bJ gw 1 ⟨59, 2, gC, 0, []⟩) 2 ⟨59, 2, gC, 0, []⟩) 3 ⟨53, 2, gC, 0, []⟩) 0 q) 0 (iB (eg b) S) := by
 funext i
 match i with
 | 0 => rfl
 | 1 => rfl
 | 2 => rfl
 | 3 => rfl
 | i + 4 => rfl
theorem aa7 {E : List (Int × bV)} {k n : Int} (ap : E.length ≤ 300) (h : fK (E.map Prod.snd) = true) : dk aj 17 [jx E, aR k, aR n] cm gw fun ck aK aC => ∃ cs, ck = .w (.one (.own 24 0)) ∧ aK = cO 24 cs ∧ dC E (da k) (cS n) (eY (bx E (da k) (cS n))) cs aC := by
 have aP := ad7 (E := E) (by omega);rw [h] at aP;have b6 := aa6 n;have fo := aee (E := E) (by omega);have hU := afs k
 by_cases aJ : E = []
 ·subst aJ;refine dv (f := 17) Tryz.func17 rfl (du rfl) (by exact n3) ?_;refine mF 1 59 2 rfl ?_;refine mF 2 59 2 rfl ?_;refine mF 3 53 2 rfl ?_;(repeat first | (with_reducible first | apply bb | apply aV | apply a8 | apply aX | apply dc) | (with_reducible apply c4); exact rfl; (exact rfl) | (with_reducible apply aO); exact rfl; (repeat first | (with_reducible apply az); exact rfl | refine e2 rfl rfl rfl (by (exact aP)) rfl ?_); (with_reducible apply aA));refine On 0 rfl rfl rfl rfl b6 rfl rfl (fun p S j7 => ?_);obtain ⟨b, rfl, hS⟩ := j7;rw [← J7 n] at hS;have nS := OY _ _ _ _ hS (by decide);(repeat first | (with_reducible first | apply bb | apply aV | apply a8 | apply aX) | (with_reducible apply aO); exact rfl; (repeat first | (with_reducible apply az); exact rfl | (with_reducible apply xn); (iterate 4 exact rfl) | (with_reducible apply tN); (iterate 4 exact rfl) | refine e2 rfl rfl rfl (by (exact fo)) rfl ?_); (with_reducible apply aA));refine Aw 0 rfl rfl rfl rfl nS rfl rfl rfl (fun v dp h => ?_);obtain ⟨rfl, fH⟩ := h;(repeat first | (with_reducible first | apply bb | apply aV | apply a8 | apply aX) | (with_reducible apply eo); exact rfl; (assumption) | (with_reducible apply aO); exact rfl; (repeat first | (with_reducible apply az); exact rfl | (with_reducible apply c6); (iterate 3 exact rfl)); (with_reducible apply aA));have yT := dk.at 24 (I2 (E := []) (k := (da k : Int)) (rm := (cS n : Int)) (ph := 0) (I := 0) (J := 0) (T := 0) (dirty := false) (hv := gC) (fv := gC) (cv := gC) (b := b) (lk := .c gC) rfl 4) rfl rfl (fun ck ds aC h => by obtain ⟨rfl, rfl, _⟩ := h; exact ⟨rfl, rfl⟩);rw [← hU];refine ky 24 rfl rfl rfl rfl yT rfl rfl rfl rfl rfl ?_;(repeat first | (with_reducible first | apply bb | apply aV | apply a8 | apply aX | apply dM) | (with_reducible apply aO); exact rfl; (repeat first | (with_reducible apply az); exact rfl); (with_reducible apply aA))
  ((refine DS 24 rfl (bD rfl bf) rfl (bL.of_eq Qc) rfl rfl ?_))
  exact ⟨_, rfl, rfl, gC, gC, gC, b, dp, .c gC, fH, rfl, fun h => (by cases h), rfl, rfl⟩
 ·have j1 : ¬ (E.length : Int) = 0 := fun aW => aJ (mE (by omega));refine dv (f := 17) Tryz.func17 rfl (du rfl) (by exact n3) ?_;refine mF 1 59 2 rfl ?_;refine mF 2 59 2 rfl ?_;refine mF 3 53 2 rfl ?_;(repeat first | (with_reducible first | apply bb | apply aV | apply a8 | apply aX | apply dc) | (with_reducible apply c4); exact rfl; (exact rfl) | (with_reducible apply aO); exact rfl; (repeat first | (with_reducible apply az); exact rfl | refine e2 rfl rfl rfl (by (exact aP)) rfl ?_); (with_reducible apply aA));refine On 0 rfl rfl rfl rfl b6 rfl rfl (fun p S j7 => ?_);obtain ⟨b, rfl, hS⟩ := j7;rw [← J7 n] at hS;have nS := OY _ _ _ _ hS (by decide);(repeat first | (with_reducible first | apply bb | apply aV | apply a8 | apply aX) | (with_reducible apply aO); exact rfl; (repeat first | (with_reducible apply az); exact rfl | (with_reducible apply xn); (iterate 4 exact rfl) | (with_reducible apply tN); (iterate 4 exact rfl) | refine e2 rfl rfl rfl (by (exact fo)) rfl ?_); (with_reducible apply aA));refine Aw 0 rfl rfl rfl rfl nS rfl rfl rfl (fun v dp h => ?_);obtain ⟨rfl, fH⟩ := h;(repeat first | (with_reducible first | apply bb | apply aV | apply a8 | apply aX | apply dM | apply dc) | (with_reducible apply c4); exact rfl; (exact b5 (by omega)) | (with_reducible apply aO); exact rfl; (repeat first | (with_reducible apply az); exact rfl | (with_reducible apply c6); (iterate 3 exact rfl)); (with_reducible apply aA));rw [← hU]
  ((refine DS 24 rfl (bD rfl bf) rfl (bL.of_eq Qc) rfl rfl ?_))
  refine ⟨_, rfl, rfl, gC, gC, gC, b, dp, .c gC, fH, rfl, ?_, ?_, rfl⟩
  ·unfold eY;rw [if_neg (by rw [hE.n]; omega)];intro h; cases h
  ·unfold eY;rw [if_neg (by rw [hE.n]; omega)]; rfl
def vM (a b c d e f a' bR c' d' bu ll : Int) : Bool := decide (a = a') && (decide (b = bR) && (decide (c = c') && (decide (d = d') && (decide (e = bu) && decide (f = ll)))))
theorem Xd (n : Nat) (a b c d e f a' bR c' d' bu ll : Int) (W : World) : (Op.equalIn (n + 1 + 1) 126 (.agg #[.int .i64 a, .int .i64 b, .int .i64 c, .int .i64 d, .int .i64 e, .int .i64 f]) (.agg #[.int .i64 a', .int .i64 bR, .int .i64 c', .int .i64 d', .int .i64 bu, .int .i64 ll])).run aj W = .ok (vM a b c d e f a' bR c' d' bu ll) W := by
 have hu : aj.underlying 126 = some (.array 6 3) := by kernel_rfl
 have hi : aj.underlying 3 = some (.int .i64) := by kernel_rfl
 obtain ⟨m, hm⟩ : ∃ m, m = n + 1 := ⟨_, rfl⟩;rw [← hm, Op.equalIn];simp only [Sem.run_bind, run_underlying hu, Result.andThen_ok];rw [hm];have a6 : (sizeOf 3).run aj W = .ok 1 W := by go_simp
 have hp : ∀ (xs : Array Value) (off : Nat) (v : Value), xs[off]? = some v → (part 3 xs off).run aj W = .ok v W := fun xs off v h => by
  have aI : (isAgg 3).run aj W = .ok false W := by
   unfold isAgg;simp only [Sem.run_bind, run_underlying hi, Result.andThen_ok, Sem.run_pure]
  unfold part;simp only [Sem.run_bind, aI, Result.andThen_ok, oC, if_false, h, Sem.run_pure]
 simp only [a6, Result.andThen_ok];rw [Std.Legacy.Range.forIn_eq_forIn_range'];unfold vM;have ke := hp #[.int .i64 a, .int .i64 b, .int .i64 c, .int .i64 d, .int .i64 e, .int .i64 f] (0 * 1) (.int .i64 a) rfl;have db := hp #[.int .i64 a', .int .i64 bR, .int .i64 c', .int .i64 d', .int .i64 bu, .int .i64 ll] (0 * 1) (.int .i64 a') rfl;have p1 := hp #[.int .i64 a, .int .i64 b, .int .i64 c, .int .i64 d, .int .i64 e, .int .i64 f] (1 * 1) (.int .i64 b) rfl;have q1 := hp #[.int .i64 a', .int .i64 bR, .int .i64 c', .int .i64 d', .int .i64 bu, .int .i64 ll] (1 * 1) (.int .i64 bR) rfl;have p2 := hp #[.int .i64 a, .int .i64 b, .int .i64 c, .int .i64 d, .int .i64 e, .int .i64 f] (2 * 1) (.int .i64 c) rfl;have q2 := hp #[.int .i64 a', .int .i64 bR, .int .i64 c', .int .i64 d', .int .i64 bu, .int .i64 ll] (2 * 1) (.int .i64 c') rfl;have p3 := hp #[.int .i64 a, .int .i64 b, .int .i64 c, .int .i64 d, .int .i64 e, .int .i64 f] (3 * 1) (.int .i64 d) rfl;have cr := hp #[.int .i64 a', .int .i64 bR, .int .i64 c', .int .i64 d', .int .i64 bu, .int .i64 ll] (3 * 1) (.int .i64 d') rfl;have p4 := hp #[.int .i64 a, .int .i64 b, .int .i64 c, .int .i64 d, .int .i64 e, .int .i64 f] (4 * 1) (.int .i64 e) rfl;have eE := hp #[.int .i64 a', .int .i64 bR, .int .i64 c', .int .i64 d', .int .i64 bu, .int .i64 ll] (4 * 1) (.int .i64 bu) rfl;have rF := hp #[.int .i64 a, .int .i64 b, .int .i64 c, .int .i64 d, .int .i64 e, .int .i64 f] (5 * 1) (.int .i64 f) rfl;have lZ := hp #[.int .i64 a', .int .i64 bR, .int .i64 c', .int .i64 d', .int .i64 bu, .int .i64 ll] (5 * 1) (.int .i64 ll) rfl;rw [show List.range' [:6].start [:6].size [:6].step = [0, 1, 2, 3, 4, 5] from rfl];simp only [List.forIn_cons, List.forIn_nil, Sem.run_bind, ke, db, p1, q1, p2, q2, p3, cr, p4, eE, rF, lZ, Result.andThen_ok, run_equalIn_int W n _ .i64 .i64 _ _ hi]
 by_cases aI : a = a'
 case neg => simp [aI]
 subst aI;simp only [beq_self_eq_true, Bool.not_true, oC, if_false, Sem.run_pure, Sem.run_bind, ke, db, p1, q1, p2, q2, p3, cr, p4, eE, rF, lZ, Result.andThen_ok, run_equalIn_int W n _ .i64 .i64 _ _ hi]
 by_cases ab : b = bR
 case neg => simp [ab]
 subst ab;simp only [beq_self_eq_true, Bool.not_true, oC, if_false, Sem.run_pure, Sem.run_bind, ke, db, p1, q1, p2, q2, p3, cr, p4, eE, rF, lZ, Result.andThen_ok, run_equalIn_int W n _ .i64 .i64 _ _ hi]
 by_cases ak : c = c'
 case neg => simp [ak]
 subst ak;simp only [beq_self_eq_true, Bool.not_true, oC, if_false, Sem.run_pure, Sem.run_bind, ke, db, p1, q1, p2, q2, p3, cr, p4, eE, rF, lZ, Result.andThen_ok, run_equalIn_int W n _ .i64 .i64 _ _ hi]
 by_cases hd : d = d'
 case neg => simp [hd]
 subst hd;simp only [beq_self_eq_true, Bool.not_true, oC, if_false, Sem.run_pure, Sem.run_bind, ke, db, p1, q1, p2, q2, p3, cr, p4, eE, rF, lZ, Result.andThen_ok, run_equalIn_int W n _ .i64 .i64 _ _ hi]
 by_cases he : e = bu
 case neg => simp [he]
 subst he;simp only [beq_self_eq_true, Bool.not_true, oC, if_false, Sem.run_pure, Sem.run_bind, ke, db, p1, q1, p2, q2, p3, cr, p4, eE, rF, lZ, Result.andThen_ok, run_equalIn_int W n _ .i64 .i64 _ _ hi]
 by_cases aw : f = ll
 case neg => simp [aw]
 subst aw;simp only [beq_self_eq_true, Bool.not_true, oC, if_false, Sem.run_pure, Sem.run_bind, ke, db, p1, q1, p2, q2, p3, cr, p4, eE, rF, lZ, Result.andThen_ok, run_equalIn_int W n _ .i64 .i64 _ _ hi];simp
abbrev v6 (a b c d e f : Int) : ai := .w (.agg [.c (.int .i64 a), .c (.int .i64 b), .c (.int .i64 c), .c (.int .i64 d), .c (.int .i64 e), .c (.int .i64 f)])
theorem Xe : aj.eqGuardType aj.depth 126 = false := by kernel_rfl
theorem LF {s : aE} {ops : Array Oper} {K : aE → Prop} {rest : List Oper} {ty : Nat} {pos : String} {after : Array Edge} {guard : Option (Nat × Bool)} {o dY : Nat} {x y : Operand} {a b c d e f a' bR c' d' bu ll : Int} (hw : want ops ⟨some o, .binOp .eql 126 x y dY, ty, pos, after, guard⟩ s = some true) (aa : s.look x = some (v6 a b c d e f)) (ag : s.look y = some (v6 a' bR c' d' bu ll)) (hd : Nat.blt o s.n = true) (h : bj aj ops K rest (s.put (some o) (bG (vM a b c d e f a' bR c' d' bu ll)))) : bj aj ops K (⟨some o, .binOp .eql 126 x y dY, ty, pos, after, guard⟩ :: rest) s :=
 si hw aa ag rfl rfl (fun W => Dg Xe) (fun W => by rw [run_eql_struct, show (10000 : Nat) = 9998 + 1 + 1 from rfl, Xd]; rfl) rfl hd h
abbrev Sq (k rm ph I J T : Int) (dirty : Bool) (hot fnd : List aq) (ch : List (List aq × List Int)) : List AC := [.c (.int .i64 k), .c (.int .i64 rm), .c (.int .i64 ph), .c (.int .i64 I), .c (.int .i64 J), .c (.int .i64 T), .c (.bool dirty), .p (cx 2 hot.length (b8 hot)), .p (cx 2 fnd.length (b8 fnd)), .p (cx 2 ch.length (eQ ch))]
abbrev yK (k rm ph I J T : Int) (dirty : Bool) (hot fnd : List aq) (ch : List (List aq × List Int)) : ai := .w (.agg (Sq k rm ph I J T dirty hot fnd ch))
theorem JL {k rm ph I J T : Int} {dirty : Bool} {hot fnd : List aq} {ch : List (List aq × List Int)} : aY aj 83 [yK k rm ph I J T dirty hot fnd ch] (v6 k rm ph I J T) := by
 refine cq (f := 83) Tryz.func83 rfl rfl rfl rfl ?_;(repeat first | (with_reducible apply az); exact rfl | (with_reducible first | apply bQ | apply bI | apply bO | apply aA | apply cf))
 ((refine bY rfl (fc rfl rfl rfl bf) ?_))
 exact ai.bo.refl _
abbrev Kx : ai := aU (.func (.func 50) #[] #[])
def Tl (L M : List (List aq × List Int)) (k : Nat) (aS : List (Nat × ai)) (bw : List (Nat × List AC)) : Prop :=
 ∃ (i : Nat) (ii : Int), i ≤ L.length ∧ k = L.length - i ∧ ii = i ∧ bw = [] ∧ aS = [(1, pF M), (2, Kx), (15, pF L), (16, aR L.length), (17, aR ii)]
theorem adJ {L M : List (List aq × List Int)} (ak : kM L) (HI : L = M) : aY aj 85 [pF L, pF M, Kx] (bG true) := by
 have hlen := ak.1;have fb : (L.length : Int) = M.length := by rw [HI]
 refine cq (f := 85) Tryz.func85 rfl rfl rfl rfl ?_;(repeat first | (with_reducible apply az); exact rfl | (with_reducible apply c6); (iterate 3 exact rfl) | (with_reducible first | apply bQ | apply bI | apply bO | apply aA | apply e3 | apply gW) | (with_reducible apply ia); exact rfl; ((simp only [hG]; (omega))));refine xr 32 (Tl L M) L.length _ [] ⟨0, 0, eF _, rfl, rfl, rfl, rfl⟩ rfl ⟨rfl, rfl, rfl, rfl, rfl, trivial⟩ trivial rfl ?_;rintro n aS bw ⟨j, dS, af, rfl, ob, rfl, rfl⟩ dK;clear dK
 by_cases hp : j < L.length
 ·have p2 : dS < (L.length : Int) := by omega
  have p3 : 0 ≤ dS := by omega
  have p4 : dS < (M.length : Int) := by omega
  obtain ⟨V, D, g1⟩ : ∃ V D, L[j]? = some (V, D) := ⟨_, _, cj hp⟩;have g2 : M[j]? = some (V, D) := by rw [← HI]; exact g1
  obtain ⟨jG, hH⟩ := ak.2 _ (dL g1);simp only at jG hH;have jW := vG ob g1;have kn := vG ob g2;have aP := OZ V V D D hH (by omega) hH (by omega);rw [bF rfl, bF rfl] at aP;clear HI;(repeat first | (with_reducible apply az); exact rfl | (with_reducible apply gN); (iterate 5 exact rfl) | (with_reducible apply fi); (iterate 3 exact rfl); (omega); (omega); (assumption); exact rfl | (with_reducible apply fh); (iterate 3 exact rfl); (exact cZ (by omega)); exact rfl | refine dP rfl rfl rfl rfl (by (exact aP)) rfl ?_ | (with_reducible first | apply bQ | apply bI | apply bO | apply aA | apply e3 | apply gW | apply nw) | (with_reducible apply ib); exact rfl | (with_reducible apply gO); exact rfl; (exact bF (by omega)));exact ⟨L.length - (j + 1), _, [], by omega, ⟨j + 1, dS + 1, hp, rfl, by omega, rfl, rfl⟩, rfl, ⟨rfl, rfl, rfl, rfl, rfl, trivial⟩, trivial, rfl⟩
 ·have p2 : ¬ dS < (L.length : Int) := by omega
  (repeat first | (with_reducible apply az); exact rfl | (with_reducible first | apply bQ | apply bI | apply bO | apply aA | apply cf | apply vy | apply vC | apply vB) | (with_reducible apply ia); exact rfl; (exact b5 (by omega)))
  ((refine bY rfl (bD rfl bf) ?_))
  exact ai.bo.refl _
theorem adI {L : List (List aq × List Int)} (ak : kM L) : aY aj 85 [pF L, pF L, Kx] (bG true) := adJ ak rfl
theorem ad0 {k rm ph I J T : Int} {dirty : Bool} {hot fnd : List aq} {ch : List (List aq × List Int)} (aW : hot.length ≤ 1000000) (aw : fnd.length ≤ 1000000) (ak : kM ch) : aY aj 43 [yK k rm ph I J T dirty hot fnd ch, yK k rm ph I J T dirty hot fnd ch] (bG true) := by
 have aP := JL (k := k) (rm := rm) (ph := ph) (I := I) (J := J) (T := T) (dirty := dirty) (hot := hot) (fnd := fnd) (ch := ch);have b6 := JH (D := hot) (E := hot) aW;have fo := JH (D := fnd) (E := fnd) aw;have nS := adI ak;rw [bF rfl] at b6 fo;have fQ : vM k rm ph I J T k rm ph I J T = true := by unfold vM; simp
 refine cq (f := 43) Tryz.func43 rfl rfl rfl rfl ?_;(repeat first | (with_reducible apply az); exact rfl | refine e2 rfl rfl rfl (by (exact aP)) rfl ?_ | (with_reducible apply iL); kernel_rfl; kernel_rfl; exact rfl | (with_reducible first | apply bQ | apply bI | apply bO | apply aA));refine LF rfl rfl rfl rfl ?_;rw [fQ];have rj : (dirty == dirty) = true := by simp
 have aiW : decide (dirty = dirty) = true := by simp
 (repeat first | (with_reducible apply az); exact rfl | refine dP rfl rfl rfl rfl (by (first | exact b6 | exact fo)) rfl ?_ | refine kt rfl rfl rfl rfl rfl (by (exact nS)) rfl ?_ | (with_reducible apply si); (iterate 5 exact rfl); (intro W; go_simp; try rfl); (intro W; go_simp; try rfl); exact rfl; exact rfl | (with_reducible apply iJ); kernel_rfl | (with_reducible first | apply bI | apply cf))
 ((refine bY rfl (bD rfl bf) ?_))
 exact ai.bo.refl _
theorem adZ {k rm ph I J T k' rm' ph' I' J' T' : Int} {dirty dirty' : Bool} {hot fnd hot' fnd' : List aq} {ch ch' : List (List aq × List Int)} (aD : vM k rm ph I J T k' rm' ph' I' J' T' = false) : aY aj 43 [yK k rm ph I J T dirty hot fnd ch, yK k' rm' ph' I' J' T' dirty' hot' fnd' ch'] (bG false) := by
 have aP := JL (k := k) (rm := rm) (ph := ph) (I := I) (J := J) (T := T) (dirty := dirty) (hot := hot) (fnd := fnd) (ch := ch);have b6 := JL (k := k') (rm := rm') (ph := ph') (I := I') (J := J') (T := T') (dirty := dirty') (hot := hot') (fnd := fnd') (ch := ch');refine cq (f := 43) Tryz.func43 rfl rfl rfl rfl ?_;(repeat first | (with_reducible apply az); exact rfl | refine e2 rfl rfl rfl (by (first | exact aP | exact b6)) rfl ?_ | (with_reducible apply iL); kernel_rfl; kernel_rfl; exact rfl | (with_reducible first | apply bQ | apply bI | apply bO | apply aA));refine LF rfl rfl rfl rfl ?_;rw [aD];(repeat first | (with_reducible apply az); exact rfl | (with_reducible apply iJ); kernel_rfl | (with_reducible first | apply bI | apply cf))
 ((refine bY rfl (bD rfl bf) ?_))
 exact ai.bo.refl _
theorem b3.Kj {U : Nat → Prop} {ad : Nat → Nat} {W : World} {cs : List AC} {vs : List Value} {i : Nat} {u : Value} {x : AC} (h : b3 U ad W cs vs) (hi : cs[i]? = some (.c u)) (aa : gV U ad W x u) : b3 U ad W (cs.set i x) vs := by
 refine ⟨by rw [List.length_set]; exact h.1, fun j y v ag hv => ?_⟩;rw [List.getElem?_set] at ag
 split at ag
 ·rename_i e;subst e
  split at ag
  ·cases ag;have := (h.2 i _ v hi hv).1;subst this; exact aa
  ·cases ag
 ·exact h.2 j y v ag hv
theorem afy {hv fv cv : Value} {hot fnd : List aq} {ch : List (List aq × List Int)} {R : aL} (aH : R 4 = none) (cM : R 5 = none) (fQ : R 6 = none) : oV 4 (oV 5 (oV 6 (l3 hv fv cv hot fnd ch R))) = R := by
 funext k;unfold oV
 by_cases eR : k = 4
 ·subst eR; rw [if_pos rfl, aH]
 ·rw [if_neg eR]
  by_cases jC : k = 5
  ·subst jC; rw [if_pos rfl, cM]
  ·rw [if_neg jC]
   by_cases qa : k = 6
   ·subst qa; rw [if_pos rfl, fQ]
   ·rw [if_neg qa];unfold l3; rw [cl _ _ qa, cl _ _ jC, cl _ _ eR]
section
variable {E : List (Int × bV)} {r rm : Nat}
theorem dC.lX {s : bt.aN aq} {cs : List AC} {R : aL} (h : dC E r rm s cs R) : ∀ i, 4 ≤ i → R i = none := by
 obtain ⟨_, _, _, _, _, _, _, _, _, _, rfl⟩ := h;intro i hi
 match i, hi with
 | i + 4, _ => rfl
theorem dC.FI {s : bt.aN aq} {cs : List AC} {R : aL} (h : dC E r rm s cs R) : ∀ i, i < 4 → ∃ q, R i = some q := by
 obtain ⟨_, _, _, _, _, _, _, _, _, _, rfl⟩ := h;intro i hi
 match i, hi with
 | 0, _ => exact ⟨_, rfl⟩
 | 1, _ => exact ⟨_, rfl⟩
 | 2, _ => exact ⟨_, rfl⟩
 | 3, _ => exact ⟨_, rfl⟩
abbrev FW (r rm : Nat) (s : bt.aN aq) : ai := yK r rm s.ph s.I s.J s.T s.dirty s.hot s.fnd s.ch
theorem abb {s : bt.aN aq} (aW : s.hot.length ≤ 900000) (aw : s.fnd.length ≤ 900000) (ak : kM s.ch) : gz E r rm 28 [] s (FW r rm s) s := by
 intro cs R bp;have s6 := bp.lX 4 (by decide);have Jx := bp.lX 5 (by decide);have Jy := bp.lX 6 (by decide);have h := aba aW aw ak bp
 have h1 := h.vH 6 Jy (Post2 := fun ck aK aC => ∃ hv fv, ck = .w (.agg ((pC r rm s.ph s.I s.J s.T s.dirty hv fv gC).set 9 (.p (cx 2 s.ch.length (eQ s.ch))))) ∧ aK = cO 1000 cs ∧ ∃ cv, aC = oV 6 (l3 hv fv cv s.hot s.fnd s.ch R)) (by
  rintro ck aK aC ⟨au, rfl, hv, fv, cv, rfl, rfl, rfl⟩;refine ⟨_, _, cw _ _ _, jL _, fun U ad W v h aF => ?_, fun j af => ?_, hv, fv, rfl, rfl, cv, rfl⟩
  ·obtain ⟨vs, e, ap⟩ := h;exact ⟨vs, e, (ap.Kj (i := 9) rfl aF : b3 U ad W ((pC r rm s.ph s.I s.J s.T s.dirty hv fv cv).set 9 _) vs)⟩
  ·exact absurd af (ai.dI rfl j))
 have h2 := h1.vH 5 Jx (Post2 := fun ck aK aC => ∃ hv, ck = .w (.agg (((pC r rm s.ph s.I s.J s.T s.dirty hv gC gC).set 9 (.p (cx 2 s.ch.length (eQ s.ch)))).set 8 (.p (cx 2 s.fnd.length (b8 s.fnd))))) ∧ aK = cO 1000 cs ∧ ∃ fv cv, aC = oV 5 (oV 6 (l3 hv fv cv s.hot s.fnd s.ch R))) (by
  rintro ck aK aC ⟨hv, fv, rfl, rfl, cv, rfl⟩;refine ⟨hO fv s.fnd, _, rfl, jL _, fun U ad W v h aF => ?_, fun j af => ?_, hv, rfl, rfl, fv, cv, rfl⟩
  ·obtain ⟨vs, e, ap⟩ := h;exact ⟨vs, e, (ap.Kj (i := 8) rfl aF)⟩
  ·exact absurd af (ai.dI rfl j))
 have ao := h2.vH 4 s6 (Post2 := oM 1000 fun ck au aC => ck = FW r rm s ∧ dC E r rm s au aC) (by
  rintro ck aK aC ⟨hv, rfl, rfl, fv, cv, rfl⟩;refine ⟨hO hv s.hot, FW r rm s, rfl, jL _, fun U ad W v h aF => ?_, fun j af => ?_, cs, rfl, rfl, ?_⟩
  ·obtain ⟨vs, e, ap⟩ := h;exact ⟨vs, e, (ap.Kj (i := 7) rfl aF)⟩
  ·exact absurd af (ai.dI rfl j)
  ·rw [afy s6 Jx Jy]; exact bp)
 exact ao
def eN (i : Nat) : Nat := if i < 10 then i + 20 else if i < 20 then i else if i < 30 then i - 20 else i
theorem yE (j : Nat) : eN (eN j) = j := by
 unfold eN
 by_cases h1 : j < 10
 ·simp only [if_pos h1];rw [if_neg (by omega), if_neg (by omega), if_pos (by omega)]; omega
 ·by_cases h2 : j < 20
  ·simp only [if_neg h1, if_pos h2]
  ·by_cases ao : j < 30
   ·simp only [if_neg h1, if_neg h2, if_pos ao];rw [if_pos (by omega)]; omega
   ·simp only [if_neg h1, if_neg h2, if_neg ao]
def K5 (k : Nat) (cb : Nat → Nat) (E : List (Int × bV)) (r rm : Nat) (f : FuncId) (args : List ai) (s : bt.aN aq) (v : ai) (s' : bt.aN aq) : Prop :=
 ∀ cs R, dC E r rm s cs R → dk aj f (.w (.one (.own k 0)) :: args) (cO k cs) (R.bc cb) (oM k fun ck au aC => ck = v ∧ ∃ bl, dC E r rm s' au bl ∧ aC = bl.bc cb)
theorem gz.mN (k : Nat) {cb : Nat → Nat} (ga : ∀ j, cb (cb j) = j) {f : FuncId} {args : List ai} {s s' : bt.aN aq} {v : ai} (h : gz E r rm f args s v s') (et : args.all ai.bd = true) (hv : v.bd = true) : K5 k cb E r rm f args s v s' := fun cs R bp => by
 have h1 := dk.at k (h cs R bp) et bp.closed (fun ck ds aC an => ⟨by rw [an.1]; exact hv, an.2.closed⟩);refine (h1.rn ga).imp ?_;rintro ck aK aC ⟨bl, ⟨au, rfl, rfl, cp⟩, rfl⟩;exact ⟨au, rfl, rfl, bl, cp, rfl⟩
end
section
variable {R : aL} {s : aE} {ops : Array Oper} {dr : Option (List Nat)} {ty : Nat} {pos : String} {after : Array Edge} {guard : Option (Nat × Bool)} {K : aL → aE → Prop} {rest : List Oper}
theorem lV (k : Nat) (cb : Nat → Nat) {E : List (Int × bV)} {r rm : Nat} {eH s1 : bt.aN aq} {v : ai} {dst : Option Nat} {f : FuncId} {g : Operand} {aS : Array TypeId} {l : List Operand} {args : List ai} {cs : List AC} {R0 : aL} [F8 : Enters aj f] (hw : want ops ⟨dst, .call ⟨.value g, l.toArray, aS⟩, ty, pos, after, guard⟩ s = some true) (hm : dE dr ⟨dst, .call ⟨.value g, l.toArray, aS⟩, ty, pos, after, guard⟩ = true)
  (ax : s.look g = some (aU (.func (.func f) #[] #[]))) (aI : l.map s.look = (ai.w (.one (.own k 0)) :: args).map some) (ae : s.mem k = some cs) (hZ : pD dr k = true) (et : args.all ai.bd = true) (hd : li dst s.n = true) (hp : K5 k cb E r rm f args eH v s1) (bp : dC E r rm eH cs R0) (al : bL (R0.bc cb) R)
  (h : ∀ au bl, dC E r rm s1 au bl → cQ aj ops dr K rest (b9 (bl.bc cb) R) ((s.ep k au).put dst v)) : cQ aj ops dr K (⟨dst, .call ⟨.value g, l.toArray, aS⟩, ty, pos, after, guard⟩ :: rest) R s := by
 refine D7 k hw hm ax aI (hp cs R0 bp) ae hZ al bp.closed et hd ?_;rintro _ au aC ⟨rfl, bl, ar, rfl⟩;exact h au bl ar
end
abbrev two (gU fP : aL) : aL := b9 gU (fP.bc eN)
section
variable {E B9 : List (Int × bV)} {r rm ba rm' : Nat} {s s1 t t1 : bt.aN aq} {cs Wa ds C9 : List AC} {gU vp fP pT : aL}
theorem wX : bL gU (two gU fP) := fun i q h => h4 h
theorem FP (aI : dC E r rm s cs gU) (ab : dC B9 ba rm' t ds fP) : bL (fP.bc eN) (two gU fP) := fun i q h => by
 have hi : 4 ≤ i := Nat.not_lt.1 fun bh => by
  have : fP (eN i) = none := ab.lX _ (by unfold eN; rw [if_pos (by omega)]; omega);rw [show fP.bc eN i = fP (eN i) from rfl, this] at h; cases h
 rw [show two gU fP i = b9 gU (fP.bc eN) i from rfl, hN (aI.lX i hi)]; exact h
theorem wY (aI : dC E r rm s cs gU) (HS : dC E r rm s1 Wa vp) : b9 vp (two gU fP) = two vp fP := by
 funext i
 by_cases hi : i < 4
 ·obtain ⟨q, an⟩ := HS.FI i hi;rw [h4 an, show two vp fP i = b9 vp (fP.bc eN) i from rfl, h4 an]
 ·rw [hN (HS.lX i (by omega)), show two gU fP i = b9 gU (fP.bc eN) i from rfl, show two vp fP i = b9 vp (fP.bc eN) i from rfl, hN (aI.lX i (by omega)), hN (HS.lX i (by omega))]
theorem FQ (aI : dC E r rm s cs gU) (ab : dC B9 ba rm' t ds fP) (bE : dC B9 ba rm' t1 C9 pT) : b9 (pT.bc eN) (two gU fP) = two gU pT := by
 funext i
 by_cases hi : i < 4
 ·obtain ⟨q, an⟩ := aI.FI i hi;have : pT (eN i) = none := bE.lX _ (by unfold eN; rw [if_pos (by omega)]; omega);rw [hN (show pT.bc eN i = none from this), show two gU fP i = b9 gU (fP.bc eN) i from rfl, show two gU pT i = b9 gU (pT.bc eN) i from rfl, h4 an, h4 an]
 ·have aD := aI.lX i (by omega);rw [show two gU pT i = b9 gU (pT.bc eN) i from rfl, hN aD]
  by_cases aH : eN i < 4
  ·obtain ⟨q, an⟩ := bE.FI _ aH;rw [h4 (show pT.bc eN i = some q from an)]; exact an.symm
  ·have h1 : pT.bc eN i = none := bE.lX _ (by omega);have h2 : fP.bc eN i = none := ab.lX _ (by omega);rw [hN h1, show two gU fP i = b9 gU (fP.bc eN) i from rfl, hN aD, h1, h2]
theorem St (aI : dC E r rm s cs gU) (ab : dC B9 ba rm' t ds fP) : b9 (fP.bc eN) gU = two gU fP := by
 funext i
 by_cases hi : i < 4
 ·obtain ⟨q, an⟩ := aI.FI i hi;have : fP (eN i) = none := ab.lX _ (by unfold eN; rw [if_pos (by omega)]; omega);rw [hN (show fP.bc eN i = none from this), show two gU fP i = b9 gU (fP.bc eN) i from rfl, h4 an, an]
 ·rw [show two gU fP i = b9 gU (fP.bc eN) i from rfl, hN (aI.lX i (by omega))];cases an : fP.bc eN i with
  | some q => exact h4 an
  | none => rw [hN an]; exact aI.lX i (by omega)
end
theorem I0 (k : Nat) {cb : Nat → Nat} (ga : ∀ j, cb (cb j) = j) {E : List (Int × bV)} {K n : Int} (ap : E.length ≤ 300) (h : fK (E.map Prod.snd) = true) : dk aj 17 [jx E, aR K, aR n] cm gw fun ck aK aC => ∃ cs bl, ck = .w (.one (.own k 0)) ∧ aK = cO k cs ∧ aC = bl.bc cb ∧ dC E (da K) (cS n) (eY (bx E (da K) (cS n))) cs bl := by
 have h1 := (aa7 (k := K) (n := n) ap h).bc (nk 24 k) (cb := cb) (iE := cb) ga ga;refine dk.imp (show dk aj 17 [jx E, aR K, aR n] cm gw _ from h1) ?_;rintro ck aK aC ⟨cN, m1, bl, ⟨cs, rfl, rfl, bp⟩, rfl, rfl, rfl⟩;refine ⟨cs, bl, ?_, wB bp.closed, rfl, bp⟩;show ai.w (.one (.own (swp 24 k 24) 0)) = _;rw [BG]
abbrev n1 : List (Int × bV) := [(0, (0, 0), (4, 4)), (0, (0, 4), (4, 0))]
abbrev gM (rm : Nat) : bN aq := bx n1 0 rm
def q3 : bt.aN aq := (eT (gM 9) 3 (eY (gM 9))).2
def tK : bt.aN aq := (eT (gM 9) 1000 q3).2
def CE : bt.aN aq := (eT (gM 4) 100 (eY (gM 4))).2
theorem Ly : (eT (gM 9) 3 (eY (gM 9))).2 = q3 := by unfold q3; rfl
theorem LA : (eT (gM 9) 1000 q3).2 = tK := by unfold tK; rfl
theorem LB : (eT (gM 4) 100 (eY (gM 4))).2 = CE := by unfold CE; rfl
theorem Uw : (eT (gM 9) 3 (eY (gM 9))).1 = 3 := by decide +kernel
theorem Ux : q3.ph = 2 ∧ q3.hot.length = 5 := by decide +kernel
theorem Uy : (eT (gM 9) 1000 q3).1 = 36 := by decide +kernel
theorem Uz : tK.ph = 4 ∧ tK.ch.length = 2 ∧ (tK.ch.map fun c => c.1.length) = [3, 3] ∧ tK.ch[0]? = some ([(0, 0), (2, 2), (4, 4)], [2, 2]) := by decide +kernel
theorem UA : CE.ph = 5 := by decide +kernel
section
variable {E : List (Int × bV)} {r rm : Nat}
theorem Ka (h : hE E r rm) {n : Nat} {s : bt.aN aq} (bp : nt E r rm s) : nt E r rm (eT (bx E r rm) n s).2 := by
 rw [(FA n s).1]; exact (yc h.ok _ bp).1
theorem hE.st (h : hE E r rm) {s : bt.aN aq} (bp : nt E r rm s) : s.hot.length ≤ 1024 ∧ s.fnd.length ≤ 1024 ∧ kM s.ch := by
 have ab := bp.1;have aW := h.hot ab;have nil : kM [] := ⟨eF _, fun c ak => by cases ak⟩;refine ⟨aW, ?_⟩;obtain ⟨_, aJ | h1 | h2 | ao | aH | cM⟩ := bp
 ·rw [aJ.fnd, aJ.ch]; exact ⟨eF _, nil⟩
 ·rw [h1.fnd, h1.ch]; exact ⟨eF _, nil⟩
 ·obtain ⟨c, p, q, _, _, _, aw⟩ := h2.link;refine ⟨?_, h.xz ab h2.laid⟩;rw [aw];refine lC (List.length_filter_le ..) ?_;rw [eu]; omega
 ·rw [ao.fnd]; exact ⟨eF _, h.xz ab ao.laid⟩
 ·rw [aH.fnd]; exact ⟨eF _, h.xz ab aH.laid⟩
 ·rw [cM.fnd];refine ⟨eF _, ?_⟩;rcases cM.ch with ⟨ak, _⟩ | ap
  ·rw [ak]; exact nil
  ·exact h.xz ab ap
theorem Er (h : hE E r rm) {s : bt.aN aq} (bp : nt E r rm s) : gz E r rm 28 [] s (FW r rm s) s := by
 obtain ⟨a, b, c⟩ := h.st bp;exact abb (by omega) (by omega) c
end
section
variable {R : aL} {s : aE} {ops : Array Oper} {dr : Option (List Nat)} {ty : Nat} {pos : String} {after : Array Edge} {guard : Option (Nat × Bool)} {K : aL → aE → Prop} {rest : List Oper}
theorem At (k : Nat) (cb : Nat → Nat) {E : List (Int × bV)} {r rm : Nat} {eH : bt.aN aq} {dst : Option Nat} {f : FuncId} {g : Operand} {aS : Array TypeId} {l : List Operand} {args : List ai} [F8 : Enters aj f] (hw : want ops ⟨dst, .call ⟨.value g, l.toArray, aS⟩, ty, pos, after, guard⟩ s = some true) (hm : dE dr ⟨dst, .call ⟨.value g, l.toArray, aS⟩, ty, pos, after, guard⟩ = true)
  (ax : s.look g = some (aU (.func (.func f) #[] #[]))) (aI : l.map s.look = args.map some) (hp : dk aj f args cm gw fun ck aK aC => ∃ cs bl, ck = .w (.one (.own k 0)) ∧ aK = cO k cs ∧ aC = bl.bc cb ∧ dC E r rm eH cs bl) (ae : s.mem k = none) (bh : Nat.blt k s.n = true) (et : args.all ai.bd = true) (hd : li dst s.n = true)
  (h : ∀ cs bl, dC E r rm eH cs bl → cQ aj ops dr K rest (b9 (bl.bc cb) R) ((s.ep k cs).put dst (.w (.one (.own k 0))))) : cQ aj ops dr K (⟨dst, .call ⟨.value g, l.toArray, aS⟩, ty, pos, after, guard⟩ :: rest) R s := by
 refine wk hw hm ax aI hp (fun x aa j af => absurd af (ai.dI (cB.1 et x aa) j)) (fun k' au ar => by cases ar) (fun fS ba ar => by cases ar) (fun k' au x j ar aa af => by cases ar) hd ?_;rintro ck aK aC ⟨cs, bl, rfl, rfl, rfl, bp⟩;refine ⟨fun k' c ar => ?_, ?_⟩
 ·obtain ⟨rfl, rfl⟩ := h3 ar;exact .inr ⟨ae, by simpa [Nat.blt_eq] using bh⟩
 ·have aM : s.over (cO k cs) = s.ep k cs := by
   show ({ s with mem := b9 (bJ cm k cs) s.mem } : aE) = { s with mem := bJ s.mem k cs };rw [show b9 (bJ cm k cs) s.mem = bJ s.mem k cs from wJ s.mem k cs]
  rw [aM];exact h cs bl bp
end
theorem JG (R : aL) : b9 R gw = R := by
 funext i;cases h : R i with
 | none => rw [hN h]; rfl
 | some q => exact h4 h
abbrev dF : Nat → Nat := fun j => j
theorem nD (j : Nat) : dF (dF j) = j := rfl
theorem ze (rm : Nat) (h1 : 1 ≤ rm) (h2 : rm ≤ 1024) : hE n1 0 rm := ⟨eF _, by decide, by decide, h1, h2⟩
theorem UB : vK tK.ch = 2 := by decide +kernel
theorem JO {α β : Type} (x : α × β) {a : α} (h : x.1 = a) : x = (a, x.2) := by subst h; rfl
theorem UP : ∃ dH dZ pU : bt.aN aq, eT (gM 9) 3 (eY (gM 9)) = (3, dH) ∧ eT (gM 9) 1000 dH = (36, dZ) ∧ eT (gM 4) 100 (eY (gM 4)) = ((eT (gM 4) 100 (eY (gM 4))).1, pU) ∧ nt n1 0 9 dH ∧ nt n1 0 9 dZ ∧ nt n1 0 4 pU ∧ dH.ph = 2 ∧ dH.hot.length = 5 ∧ dZ.ph = 4 ∧ dZ.ch.length = 2 ∧ dZ.ch[0]? = some ([(0, 0), (2, 2), (4, 4)], [2, 2]) ∧ vK dZ.ch = 2 ∧ pU.ph = 5 := by
 have i1 : nt n1 0 9 (eT (gM 9) 3 (eY (gM 9))).2 := Ka (n := 3) (s := eY (gM 9)) (ze 9 (by decide) (by decide)) (pk (gM 9) _);rw [Ly] at i1;have i2 : nt n1 0 9 (eT (gM 9) 1000 q3).2 := Ka (n := 1000) (s := q3) (ze 9 (by decide) (by decide)) i1;rw [LA] at i2;have i3 : nt n1 0 4 (eT (gM 4) 100 (eY (gM 4))).2 := Ka (n := 100) (s := eY (gM 4)) (ze 4 (by decide) (by decide)) (pk (gM 4) _);rw [LB] at i3;have aG := JO _ Uw;rw [Ly] at aG;have aM := JO _ Uy;rw [LA] at aM;have cD := JO (eT (gM 4) 100 (eY (gM 4))) rfl;rw [LB] at cD;have f1 := Ux;have f2 := Uz;have f3 := UB;have f4 := UA;generalize q3 = dH at *;generalize tK = dZ at *;generalize CE = pU at *;exact ⟨dH, dZ, pU, aG, aM, cD, i1, i2, i3, f1.1, f1.2, f2.1, f2.2.1, f2.2.2.2, f3, f4⟩
theorem ad4 : aY aj 16 [] (bG true) := by
 obtain ⟨dH, dZ, pU, cN, cJ, gH, i1, i2, i3, f1, f2, f3, f4, f5, f6, f7⟩ := UP;have qR := ze 9 (by decide) (by decide);have fD := ze 4 (by decide) (by decide);have Cr := I0 15 (cb := dF) nD (E := n1) (K := 0) (n := 9) (by decide) (by decide);have KV := I0 27 (cb := eN) yE (E := n1) (K := 0) (n := 4) (by decide) (by decide);rw [show da 0 = 0 from by decide, show cS 9 = 9 from by decide] at Cr;rw [show da 0 = 0 from by decide, show cS 4 = 4 from by decide] at KV;have bl := Ep qR (pk _ _) (n := 3) (by decide);have eZ := Ep qR i1 (n := 1000) (by decide);have ko := Ep fD (pk _ _) (n := 100) (by decide);rw [show (3 : Int).toNat = 3 from rfl, cN] at bl;rw [show (1000 : Int).toNat = 1000 from rfl, cJ] at eZ;rw [show (100 : Int).toNat = 100 from rfl, gH] at ko;clear cN cJ gH;have bl := bl.mN 15 (cb := dF) nD rfl rfl;have eZ := eZ.mN 15 (cb := dF) nD rfl rfl;have ko := ko.mN 27 (cb := eN) yE rfl rfl;have qZ := (Er qR i1).mN 15 (cb := dF) nD rfl rfl;have sd := (Er qR i2).mN 15 (cb := dF) nD rfl rfl;have h9 := (Eo (E := n1) (r := 0) (rm := 9) (s := dZ)).mN 15 (cb := dF) nD rfl rfl;have Ct := (Eo (E := n1) (r := 0) (rm := 4) (s := pU)).mN 27 (cb := eN) yE rfl rfl;have KO := (aa2 (E := n1) (r := 0) (rm := 9) (s := dZ) (qR.st i2).2.2).mN 15 (cb := dF) nD rfl rfl;have np := (I1 qR i2).mN 15 (cb := dF) nD rfl rfl;rw [(wW qR.ok i2).2.2 (by omega), b5 (by omega)] at np;have Co := ad0 (k := (0 : Nat)) (rm := (9 : Nat)) (ph := dZ.ph) (I := dZ.I) (J := dZ.J) (T := dZ.T) (dirty := dZ.dirty) (hot := dZ.hot) (fnd := dZ.fnd) (ch := dZ.ch) (by have := (qR.st i2).1; omega) (by have := (qR.st i2).2.1; omega) (qR.st i2).2.2;have TH := adZ (k := (0 : Nat)) (rm := (9 : Nat)) (ph := dH.ph) (I := dH.I) (J := dH.J) (T := dH.T) (dirty := dH.dirty) (hot := dH.hot) (fnd := dH.fnd) (ch := dH.ch) (k' := (0 : Nat)) (rm' := (9 : Nat)) (ph' := dZ.ph) (I' := dZ.I) (J' := dZ.J) (T' := dZ.T) (dirty' := dZ.dirty) (hot' := dZ.hot) (fnd' := dZ.fnd) (ch' := dZ.ch) (by rw [f1, f3]; unfold vM; simp);rw [f6] at KO;have g1 : (dH.ph : Int) = 2 := by rw [f1]; rfl
 have g2 : (dH.hot.length : Int) = 5 := by rw [f2]; rfl
 have g3 : (dZ.ph : Int) = 4 := by rw [f3]; rfl
 have g4 : (dZ.ch.length : Int) = 2 := by rw [f4]; rfl
 have g7 : (pU.ph : Int) = 5 := by rw [f7]; rfl
 have jW := vG (ii := 0) rfl f5;clear qR fD i1 i2 i3 f1 f2 f3 f4 f6 f7;refine cq (f := 16) Tryz.func16 rfl rfl rfl rfl ?_;refine vD ?_;(repeat first | (with_reducible first | apply bb | apply aV | apply a8 | apply aX) | (with_reducible apply aO); exact rfl; (repeat first | (with_reducible apply az); exact rfl | (with_reducible apply lM); (iterate 10 exact rfl)); (with_reducible apply aA));refine At 15 dF rfl rfl rfl rfl Cr rfl rfl rfl rfl (fun cs vm b0 => ?_);rw [JG];(repeat first | (with_reducible first | apply bb | apply aV | apply a8 | apply aX | apply dc) | (with_reducible apply c4); exact rfl; (exact rfl) | (with_reducible apply aO); exact rfl; (repeat first | (with_reducible apply az); exact rfl | (with_reducible apply CG); exact rfl; exact rfl; kernel_rfl; exact rfl); (with_reducible apply aA));refine lV 15 dF rfl rfl rfl rfl rfl rfl rfl rfl bl b0 (bL.refl _) (fun Mm pO jU => ?_);rw [show b9 (aL.bc dF pO) (aL.bc dF vm) = aL.bc dF pO from b0.b9 jU];(repeat first | (with_reducible first | apply bb | apply aV | apply a8 | apply aX) | (with_reducible apply aO); exact rfl; (repeat first | (with_reducible apply az); exact rfl); (with_reducible apply aA));refine lV 15 dF rfl rfl rfl rfl rfl rfl rfl rfl qZ jU (bL.refl _) (fun G1 pP lI => ?_);rw [show b9 (aL.bc dF pP) (aL.bc dF pO) = aL.bc dF pP from jU.b9 lI];(repeat first | (with_reducible first | apply bb | apply aV | apply a8 | apply aX) | (with_reducible apply aO); exact rfl; (repeat first | (with_reducible apply az); exact rfl); (with_reducible apply aA));refine lV 15 dF rfl rfl rfl rfl rfl rfl rfl rfl eZ lI (bL.refl _) (fun Wb oO nR => ?_);rw [show b9 (aL.bc dF oO) (aL.bc dF pP) = aL.bc dF oO from lI.b9 nR];(repeat first | (with_reducible first | apply bb | apply aV | apply a8 | apply aX) | (with_reducible apply aO); exact rfl; (repeat first | (with_reducible apply az); exact rfl); (with_reducible apply aA));refine lV 15 dF rfl rfl rfl rfl rfl rfl rfl rfl sd nR (bL.refl _) (fun ahV y3 w6 => ?_);rw [show b9 (aL.bc dF y3) (aL.bc dF oO) = aL.bc dF y3 from nR.b9 w6];(repeat first | (with_reducible first | apply bb | apply aV | apply a8 | apply aX) | (with_reducible apply aO); exact rfl; (repeat first | (with_reducible apply az); exact rfl); (with_reducible apply aA));refine At 27 eN rfl rfl rfl rfl KV rfl rfl rfl rfl (fun ds vn bq => ?_);rw [show b9 (aL.bc eN vn) (aL.bc dF y3) = two y3 vn from St w6 bq];(repeat first | (with_reducible first | apply bb | apply aV | apply a8 | apply aX | apply dc) | (with_reducible apply c4); exact rfl; (exact rfl) | (with_reducible apply aO); exact rfl; (repeat first | (with_reducible apply az); exact rfl | (with_reducible apply CG); exact rfl; exact rfl; kernel_rfl; exact rfl); (with_reducible apply aA));refine lV 27 eN rfl rfl rfl rfl rfl rfl rfl rfl ko bq (FP w6 bq) (fun C9 pQ kl => ?_);rw [FQ w6 bq kl];(repeat first | (with_reducible apply l5 (id := 13) [0,1,2,3,4,5,6,7,8,9,10,11,12,13,14,15,16,17,18,19,20,21,22,23,24,25,26,27,28,29,30,31,32,33,34,35,36,37,38,39,40,41,42,43,44,45,46,47,48,49,50,51,52,53,54,55,56,57,58,59,60,61,62,63,64,65,66,67,68,69,70,71,72,73,74,75] [51,82,87,92,98,2000015,2000027]); kernel_rfl; kernel_rfl; exact rfl | (with_reducible first | apply bb | apply aV | apply aX) | (with_reducible apply aO); exact rfl; (repeat first | (with_reducible apply az); exact rfl | (with_reducible apply c6); (iterate 3 exact rfl) | (with_reducible apply dO (c := true)); exact rfl; exact rfl; (exact bF (by omega))); (with_reducible apply aA));refine lV 15 dF rfl rfl rfl rfl rfl rfl rfl rfl h9 w6 wX (fun ahW Gl F2 => ?_);rw [show b9 (aL.bc dF Gl) (two y3 pQ) = two Gl pQ from wY w6 F2];(repeat first | (with_reducible apply aO); exact rfl; (repeat first | (with_reducible apply az); exact rfl | (with_reducible apply mh); (iterate 5 exact rfl) | (with_reducible apply gN); (iterate 5 exact rfl) | (with_reducible apply tL); (iterate 3 exact rfl) | (with_reducible apply fi); (iterate 3 exact rfl); (decide); (first | decide | omega); (first | assumption | rfl); exact rfl | (with_reducible apply xm); (iterate 4 exact rfl) | (with_reducible apply c6); (iterate 3 exact rfl) | (with_reducible apply dO (c := true)); exact rfl; exact rfl; (exact bF (by omega))); (with_reducible apply aA));refine lV 15 dF rfl rfl rfl rfl rfl rfl rfl rfl KO F2 wX (fun ahX Gm F3 => ?_);rw [show b9 (aL.bc dF Gm) (two Gl pQ) = two Gm pQ from wY F2 F3];(repeat first | (with_reducible apply aO); exact rfl; (repeat first | (with_reducible apply az); exact rfl | (with_reducible apply dO (c := true)); exact rfl; exact rfl; (exact bF (by omega))); (with_reducible apply aA));refine lV 15 dF rfl rfl rfl rfl rfl rfl rfl rfl np F3 wX (fun ahY Gn yR => ?_);rw [show b9 (aL.bc dF Gn) (two Gm pQ) = two Gn pQ from wY F3 yR];(repeat first | (with_reducible apply aO); exact rfl; (repeat first | (with_reducible apply az); exact rfl); (with_reducible apply aA));refine lV 27 eN rfl rfl rfl rfl rfl rfl rfl rfl Ct kl (FP yR kl) (fun MF sb oL => ?_);rw [FQ yR kl oL];(repeat first | (with_reducible apply aO); exact rfl; (repeat first | (with_reducible apply az); exact rfl | (with_reducible apply dO (c := true)); exact rfl; exact rfl; (exact bF (by omega))); (with_reducible apply aA));refine lV 15 dF rfl rfl rfl rfl rfl rfl rfl rfl sd yR wX (fun ahZ K3 SS => ?_);rw [show b9 (aL.bc dF K3) (two Gn sb) = two K3 sb from wY yR SS];(repeat first | (with_reducible apply eD); kernel_rfl | (with_reducible first | apply aV | apply dM) | (with_reducible apply aO); exact rfl; (repeat first | (with_reducible apply az); exact rfl | refine dP rfl rfl rfl rfl (by (first | exact Co | exact TH)) rfl ?_); (with_reducible apply aA))
 ((refine bY rfl (bD rfl bf) ?_))
 exact ai.bo.refl _
instance ajt : nu aj 22 63 5 40 := ⟨by kernel_rfl⟩
theorem aem {E : List (Int × bV)} : aY aj 15 [jx E] (bG (decide ((E.length : Int) ≤ 7))) := by
 refine cq (f := 15) Tryz.func15 rfl rfl rfl rfl ?_;(repeat first | (with_reducible apply az); exact rfl | (with_reducible apply c6); (iterate 3 exact rfl) | (with_reducible first | apply bQ | apply bI | apply bO | apply aA | apply cf))
 ((refine bY rfl (bD rfl bf) ?_))
 exact ai.bo.refl _
def lW (n room : Int) : Int := 8 * (l4 room + 2) * (n * l4 room + 1) * (n * l4 room + 1)
theorem PP {n R : Int} (aJ : 0 ≤ n) (j0 : n ≤ 7) (h1 : 1 ≤ R) (h2 : R ≤ 1024) : (0 ≤ n * R ∧ n * R ≤ 7168) ∧ (0 ≤ 8 * (R + 2) * (n * R + 1) ∧ 8 * (R + 2) * (n * R + 1) ≤ 58843152) ∧ (0 ≤ 8 * (R + 2) * (n * R + 1) * (n * R + 1) ∧ 8 * (R + 2) * (n * R + 1) * (n * R + 1) ≤ 421846556688) := by
 have a1 : 0 ≤ n * R := il aJ (by omega);have a2 : n * R ≤ 7 * 1024 := tk j0 h2 (by omega) (by omega);have b1 : 0 ≤ 8 * (R + 2) * (n * R + 1) := il (by omega) (by omega);have b2 : 8 * (R + 2) * (n * R + 1) ≤ 8208 * 7169 := tk (by omega) (by omega) (by omega) (by omega);have c1 : 0 ≤ 8 * (R + 2) * (n * R + 1) * (n * R + 1) := il b1 (by omega);have c2 : 8 * (R + 2) * (n * R + 1) * (n * R + 1) ≤ (8208 * 7169) * 7169 := tk b2 (by omega) (by omega) (by omega);exact ⟨⟨a1, by omega⟩, ⟨b1, by omega⟩, c1, by omega⟩
theorem afG (n : Int) : l4 n = if 1024 < (if 1 > n then 1 else n) then 1024 else (if 1 > n then 1 else n) := by unfold l4; (repeat split) <;> omega
theorem PO {n room : Int} (aJ : 0 ≤ n) (j0 : n ≤ 7) : 0 ≤ lW n room ∧ lW n room ≤ 421846556688 := by
 have h := PP aJ j0 (R := l4 room) (by unfold l4; (repeat split) <;> omega) (by unfold l4; (repeat split) <;> omega);exact h.2.2
theorem aey {n room : Int} (aJ : 0 ≤ n) (j0 : n ≤ 7) : aY aj 49 [aR n, aR room] (aR (lW n room)) := by
 unfold lW;rw [afG];obtain ⟨⟨a1, a2⟩, ⟨b1, b2⟩, c1, c2⟩ := PP aJ j0 (R := if 1024 < (if 1 > room then 1 else room) then 1024 else (if 1 > room then 1 else room)) (by (repeat split) <;> omega) (by (repeat split) <;> omega);have cN : 1 ≤ (if 1024 < (if 1 > room then 1 else room) then 1024 else (if 1 > room then 1 else room)) := by (repeat split) <;> omega
 have cJ : (if 1024 < (if 1 > room then 1 else room) then 1024 else (if 1 > room then 1 else room)) ≤ 1024 := by (repeat split) <;> omega
 refine cq (f := 49) Tryz.func49 rfl rfl rfl rfl ?_;(repeat first | (with_reducible apply az); exact rfl | (with_reducible apply fh); (iterate 3 exact rfl); (exact cZ (by omega)); exact rfl | (with_reducible apply sj); (iterate 3 exact rfl); (exact cZ (by omega)); exact rfl | (with_reducible apply xn); (iterate 4 exact rfl) | (with_reducible apply tN); (iterate 4 exact rfl) | (with_reducible first | apply bQ | apply bI | apply bO | apply aA | apply cf))
 ((refine bY rfl (bD rfl bf) ?_))
 exact ai.bo.refl _
def TN (E : List (Int × bV)) (k : Nat) (R : aL) (aS : List (Nat × ai)) (bw : List (Nat × List AC)) : Prop :=
 ∃ (i : Nat) (ii : Int) (v : Value), i ≤ E.length ∧ k = E.length - i ∧ ii = i ∧ R = bH 0 ⟨91, 5, v, i, lR (E.take i)⟩ ∧ bw = [] ∧ aS = [(3, aU v), (6, jx E), (7, aR E.length), (8, aR ii)]
theorem adV {E : List (Int × bV)} (al : E.length ≤ 900000) : aY aj 18 [jx E] (jx E) := by
 refine cq (f := 18) Tryz.func18 rfl rfl rfl rfl ?_;refine vD ?_;refine bb ?_;(repeat first | (with_reducible first | apply bb | apply aV | apply a8 | apply aX | apply fu) | (with_reducible apply aO); exact rfl; (repeat first | (with_reducible apply az); exact rfl | (with_reducible apply c6); (iterate 3 exact rfl)); (with_reducible apply aA));refine mF 0 91 5 rfl ?_
 skip
 refine k7 18 (TN E) E.length (bH 0 ⟨91, 5, .slice none 0 0, 0, []⟩) _ [] ⟨0, 0, .slice none 0 0, eF _, rfl, rfl, rfl, rfl, rfl⟩ (ni _ _ _) rfl ⟨rfl, rfl, rfl, rfl, trivial⟩ trivial rfl ?_;rintro n R aS bw ⟨i, ii, v, hi, rfl, gi, rfl, rfl, rfl⟩ dK;clear dK
 by_cases an : i < E.length
 ·have q2 : ii < (E.length : Int) := by omega
  have cr : 0 ≤ ii := by omega
  obtain ⟨o, a, b, c, d, g1⟩ : ∃ o a b c d, E[i]? = some (o, (a, b), (c, d)) := ⟨_, _, _, _, _, cj an⟩;have jW := vP gi g1
  have cD : lR (E.take (i + 1)) = lR (E.take i) ++ [.c (.int .i64 a), .c (.int .i64 b), .c (.int .i64 c), .c (.int .i64 d), .c (.int .i64 o)] := by
   rw [nO an, (bP.1 g1).2]; simp [lR, zx]
  (repeat first | (with_reducible first | apply bb | apply aV | apply a8 | apply aX | apply dc | apply fu) | (with_reducible apply eo); exact rfl; (exact bF (by omega)) | (with_reducible apply aO); exact rfl; (repeat first | (with_reducible apply az); exact rfl | (with_reducible apply gN); (iterate 5 exact rfl) | (with_reducible apply fi); (iterate 3 exact rfl); (omega); (omega); (assumption); exact rfl | (with_reducible apply lM); (iterate 10 exact rfl)); (with_reducible apply aA));refine oi 0 rfl rfl rfl rfl ?q1 ?q2 rfl rfl (fun v1 ic => ?_)
  case q1 => exact ka (by show i + 1 ≤ 1000000; omega)
  case q2 => show (i + 1) * 40 ≤ 140737488355328; omega
  (repeat first | (with_reducible first | apply aV | apply a8 | apply aX | apply kg) | (with_reducible apply aO); exact rfl; (repeat first | (with_reducible apply az); exact rfl | (with_reducible apply fh); (iterate 3 exact rfl); (exact cZ (by omega)); exact rfl); (with_reducible apply aA));refine ⟨E.length - (i + 1), bH 0 ⟨91, 5, v1, i + 1, lR (E.take (i + 1))⟩, _, [], by omega, ⟨i + 1, ii + 1, v1, an, rfl, by omega, rfl, rfl, rfl⟩, ?_, rfl, ⟨rfl, rfl, rfl, rfl, trivial⟩, trivial, rfl⟩;rw [cD];exact ni _ _ _
 ·have q2 : ¬ ii < (E.length : Int) := by omega
  have dl : i = E.length := by omega
  subst dl;rw [List.take_length];refine Bu 0 3 ⟨91, 5, v, E.length, lR E⟩ rfl rfl ?_;(repeat first | (with_reducible first | apply bb | apply aV | apply a8 | apply aX | apply dM | apply jN | apply jS | apply jR) | (with_reducible apply c4); exact rfl; (exact b5 (by omega)) | (with_reducible apply aO); exact rfl; (repeat first | (with_reducible apply az); exact rfl); (with_reducible apply aA))
  ((refine bY rfl (bD rfl bf) ?_))
  exact ai.bo.refl _
def T0 (E : List (Int × bV)) (k : Nat) (aS : List (Nat × ai)) (bw : List (Nat × List AC)) : Prop :=
 ∃ (i : Nat) (ii : Int), i ≤ E.length ∧ k = E.length - i ∧ ii = i ∧ fK (E.map Prod.snd) = fK ((E.drop i).map Prod.snd) ∧ bw = [] ∧ aS = [(0, jx E), (3, aR ii)]
theorem P9 {a b : Int} : gd (a, b) = true ↔ cG a b = true ∧ a ≠ 134217728 ∧ b ≠ 134217728 := by
 rw [s8];unfold cG;simp only [eh, cL];omega
theorem adY {E : List (Int × bV)} (al : E.length ≤ 4611686018427387904) : aY aj 19 [jx E] (bG (fK (E.map Prod.snd))) := by
 refine cq (f := 19) Tryz.func19 rfl rfl rfl rfl ?_;(repeat first | (with_reducible apply az); exact rfl | (with_reducible first | apply bQ | apply bI | apply bO | apply aA | apply gW));refine xr 60 (T0 E) E.length _ [] ⟨0, 0, eF _, rfl, rfl, rfl, rfl, rfl⟩ rfl ⟨rfl, rfl, trivial⟩ trivial rfl ?_;rintro n aS bw ⟨j, dS, af, rfl, ob, gZ, rfl, rfl⟩ dK;clear dK
 by_cases hp : j < E.length
 ·have p2 : dS < (E.length : Int) := by omega
  have p3 : 0 ≤ dS := by omega
  obtain ⟨o, a, b, c, d, g1⟩ : ∃ o a b c d, E[j]? = some (o, (a, b), (c, d)) := ⟨_, _, _, _, _, cj hp⟩;have jW := vP ob g1;have hd : E.drop j = (o, (a, b), (c, d)) :: E.drop (j + 1) := by rw [nL hp, (bP.1 g1).2]
  have e : fK ((E.drop j).map Prod.snd) = ((gd (a, b) && gd (c, d)) && fK ((E.drop (j + 1)).map Prod.snd)) := by rw [hd]; rfl
  rw [e] at gZ;have Al := P9 (a := a) (b := b);have uD := P9 (a := c) (b := d);have ET : gd (a, b) = false → fK (E.map Prod.snd) = false := fun h => by rw [gZ, h]; rfl
  have EU : gd (c, d) = false → fK (E.map Prod.snd) = false := fun h => by rw [gZ, h, Bool.and_false]; rfl
  cases fp : cG a b with
  | false =>
   have aP := Fa fp;have gZ := ET (Bool.eq_false_iff.2 fun h => by have := Al.1 h; rw [fp] at this; exact absurd this.1 (by decide));rw [gZ];(repeat first | (with_reducible apply az); exact rfl | (with_reducible apply gN); (iterate 5 exact rfl) | (with_reducible apply tL); (iterate 3 exact rfl) | (with_reducible apply fi); (iterate 3 exact rfl); (omega); (omega); (assumption); exact rfl | (with_reducible apply c6); (iterate 3 exact rfl) | refine e2 rfl rfl rfl (by (exact aP)) rfl ?_ | (with_reducible first | apply bQ | apply bI | apply bO | apply aA | apply cf | apply e3 | apply fV | apply gW | apply mM) | (with_reducible apply iK); exact rfl | (with_reducible apply gO); exact rfl; (exact bF (by omega)))
   ((refine bY rfl (bD rfl bf) ?_))
   exact ai.bo.refl _
  | true =>
   have aP := Fa fp;cases jF : cG c d with
   | false =>
    have b6 := Fa jF;have gZ := EU (Bool.eq_false_iff.2 fun h => by have := uD.1 h; rw [jF] at this; exact absurd this.1 (by decide));rw [gZ];(repeat first | (with_reducible apply az); exact rfl | (with_reducible apply gN); (iterate 5 exact rfl) | (with_reducible apply tL); (iterate 3 exact rfl) | (with_reducible apply fi); (iterate 3 exact rfl); (omega); (omega); (assumption); exact rfl | (with_reducible apply c6); (iterate 3 exact rfl) | refine e2 rfl rfl rfl (by (first | exact aP | exact b6)) rfl ?_ | (with_reducible first | apply bQ | apply bI | apply bO | apply aA | apply cf | apply e3 | apply fV | apply gW | apply mM) | (with_reducible apply iK); exact rfl | (with_reducible apply gO); exact rfl; (exact bF (by omega)))
    ((refine bY rfl (bD rfl bf) ?_))
    exact ai.bo.refl _
   | true =>
    have b6 := Fa jF
    by_cases aI : a = 134217728
    ·have gZ := ET (Bool.eq_false_iff.2 fun h => by have := Al.1 h; omega);rw [gZ];(repeat first | (with_reducible apply az); exact rfl | (with_reducible apply mh); (iterate 5 exact rfl) | (with_reducible apply gN); (iterate 5 exact rfl) | (with_reducible apply tL); (iterate 3 exact rfl) | (with_reducible apply fi); (iterate 3 exact rfl); (omega); (omega); (assumption); exact rfl | (with_reducible apply c6); (iterate 3 exact rfl) | refine e2 rfl rfl rfl (by (first | exact aP | exact b6)) rfl ?_ | (with_reducible apply dO (c := true)); exact rfl; exact rfl; (exact bF (by omega)) | (with_reducible first | apply bQ | apply bI | apply bO | apply aA | apply cf | apply e3 | apply fV | apply gW | apply mM) | (with_reducible apply iK); exact rfl | (with_reducible apply ib); exact rfl | (with_reducible apply gO); exact rfl; (exact bF (by omega)))
     ((refine bY rfl (bD rfl bf) ?_))
     exact ai.bo.refl _
    by_cases ab : b = 134217728
    ·have gZ := ET (Bool.eq_false_iff.2 fun h => by have := Al.1 h; omega);rw [gZ];(repeat first | (with_reducible apply az); exact rfl | (with_reducible apply mh); (iterate 5 exact rfl) | (with_reducible apply gN); (iterate 5 exact rfl) | (with_reducible apply tL); (iterate 3 exact rfl) | (with_reducible apply fi); (iterate 3 exact rfl); (omega); (omega); (assumption); exact rfl | (with_reducible apply c6); (iterate 3 exact rfl) | refine e2 rfl rfl rfl (by (first | exact aP | exact b6)) rfl ?_ | (with_reducible apply dO (c := true)); exact rfl; exact rfl; (exact bF (by omega)) | (with_reducible apply dO (c := false)); exact rfl; exact rfl; (exact b5 (by omega)) | (with_reducible first | apply bQ | apply bI | apply bO | apply aA | apply cf | apply e3 | apply fV | apply gW | apply mM) | (with_reducible apply iK); exact rfl | (with_reducible apply ib); exact rfl | (with_reducible apply gO); exact rfl; (exact bF (by omega)))
     ((refine bY rfl (bD rfl bf) ?_))
     exact ai.bo.refl _
    by_cases ak : c = 134217728
    ·have gZ := EU (Bool.eq_false_iff.2 fun h => by have := uD.1 h; omega);rw [gZ];(repeat first | (with_reducible apply az); exact rfl | (with_reducible apply mh); (iterate 5 exact rfl) | (with_reducible apply gN); (iterate 5 exact rfl) | (with_reducible apply tL); (iterate 3 exact rfl) | (with_reducible apply fi); (iterate 3 exact rfl); (omega); (omega); (assumption); exact rfl | (with_reducible apply c6); (iterate 3 exact rfl) | refine e2 rfl rfl rfl (by (first | exact aP | exact b6)) rfl ?_ | (with_reducible apply dO (c := true)); exact rfl; exact rfl; (exact bF (by omega)) | (with_reducible apply dO (c := false)); exact rfl; exact rfl; (exact b5 (by omega)) | (with_reducible first | apply bQ | apply bI | apply bO | apply aA | apply cf | apply e3 | apply fV | apply gW | apply mM) | (with_reducible apply iK); exact rfl | (with_reducible apply ib); exact rfl | (with_reducible apply gO); exact rfl; (exact bF (by omega)))
     ((refine bY rfl (bD rfl bf) ?_))
     exact ai.bo.refl _
    by_cases sJ : d = 134217728
    ·have gZ := EU (Bool.eq_false_iff.2 fun h => by have := uD.1 h; omega);rw [gZ];(repeat first | (with_reducible apply az); exact rfl | (with_reducible apply mh); (iterate 5 exact rfl) | (with_reducible apply gN); (iterate 5 exact rfl) | (with_reducible apply tL); (iterate 3 exact rfl) | (with_reducible apply fi); (iterate 3 exact rfl); (omega); (omega); (assumption); exact rfl | (with_reducible apply c6); (iterate 3 exact rfl) | refine e2 rfl rfl rfl (by (first | exact aP | exact b6)) rfl ?_ | (with_reducible apply dO (c := false)); exact rfl; exact rfl; (exact b5 (by omega)) | (with_reducible first | apply bQ | apply bI | apply bO | apply aA | apply cf | apply e3 | apply fV | apply gW | apply mM) | (with_reducible apply ib); exact rfl | (with_reducible apply gO); exact rfl; (exact bF (by omega)))
     ((refine bY rfl (bD rfl bf) ?_))
     exact ai.bo.refl _
    rw [Al.2 ⟨fp, aI, ab⟩, uD.2 ⟨jF, ak, sJ⟩, qH, qH] at gZ;clear ET EU Al uD;(repeat first | (with_reducible apply az); exact rfl | (with_reducible apply mh); (iterate 5 exact rfl) | (with_reducible apply gN); (iterate 5 exact rfl) | (with_reducible apply tL); (iterate 3 exact rfl) | (with_reducible apply fi); (iterate 3 exact rfl); (omega); (omega); (assumption); exact rfl | (with_reducible apply fh); (iterate 3 exact rfl); (exact cZ (by omega)); exact rfl | (with_reducible apply c6); (iterate 3 exact rfl) | refine e2 rfl rfl rfl (by (first | exact aP | exact b6)) rfl ?_ | (with_reducible apply dO (c := false)); exact rfl; exact rfl; (exact b5 (by omega)) | (with_reducible first | apply bQ | apply bI | apply bO | apply aA | apply e3 | apply gW | apply nw) | (with_reducible apply ib); exact rfl | (with_reducible apply gO); exact rfl; (exact bF (by omega)) | (with_reducible apply ia); exact rfl; (exact b5 (by omega)));exact ⟨E.length - (j + 1), _, [], by omega, ⟨j + 1, dS + 1, hp, rfl, by omega, gZ, rfl, rfl⟩, rfl, ⟨rfl, rfl, trivial⟩, trivial, rfl⟩
 ·have p2 : ¬ dS < (E.length : Int) := by omega
  rw [u4 (by omega)] at gZ;rw [gZ];(repeat first | (with_reducible apply az); exact rfl | (with_reducible apply c6); (iterate 3 exact rfl) | (with_reducible first | apply bQ | apply bI | apply bO | apply aA | apply cf | apply vy | apply vC | apply vB) | (with_reducible apply ia); exact rfl; (exact b5 (by omega)))
  ((refine bY rfl (bD rfl bf) ?_))
  exact ai.bo.refl _
def y6 (k : Nat) (cb : Nat → Nat) (E : List (Int × bV)) (r rm : Nat) (f : FuncId) (args : List ai) (eH : bt.aN aq) : Prop :=
 dk aj f args cm gw fun ck aK aC => ∃ cs bl, ck = .w (.one (.own k 0)) ∧ aK = cO k cs ∧ aC = bl.bc cb ∧ dC E r rm eH cs bl
theorem y6.tO9 {hK : Nat} {E : List (Int × bV)} {r rm : Nat} {f : FuncId} {args : List ai} {eH : bt.aN aq} (h : y6 hK dF E r rm f args eH) (et : args.all ai.bd = true) (k : Nat) {cb : Nat → Nat} (ga : ∀ j, cb (cb j) = j) : y6 k cb E r rm f args eH := by
 have h1 := dk.bc (bM := swp hK k) (nk hK k) (cb := cb) (iE := cb) ga ga h
 have aM : args.map (ai.bc (swp hK k)) = args := by
  conv => rhs; rw [← List.map_id args]
  exact oD fun x aa => u6 (cB.1 et x aa)
 rw [aM] at h1;refine dk.imp (show dk aj f args cm gw _ from h1) ?_;rintro ck aK aC ⟨cN, m1, bl, ⟨cs, eZ, rfl, rfl, rfl, bp⟩, rfl, rfl, rfl⟩;refine ⟨cs, eZ, ?_, wB bp.closed, rfl, bp⟩;show ai.w (.one (.own (swp hK k hK) 0)) = _;rw [BG]
theorem IV {o : bN aq} {ok : Nat → List aq × List Int → Prop} (ae : gT o ok) : ∀ (n : Nat) {s : bt.aN aq}, hB o ok s → 4 ≤ s.ph → iQ o n s = s
 | 0, s, _, _ => rfl
 | n + 1, s, h, aH => by
  have e := (wW ae h).2.2 aH;show iQ o n (dV o s) = s;rw [e]; exact IV ae n h aH
theorem run_eq {o : bN aq} {ok : Nat → List aq × List Int → Prop} (ae : gT o ok) (n : Nat) {s : bt.aN aq} (h : hB o ok s) : (eT o n s).2 = iQ o n s := by
 obtain ⟨h1, h2, ao⟩ := FA (o := o) n s
 by_cases ak : (eT o n s).1 < n
 ·have aH := ao ak;have e : n = (eT o n s).1 + (n - (eT o n s).1) := by omega
  have hi := (yc ae (eT o n s).1 h).1;rw [h1] at aH ⊢
  conv => rhs; rw [e, OV]
  exact (IV ae _ hi aH).symm
 ·have e : (eT o n s).1 = n := by omega
  rw [h1, e]
section
variable {E : List (Int × bV)} {k room : Int}
def iq (E : List (Int × bV)) (k room : Int) : bt.aN aq := iQ (bx E (da k) (cS room)) (lW E.length room).toNat (eY (bx E (da k) (cS room)))
theorem yO (h : fK (E.map Prod.snd) = true) (ap : E.length ≤ 7) : nt E (da k) (cS room) (iq E k room) ∧ 4 ≤ (iq E k room).ph ∧ (eT (bx E (da k) (cS room)) (lW E.length room).toNat (eY (bx E (da k) (cS room)))).2 = iq E k room ∧ ((eT (bx E (da k) (cS room)) (lW E.length room).toNat (eY (bx E (da k) (cS room)))).1 : Int) ≤ lW E.length room := by
 have hw : hE E (da k) (cS room) := yA h (by omega);have ay : (bx E (da k) (cS room)).R = cS room := rfl;have aD := hE.n E (da k) (cS room);have ab := PO (n := E.length) (room := room) (by omega) (by omega)
 have hm : 8 * ((bx E (da k) (cS room)).R + 2) * (((bx E (da k) (cS room)).n * (bx E (da k) (cS room)).R + 1) * ((bx E (da k) (cS room)).n * (bx E (da k) (cS room)).R + 1)) ≤ (lW E.length room).toNat := by
  rw [ay, aD]
  have e : ((8 * (cS room + 2) * ((E.length * cS room + 1) * (E.length * cS room + 1)) : Nat) : Int) = lW E.length room := by
   unfold lW;rw [← J7 room]
   push_cast
   rw [lD (8 * ((cS room : Int) + 2)), show ((cS room : Int) + 1 + 1) = (cS room : Int) + 2 by omega]
  omega
 have he := Xa hw.ok (by rw [ay]; exact hw.pos) hm;refine ⟨he.1, ?_, run_eq hw.ok _ (pk _ _), ?_⟩
 ·unfold iq;rcases he.2 with aH | cM
  ·rw [aH.ph]; decide
  ·rw [cM.ph]; decide
 ·have := (FA (o := bx E (da k) (cS room)) (lW E.length room).toNat (eY (bx E (da k) (cS room)))).2.1;omega
theorem abn (h : fK (E.map Prod.snd) = true) (ap : E.length ≤ 7) : y6 12 dF E (da k) (cS room) 27 [jx E, aR k, aR room] (iq E k room) := by
 obtain ⟨i1, aH, aG, aM⟩ := yO (k := k) (room := room) h ap;have hw : hE E (da k) (cS room) := yA h (by omega);have Cr := I0 12 (cb := dF) nD (E := E) (K := k) (n := room) (by omega) h;have aP := adV (E := E) (by omega);have b6 := aey (n := E.length) (room := room) (by omega) (by omega);have ab := PO (n := E.length) (room := room) (by omega) (by omega);have bl := Ep hw (pk _ _) (n := lW E.length room) (by omega);have kN := I1 hw i1;rw [(wW hw.ok i1).2.2 aH, b5 (by omega)] at kN;rw [aG] at bl;generalize (eT (bx E (da k) (cS room)) (lW E.length room).toNat (eY (bx E (da k) (cS room)))).1 = did at *;generalize iq E k room = dH at *;generalize eY (bx E (da k) (cS room)) = ahC at *;clear aG;generalize lW E.length room = M at *;have ai1 : ¬ (did : Int) > M := by omega
 have bl := bl.mN 12 (cb := dF) nD rfl rfl;have kN := kN.mN 12 (cb := dF) nD rfl rfl;refine dv (f := 27) Tryz.func27 rfl (du rfl) (by exact n3) ?_;(repeat first | (with_reducible first | apply bb | apply aV | apply a8 | apply aX) | (with_reducible apply aO); exact rfl; (repeat first | (with_reducible apply az); exact rfl | refine e2 rfl rfl rfl (by (exact aP)) rfl ?_); (with_reducible apply aA));refine At 12 dF rfl rfl rfl rfl Cr rfl rfl rfl rfl (fun cs vm b0 => ?_);rw [JG];(repeat first | (with_reducible first | apply bb | apply aV | apply a8 | apply aX) | (with_reducible apply aO); exact rfl; (repeat first | (with_reducible apply az); exact rfl | (with_reducible apply c6); (iterate 3 exact rfl) | refine dP rfl rfl rfl rfl (by (exact b6)) rfl ?_ | (with_reducible apply CG); exact rfl; exact rfl; kernel_rfl; exact rfl); (with_reducible apply aA));refine lV 12 dF rfl rfl rfl rfl rfl rfl rfl rfl bl b0 (bL.refl _) (fun Mm pO jU => ?_);rw [show b9 (aL.bc dF pO) (aL.bc dF vm) = aL.bc dF pO from b0.b9 jU];(repeat first | (with_reducible apply aO); exact rfl; (repeat first | (with_reducible apply az); exact rfl | (with_reducible apply c6); (iterate 3 exact rfl) | refine dP rfl rfl rfl rfl (by (exact b6)) rfl ?_ | (with_reducible apply dO (c := false)); exact rfl; exact rfl; (exact b5 (by omega))); (with_reducible apply aA));refine lV 12 dF rfl rfl rfl rfl rfl rfl rfl rfl kN jU (bL.refl _) (fun G1 pP lI => ?_);rw [show b9 (aL.bc dF pP) (aL.bc dF pO) = aL.bc dF pP from jU.b9 lI];(repeat first | (with_reducible first | apply bb | apply aV | apply a8 | apply aX | apply dM | apply dc) | (with_reducible apply c4); exact rfl; (exact rfl) | (with_reducible apply aO); exact rfl; (repeat first | (with_reducible apply az); exact rfl); (with_reducible apply aA))
 ((refine DS 12 rfl (bD rfl bf) rfl (bL.refl _) lI.closed rfl ?_))
 exact ⟨G1, pP, rfl, rfl, rfl, lI⟩
theorem O7 (h : fK (E.map Prod.snd) = true) (ap : E.length ≤ 7) (j : Nat) {cb : Nat → Nat} (ga : ∀ j, cb (cb j) = j) : y6 j cb E (da k) (cS room) 27 [jx E, aR k, aR room] (iq E k room) := (abn h ap).tO9 rfl j ga
end
theorem MW {E : List (Int × bV)} {k room : Int} (h : fK (E.map Prod.snd) = true) (ap : E.length ≤ 7) : Ck (bx E (da k) (cS room)) (yq (E.map Prod.snd) (da k)) (iq E k room) ∨ Cl (bx E (da k) (cS room)) (yq (E.map Prod.snd) (da k)) (iq E k room) := by
 obtain ⟨i1, aH, _, _⟩ := yO (k := k) (room := room) h ap;exact MX i1 aH
section
variable {E : List (Int × bV)} {r rm : Nat}
abbrev stM (r rm : Nat) (s : bt.aN aq) : List AC := Sq r rm s.ph s.I s.J s.T s.dirty s.hot s.fnd s.ch
abbrev xx (V : List aq) (D : List Int) : List AC := [.p (cx 2 V.length (b8 V)), .p (cx 1 D.length (cy D))]
end
def gm (e : Int × bV) : Int × bV := (e.1, (e.2.2, e.2.1))
theorem ag5 (E : List (Int × bV)) : (E.map gm).map Prod.snd = (E.map Prod.snd).map qO := by
 rw [List.map_map, List.map_map]; rfl
theorem Sr (E : List (Int × bV)) : fK ((E.map gm).map Prod.snd) = fK (E.map Prod.snd) := by
 induction E with
 | nil => rfl
 | cons e E bW =>
  show ((gd e.2.2 && gd e.2.1) && fK ((E.map gm).map Prod.snd)) = ((gd e.2.1 && gd e.2.2) && fK (E.map Prod.snd));rw [bW, Bool.and_comm (gd e.2.2)]
theorem ag3 {E : List (Int × bV)} {k room : Int} (h : fK (E.map Prod.snd) = true) (ap : E.length ≤ 7) :
  (iq (E.map gm) k room).ph = (iq E k room).ph ∧ ((iq E k room).ph = 4 → (iq E k room).hot.length = (iq (E.map gm) k room).hot.length ∧ (iq (E.map gm) k room).ch = (iq E k room).ch.map s4) := by
 have ar : fK ((E.map gm).map Prod.snd) = true := by rw [Sr]; exact h
 have fb : (E.map gm).length ≤ 7 := by rw [jK]; exact ap
 obtain ⟨i1, p1, _, _⟩ := yO (k := k) (room := room) h ap;obtain ⟨i2, p2, _, _⟩ := yO (k := k) (room := room) ar fb;have hw : hE E (da k) (cS room) := yA h (by omega);have lu : hE (E.map gm) (da k) (cS room) := yA ar (by omega)
 by_cases aJ : E = []
 ·subst aJ
  have e : iq [] k room = eY (bx [] (da k) (cS room)) := by
   unfold iq;exact IV hw.ok _ (pk _ _) (eb 4)
  rw [show ([] : List (Int × bV)).map gm = [] from rfl, e];exact ⟨rfl, fun _ => ⟨rfl, rfl⟩⟩
 ·have aD : 0 < (bx E (da k) (cS room)).n := by
   rw [hE.n];rcases u3 E.length with a6 | a6
   ·exact absurd (mE a6) aJ
   ·exact a6
  have Hf : bx (E.map gm) (da k) (cS room) = mx ((E.map Prod.snd).map qO) (da k) (cS room) := by
   show mx ((E.map gm).map Prod.snd) _ _ = _;rw [ag5]
  have en := lu.ok;have N1 := afD (E := E.map Prod.snd) (R := cS room) hw.r;have gA : nr (bx (E.map gm) (da k) (cS room)) := RU;rw [← Hf] at N1;have := af0 hw.ok en RU gA N1 aD p1 p2;have aG : iQ (bx E (da k) (cS room)) (lW E.length room).toNat (eY (bx E (da k) (cS room))) = iq E k room := rfl;have aM : iQ (bx (E.map gm) (da k) (cS room)) (lW (E.map gm).length room).toNat (eY (bx (E.map gm) (da k) (cS room))) = iq (E.map gm) k room := rfl;rw [aG, aM] at this;have f1 := MW (k := k) (room := room) h ap;have f2 := MW (k := k) (room := room) ar fb;generalize iq E k room = dH at *;generalize iq (E.map gm) k room = dZ at *;unfold yC at this
  by_cases q1 : dH.ph = 4
  ·rw [if_pos q1] at this
   by_cases q2 : dZ.ph = 4
   ·rw [if_pos q2] at this;obtain ⟨g1, g2, g3, g4⟩ := this;exact ⟨by rw [q1, q2], fun _ => ⟨(Be g2 g3 g1).length_eq, g4⟩⟩
   ·rw [if_neg q2] at this; exact this.elim
  ·rw [if_neg q1] at this
   by_cases q2 : dZ.ph = 4
   ·rw [if_pos q2] at this; exact this.elim
   ·refine ⟨?_, fun h => absurd h q1⟩;rcases f1 with f1 | f1
    ·exact absurd f1.ph q1
    ·rcases f2 with f2 | f2
     ·exact absurd f2.ph q2
     ·rw [f1.ph, f2.ph]
def Uf (E : List (Int × bV)) (k room : Int) (n : Nat) (R : aL) (aS : List (Nat × ai)) (bw : List (Nat × List AC)) : Prop :=
 ∃ (i : Nat) (ii : Int) (v : Value), i ≤ E.length ∧ n = E.length - i ∧ ii = i ∧ R = bH 0 ⟨63, 5, v, i, lR ((E.map gm).take i)⟩ ∧ bw = [] ∧ aS = [(0, jx E), (1, aR k), (2, aR room), (7, aU v), (28, jx E), (29, aR E.length), (30, aR ii)]
def Ua (r rm : Nat) (dH dZ : bt.aN aq) (R0 : aL) (n : Nat) (R : aL) (aS : List (Nat × ai)) (bw : List (Nat × List AC)) : Prop :=
 ∃ (i : Nat) (ii : Int), i ≤ dH.ch.length ∧ n = dH.ch.length - i ∧ ii = i ∧ R = R0 ∧ aS = [(12, pG 12), (13, pG 13), (91, pF dH.ch), (92, aR dH.ch.length), (93, aR ii)] ∧ bw = [(12, stM r rm dH), (13, stM r rm dZ)]
def Ub (r rm : Nat) (dH dZ : bt.aN aq) (R0 : aL) (V : List aq) (D : List Int) (ii : Int) (n : Nat) (R : aL) (aS : List (Nat × ai)) (bw : List (Nat × List AC)) : Prop :=
 ∃ (j : Nat) (dS : Int) (v : Value), j ≤ V.length ∧ n = V.length - j ∧ dS = j ∧ R = bJ R0 40 (hO v (V.reverse.take j)) ∧ aS = [(12, pG 12), (13, pG 13), (91, pF dH.ch), (92, aR dH.ch.length), (93, aR ii), (14, aR ii), (15, pG 15), (16, pG 16), (99, hR V), (100, aR V.length), (101, aR dS)] ∧ bw = [(12, stM r rm dH), (13, stM r rm dZ), (15, xx V D), (16, [.c v, .c gC])]
def Uc (r rm : Nat) (dH dZ : bt.aN aq) (R0 : aL) (V : List aq) (D : List Int) (ii : Int) (n : Nat) (R : aL) (aS : List (Nat × ai)) (bw : List (Nat × List AC)) : Prop :=
 ∃ (j : Nat) (dS : Int) (v : Value), j ≤ D.length ∧ n = D.length - j ∧ dS = j ∧ R = bJ R0 41 ⟨3, 1, v, j, cy (D.reverse.take j)⟩ ∧ aS = [(12, pG 12), (13, pG 13), (91, pF dH.ch), (92, aR dH.ch.length), (93, aR ii), (14, aR ii), (15, pG 15), (16, pG 16), (121, nP D), (122, aR D.length), (123, aR dS)] ∧ bw = [(12, stM r rm dH), (13, stM r rm dZ), (15, xx V D), (16, [.p (cx 2 V.reverse.length (b8 V.reverse)), .c v])]
theorem rev_at {α : Type} {l : List α} {j : Nat} (h : j < l.length) : ∃ x, l[l.length - 1 - j]? = some x ∧ l.reverse.take (j + 1) = l.reverse.take j ++ [x] := by
 refine ⟨l[l.length - 1 - j]'(by omega), cj _, ?_⟩;rw [nO (by rw [qI]; exact h), List.getElem_reverse]
theorem aaB (l : List Int) (d : Int) : cy (l ++ [d]) = cy l ++ [.c (.int .i64 d)] := by unfold cy; simp
instance ajv : nX aj 51 [.int .i64 0] := ⟨by kernel_rfl⟩
instance aju : nu aj 51 3 1 8 := ⟨by kernel_rfl⟩
theorem abE {E : List (Int × bV)} {k room : Int} : aY aj 13 [jx E, aR k, aR room] (bG true) := by
 have aP := aem (E := E);have h7 := ad4
 by_cases ap : (E.length : Int) ≤ 7
 case neg =>
  rw [b5 ap] at aP;refine cq (f := 13) Tryz.func13 rfl rfl rfl rfl ?_;(repeat first | (with_reducible apply az); exact rfl | refine CF rfl rfl (by (exact h7)) rfl ?_ | refine e2 rfl rfl rfl (by (exact aP)) rfl ?_ | (with_reducible first | apply bQ | apply bI | apply bO | apply aA | apply cf | apply fV) | (with_reducible apply iK); exact rfl)
  ((refine bY rfl (bD rfl bf) ?_))
  exact ai.bo.refl _
 rw [bF ap] at aP;have b6 := adY (E := E) (by omega);cases aD : fK (E.map Prod.snd) with
 | false =>
  rw [aD] at b6;refine cq (f := 13) Tryz.func13 rfl rfl rfl rfl ?_;(repeat first | (with_reducible apply az); exact rfl | refine CF rfl rfl (by (exact h7)) rfl ?_ | refine e2 rfl rfl rfl (by (first | exact aP | exact b6)) rfl ?_ | (with_reducible first | apply bQ | apply bI | apply bO | apply aA | apply cf | apply fV) | (with_reducible apply iK); exact rfl)
  ((refine bY rfl (bD rfl bf) ?_))
  exact ai.bo.refl _
 | true =>
  rw [aD] at b6;have qn : fK ((E.map gm).map Prod.snd) = true := by rw [Sr]; exact aD
  have fb : (E.map gm).length ≤ 7 := by rw [jK]; omega
  have hj := O7 (k := k) (room := room) aD (by omega) 48 (cb := dF) nD;have vv := O7 (k := k) (room := room) qn fb 52 (cb := eN) yE;obtain ⟨i1, _, _, _⟩ := yO (k := k) (room := room) aD (by omega);obtain ⟨i2, _, _, _⟩ := yO (k := k) (room := room) qn fb;have hw : hE E (da k) (cS room) := yA aD (by omega);have lu : hE (E.map gm) (da k) (cS room) := yA qn (by omega);obtain ⟨t1, t2⟩ := ag3 (k := k) (room := room) aD (by omega);have qZ := (Er hw i1).mN 48 (cb := dF) nD rfl rfl;have sd := (Er lu i2).mN 52 (cb := eN) yE rfl rfl;have jA := (Eo (E := E) (r := da k) (rm := cS room) (s := iq E k room)).mN 48 (cb := dF) nD rfl rfl;have h9 := (Eo (E := E.map gm) (r := da k) (rm := cS room) (s := iq (E.map gm) k room)).mN 52 (cb := eN) yE rfl rfl;have s1 := hw.st i1;have s2 := lu.st i2;clear i1 i2 hw lu aD qn;generalize iq E k room = dH at *;generalize iq (E.map gm) k room = dZ at *;have g1 : (dH.ph : Int) = (dZ.ph : Int) := by rw [t1]
  refine cq (f := 13) Tryz.func13 rfl rfl rfl rfl ?_;refine vD ?_;(repeat first | (with_reducible first | apply bb | apply aV | apply a8 | apply aX | apply dc | apply fu) | (with_reducible apply c4); exact rfl; (exact rfl) | (with_reducible apply aO); exact rfl; (repeat first | (with_reducible apply az); exact rfl | (with_reducible apply c6); (iterate 3 exact rfl) | refine e2 rfl rfl rfl (by (first | exact aP | exact b6)) rfl ?_); (with_reducible apply aA));refine mF 0 63 5 rfl ?_
  skip
  refine k7 152 (Uf E k room) E.length (bH 0 ⟨63, 5, gC, 0, []⟩) _ [] ⟨0, 0, gC, eF _, rfl, rfl, rfl, rfl, rfl⟩ (ni _ _ _) rfl ⟨rfl, rfl, rfl, rfl, rfl, rfl, rfl, trivial⟩ trivial rfl ?_;rintro n R aS bw ⟨i, ii, v, hi, rfl, gi, rfl, rfl, rfl⟩ dK;clear dK
  by_cases an : i < E.length
  case pos =>
   have q2 : ii < (E.length : Int) := by omega
   have cr : 0 ≤ ii := by omega
   obtain ⟨o, a, b, c, d, g2⟩ : ∃ o a b c d, E[i]? = some (o, (a, b), (c, d)) := ⟨_, _, _, _, _, cj an⟩;have jW := vP gi g2
   have cD : lR ((E.map gm).take (i + 1)) = lR ((E.map gm).take i) ++ [.c (.int .i64 c), .c (.int .i64 d), .c (.int .i64 a), .c (.int .i64 b), .c (.int .i64 o)] := by
    rw [nO (by rw [jK]; exact an), List.getElem_map, (bP.1 g2).2]; simp [lR, zx, gm]
   (repeat first | (with_reducible first | apply bb | apply aV | apply a8 | apply aX | apply dc | apply fu) | (with_reducible apply eo); exact rfl; (exact bF (by omega)) | (with_reducible apply aO); exact rfl; (repeat first | (with_reducible apply az); exact rfl | (with_reducible apply gN); (iterate 5 exact rfl) | (with_reducible apply fi); (iterate 3 exact rfl); (omega); (omega); (assumption); exact rfl | (with_reducible apply lM); (iterate 10 exact rfl)); (with_reducible apply aA));refine oi 0 rfl rfl rfl rfl ?q1 ?q2 rfl rfl (fun v1 ic => ?_)
   case q1 => exact ka (by show i + 1 ≤ 1000000; omega)
   case q2 => show (i + 1) * 40 ≤ 140737488355328; omega
   (repeat first | (with_reducible first | apply aV | apply a8 | apply aX | apply kg) | (with_reducible apply aO); exact rfl; (repeat first | (with_reducible apply az); exact rfl | (with_reducible apply fh); (iterate 3 exact rfl); (exact cZ (by omega)); exact rfl); (with_reducible apply aA));refine ⟨E.length - (i + 1), bH 0 ⟨63, 5, v1, i + 1, lR ((E.map gm).take (i + 1))⟩, _, [], by omega, ⟨i + 1, ii + 1, v1, an, rfl, by omega, rfl, rfl, rfl⟩, ?_, rfl, ⟨rfl, rfl, rfl, rfl, rfl, rfl, rfl, trivial⟩, trivial, rfl⟩;rw [cD];exact ni _ _ _
  have q2 : ¬ ii < (E.length : Int) := by omega
  have dl : (E.map gm).take i = E.map gm := hQ (by rw [jK]; omega);have aG : i = (E.map gm).length := by rw [jK]; omega
  rw [dl];subst aG;refine Bu 0 7 ⟨63, 5, v, (E.map gm).length, lR (E.map gm)⟩ rfl rfl ?_;refine wR gw (fun k q h => by cases h) ?_;(repeat first | (with_reducible first | apply bb | apply aV | apply a8 | apply aX | apply jN | apply jS | apply jR) | (with_reducible apply c4); exact rfl; (exact b5 (by omega)) | (with_reducible apply aO); exact rfl; (repeat first | (with_reducible apply az); exact rfl); (with_reducible apply aA));refine At 48 dF rfl rfl rfl rfl hj rfl rfl rfl rfl (fun cs vm b0 => ?_);rw [JG];(repeat first | (with_reducible apply aO); exact rfl; (repeat first | (with_reducible apply az); exact rfl); (with_reducible apply aA));refine At 52 eN rfl rfl rfl rfl vv rfl rfl rfl rfl (fun ds vn bq => ?_);rw [show b9 (aL.bc eN vn) (aL.bc dF vm) = two vm vn from St b0 bq];(repeat first | (with_reducible first | apply bb | apply aV | apply a8 | apply aX) | (with_reducible apply aO); exact rfl; (repeat first | (with_reducible apply az); exact rfl | (with_reducible apply CG); exact rfl; exact rfl; kernel_rfl; exact rfl); (with_reducible apply aA));refine lV 48 dF rfl rfl rfl rfl rfl rfl rfl rfl jA b0 wX (fun Mm pO jU => ?_);rw [show b9 (aL.bc dF pO) (two vm vn) = two pO vn from wY b0 jU];(repeat first | (with_reducible apply aO); exact rfl; (repeat first | (with_reducible apply az); exact rfl); (with_reducible apply aA));refine lV 52 eN rfl rfl rfl rfl rfl rfl rfl rfl h9 bq (FP jU bq) (fun C9 pQ kl => ?_);rw [FQ jU bq kl];(repeat first | (with_reducible first | apply bb | apply aV | apply a8 | apply aX | apply dc) | (with_reducible apply c4); exact rfl; ((simp only [hG]; (omega))) | (with_reducible apply aO); exact rfl; (repeat first | (with_reducible apply az); exact rfl); (with_reducible apply aA));refine lV 48 dF rfl rfl rfl rfl rfl rfl rfl rfl jA jU wX (fun G1 pP lI => ?_);rw [show b9 (aL.bc dF pP) (two pO pQ) = two pP pQ from wY jU lI]
  by_cases p4 : dH.ph = 4
  case neg =>
   have adA : ¬ (dH.ph : Int) = 4 := by omega
   (repeat first | (with_reducible first | apply bb | apply aV | apply a8 | apply aX | apply dM | apply kH) | (with_reducible apply eo); exact rfl; ((simp only [hG]; (omega))) | (with_reducible apply aO); exact rfl; (repeat first | (with_reducible apply az); exact rfl | refine CF rfl rfl (by (exact h7)) rfl ?_); (with_reducible apply aA))
   ((refine bY rfl (bD rfl bf) ?_))
   exact ai.bo.refl _
  have adA : (dH.ph : Int) = 4 := by omega
  obtain ⟨cH, cC⟩ := t2 p4;have akG : (dH.hot.length : Int) = (dZ.hot.length : Int) := by omega
  have im : (dH.ch.length : Int) = (dZ.ch.length : Int) := by rw [cC, jK]
  (repeat first | (with_reducible first | apply bb | apply aV | apply a8 | apply aX | apply dc) | (with_reducible apply c4); exact rfl; ((simp only [hG]; (omega))) | (with_reducible apply aO); exact rfl; (repeat first | (with_reducible apply az); exact rfl); (with_reducible apply aA));refine lV 48 dF rfl rfl rfl rfl rfl rfl rfl rfl qZ lI wX (fun Wb oO nR => ?_);rw [show b9 (aL.bc dF oO) (two pP pQ) = two oO pQ from wY lI nR];(repeat first | (with_reducible apply aO); exact rfl; (repeat first | (with_reducible apply az); exact rfl); (with_reducible apply aA));refine lV 52 eN rfl rfl rfl rfl rfl rfl rfl rfl sd kl (FP nR kl) (fun MF sb oL => ?_);rw [FQ nR kl oL];(repeat first | (with_reducible first | apply bb | apply aV | apply a8 | apply aX | apply dc | apply fu) | (with_reducible apply c4); exact rfl; ((simp only [hG]; (omega))) | (with_reducible apply aO); exact rfl; (repeat first | (with_reducible apply az); exact rfl | (with_reducible apply c6); (iterate 3 exact rfl) | (with_reducible apply dO (c := false)); exact rfl; exact rfl; ((simp only [hG]; (omega)))); (with_reducible apply aA))
  have sE : ∀ j, 40 ≤ j → two oO sb j = none := fun j af => by
   rw [show two oO sb j = b9 oO (sb.bc eN) j from rfl, hN (nR.lX j (by omega))];exact oL.lX _ (by unfold eN; rw [if_neg (by omega), if_neg (by omega), if_neg (by omega)]; omega)
  obtain ⟨akw, akx, R2⟩ := s1;have ai5 := R2.1;obtain ⟨aky, akz, akA⟩ := s2;clear qZ sd jA h9 hj vv b0 jU lI nR bq kl oL;refine k7 152 (Ua (da k) (cS room) dH dZ (two oO sb)) dH.ch.length (two oO sb) _ [(12, stM (da k) (cS room) dH), (13, stM (da k) (cS room) dZ)] ⟨0, 0, eF _, rfl, rfl, rfl, rfl, rfl⟩ (bL.refl _) rfl ⟨rfl, rfl, rfl, rfl, rfl, trivial⟩ ⟨rfl, rfl, trivial⟩ rfl ?_;generalize two oO sb = Z at *;clear an q2 hi gi;rintro n R aS bw ⟨i, ii, hi, rfl, gi, rfl, rfl, rfl⟩ dK;clear dK
  by_cases an : i < dH.ch.length
  case neg =>
   have q2 : ¬ ii < (dH.ch.length : Int) := by omega
   (repeat first | (with_reducible first | apply bb | apply aV | apply a8 | apply aX | apply dM | apply jN | apply jS | apply jR) | (with_reducible apply c4); exact rfl; (exact b5 (by omega)) | (with_reducible apply aO); exact rfl; (repeat first | (with_reducible apply az); exact rfl | refine CF rfl rfl (by (exact h7)) rfl ?_); (with_reducible apply aA))
   ((refine bY rfl (bD rfl bf) ?_))
   exact ai.bo.refl _
  obtain ⟨V, D, g2⟩ : ∃ V D, dH.ch[i]? = some (V, D) := ⟨_, _, cj an⟩;obtain ⟨jG, hH⟩ := R2.2 _ (dL g2);simp only at jG hH;have g3 : dZ.ch[i]? = some (V.reverse, D.reverse) := by rw [cC, eG, g2]; rfl
  have jW := vG gi g2;have kn := vG gi g3;have q2 : ii < (dH.ch.length : Int) := by omega
  have cr : 0 ≤ ii := by omega
  have eE : ii < (dZ.ch.length : Int) := by omega
  have K8 := OZ V.reverse V.reverse D.reverse D.reverse (by rw [qI]; omega) (by rw [qI]; omega) (by rw [qI]; omega) (by rw [qI]; omega);rw [bF rfl, bF rfl] at K8;refine mF 40 59 2 (sE 40 (by decide)) ?_;(repeat first | (with_reducible first | apply bb | apply aV | apply a8 | apply aX | apply dc | apply fu) | (with_reducible apply eo); exact rfl; (exact bF (by omega)) | (with_reducible apply aO); exact rfl; (repeat first | (with_reducible apply az); exact rfl | (with_reducible apply gN); (iterate 5 exact rfl) | (with_reducible apply fi); (iterate 3 exact rfl); (omega); (omega); (assumption); exact rfl | (with_reducible apply c6); (iterate 3 exact rfl)); (with_reducible apply aA));refine k7 152 (Ub (da k) (cS room) dH dZ R V D ii) V.length (bJ R 40 (hO gC [])) _ [(12, stM (da k) (cS room) dH), (13, stM (da k) (cS room) dZ), (15, xx V D), (16, [.c gC, .c gC])] ⟨0, 0, gC, eF _, rfl, rfl, rfl, rfl, rfl⟩ (bL.refl _) rfl ⟨rfl, rfl, rfl, rfl, rfl, rfl, rfl, rfl, rfl, rfl, rfl, trivial⟩ ⟨rfl, rfl, rfl, rfl, trivial⟩ rfl ?_;rintro n eZ aS bw ⟨j, dS, v, af, rfl, ob, rfl, rfl, rfl⟩ dK;clear dK
  by_cases al : j < V.length
  case pos =>
   obtain ⟨⟨x, y⟩, c0, dm⟩ := rev_at al;have cJ : dS < (V.length : Int) := by omega
   have gH : 0 ≤ dS := by omega
   have pA : 0 ≤ (V.length : Int) - 1 - dS := by omega
   have yy : (V.length : Int) - 1 - dS < (V.length : Int) := by omega
   have yU := uI (show (V.length : Int) - 1 - dS = ((V.length - 1 - j : Nat) : Int) by omega) c0;have Eb : (V.reverse.take j).length = j := by rw [eu, qI]; omega
   (repeat first | (with_reducible apply dU (id := 24) [0,1,2,3,4,5,6,7,8,9,10,11,12,13,14,15]); kernel_rfl; kernel_rfl; exact rfl | (with_reducible first | apply bb | apply aV | apply a8 | apply aX | apply dc | apply fu) | (with_reducible apply eo); exact rfl; (exact bF (by omega)) | (with_reducible apply aO); exact rfl; (repeat first | (with_reducible apply az); exact rfl | (with_reducible apply gN); (iterate 5 exact rfl) | (with_reducible apply fi); (iterate 3 exact rfl); (omega); (omega); (assumption); exact rfl | (with_reducible apply nx); (iterate 3 exact rfl); (exact cZ (by omega)); exact rfl | (with_reducible apply c6); (iterate 3 exact rfl) | (with_reducible apply lM); (iterate 10 exact rfl)); (with_reducible apply aA));refine oi 40 rfl rfl rfl rfl ?q1 ?q2 rfl rfl (fun v1 ic => ?_)
   case q1 => exact ka (by show (V.reverse.take j).length + 1 ≤ 1000000; omega)
   case q2 => show ((V.reverse.take j).length + 1) * 16 ≤ 140737488355328; omega
   (repeat first | (with_reducible apply eD); kernel_rfl | (with_reducible first | apply aV | apply a8 | apply aX | apply kg) | (with_reducible apply aO); exact rfl; (repeat first | (with_reducible apply az); exact rfl | (with_reducible apply fh); (iterate 3 exact rfl); (exact cZ (by omega)); exact rfl); (with_reducible apply aA));refine ⟨V.length - (j + 1), bJ R 40 (hO v1 (V.reverse.take (j + 1))), _, [(12, stM (da k) (cS room) dH), (13, stM (da k) (cS room) dZ), (15, xx V D), (16, [.c v1, .c gC])], by omega, ⟨j + 1, dS + 1, v1, by omega, rfl, by omega, rfl, rfl, rfl⟩, fun q r ae => ?_, rfl, ⟨rfl, rfl, rfl, rfl, rfl, rfl, rfl, rfl, rfl, rfl, rfl, trivial⟩, ⟨rfl, rfl, rfl, rfl, trivial⟩, rfl⟩;rw [dm, JU] at ae
   by_cases eq : q = 40
   ·subst eq; rw [cw] at ae ⊢; exact ae
   ·rw [cl _ _ eq] at ae ⊢; rw [cl _ _ eq]; exact ae
  have cJ : ¬ dS < (V.length : Int) := by omega
  have jC : V.reverse.take j = V.reverse := hQ (by rw [qI]; omega);rw [jC];refine FC 40 16 0 (hO v V.reverse) (cw _ _ _) rfl rfl ?_
  refine wR R (fun q r ae => by
   by_cases eq : q = 40
   ·subst eq; rw [sE 40 (by decide)] at ae; cases ae
   ·rw [if_neg eq, cl _ _ eq]; exact ae) ?_
  refine mF 41 3 1 (sE 41 (by decide)) ?_;(repeat first | (with_reducible first | apply bb | apply aV | apply a8 | apply aX | apply fu | apply jN | apply jS | apply jR) | (with_reducible apply c4); exact rfl; (exact b5 (by omega)) | (with_reducible apply aO); exact rfl; (repeat first | (with_reducible apply az); exact rfl | (with_reducible apply c6); (iterate 3 exact rfl)); (with_reducible apply aA));refine k7 152 (Uc (da k) (cS room) dH dZ R V D ii) D.length (bJ R 41 ⟨3, 1, gC, 0, []⟩) _ [(12, stM (da k) (cS room) dH), (13, stM (da k) (cS room) dZ), (15, xx V D), (16, [.p (cx 2 V.reverse.length (b8 V.reverse)), .c gC])] ⟨0, 0, gC, eF _, rfl, rfl, rfl, rfl, rfl⟩ (bL.refl _) rfl ⟨rfl, rfl, rfl, rfl, rfl, rfl, rfl, rfl, rfl, rfl, rfl, trivial⟩ ⟨rfl, rfl, rfl, rfl, trivial⟩ rfl ?_;clear af ob al cJ jC v;rintro n eZ aS bw ⟨j, dS, v, af, rfl, ob, rfl, rfl, rfl⟩ dK;clear dK
  by_cases al : j < D.length
  case pos =>
   obtain ⟨x, c0, dm⟩ := rev_at al;have cJ : dS < (D.length : Int) := by omega
   have gH : 0 ≤ dS := by omega
   have pA : 0 ≤ (D.length : Int) - 1 - dS := by omega
   have yy : (D.length : Int) - 1 - dS < (D.length : Int) := by omega
   have yU := AG (show (D.length : Int) - 1 - dS = ((D.length - 1 - j : Nat) : Int) by omega) c0;(repeat first | (with_reducible apply dU (id := 29) [0,1,2,3,4,5,6,7,8,9,10,11,12,13,14,15]); kernel_rfl; kernel_rfl; exact rfl | (with_reducible first | apply bb | apply aV | apply a8 | apply aX | apply dc | apply fu) | (with_reducible apply eo); exact rfl; (exact bF (by omega)) | (with_reducible apply aO); exact rfl; (repeat first | (with_reducible apply az); exact rfl | (with_reducible apply mh); (iterate 5 exact rfl) | (with_reducible apply fi); (iterate 3 exact rfl); (omega); (omega); (assumption); exact rfl | (with_reducible apply nx); (iterate 3 exact rfl); (exact cZ (by omega)); exact rfl | (with_reducible apply c6); (iterate 3 exact rfl) | (with_reducible apply lM); (iterate 10 exact rfl)); (with_reducible apply aA));refine oi 41 rfl rfl rfl rfl ?q1 ?q2 rfl rfl (fun v1 ic => ?_)
   case q1 => exact ka (by show j + 1 ≤ 1000000; omega)
   case q2 => show (j + 1) * 8 ≤ 140737488355328; omega
   (repeat first | (with_reducible apply eD); kernel_rfl | (with_reducible first | apply aV | apply a8 | apply aX | apply kg) | (with_reducible apply aO); exact rfl; (repeat first | (with_reducible apply az); exact rfl | (with_reducible apply fh); (iterate 3 exact rfl); (exact cZ (by omega)); exact rfl); (with_reducible apply aA));refine ⟨D.length - (j + 1), bJ R 41 ⟨3, 1, v1, j + 1, cy (D.reverse.take (j + 1))⟩, _, [(12, stM (da k) (cS room) dH), (13, stM (da k) (cS room) dZ), (15, xx V D), (16, [.p (cx 2 V.reverse.length (b8 V.reverse)), .c v1])], by omega, ⟨j + 1, dS + 1, v1, by omega, rfl, by omega, rfl, rfl, rfl⟩, fun q r ae => ?_, rfl, ⟨rfl, rfl, rfl, rfl, rfl, rfl, rfl, rfl, rfl, rfl, rfl, trivial⟩, ⟨rfl, rfl, rfl, rfl, trivial⟩, rfl⟩;rw [dm, aaB] at ae
   by_cases eq : q = 41
   ·subst eq; rw [cw] at ae ⊢; exact ae
   ·rw [cl _ _ eq] at ae ⊢; rw [cl _ _ eq]; exact ae
  have cJ : ¬ dS < (D.length : Int) := by omega
  have jC : D.reverse.take j = D.reverse := hQ (by rw [qI]; omega);have qa : j = D.reverse.length := by rw [qI]; omega
  rw [jC];subst qa;refine FC 41 16 1 ⟨3, 1, v, D.reverse.length, cy D.reverse⟩ (cw _ _ _) rfl rfl ?_
  refine wR R (fun q r ae => by
   by_cases eq : q = 41
   ·subst eq; rw [sE 41 (by decide)] at ae; cases ae
   ·rw [if_neg eq, cl _ _ eq]; exact ae) ?_
  (repeat first | (with_reducible apply eD); kernel_rfl | (with_reducible apply dU (id := 31) [0,1,2,3,4,5,6,7]); kernel_rfl; kernel_rfl; exact rfl | (with_reducible first | apply bb | apply aV | apply a8 | apply aX | apply dc | apply kg | apply jN | apply jS | apply jR) | (with_reducible apply c4); exact rfl; (first | exact b5 (by omega) | exact rfl) | (with_reducible apply aO); exact rfl; (repeat first | (with_reducible apply az); exact rfl | (with_reducible apply gN); (iterate 5 exact rfl) | (with_reducible apply fi); (iterate 3 exact rfl); (omega); (omega); (assumption); exact rfl | (with_reducible apply fh); (iterate 3 exact rfl); (exact cZ (by omega)); exact rfl | refine dP rfl rfl rfl rfl (by (exact K8)) rfl ?_); (with_reducible apply aA));exact ⟨dH.ch.length - (i + 1), R, _, [(12, stM (da k) (cS room) dH), (13, stM (da k) (cS room) dZ)], by omega, ⟨i + 1, ii + 1, by omega, rfl, by omega, rfl, rfl, rfl⟩, bL.refl _, rfl, ⟨rfl, rfl, rfl, rfl, rfl, trivial⟩, ⟨rfl, rfl, trivial⟩, rfl⟩
end Go.Proofs.YtpochbhajmbfdaaGreat
namespace Go.Proofs.YtpochbhajmbfdaaGreat
theorem ag4 (E : List (Int × bt.bV)) (k room : Int) (_ : (E.length : Int) ≤ 9223372036854775807) (_ : -9223372036854775808 ≤ k ∧ k ≤ 9223372036854775807) (_ : -9223372036854775808 ≤ room ∧ room ≤ 9223372036854775807) : aY aj 13 [jx E, aR k, aR room] (bG true) := abE
end Go.Proofs.YtpochbhajmbfdaaGreat
namespace Go.Proofs.YtpochbhajmbfdaaGreat
open Go.ChangeShapes Go.WideShapes Go.ChangeAt Go.RowKit Go.Joins
theorem laidOut : laidOutB aj = true := by kernel_rfl
theorem M7 : ∀ (L : List (List Int)), (∀ x ∈ L, x.length = 5) → ∃ l : List (Int × bt.bV), l.length = L.length ∧ sB L = lR l
 | [], _ => ⟨[], rfl, rfl⟩
 | x :: L, h => by
  obtain ⟨l, h1, h2⟩ := M7 L fun y ag => h y (by simp [ag]);have aa := h x (by simp)
  match x, aa with
  | [a, b, c, d, o], _ =>
   refine ⟨(o, (a, b), (c, d)) :: l, by simp [h1], ?_⟩;show sB ([a, b, c, d, o] :: L) = zx (o, (a, b), (c, d)) ++ lR l;rw [← h2];unfold sB;rw [List.flatten_cons, List.map_append];rfl
theorem W4 {H : Type} {enc : TypeId × Value → H} {P : Program} {W : World} {e : TypeId} {g0 g1 g2 f0 f1 : Field} (he : P.underlying e = some (.struct #[g0, g1, g2])) (ce : P.cellsOf e = 5) (ke : g0.offset = 0) (p1 : g1.offset = 2) (p2 : g2.offset = 4) (d0 : P.cellsOf g0.type = 2) (aF : g1.type = g0.type) (d2 : P.cellsOf g2.type = 1) (cd : P.underlying g2.type = some (.int .i64))
  (ax : P.underlying g0.type = some (.struct #[f0, f1])) (EZ : f0.offset = 0) (o1 : f1.offset = 1) (lO : P.cellsOf f0.type = 1) (c1 : P.cellsOf f1.type = 1) (hK : P.underlying f0.type = some (.int .i64)) (bC : P.underlying f1.type = some (.int .i64))
  {n : Nat} {cs : List Value} {d : DataW H × List MemPlace} (h : DataW.trod enc P W 0 (fun _ => true) true n e cs = some d) : ∃ a b x y v : Int, cs = [.int .i64 a, .int .i64 b, .int .i64 x, .int .i64 y, .int .i64 v] := by
 obtain ⟨xs, k, _, _, cW, o8, aw⟩ := DataW.trod_struct he h;rw [ce] at cW
 match cs, cW, xs, o8 with
 | [u, v, w, r, s], _, [dl, aG, aM], _ =>
  have db := aw 0 g0 rfl;have q1 := aw 1 g1 rfl;have q2 := aw 2 g2 rfl;simp [ke, p1, p2, d0, d2, aF] at db q1 q2;obtain ⟨a, b, aa⟩ := ML ax d0 EZ o1 lO c1 hK bC db;obtain ⟨x, y, ag⟩ := ML ax d0 EZ o1 lO c1 hK bC q1;obtain ⟨z, a6⟩ := Hb cd q2 rfl;cases aa; cases ag; cases a6;exact ⟨a, b, x, y, z, rfl⟩
theorem adt {H : Type} {enc : TypeId × Value → H} {P : Program} {W : World} {t e : TypeId} (aF : P.underlying t = some (.slice e)) (ce : P.cellsOf e = 5)
  (zY : ∀ (n : Nat) (cs : List Value) d, DataW.trod enc P W 0 (fun _ => true) true n e cs = some d → ∃ a b x y v : Int, cs = [.int .i64 a, .int .i64 b, .int .i64 x, .int .i64 y, .int .i64 v])
  {v : Value} {d : DataW H} {p : List MemPlace} (hv : ∃ a len cap, v = .slice a len cap) (aJ : DataW.Trod enc P W 0 (fun _ => true) true t v d p) :
  ∃ l : List (Int × bt.bV), (l.length : Int) ≤ 9223372036854775807 ∧ dn (fun _ => True) id W (jx l) v := by
 obtain ⟨L, h1, h2, ao⟩ := adu 5 aF ce (fun n cs d h => by obtain ⟨a, b, x, y, v, e⟩ := zY n cs d h; exact ⟨[a, b, x, y, v], e⟩) hv aJ (by decide);obtain ⟨l, aH, cM⟩ := M7 L h2;rw [cM] at ao;refine ⟨l, by rw [aH]; exact h1, ?_⟩;rw [← aH] at ao;exact ao
theorem aeM {P : Program} {f : FuncId} {args : List ai} (h : aY P f args (bG true)) (k9 : List Value) (W : World) (ap : args.length = k9.length) (al : ∀ (i : Nat) (x : ai) (v : Value), args[i]? = some x → k9[i]? = some v → dn (fun _ => True) id W x v) :
  Calls P f k9.toArray W fun e bn => e = .returned (.bool true) ∧ Below W.heap.size W bn :=
 (h.call (fun _ => True) W k9 ⟨ap, al⟩).mono fun e bn ⟨v, he, ⟨hv, _⟩, ab⟩ => by subst hv; exact ⟨he, ab⟩
end Go.Proofs.YtpochbhajmbfdaaGreat
