/-
  My own texts, without what this claim does not need. My own text.
-/
import Derived.Test.YtpochbhajmbfdaaGreatSRunsK12
set_option maxRecDepth 100000
set_option maxHeartbeats 64000000
set_option linter.unusedVariables false
set_option linter.unusedSimpArgs false
set_option linter.unusedSectionVars false
open Go.Proofs.Tryz renaming prog → aj
namespace Go.Proofs.YtpochbhajmbfdaaGreat
open Go.RowKit
open bF
section
variable {P : Program} {f : FuncId} {args : List ai} {cs : List AC} {R0 : aJ} {Q : ai → List AC → aJ → Prop}
theorem dt.at (k : Nat) (h : dt P f (rE :: args) (cQ 1000 cs) R0 (nF 1000 Q)) (eC : args.all ai.ba = true) (ak : cs.all AC.ba = true) (al : ∀ b9 ds aB, Q b9 ds aB → b9.ba = true ∧ ds.all AC.ba = true) : dt P f (.w (.one (.own k 0)) :: args) (cQ k cs) R0 (nF k Q) := by
 have h1 := h.bd (nD 1000 k) (cu := fun j => j) (iX := fun j => j) (fun _ => rfl) (fun _ => rfl)
 have aG : (ai.w (.one (.own 1000 0)) :: args).map (ai.bd (swp 1000 k)) = .w (.one (.own k 0)) :: args := by
  have aO : args.map (ai.bd (swp 1000 k)) = args := by
   conv => rhs; rw [← List.map_id args]
   exact qf fun x aa => vX (cC.1 eC x aa)
  rw [lp, aO];show ai.w (.one (.own (swp 1000 k 1000) 0)) :: args = _;rw [show swp 1000 k 1000 = k by unfold swp; simp]
 rw [aG, xD ak] at h1;refine ⟨fun U ad W vs cS ew dT => (h1.call U ad W vs cS ew dT).mono ?_⟩;rintro dn bq ⟨v, r, aH, aB, bf, cM, c9, ⟨c3, m1, bo, ⟨ds, rfl, mL⟩, rfl, rfl, rfl⟩, mo⟩;obtain ⟨c1, c2⟩ := al _ _ _ mL;rw [xD c2, vX c1] at mo;exact ⟨v, c3, cQ k ds, bo, bf, cM, c9, ⟨ds, rfl, mL⟩, mo⟩
end
def kC (k : Int) : Nat := (if k < 0 then 0 else if 28 < k then 28 else k).toNat
def kc (n : Int) : Nat := (s3 n).toNat
theorem QE (n : Int) : ((kc n : Nat) : Int) = s3 n := by unfold kc s3; (repeat split) <;> omega
theorem QF (n : Int) : 1 ≤ kc n ∧ kc n ≤ 1024 := by unfold kc s3; (repeat split) <;> omega
theorem aef (k : Int) : ((kC k : Nat) : Int) = if 28 < (if 0 > k then 0 else k) then 28 else (if 0 > k then 0 else k) := by unfold kC; (repeat split) <;> omega
theorem aeg (k : Int) : kC k ≤ 28 := by unfold kC; (repeat split) <;> omega
theorem aee {E : List (Int × cc)} {k n : Int} (h : h6 (E.map Prod.snd) = true) (ao : E.length ≤ 300) : jP E (kC k) (kc n) := ⟨aeg k, h, ao, (QF n).1, (QF n).2⟩
abbrev j5 : Value := .slice none 0 0
theorem O3 {b : Nat} {S : fm} {q : bQ} : dR b S j5 j5 j5 [] [] [] = bS (bS (bS (bS (bS gO 1 ⟨59, 2, j5, 0, []⟩) 2 ⟨59, 2, j5, 0, []⟩) 3 ⟨53, 2, j5, 0, []⟩) 0 q) 0 (iw (eb b) S) := by
 funext i
 match i with
 | 0 => rfl
 | 1 => rfl
 | 2 => rfl
 | 3 => rfl
 | i + 4 => rfl
theorem ZZ {E : List (Int × cc)} {k n : Int} (ao : E.length ≤ 300) (h : h6 (E.map Prod.snd) = true) : dt aj 17 [kX E, aV k, aV n] cg gO fun b9 aH aB => ∃ cs, b9 = .w (.one (.own 24 0)) ∧ aH = cQ 24 cs ∧ dd E (kC k) (kc n) (hA (bN E (kC k) (kc n))) cs aB := by
 have aM := acV (E := E) (by omega);rw [h] at aM;have bI := ZY n;have et := ac2 (E := E) (by omega);have gV := aef k
 by_cases aI : E = []
 ·subst aI;refine dy (f := 17) Tryz.func17 rfl (dv rfl) (by exact oD) ?_;refine oi 1 59 2 rfl ?_;refine oi 2 59 2 rfl ?_;refine oi 3 53 2 rfl ?_;(repeat first | (with_reducible first | apply a7 | apply aQ | apply aY | apply aS | apply cL) | (with_reducible apply cD); rfl; (rfl) | (with_reducible apply aN); rfl; (repeat first | (with_reducible apply ax); rfl | refine dj rfl rfl rfl (by (exact aM)) rfl ?_); (with_reducible apply ay));refine Nk 0 rfl rfl rfl rfl bI rfl rfl (fun p S jZ => ?_);obtain ⟨b, rfl, hS⟩ := jZ;rw [← QE n] at hS;have nG := NW _ _ _ _ hS (by decide);(repeat first | (with_reducible first | apply a7 | apply aQ | apply aY | apply aS) | (with_reducible apply aN); rfl; (repeat first | (with_reducible apply ax); rfl | (with_reducible apply gq); (iterate 4 rfl) | (with_reducible apply fX); (iterate 4 rfl) | refine dj rfl rfl rfl (by (exact et)) rfl ?_); (with_reducible apply ay));refine zH 0 rfl rfl rfl rfl nG rfl rfl rfl (fun v dm h => ?_);obtain ⟨rfl, fC⟩ := h;(repeat first | (with_reducible first | apply a7 | apply aQ | apply aY | apply aS) | (with_reducible apply cX); rfl; (assumption) | (with_reducible apply aN); rfl; (repeat first | (with_reducible apply ax); rfl | (with_reducible apply cx); (iterate 3 rfl)); (with_reducible apply ay));have x9 := dt.at 24 (H7 (E := []) (k := (kC k : Int)) (rm := (kc n : Int)) (ph := 0) (I := 0) (J := 0) (T := 0) (dirty := false) (hv := j5) (fv := j5) (cv := j5) (b := b) (lk := .c j5) rfl 4) rfl rfl (fun b9 ds aB h => by obtain ⟨rfl, rfl, _⟩ := h; exact ⟨rfl, rfl⟩);rw [← gV];refine ku 24 rfl rfl rfl rfl x9 rfl rfl rfl rfl rfl ?_;(repeat first | (with_reducible first | apply a7 | apply aQ | apply aY | apply aS | apply cN) | (with_reducible apply aN); rfl; (repeat first | (with_reducible apply ax); rfl); (with_reducible apply ay))
  ((refine Hf 24 rfl (bG rfl bc) rfl (bH.of_eq O3) rfl rfl ?_))
  exact ⟨_, rfl, rfl, j5, j5, j5, b, dm, .c j5, fC, rfl, fun h => (by cases h), rfl, rfl⟩
 ·have jS : ¬ (E.length : Int) = 0 := fun a6 => aI (na (by omega));refine dy (f := 17) Tryz.func17 rfl (dv rfl) (by exact oD) ?_;refine oi 1 59 2 rfl ?_;refine oi 2 59 2 rfl ?_;refine oi 3 53 2 rfl ?_;(repeat first | (with_reducible first | apply a7 | apply aQ | apply aY | apply aS | apply cL) | (with_reducible apply cD); rfl; (rfl) | (with_reducible apply aN); rfl; (repeat first | (with_reducible apply ax); rfl | refine dj rfl rfl rfl (by (exact aM)) rfl ?_); (with_reducible apply ay));refine Nk 0 rfl rfl rfl rfl bI rfl rfl (fun p S jZ => ?_);obtain ⟨b, rfl, hS⟩ := jZ;rw [← QE n] at hS;have nG := NW _ _ _ _ hS (by decide);(repeat first | (with_reducible first | apply a7 | apply aQ | apply aY | apply aS) | (with_reducible apply aN); rfl; (repeat first | (with_reducible apply ax); rfl | (with_reducible apply gq); (iterate 4 rfl) | (with_reducible apply fX); (iterate 4 rfl) | refine dj rfl rfl rfl (by (exact et)) rfl ?_); (with_reducible apply ay));refine zH 0 rfl rfl rfl rfl nG rfl rfl rfl (fun v dm h => ?_);obtain ⟨rfl, fC⟩ := h;(repeat first | (with_reducible first | apply a7 | apply aQ | apply aY | apply aS | apply cN | apply cL) | (with_reducible apply cD); rfl; (exact bl (by omega)) | (with_reducible apply aN); rfl; (repeat first | (with_reducible apply ax); rfl | (with_reducible apply cx); (iterate 3 rfl)); (with_reducible apply ay));rw [← gV]
  ((refine Hf 24 rfl (bG rfl bc) rfl (bH.of_eq O3) rfl rfl ?_))
  refine ⟨_, rfl, rfl, j5, j5, j5, b, dm, .c j5, fC, rfl, ?_, ?_, rfl⟩
  ·unfold hA;rw [if_neg (by rw [jP.n]; omega)];intro h; cases h
  ·unfold hA;rw [if_neg (by rw [jP.n]; omega)]; rfl
def vg (a b c d e f a' bT c' d' bz la : Int) : Bool := decide (a = a') && (decide (b = bT) && (decide (c = c') && (decide (d = d') && (decide (e = bz) && decide (f = la)))))
theorem Wa (n : Nat) (a b c d e f a' bT c' d' bz la : Int) (W : World) : (Op.equalIn (n + 1 + 1) 126 (.agg #[.int .i64 a, .int .i64 b, .int .i64 c, .int .i64 d, .int .i64 e, .int .i64 f]) (.agg #[.int .i64 a', .int .i64 bT, .int .i64 c', .int .i64 d', .int .i64 bz, .int .i64 la])).run aj W = .ok (vg a b c d e f a' bT c' d' bz la) W := by
 have hu : aj.underlying 126 = some (.array 6 3) := by kernel_rfl
 have hi : aj.underlying 3 = some (.int .i64) := by kernel_rfl
 obtain ⟨m, hm⟩ : ∃ m, m = n + 1 := ⟨_, rfl⟩;rw [← hm, Op.equalIn];simp only [Sem.run_bind, run_underlying hu, Result.andThen_ok];rw [hm];have aZ : (sizeOf 3).run aj W = .ok 1 W := by go_simp
 have hp : ∀ (xs : Array Value) (off : Nat) (v : Value), xs[off]? = some v → (part 3 xs off).run aj W = .ok v W := fun xs off v h => by
  have aL : (isAgg 3).run aj W = .ok false W := by
   unfold isAgg;simp only [Sem.run_bind, run_underlying hi, Result.andThen_ok, Sem.run_pure]
  unfold part;simp only [Sem.run_bind, aL, Result.andThen_ok, od, if_false, h, Sem.run_pure]
 simp only [aZ, Result.andThen_ok];rw [Std.Legacy.Range.forIn_eq_forIn_range'];unfold vg;have j8 := hp #[.int .i64 a, .int .i64 b, .int .i64 c, .int .i64 d, .int .i64 e, .int .i64 f] (0 * 1) (.int .i64 a) rfl;have c9 := hp #[.int .i64 a', .int .i64 bT, .int .i64 c', .int .i64 d', .int .i64 bz, .int .i64 la] (0 * 1) (.int .i64 a') rfl;have p1 := hp #[.int .i64 a, .int .i64 b, .int .i64 c, .int .i64 d, .int .i64 e, .int .i64 f] (1 * 1) (.int .i64 b) rfl;have q1 := hp #[.int .i64 a', .int .i64 bT, .int .i64 c', .int .i64 d', .int .i64 bz, .int .i64 la] (1 * 1) (.int .i64 bT) rfl;have p2 := hp #[.int .i64 a, .int .i64 b, .int .i64 c, .int .i64 d, .int .i64 e, .int .i64 f] (2 * 1) (.int .i64 c) rfl;have q2 := hp #[.int .i64 a', .int .i64 bT, .int .i64 c', .int .i64 d', .int .i64 bz, .int .i64 la] (2 * 1) (.int .i64 c') rfl;have p3 := hp #[.int .i64 a, .int .i64 b, .int .i64 c, .int .i64 d, .int .i64 e, .int .i64 f] (3 * 1) (.int .i64 d) rfl;have cj := hp #[.int .i64 a', .int .i64 bT, .int .i64 c', .int .i64 d', .int .i64 bz, .int .i64 la] (3 * 1) (.int .i64 d') rfl;have p4 := hp #[.int .i64 a, .int .i64 b, .int .i64 c, .int .i64 d, .int .i64 e, .int .i64 f] (4 * 1) (.int .i64 e) rfl;have eH := hp #[.int .i64 a', .int .i64 bT, .int .i64 c', .int .i64 d', .int .i64 bz, .int .i64 la] (4 * 1) (.int .i64 bz) rfl;have ri := hp #[.int .i64 a, .int .i64 b, .int .i64 c, .int .i64 d, .int .i64 e, .int .i64 f] (5 * 1) (.int .i64 f) rfl;have lR := hp #[.int .i64 a', .int .i64 bT, .int .i64 c', .int .i64 d', .int .i64 bz, .int .i64 la] (5 * 1) (.int .i64 la) rfl;rw [show List.range' [:6].start [:6].size [:6].step = [0, 1, 2, 3, 4, 5] from rfl];simp only [List.forIn_cons, List.forIn_nil, Sem.run_bind, j8, c9, p1, q1, p2, q2, p3, cj, p4, eH, ri, lR, Result.andThen_ok, run_equalIn_int W n _ .i64 .i64 _ _ hi]
 by_cases aL : a = a'
 case neg => simp [aL]
 subst aL;simp only [beq_self_eq_true, Bool.not_true, od, if_false, Sem.run_pure, Sem.run_bind, j8, c9, p1, q1, p2, q2, p3, cj, p4, eH, ri, lR, Result.andThen_ok, run_equalIn_int W n _ .i64 .i64 _ _ hi]
 by_cases ab : b = bT
 case neg => simp [ab]
 subst ab;simp only [beq_self_eq_true, Bool.not_true, od, if_false, Sem.run_pure, Sem.run_bind, j8, c9, p1, q1, p2, q2, p3, cj, p4, eH, ri, lR, Result.andThen_ok, run_equalIn_int W n _ .i64 .i64 _ _ hi]
 by_cases ak : c = c'
 case neg => simp [ak]
 subst ak;simp only [beq_self_eq_true, Bool.not_true, od, if_false, Sem.run_pure, Sem.run_bind, j8, c9, p1, q1, p2, q2, p3, cj, p4, eH, ri, lR, Result.andThen_ok, run_equalIn_int W n _ .i64 .i64 _ _ hi]
 by_cases hd : d = d'
 case neg => simp [hd]
 subst hd;simp only [beq_self_eq_true, Bool.not_true, od, if_false, Sem.run_pure, Sem.run_bind, j8, c9, p1, q1, p2, q2, p3, cj, p4, eH, ri, lR, Result.andThen_ok, run_equalIn_int W n _ .i64 .i64 _ _ hi]
 by_cases he : e = bz
 case neg => simp [he]
 subst he;simp only [beq_self_eq_true, Bool.not_true, od, if_false, Sem.run_pure, Sem.run_bind, j8, c9, p1, q1, p2, q2, p3, cj, p4, eH, ri, lR, Result.andThen_ok, run_equalIn_int W n _ .i64 .i64 _ _ hi]
 by_cases au : f = la
 case neg => simp [au]
 subst au;simp only [beq_self_eq_true, Bool.not_true, od, if_false, Sem.run_pure, Sem.run_bind, j8, c9, p1, q1, p2, q2, p3, cj, p4, eH, ri, lR, Result.andThen_ok, run_equalIn_int W n _ .i64 .i64 _ _ hi];simp
abbrev v6 (a b c d e f : Int) : ai := .w (.agg [.c (.int .i64 a), .c (.int .i64 b), .c (.int .i64 c), .c (.int .i64 d), .c (.int .i64 e), .c (.int .i64 f)])
theorem Wb : aj.eqGuardType aj.depth 126 = false := by kernel_rfl
theorem KI {s : aC} {ops : Array Oper} {K : aC → Prop} {rest : List Oper} {ty : Nat} {pos : String} {after : Array Edge} {guard : Option (Nat × Bool)} {o dK : Nat} {x y : Operand} {a b c d e f a' bT c' d' bz la : Int} (hw : want ops ⟨some o, .binOp .eql 126 x y dK, ty, pos, after, guard⟩ s = some true) (aa : s.look x = some (v6 a b c d e f)) (ag : s.look y = some (v6 a' bT c' d' bz la)) (hd : Nat.blt o s.n = true) (h : bi aj ops K rest (s.put (some o) (bD (vg a b c d e f a' bT c' d' bz la)))) : bi aj ops K (⟨some o, .binOp .eql 126 x y dK, ty, pos, after, guard⟩ :: rest) s :=
 fK hw aa ag rfl rfl (fun W => Cz Wb) (fun W => by rw [run_eql_struct, show (10000 : Nat) = 9998 + 1 + 1 from rfl, Wa]; rfl) rfl hd h
abbrev afN (k rm ph I J T : Int) (dirty : Bool) (hot fnd : List an) (ch : List (List an × List Int)) : List AC := [.c (.int .i64 k), .c (.int .i64 rm), .c (.int .i64 ph), .c (.int .i64 I), .c (.int .i64 J), .c (.int .i64 T), .c (.bool dirty), .p (cA 2 hot.length (bM hot)), .p (cA 2 fnd.length (bM fnd)), .p (cA 2 ch.length (ee ch))]
abbrev x3 (k rm ph I J T : Int) (dirty : Bool) (hot fnd : List an) (ch : List (List an × List Int)) : ai := .w (.agg (afN k rm ph I J T dirty hot fnd ch))
theorem IW {k rm ph I J T : Int} {dirty : Bool} {hot fnd : List an} {ch : List (List an × List Int)} : aT aj 83 [x3 k rm ph I J T dirty hot fnd ch] (v6 k rm ph I J T) := by
 refine cd (f := 83) Tryz.func83 rfl rfl rfl rfl ?_;(repeat first | (with_reducible apply ax); rfl | (with_reducible first | apply bR | apply bJ | apply bO | apply ay | apply b7))
 ((refine bX rfl (fj rfl rfl rfl bc) ?_))
 exact ai.br.refl _
abbrev Jz : ai := aR (.func (.func 50) #[] #[])
def Sk (L M : List (List an × List Int)) (k : Nat) (ts : List (Nat × ai)) (bw : List (Nat × List AC)) : Prop :=
 ∃ (i : Nat) (ii : Int), i ≤ L.length ∧ k = L.length - i ∧ ii = i ∧ bw = [] ∧ ts = [(1, tb M), (2, Jz), (15, tb L), (16, aV L.length), (17, aV ii)]
theorem acy {L M : List (List an × List Int)} (ak : ki L) (GW : L = M) : aT aj 85 [tb L, tb M, Jz] (bD true) := by
 have hlen := ak.1;have h4 : (L.length : Int) = M.length := by rw [GW]
 refine cd (f := 85) Tryz.func85 rfl rfl rfl rfl ?_;(repeat first | (with_reducible apply ax); rfl | (with_reducible apply cx); (iterate 3 rfl) | (with_reducible first | apply bR | apply bJ | apply bO | apply ay | apply eU | apply gg) | (with_reducible apply gT); rfl; ((simp only [bB]; (omega))));refine wL 32 (Sk L M) L.length _ [] ⟨0, 0, ez _, rfl, rfl, rfl, rfl⟩ rfl ⟨rfl, rfl, rfl, rfl, rfl, trivial⟩ trivial rfl ?_;rintro n ts bw ⟨j, dM, ae, rfl, oN, rfl, rfl⟩ dD;clear dD
 by_cases hp : j < L.length
 ·have p2 : dM < (L.length : Int) := by omega
  have p3 : 0 ≤ dM := by omega
  have p4 : dM < (M.length : Int) := by omega
  obtain ⟨V, D, g1⟩ : ∃ V D, L[j]? = some (V, D) := ⟨_, _, cl hp⟩;have g2 : M[j]? = some (V, D) := by rw [← GW]; exact g1
  obtain ⟨jU, iH⟩ := ak.2 _ (dJ g1);simp only at jU iH;have kj := yJ oN g1;have nI := yJ oN g2;have aM := Z1 V V D D iH (by omega) iH (by omega);rw [bg rfl, bg rfl] at aM;clear GW;(repeat first | (with_reducible apply ax); rfl | (with_reducible apply ed); (iterate 5 rfl) | (with_reducible apply dC); (iterate 3 rfl); (omega); (omega); (assumption); rfl | (with_reducible apply dB); (iterate 3 rfl); (exact cp (by omega)); rfl | refine cI rfl rfl rfl rfl (by (exact aM)) rfl ?_ | (with_reducible first | apply bR | apply bJ | apply bO | apply ay | apply eU | apply gg | apply lA) | (with_reducible apply gU); rfl | (with_reducible apply fZ); rfl; (exact bg (by omega)));exact ⟨L.length - (j + 1), _, [], by omega, ⟨j + 1, dM + 1, hp, rfl, by omega, rfl, rfl⟩, rfl, ⟨rfl, rfl, rfl, rfl, rfl, trivial⟩, trivial, rfl⟩
 ·have p2 : ¬ dM < (L.length : Int) := by omega
  (repeat first | (with_reducible apply ax); rfl | (with_reducible first | apply bR | apply bJ | apply bO | apply ay | apply b7 | apply qC | apply qJ | apply qI) | (with_reducible apply gT); rfl; (exact bl (by omega)))
  ((refine bX rfl (bG rfl bc) ?_))
  exact ai.br.refl _
theorem acx {L : List (List an × List Int)} (ak : ki L) : aT aj 85 [tb L, tb L, Jz] (bD true) := acy ak rfl
theorem PH {k rm ph I J T : Int} {dirty : Bool} {hot fnd : List an} {ch : List (List an × List Int)} (a6 : hot.length ≤ 1000000) (au : fnd.length ≤ 1000000) (ak : ki ch) : aT aj 43 [x3 k rm ph I J T dirty hot fnd ch, x3 k rm ph I J T dirty hot fnd ch] (bD true) := by
 have aM := IW (k := k) (rm := rm) (ph := ph) (I := I) (J := J) (T := T) (dirty := dirty) (hot := hot) (fnd := fnd) (ch := ch);have bI := IQ (D := hot) (E := hot) a6;have et := IQ (D := fnd) (E := fnd) au;have nG := acx ak;rw [bg rfl] at bI et;have ek : vg k rm ph I J T k rm ph I J T = true := by unfold vg; simp
 refine cd (f := 43) Tryz.func43 rfl rfl rfl rfl ?_;(repeat first | (with_reducible apply ax); rfl | refine dj rfl rfl rfl (by (exact aM)) rfl ?_ | (with_reducible apply hI); kernel_rfl; kernel_rfl; rfl | (with_reducible first | apply bR | apply bJ | apply bO | apply ay));refine KI rfl rfl rfl rfl ?_;rw [ek];have vo : (dirty == dirty) = true := by simp
 have ahL : decide (dirty = dirty) = true := by simp
 (repeat first | (with_reducible apply ax); rfl | refine cI rfl rfl rfl rfl (by (first | exact bI | exact et)) rfl ?_ | refine eR rfl rfl rfl rfl rfl (by (exact nG)) rfl ?_ | (with_reducible apply fK); (iterate 5 rfl); (intro W; go_simp; try rfl); (intro W; go_simp; try rfl); rfl; rfl | (with_reducible apply hH); kernel_rfl | (with_reducible first | apply bJ | apply b7))
 ((refine bX rfl (bG rfl bc) ?_))
 exact ai.br.refl _
theorem acO {k rm ph I J T k' rm' ph' I' J' T' : Int} {dirty dirty' : Bool} {hot fnd hot' fnd' : List an} {ch ch' : List (List an × List Int)} (aE : vg k rm ph I J T k' rm' ph' I' J' T' = false) : aT aj 43 [x3 k rm ph I J T dirty hot fnd ch, x3 k' rm' ph' I' J' T' dirty' hot' fnd' ch'] (bD false) := by
 have aM := IW (k := k) (rm := rm) (ph := ph) (I := I) (J := J) (T := T) (dirty := dirty) (hot := hot) (fnd := fnd) (ch := ch);have bI := IW (k := k') (rm := rm') (ph := ph') (I := I') (J := J') (T := T') (dirty := dirty') (hot := hot') (fnd := fnd') (ch := ch');refine cd (f := 43) Tryz.func43 rfl rfl rfl rfl ?_;(repeat first | (with_reducible apply ax); rfl | refine dj rfl rfl rfl (by (first | exact aM | exact bI)) rfl ?_ | (with_reducible apply hI); kernel_rfl; kernel_rfl; rfl | (with_reducible first | apply bR | apply bJ | apply bO | apply ay));refine KI rfl rfl rfl rfl ?_;rw [aE];(repeat first | (with_reducible apply ax); rfl | (with_reducible apply hH); kernel_rfl | (with_reducible first | apply bJ | apply b7))
 ((refine bX rfl (bG rfl bc) ?_))
 exact ai.br.refl _
theorem bZ.Jm {U : Nat → Prop} {ad : Nat → Nat} {W : World} {cs : List AC} {vs : List Value} {i : Nat} {u : Value} {x : AC} (h : bZ U ad W cs vs) (hi : cs[i]? = some (.c u)) (aa : gI U ad W x u) : bZ U ad W (cs.set i x) vs := by
 refine ⟨by rw [oc]; exact h.1, fun j y v ag hv => ?_⟩;rw [List.getElem?_set] at ag
 split at ag
 ·rename_i e;subst e
  split at ag
  ·cases ag;have := (h.2 i _ v hi hv).1;subst this; exact aa
  ·cases ag
 ·exact h.2 j y v ag hv
theorem ael {hv fv cv : Value} {hot fnd : List an} {ch : List (List an × List Int)} {R : aJ} (aK : R 4 = none) (cO : R 5 = none) (ek : R 6 = none) : oH 4 (oH 5 (oH 6 (eV hv fv cv hot fnd ch R))) = R := by
 funext k;unfold oH
 by_cases eX : k = 4
 ·subst eX; rw [if_pos rfl, aK]
 ·rw [if_neg eX]
  by_cases lD : k = 5
  ·subst lD; rw [if_pos rfl, cO]
  ·rw [if_neg lD]
   by_cases sa : k = 6
   ·subst sa; rw [if_pos rfl, ek]
   ·rw [if_neg sa];unfold eV; rw [ca _ _ sa, ca _ _ lD, ca _ _ eX]
section
variable {E : List (Int × cc)} {r rm : Nat}
theorem dd.j6 {s : bF.aX an} {cs : List AC} {R : aJ} (h : dd E r rm s cs R) : ∀ i, 4 ≤ i → R i = none := by
 obtain ⟨_, _, _, _, _, _, _, _, _, _, rfl⟩ := h;intro i hi
 match i, hi with
 | i + 4, _ => rfl
theorem dd.AW {s : bF.aX an} {cs : List AC} {R : aJ} (h : dd E r rm s cs R) : ∀ i, i < 4 → ∃ q, R i = some q := by
 obtain ⟨_, _, _, _, _, _, _, _, _, _, rfl⟩ := h;intro i hi
 match i, hi with
 | 0, _ => exact ⟨_, rfl⟩
 | 1, _ => exact ⟨_, rfl⟩
 | 2, _ => exact ⟨_, rfl⟩
 | 3, _ => exact ⟨_, rfl⟩
abbrev Fa (r rm : Nat) (s : bF.aX an) : ai := x3 r rm s.ph s.I s.J s.T s.dirty s.hot s.fnd s.ch
theorem Z3 {s : bF.aX an} (a6 : s.hot.length ≤ 900000) (au : s.fnd.length ≤ 900000) (ak : ki s.ch) : gn E r rm 28 [] s (Fa r rm s) s := by
 intro cs R bu;have sJ := bu.j6 4 (by decide);have ID := bu.j6 5 (by decide);have IE := bu.j6 6 (by decide);have h := NX a6 au ak bu
 have h1 := h.vc 6 IE (Post2 := fun b9 aH aB => ∃ hv fv, b9 = .w (.agg ((ie r rm s.ph s.I s.J s.T s.dirty hv fv j5).set 9 (.p (cA 2 s.ch.length (ee s.ch))))) ∧ aH = cQ 1000 cs ∧ ∃ cv, aB = oH 6 (eV hv fv cv s.hot s.fnd s.ch R)) (by
  rintro b9 aH aB ⟨ar, rfl, hv, fv, cv, rfl, rfl, rfl⟩;refine ⟨_, _, cy _ _ _, jG _, fun U ad W v h aD => ?_, fun j ae => ?_, hv, fv, rfl, rfl, cv, rfl⟩
  ·obtain ⟨vs, e, ao⟩ := h;exact ⟨vs, e, (ao.Jm (i := 9) rfl aD : bZ U ad W ((ie r rm s.ph s.I s.J s.T s.dirty hv fv cv).set 9 _) vs)⟩
  ·exact absurd ae (ai.dH rfl j))
 have h2 := h1.vc 5 ID (Post2 := fun b9 aH aB => ∃ hv, b9 = .w (.agg (((ie r rm s.ph s.I s.J s.T s.dirty hv j5 j5).set 9 (.p (cA 2 s.ch.length (ee s.ch)))).set 8 (.p (cA 2 s.fnd.length (bM s.fnd))))) ∧ aH = cQ 1000 cs ∧ ∃ fv cv, aB = oH 5 (oH 6 (eV hv fv cv s.hot s.fnd s.ch R))) (by
  rintro b9 aH aB ⟨hv, fv, rfl, rfl, cv, rfl⟩;refine ⟨iO fv s.fnd, _, rfl, jG _, fun U ad W v h aD => ?_, fun j ae => ?_, hv, rfl, rfl, fv, cv, rfl⟩
  ·obtain ⟨vs, e, ao⟩ := h;exact ⟨vs, e, (ao.Jm (i := 8) rfl aD)⟩
  ·exact absurd ae (ai.dH rfl j))
 have aq := h2.vc 4 sJ (Post2 := nF 1000 fun b9 ar aB => b9 = Fa r rm s ∧ dd E r rm s ar aB) (by
  rintro b9 aH aB ⟨hv, rfl, rfl, fv, cv, rfl⟩;refine ⟨iO hv s.hot, Fa r rm s, rfl, jG _, fun U ad W v h aD => ?_, fun j ae => ?_, cs, rfl, rfl, ?_⟩
  ·obtain ⟨vs, e, ao⟩ := h;exact ⟨vs, e, (ao.Jm (i := 7) rfl aD)⟩
  ·exact absurd ae (ai.dH rfl j)
  ·rw [ael sJ ID IE]; exact bu)
 exact aq
def eK (i : Nat) : Nat := if i < 10 then i + 20 else if i < 20 then i else if i < 30 then i - 20 else i
theorem xW (j : Nat) : eK (eK j) = j := by unfold eK; grind
def J8 (k : Nat) (cu : Nat → Nat) (E : List (Int × cc)) (r rm : Nat) (f : FuncId) (args : List ai) (s : bF.aX an) (v : ai) (s' : bF.aX an) : Prop :=
 ∀ cs R, dd E r rm s cs R → dt aj f (.w (.one (.own k 0)) :: args) (cQ k cs) (R.bd cu) (nF k fun b9 ar aB => b9 = v ∧ ∃ bo, dd E r rm s' ar bo ∧ aB = bo.bd cu)
theorem gn.nm (k : Nat) {cu : Nat → Nat} (gM : ∀ j, cu (cu j) = j) {f : FuncId} {args : List ai} {s s' : bF.aX an} {v : ai} (h : gn E r rm f args s v s') (eC : args.all ai.ba = true) (hv : v.ba = true) : J8 k cu E r rm f args s v s' := fun cs R bu => by
 have h1 := dt.at k (h cs R bu) eC bu.closed (fun b9 ds aB al => ⟨by rw [al.1]; exact hv, al.2.closed⟩);refine (h1.rn gM).imp ?_;rintro b9 aH aB ⟨bo, ⟨ar, rfl, rfl, cn⟩, rfl⟩;exact ⟨ar, rfl, rfl, bo, cn, rfl⟩
end
section
variable {R : aJ} {s : aC} {ops : Array Oper} {dr : Option (List Nat)} {ty : Nat} {pos : String} {after : Array Edge} {guard : Option (Nat × Bool)} {K : aJ → aC → Prop} {rest : List Oper}
theorem mN (k : Nat) (cu : Nat → Nat) {E : List (Int × cc)} {r rm : Nat} {eP s1 : bF.aX an} {v : ai} {dst : Option Nat} {f : FuncId} {g : Operand} {ts : Array TypeId} {l : List Operand} {args : List ai} {cs : List AC} {R0 : aJ} [Fp : Enters aj f] (hw : want ops ⟨dst, .call ⟨.value g, l.toArray, ts⟩, ty, pos, after, guard⟩ s = some true) (hm : dW dr ⟨dst, .call ⟨.value g, l.toArray, ts⟩, ty, pos, after, guard⟩ = true)
  (aw : s.look g = some (aR (.func (.func f) #[] #[]))) (aL : l.map s.look = (ai.w (.one (.own k 0)) :: args).map some) (af : s.mem k = some cs) (hO : pn dr k = true) (eC : args.all ai.ba = true) (hd : k8 dst s.n = true) (hp : J8 k cu E r rm f args eP v s1) (bu : dd E r rm eP cs R0) (ap : bH (R0.bd cu) R)
  (h : ∀ ar bo, dd E r rm s1 ar bo → cT aj ops dr K rest (b5 (bo.bd cu) R) ((s.eh k ar).put dst v)) : cT aj ops dr K (⟨dst, .call ⟨.value g, l.toArray, ts⟩, ty, pos, after, guard⟩ :: rest) R s := by
 refine zE k hw hm aw aL (hp cs R0 bu) af hO ap bu.closed eC hd ?_;rintro _ ar aB ⟨rfl, bo, aF, rfl⟩;exact h ar bo aF
end
abbrev two (Ra ev : aJ) : aJ := b5 Ra (ev.bd eK)
section
variable {E Bt : List (Int × cc)} {r rm a8 rm' : Nat} {s s1 t t1 : bF.aX an} {cs Co ds Gm : List AC} {Ra nN ev py : aJ}
theorem x2 : bH Ra (two Ra ev) := fun i q h => gv h
theorem E4 (aL : dd E r rm s cs Ra) (ab : dd Bt a8 rm' t ds ev) : bH (ev.bd eK) (two Ra ev) := fun i q h => by
 have hi : 4 ≤ i := Nat.not_lt.1 fun bj => by
  have : ev (eK i) = none := ab.j6 _ (by unfold eK; rw [if_pos (by omega)]; omega);rw [show ev.bd eK i = ev (eK i) from rfl, this] at h; cases h
 rw [show two Ra ev i = b5 Ra (ev.bd eK) i from rfl, gw (aL.j6 i hi)]; exact h
theorem A1 (aL : dd E r rm s cs Ra) (vn : dd E r rm s1 Co nN) : b5 nN (two Ra ev) = two nN ev := by
 funext i
 by_cases hi : i < 4
 ·obtain ⟨q, al⟩ := vn.AW i hi;rw [gv al, show two nN ev i = b5 nN (ev.bd eK) i from rfl, gv al]
 ·rw [gw (vn.j6 i (by omega)), show two Ra ev i = b5 Ra (ev.bd eK) i from rfl, show two nN ev i = b5 nN (ev.bd eK) i from rfl, gw (aL.j6 i (by omega)), gw (vn.j6 i (by omega))]
theorem E5 (aL : dd E r rm s cs Ra) (ab : dd Bt a8 rm' t ds ev) (bE : dd Bt a8 rm' t1 Gm py) : b5 (py.bd eK) (two Ra ev) = two Ra py := by
 funext i
 by_cases hi : i < 4
 ·obtain ⟨q, al⟩ := aL.AW i hi;have : py (eK i) = none := bE.j6 _ (by unfold eK; rw [if_pos (by omega)]; omega);rw [gw (show py.bd eK i = none from this), show two Ra ev i = b5 Ra (ev.bd eK) i from rfl, show two Ra py i = b5 Ra (py.bd eK) i from rfl, gv al, gv al]
 ·have aE := aL.j6 i (by omega);rw [show two Ra py i = b5 Ra (py.bd eK) i from rfl, gw aE]
  by_cases aK : eK i < 4
  ·obtain ⟨q, al⟩ := bE.AW _ aK;rw [gv (show py.bd eK i = some q from al)]; exact al.symm
  ·have h1 : py.bd eK i = none := bE.j6 _ (by omega);have h2 : ev.bd eK i = none := ab.j6 _ (by omega);rw [gw h1, show two Ra ev i = b5 Ra (ev.bd eK) i from rfl, gw aE, h1, h2]
theorem Rt (aL : dd E r rm s cs Ra) (ab : dd Bt a8 rm' t ds ev) : b5 (ev.bd eK) Ra = two Ra ev := by
 funext i
 by_cases hi : i < 4
 ·obtain ⟨q, al⟩ := aL.AW i hi;have : ev (eK i) = none := ab.j6 _ (by unfold eK; rw [if_pos (by omega)]; omega);rw [gw (show ev.bd eK i = none from this), show two Ra ev i = b5 Ra (ev.bd eK) i from rfl, gv al, al]
 ·rw [show two Ra ev i = b5 Ra (ev.bd eK) i from rfl, gw (aL.j6 i (by omega))];cases al : ev.bd eK i with
  | some q => exact gv al
  | none => rw [gw al]; exact aL.j6 i (by omega)
end
theorem DB (k : Nat) {cu : Nat → Nat} (gM : ∀ j, cu (cu j) = j) {E : List (Int × cc)} {K n : Int} (ao : E.length ≤ 300) (h : h6 (E.map Prod.snd) = true) : dt aj 17 [kX E, aV K, aV n] cg gO fun b9 aH aB => ∃ cs bo, b9 = .w (.one (.own k 0)) ∧ aH = cQ k cs ∧ aB = bo.bd cu ∧ dd E (kC K) (kc n) (hA (bN E (kC K) (kc n))) cs bo := by
 have h1 := (ZZ (k := K) (n := n) ao h).bd (nD 24 k) (cu := cu) (iX := cu) gM gM;refine dt.imp (show dt aj 17 [kX E, aV K, aV n] cg gO _ from h1) ?_;rintro b9 aH aB ⟨c3, m1, bo, ⟨cs, rfl, rfl, bu⟩, rfl, rfl, rfl⟩;refine ⟨cs, bo, ?_, xD bu.closed, rfl, bu⟩;show ai.w (.one (.own (swp 24 k 24) 0)) = _;rw [E2]
abbrev nQ : List (Int × cc) := [(0, (0, 0), (4, 4)), (0, (0, 4), (4, 0))]
abbrev gA (rm : Nat) : c4 an := bN nQ 0 rm
def qE : bF.aX an := (c5 (gA 9) 3 (hA (gA 9))).2
def tl : bF.aX an := (c5 (gA 9) 1000 qE).2
def B1 : bF.aX an := (c5 (gA 4) 100 (hA (gA 4))).2
theorem KD : (c5 (gA 9) 3 (hA (gA 9))).2 = qE := by unfold qE; rfl
theorem KE : (c5 (gA 9) 1000 qE).2 = tl := by unfold tl; rfl
theorem KF : (c5 (gA 4) 100 (hA (gA 4))).2 = B1 := by unfold B1; rfl
theorem Tx : (c5 (gA 9) 3 (hA (gA 9))).1 = 3 := by decide +kernel
theorem Ty : qE.ph = 2 ∧ qE.hot.length = 5 := by decide +kernel
theorem Tz : (c5 (gA 9) 1000 qE).1 = 36 := by decide +kernel
theorem TA : tl.ph = 4 ∧ tl.ch.length = 2 ∧ (tl.ch.map fun c => c.1.length) = [3, 3] ∧ tl.ch[0]? = some ([(0, 0), (2, 2), (4, 4)], [2, 2]) := by decide +kernel
theorem TB : B1.ph = 5 := by decide +kernel
section
variable {E : List (Int × cc)} {r rm : Nat}
theorem EL (h : jP E r rm) {n : Nat} {s : bF.aX an} (bu : mB E r rm s) : mB E r rm (c5 (bN E r rm) n s).2 := by
 rw [(Jf n s).1]; exact (NS h.ok _ bu).1
theorem jP.st (h : jP E r rm) {s : bF.aX an} (bu : mB E r rm s) : s.hot.length ≤ 1024 ∧ s.fnd.length ≤ 1024 ∧ ki s.ch := by
 have ab := bu.1;have a6 := h.hot ab;have nil : ki [] := ⟨ez _, fun c ak => by cases ak⟩;refine ⟨a6, ?_⟩;obtain ⟨_, aI | h1 | h2 | aq | aK | cO⟩ := bu
 ·rw [aI.fnd, aI.ch]; exact ⟨ez _, nil⟩
 ·rw [h1.fnd, h1.ch]; exact ⟨ez _, nil⟩
 ·obtain ⟨c, p, q, _, _, _, au⟩ := h2.link;refine ⟨?_, h.wR ab h2.laid⟩;rw [au];refine lT (List.length_filter_le ..) ?_;rw [eI]; omega
 ·rw [aq.fnd]; exact ⟨ez _, h.wR ab aq.laid⟩
 ·rw [aK.fnd]; exact ⟨ez _, h.wR ab aK.laid⟩
 ·rw [cO.fnd];refine ⟨ez _, ?_⟩;rcases cO.ch with ⟨ak, _⟩ | ao
  ·rw [ak]; exact nil
  ·exact h.wR ab ao
theorem DC (h : jP E r rm) {s : bF.aX an} (bu : mB E r rm s) : gn E r rm 28 [] s (Fa r rm s) s := by
 obtain ⟨a, b, c⟩ := h.st bu;exact Z3 (by omega) (by omega) c
end
section
variable {R : aJ} {s : aC} {ops : Array Oper} {dr : Option (List Nat)} {ty : Nat} {pos : String} {after : Array Edge} {guard : Option (Nat × Bool)} {K : aJ → aC → Prop} {rest : List Oper}
theorem Dl (k : Nat) (cu : Nat → Nat) {E : List (Int × cc)} {r rm : Nat} {eP : bF.aX an} {dst : Option Nat} {f : FuncId} {g : Operand} {ts : Array TypeId} {l : List Operand} {args : List ai} [Fp : Enters aj f] (hw : want ops ⟨dst, .call ⟨.value g, l.toArray, ts⟩, ty, pos, after, guard⟩ s = some true) (hm : dW dr ⟨dst, .call ⟨.value g, l.toArray, ts⟩, ty, pos, after, guard⟩ = true)
  (aw : s.look g = some (aR (.func (.func f) #[] #[]))) (aL : l.map s.look = args.map some) (hp : dt aj f args cg gO fun b9 aH aB => ∃ cs bo, b9 = .w (.one (.own k 0)) ∧ aH = cQ k cs ∧ aB = bo.bd cu ∧ dd E r rm eP cs bo) (af : s.mem k = none) (bj : Nat.blt k s.n = true) (eC : args.all ai.ba = true) (hd : k8 dst s.n = true)
  (h : ∀ cs bo, dd E r rm eP cs bo → cT aj ops dr K rest (b5 (bo.bd cu) R) ((s.eh k cs).put dst (.w (.one (.own k 0))))) : cT aj ops dr K (⟨dst, .call ⟨.value g, l.toArray, ts⟩, ty, pos, after, guard⟩ :: rest) R s := by
 refine vC hw hm aw aL hp (fun x aa j ae => absurd ae (ai.dH (cC.1 eC x aa) j)) (fun k' ar aF => by cases aF) (fun fN a8 aF => by cases aF) (fun k' ar x j aF aa ae => by cases aF) hd ?_;rintro b9 aH aB ⟨cs, bo, rfl, rfl, rfl, bu⟩;refine ⟨fun k' c aF => ?_, ?_⟩
 ·obtain ⟨rfl, rfl⟩ := hT aF;exact .inr ⟨af, by simpa [Nat.blt_eq] using bj⟩
 ·have aO : s.over (cQ k cs) = s.eh k cs := by
   show ({ s with mem := b5 (bS cg k cs) s.mem } : aC) = { s with mem := bS s.mem k cs };rw [show b5 (bS cg k cs) s.mem = bS s.mem k cs from vT s.mem k cs]
  rw [aO];exact h cs bo bu
end
theorem PA (R : aJ) : b5 R gO = R := by
 funext i;cases h : R i with
 | none => rw [gw h]; rfl
 | some q => exact gv h
abbrev eO : Nat → Nat := fun j => j
theorem oW (j : Nat) : eO (eO j) = j := rfl
theorem yw (rm : Nat) (h1 : 1 ≤ rm) (h2 : rm ≤ 1024) : jP nQ 0 rm := ⟨ez _, by decide, by decide, h1, h2⟩
theorem TC : ve tl.ch = 2 := by decide +kernel
theorem IZ {α β : Type} (x : α × β) {a : α} (h : x.1 = a) : x = (a, x.2) := by subst h; rfl
theorem TP : ∃ jQ gp pz : bF.aX an, c5 (gA 9) 3 (hA (gA 9)) = (3, jQ) ∧ c5 (gA 9) 1000 jQ = (36, gp) ∧ c5 (gA 4) 100 (hA (gA 4)) = ((c5 (gA 4) 100 (hA (gA 4))).1, pz) ∧ mB nQ 0 9 jQ ∧ mB nQ 0 9 gp ∧ mB nQ 0 4 pz ∧ jQ.ph = 2 ∧ jQ.hot.length = 5 ∧ gp.ph = 4 ∧ gp.ch.length = 2 ∧ gp.ch[0]? = some ([(0, 0), (2, 2), (4, 4)], [2, 2]) ∧ ve gp.ch = 2 ∧ pz.ph = 5 := by
 have i1 : mB nQ 0 9 (c5 (gA 9) 3 (hA (gA 9))).2 := EL (n := 3) (s := hA (gA 9)) (yw 9 (by decide) (by decide)) (An (gA 9) _);rw [KD] at i1;have i2 : mB nQ 0 9 (c5 (gA 9) 1000 qE).2 := EL (n := 1000) (s := qE) (yw 9 (by decide) (by decide)) i1;rw [KE] at i2;have i3 : mB nQ 0 4 (c5 (gA 4) 100 (hA (gA 4))).2 := EL (n := 100) (s := hA (gA 4)) (yw 4 (by decide) (by decide)) (An (gA 4) _);rw [KF] at i3;have aG := IZ _ Tx;rw [KD] at aG;have aO := IZ _ Tz;rw [KE] at aO;have cz := IZ (c5 (gA 4) 100 (hA (gA 4))) rfl;rw [KF] at cz;have f1 := Ty;have f2 := TA;have f3 := TC;have f4 := TB;generalize qE = jQ at *;generalize tl = gp at *;generalize B1 = pz at *;exact ⟨jQ, gp, pz, aG, aO, cz, i1, i2, i3, f1.1, f1.2, f2.1, f2.2.1, f2.2.2.2, f3, f4⟩
theorem acS : aT aj 16 [] (bD true) := by
 obtain ⟨jQ, gp, pz, c3, ec, ic, i1, i2, i3, f1, f2, f3, f4, f5, f6, f7⟩ := TP;have po := yw 9 (by decide) (by decide);have fA := yw 4 (by decide) (by decide);have BI := DB 15 (cu := eO) oW (E := nQ) (K := 0) (n := 9) (by decide) (by decide);have BJ := DB 27 (cu := eK) xW (E := nQ) (K := 0) (n := 4) (by decide) (by decide);rw [show kC 0 = 0 from by decide, show kc 9 = 9 from by decide] at BI;rw [show kC 0 = 0 from by decide, show kc 4 = 4 from by decide] at BJ;have bo := zV po (An _ _) (n := 3) (by decide);have eT := zV po i1 (n := 1000) (by decide);have kl := zV fA (An _ _) (n := 100) (by decide);rw [show (3 : Int).toNat = 3 from rfl, c3] at bo;rw [show (1000 : Int).toNat = 1000 from rfl, ec] at eT;rw [show (100 : Int).toNat = 100 from rfl, ic] at kl;clear c3 ec ic;have bo := bo.nm 15 (cu := eO) oW rfl rfl;have eT := eT.nm 15 (cu := eO) oW rfl rfl;have kl := kl.nm 27 (cu := eK) xW rfl rfl;have rX := (DC po i1).nm 15 (cu := eO) oW rfl rfl;have ti := (DC po i2).nm 15 (cu := eO) oW rfl rfl;have iZ := (H6 (E := nQ) (r := 0) (rm := 9) (s := gp)).nm 15 (cu := eO) oW rfl rfl;have BL := (H6 (E := nQ) (r := 0) (rm := 4) (s := pz)).nm 27 (cu := eK) xW rfl rfl;have JP := (ZV (E := nQ) (r := 0) (rm := 9) (s := gp) (po.st i2).2.2).nm 15 (cu := eO) oW rfl rfl;have ni := (NY po i2).nm 15 (cu := eO) oW rfl rfl;rw [(EZ po.ok i2).2.2 (by omega), bl (by omega)] at ni;have BG := PH (k := (0 : Nat)) (rm := (9 : Nat)) (ph := gp.ph) (I := gp.I) (J := gp.J) (T := gp.T) (dirty := gp.dirty) (hot := gp.hot) (fnd := gp.fnd) (ch := gp.ch) (by have := (po.st i2).1; omega) (by have := (po.st i2).2.1; omega) (po.st i2).2.2;have SI := acO (k := (0 : Nat)) (rm := (9 : Nat)) (ph := jQ.ph) (I := jQ.I) (J := jQ.J) (T := jQ.T) (dirty := jQ.dirty) (hot := jQ.hot) (fnd := jQ.fnd) (ch := jQ.ch) (k' := (0 : Nat)) (rm' := (9 : Nat)) (ph' := gp.ph) (I' := gp.I) (J' := gp.J) (T' := gp.T) (dirty' := gp.dirty) (hot' := gp.hot) (fnd' := gp.fnd) (ch' := gp.ch) (by rw [f1, f3]; unfold vg; simp);rw [f6] at JP;have g1 : (jQ.ph : Int) = 2 := by rw [f1]; rfl
 have g2 : (jQ.hot.length : Int) = 5 := by rw [f2]; rfl
 have g3 : (gp.ph : Int) = 4 := by rw [f3]; rfl
 have g4 : (gp.ch.length : Int) = 2 := by rw [f4]; rfl
 have g7 : (pz.ph : Int) = 5 := by rw [f7]; rfl
 have kj := yJ (ii := 0) rfl f5;clear po fA i1 i2 i3 f1 f2 f3 f4 f6 f7;refine cd (f := 16) Tryz.func16 rfl rfl rfl rfl ?_;refine u7 ?_;(repeat first | (with_reducible first | apply a7 | apply aQ | apply aY | apply aS) | (with_reducible apply aN); rfl; (repeat first | (with_reducible apply ax); rfl | (with_reducible apply nk); (iterate 10 rfl)); (with_reducible apply ay));refine Dl 15 eO rfl rfl rfl rfl BI rfl rfl rfl rfl (fun cs SR bU => ?_);rw [PA];(repeat first | (with_reducible first | apply a7 | apply aQ | apply aY | apply aS | apply cL) | (with_reducible apply cD); rfl; (rfl) | (with_reducible apply aN); rfl; (repeat first | (with_reducible apply ax); rfl | (with_reducible apply h3); rfl; rfl; kernel_rfl; rfl); (with_reducible apply ay));refine mN 15 eO rfl rfl rfl rfl rfl rfl rfl rfl bo bU (bH.refl _) (fun qL k3 hX => ?_);rw [show b5 (aJ.bd eO k3) (aJ.bd eO SR) = aJ.bd eO k3 from bU.b5 hX];(repeat first | (with_reducible first | apply a7 | apply aQ | apply aY | apply aS) | (with_reducible apply aN); rfl; (repeat first | (with_reducible apply ax); rfl); (with_reducible apply ay));refine mN 15 eO rfl rfl rfl rfl rfl rfl rfl rfl rX hX (bH.refl _) (fun r8 nj lv => ?_);rw [show b5 (aJ.bd eO nj) (aJ.bd eO k3) = aJ.bd eO nj from hX.b5 lv];(repeat first | (with_reducible first | apply a7 | apply aQ | apply aY | apply aS) | (with_reducible apply aN); rfl; (repeat first | (with_reducible apply ax); rfl); (with_reducible apply ay));refine mN 15 eO rfl rfl rfl rfl rfl rfl rfl rfl eT lv (bH.refl _) (fun agF FD uR => ?_);rw [show b5 (aJ.bd eO FD) (aJ.bd eO nj) = aJ.bd eO FD from lv.b5 uR];(repeat first | (with_reducible first | apply a7 | apply aQ | apply aY | apply aS) | (with_reducible apply aN); rfl; (repeat first | (with_reducible apply ax); rfl); (with_reducible apply ay));refine mN 15 eO rfl rfl rfl rfl rfl rfl rfl rfl ti uR (bH.refl _) (fun agG yk wv => ?_);rw [show b5 (aJ.bd eO yk) (aJ.bd eO FD) = aJ.bd eO yk from uR.b5 wv];(repeat first | (with_reducible first | apply a7 | apply aQ | apply aY | apply aS) | (with_reducible apply aN); rfl; (repeat first | (with_reducible apply ax); rfl); (with_reducible apply ay));refine Dl 27 eK rfl rfl rfl rfl BJ rfl rfl rfl rfl (fun ds J6 bp => ?_);rw [show b5 (aJ.bd eK J6) (aJ.bd eO yk) = two yk J6 from Rt wv bp];(repeat first | (with_reducible first | apply a7 | apply aQ | apply aY | apply aS | apply cL) | (with_reducible apply cD); rfl; (rfl) | (with_reducible apply aN); rfl; (repeat first | (with_reducible apply ax); rfl | (with_reducible apply h3); rfl; rfl; kernel_rfl; rfl); (with_reducible apply ay));refine mN 27 eK rfl rfl rfl rfl rfl rfl rfl rfl kl bp (E4 wv bp) (fun Gm rU kI => ?_);rw [E5 wv bp kI];(repeat first | (with_reducible apply iT (id := 13) [0,1,2,3,4,5,6,7,8,9,10,11,12,13,14,15,16,17,18,19,20,21,22,23,24,25,26,27,28,29,30,31,32,33,34,35,36,37,38,39,40,41,42,43,44,45,46,47,48,49,50,51,52,53,54,55,56,57,58,59,60,61,62,63,64,65,66,67,68,69,70,71,72,73,74,75] [51,82,87,92,98,2000015,2000027]); kernel_rfl; kernel_rfl; rfl | (with_reducible first | apply a7 | apply aQ | apply aS) | (with_reducible apply aN); rfl; (repeat first | (with_reducible apply ax); rfl | (with_reducible apply cx); (iterate 3 rfl) | (with_reducible apply bW (c := true)); rfl; rfl; (exact bg (by omega))); (with_reducible apply ay));refine mN 15 eO rfl rfl rfl rfl rfl rfl rfl rfl iZ wv x2 (fun agH FE Fi => ?_);rw [show b5 (aJ.bd eO FE) (two yk rU) = two FE rU from A1 wv Fi];(repeat first | (with_reducible apply aN); rfl; (repeat first | (with_reducible apply ax); rfl | (with_reducible apply e9); (iterate 5 rfl) | (with_reducible apply ed); (iterate 5 rfl) | (with_reducible apply fQ); (iterate 3 rfl) | (with_reducible apply dC); (iterate 3 rfl); (decide); (first | decide | omega); (first | assumption | rfl); rfl | (with_reducible apply gf); (iterate 4 rfl) | (with_reducible apply cx); (iterate 3 rfl) | (with_reducible apply bW (c := true)); rfl; rfl; (exact bg (by omega))); (with_reducible apply ay));refine mN 15 eO rfl rfl rfl rfl rfl rfl rfl rfl JP Fi x2 (fun agI FF Fj => ?_);rw [show b5 (aJ.bd eO FF) (two FE rU) = two FF rU from A1 Fi Fj];(repeat first | (with_reducible apply aN); rfl; (repeat first | (with_reducible apply ax); rfl | (with_reducible apply bW (c := true)); rfl; rfl; (exact bg (by omega))); (with_reducible apply ay));refine mN 15 eO rfl rfl rfl rfl rfl rfl rfl rfl ni Fj x2 (fun agJ FG x8 => ?_);rw [show b5 (aJ.bd eO FG) (two FF rU) = two FG rU from A1 Fj x8];(repeat first | (with_reducible apply aN); rfl; (repeat first | (with_reducible apply ax); rfl); (with_reducible apply ay));refine mN 27 eK rfl rfl rfl rfl rfl rfl rfl rfl BL kI (E4 x8 kI) (fun VS FH qw => ?_);rw [E5 x8 kI qw];(repeat first | (with_reducible apply aN); rfl; (repeat first | (with_reducible apply ax); rfl | (with_reducible apply bW (c := true)); rfl; rfl; (exact bg (by omega))); (with_reducible apply ay));refine mN 15 eO rfl rfl rfl rfl rfl rfl rfl rfl ti x8 x2 (fun agK J5 RS => ?_);rw [show b5 (aJ.bd eO J5) (two FG FH) = two J5 FH from A1 x8 RS];(repeat first | (with_reducible apply cZ); kernel_rfl | (with_reducible first | apply aQ | apply cN) | (with_reducible apply aN); rfl; (repeat first | (with_reducible apply ax); rfl | refine cI rfl rfl rfl rfl (by (first | exact BG | exact SI)) rfl ?_); (with_reducible apply ay))
 ((refine bX rfl (bG rfl bc) ?_))
 exact ai.br.refl _
theorem ada {E : List (Int × cc)} : aT aj 15 [kX E] (bD (decide ((E.length : Int) ≤ 7))) := by
 refine cd (f := 15) Tryz.func15 rfl rfl rfl rfl ?_;(repeat first | (with_reducible apply ax); rfl | (with_reducible apply cx); (iterate 3 rfl) | (with_reducible first | apply bR | apply bJ | apply bO | apply ay | apply b7))
 ((refine bX rfl (bG rfl bc) ?_))
 exact ai.br.refl _
def SO (E : List (Int × cc)) (k : Nat) (R : aJ) (ts : List (Nat × ai)) (bw : List (Nat × List AC)) : Prop :=
 ∃ (i : Nat) (ii : Int) (v : Value), i ≤ E.length ∧ k = E.length - i ∧ ii = i ∧ R = bL 0 ⟨91, 5, v, i, pM (E.take i)⟩ ∧ bw = [] ∧ ts = [(3, aR v), (6, kX E), (7, aV E.length), (8, aV ii)]
theorem acK {E : List (Int × cc)} (ap : E.length ≤ 900000) : aT aj 18 [kX E] (kX E) := by
 refine cd (f := 18) Tryz.func18 rfl rfl rfl rfl ?_;refine u7 ?_;refine a7 ?_;(repeat first | (with_reducible first | apply a7 | apply aQ | apply aY | apply aS | apply dY) | (with_reducible apply aN); rfl; (repeat first | (with_reducible apply ax); rfl | (with_reducible apply cx); (iterate 3 rfl)); (with_reducible apply ay));refine oi 0 91 5 rfl ?_
 skip
 refine kD 18 (SO E) E.length (bL 0 ⟨91, 5, .slice none 0 0, 0, []⟩) _ [] ⟨0, 0, .slice none 0 0, ez _, rfl, rfl, rfl, rfl, rfl⟩ (og _ _ _) rfl ⟨rfl, rfl, rfl, rfl, trivial⟩ trivial rfl ?_;rintro n R ts bw ⟨i, ii, v, hi, rfl, gi, rfl, rfl, rfl⟩ dD;clear dD
 by_cases al : i < E.length
 ·have q2 : ii < (E.length : Int) := by omega
  have cj : 0 ≤ ii := by omega
  obtain ⟨o, a, b, c, d, g1⟩ : ∃ o a b c d, E[i]? = some (o, (a, b), (c, d)) := ⟨_, _, _, _, _, cl al⟩;have kj := wX gi g1
  have cz : pM (E.take (i + 1)) = pM (E.take i) ++ [.c (.int .i64 a), .c (.int .i64 b), .c (.int .i64 c), .c (.int .i64 d), .c (.int .i64 o)] := by
   rw [pi al, (bV.1 g1).2]; simp [pM, Cu]
  (repeat first | (with_reducible first | apply a7 | apply aQ | apply aY | apply aS | apply cL | apply dY) | (with_reducible apply cX); rfl; (exact bg (by omega)) | (with_reducible apply aN); rfl; (repeat first | (with_reducible apply ax); rfl | (with_reducible apply ed); (iterate 5 rfl) | (with_reducible apply dC); (iterate 3 rfl); (omega); (omega); (assumption); rfl | (with_reducible apply nk); (iterate 10 rfl)); (with_reducible apply ay));refine q0 0 rfl rfl rfl rfl ?q1 ?q2 rfl rfl (fun v1 jh => ?_)
  case q1 => exact li (by show i + 1 ≤ 1000000; omega)
  case q2 => show (i + 1) * 40 ≤ 140737488355328; omega
  (repeat first | (with_reducible first | apply aQ | apply aY | apply aS | apply fi) | (with_reducible apply aN); rfl; (repeat first | (with_reducible apply ax); rfl | (with_reducible apply dB); (iterate 3 rfl); (exact cp (by omega)); rfl); (with_reducible apply ay));refine ⟨E.length - (i + 1), bL 0 ⟨91, 5, v1, i + 1, pM (E.take (i + 1))⟩, _, [], by omega, ⟨i + 1, ii + 1, v1, al, rfl, by omega, rfl, rfl, rfl⟩, ?_, rfl, ⟨rfl, rfl, rfl, rfl, trivial⟩, trivial, rfl⟩;rw [cz];exact og _ _ _
 ·have q2 : ¬ ii < (E.length : Int) := by omega
  have dn : i = E.length := by omega
  subst dn;rw [List.take_length];refine EN 0 3 ⟨91, 5, v, E.length, pM E⟩ rfl rfl ?_;(repeat first | (with_reducible first | apply a7 | apply aQ | apply aY | apply aS | apply cN | apply fa | apply fc | apply fb) | (with_reducible apply cD); rfl; (exact bl (by omega)) | (with_reducible apply aN); rfl; (repeat first | (with_reducible apply ax); rfl); (with_reducible apply ay))
  ((refine bX rfl (bG rfl bc) ?_))
  exact ai.br.refl _
def S3 (E : List (Int × cc)) (k : Nat) (ts : List (Nat × ai)) (bw : List (Nat × List AC)) : Prop :=
 ∃ (i : Nat) (ii : Int), i ≤ E.length ∧ k = E.length - i ∧ ii = i ∧ h6 (E.map Prod.snd) = h6 ((E.drop i).map Prod.snd) ∧ bw = [] ∧ ts = [(0, kX E), (3, aV ii)]
theorem O0 {a b : Int} : gN (a, b) = true ↔ cH a b = true ∧ a ≠ 134217728 ∧ b ≠ 134217728 := by
 rw [sL];unfold cH;simp only [eo, c0];omega
theorem acN {E : List (Int × cc)} (ap : E.length ≤ 4611686018427387904) : aT aj 19 [kX E] (bD (h6 (E.map Prod.snd))) := by
 refine cd (f := 19) Tryz.func19 rfl rfl rfl rfl ?_;(repeat first | (with_reducible apply ax); rfl | (with_reducible first | apply bR | apply bJ | apply bO | apply ay | apply gg));refine wL 60 (S3 E) E.length _ [] ⟨0, 0, ez _, rfl, rfl, rfl, rfl, rfl⟩ rfl ⟨rfl, rfl, trivial⟩ trivial rfl ?_;rintro n ts bw ⟨j, dM, ae, rfl, oN, gK, rfl, rfl⟩ dD;clear dD
 by_cases hp : j < E.length
 ·have p2 : dM < (E.length : Int) := by omega
  have p3 : 0 ≤ dM := by omega
  obtain ⟨o, a, b, c, d, g1⟩ : ∃ o a b c d, E[j]? = some (o, (a, b), (c, d)) := ⟨_, _, _, _, _, cl hp⟩;have kj := wX oN g1;have hd : E.drop j = (o, (a, b), (c, d)) :: E.drop (j + 1) := by rw [mr hp, (bV.1 g1).2]
  have e : h6 ((E.drop j).map Prod.snd) = ((gN (a, b) && gN (c, d)) && h6 ((E.drop (j + 1)).map Prod.snd)) := by rw [hd]; rfl
  rw [e] at gK;have zz := O0 (a := a) (b := b);have uc := O0 (a := c) (b := d);have D5 : gN (a, b) = false → h6 (E.map Prod.snd) = false := fun h => by rw [gK, h]; rfl
  have D6 : gN (c, d) = false → h6 (E.map Prod.snd) = false := fun h => by rw [gK, h, Bool.and_false]; rfl
  cases fp : cH a b with
  | false =>
   have aM := En fp;have gK := D5 (Bool.eq_false_iff.2 fun h => by have := zz.1 h; rw [fp] at this; exact absurd this.1 (by decide));rw [gK];(repeat first | (with_reducible apply ax); rfl | (with_reducible apply ed); (iterate 5 rfl) | (with_reducible apply fQ); (iterate 3 rfl) | (with_reducible apply dC); (iterate 3 rfl); (omega); (omega); (assumption); rfl | (with_reducible apply cx); (iterate 3 rfl) | refine dj rfl rfl rfl (by (exact aM)) rfl ?_ | (with_reducible first | apply bR | apply bJ | apply bO | apply ay | apply b7 | apply eU | apply fL | apply gg | apply k4) | (with_reducible apply ik); rfl | (with_reducible apply fZ); rfl; (exact bg (by omega)))
   ((refine bX rfl (bG rfl bc) ?_))
   exact ai.br.refl _
  | true =>
   have aM := En fp;cases jA : cH c d with
   | false =>
    have bI := En jA;have gK := D6 (Bool.eq_false_iff.2 fun h => by have := uc.1 h; rw [jA] at this; exact absurd this.1 (by decide));rw [gK];(repeat first | (with_reducible apply ax); rfl | (with_reducible apply ed); (iterate 5 rfl) | (with_reducible apply fQ); (iterate 3 rfl) | (with_reducible apply dC); (iterate 3 rfl); (omega); (omega); (assumption); rfl | (with_reducible apply cx); (iterate 3 rfl) | refine dj rfl rfl rfl (by (first | exact aM | exact bI)) rfl ?_ | (with_reducible first | apply bR | apply bJ | apply bO | apply ay | apply b7 | apply eU | apply fL | apply gg | apply k4) | (with_reducible apply ik); rfl | (with_reducible apply fZ); rfl; (exact bg (by omega)))
    ((refine bX rfl (bG rfl bc) ?_))
    exact ai.br.refl _
   | true =>
    have bI := En jA
    by_cases aL : a = 134217728
    ·have gK := D5 (Bool.eq_false_iff.2 fun h => by have := zz.1 h; omega);rw [gK];(repeat first | (with_reducible apply ax); rfl | (with_reducible apply e9); (iterate 5 rfl) | (with_reducible apply ed); (iterate 5 rfl) | (with_reducible apply fQ); (iterate 3 rfl) | (with_reducible apply dC); (iterate 3 rfl); (omega); (omega); (assumption); rfl | (with_reducible apply cx); (iterate 3 rfl) | refine dj rfl rfl rfl (by (first | exact aM | exact bI)) rfl ?_ | (with_reducible apply bW (c := true)); rfl; rfl; (exact bg (by omega)) | (with_reducible first | apply bR | apply bJ | apply bO | apply ay | apply b7 | apply eU | apply fL | apply gg | apply k4) | (with_reducible apply ik); rfl | (with_reducible apply gU); rfl | (with_reducible apply fZ); rfl; (exact bg (by omega)))
     ((refine bX rfl (bG rfl bc) ?_))
     exact ai.br.refl _
    by_cases ab : b = 134217728
    ·have gK := D5 (Bool.eq_false_iff.2 fun h => by have := zz.1 h; omega);rw [gK];(repeat first | (with_reducible apply ax); rfl | (with_reducible apply e9); (iterate 5 rfl) | (with_reducible apply ed); (iterate 5 rfl) | (with_reducible apply fQ); (iterate 3 rfl) | (with_reducible apply dC); (iterate 3 rfl); (omega); (omega); (assumption); rfl | (with_reducible apply cx); (iterate 3 rfl) | refine dj rfl rfl rfl (by (first | exact aM | exact bI)) rfl ?_ | (with_reducible apply bW (c := true)); rfl; rfl; (exact bg (by omega)) | (with_reducible apply bW (c := false)); rfl; rfl; (exact bl (by omega)) | (with_reducible first | apply bR | apply bJ | apply bO | apply ay | apply b7 | apply eU | apply fL | apply gg | apply k4) | (with_reducible apply ik); rfl | (with_reducible apply gU); rfl | (with_reducible apply fZ); rfl; (exact bg (by omega)))
     ((refine bX rfl (bG rfl bc) ?_))
     exact ai.br.refl _
    by_cases ak : c = 134217728
    ·have gK := D6 (Bool.eq_false_iff.2 fun h => by have := uc.1 h; omega);rw [gK];(repeat first | (with_reducible apply ax); rfl | (with_reducible apply e9); (iterate 5 rfl) | (with_reducible apply ed); (iterate 5 rfl) | (with_reducible apply fQ); (iterate 3 rfl) | (with_reducible apply dC); (iterate 3 rfl); (omega); (omega); (assumption); rfl | (with_reducible apply cx); (iterate 3 rfl) | refine dj rfl rfl rfl (by (first | exact aM | exact bI)) rfl ?_ | (with_reducible apply bW (c := true)); rfl; rfl; (exact bg (by omega)) | (with_reducible apply bW (c := false)); rfl; rfl; (exact bl (by omega)) | (with_reducible first | apply bR | apply bJ | apply bO | apply ay | apply b7 | apply eU | apply fL | apply gg | apply k4) | (with_reducible apply ik); rfl | (with_reducible apply gU); rfl | (with_reducible apply fZ); rfl; (exact bg (by omega)))
     ((refine bX rfl (bG rfl bc) ?_))
     exact ai.br.refl _
    by_cases xe : d = 134217728
    ·have gK := D6 (Bool.eq_false_iff.2 fun h => by have := uc.1 h; omega);rw [gK];(repeat first | (with_reducible apply ax); rfl | (with_reducible apply e9); (iterate 5 rfl) | (with_reducible apply ed); (iterate 5 rfl) | (with_reducible apply fQ); (iterate 3 rfl) | (with_reducible apply dC); (iterate 3 rfl); (omega); (omega); (assumption); rfl | (with_reducible apply cx); (iterate 3 rfl) | refine dj rfl rfl rfl (by (first | exact aM | exact bI)) rfl ?_ | (with_reducible apply bW (c := false)); rfl; rfl; (exact bl (by omega)) | (with_reducible first | apply bR | apply bJ | apply bO | apply ay | apply b7 | apply eU | apply fL | apply gg | apply k4) | (with_reducible apply gU); rfl | (with_reducible apply fZ); rfl; (exact bg (by omega)))
     ((refine bX rfl (bG rfl bc) ?_))
     exact ai.br.refl _
    rw [zz.2 ⟨fp, aL, ab⟩, uc.2 ⟨jA, ak, xe⟩, rq, rq] at gK;clear D5 D6 zz uc;(repeat first | (with_reducible apply ax); rfl | (with_reducible apply e9); (iterate 5 rfl) | (with_reducible apply ed); (iterate 5 rfl) | (with_reducible apply fQ); (iterate 3 rfl) | (with_reducible apply dC); (iterate 3 rfl); (omega); (omega); (assumption); rfl | (with_reducible apply dB); (iterate 3 rfl); (exact cp (by omega)); rfl | (with_reducible apply cx); (iterate 3 rfl) | refine dj rfl rfl rfl (by (first | exact aM | exact bI)) rfl ?_ | (with_reducible apply bW (c := false)); rfl; rfl; (exact bl (by omega)) | (with_reducible first | apply bR | apply bJ | apply bO | apply ay | apply eU | apply gg | apply lA) | (with_reducible apply gU); rfl | (with_reducible apply fZ); rfl; (exact bg (by omega)) | (with_reducible apply gT); rfl; (exact bl (by omega)));exact ⟨E.length - (j + 1), _, [], by omega, ⟨j + 1, dM + 1, hp, rfl, by omega, gK, rfl, rfl⟩, rfl, ⟨rfl, rfl, trivial⟩, trivial, rfl⟩
 ·have p2 : ¬ dM < (E.length : Int) := by omega
  rw [uJ (by omega)] at gK;rw [gK];(repeat first | (with_reducible apply ax); rfl | (with_reducible apply cx); (iterate 3 rfl) | (with_reducible first | apply bR | apply bJ | apply bO | apply ay | apply b7 | apply qC | apply qJ | apply qI) | (with_reducible apply gT); rfl; (exact bl (by omega)))
  ((refine bX rfl (bG rfl bc) ?_))
  exact ai.br.refl _
end Go.Proofs.YtpochbhajmbfdaaGreat
