/-
  My own texts, without what this claim does not need. My own text.
-/
import Derived.Test.YtbcecodakfejaaaGreatSChainsK14
set_option maxRecDepth 100000
set_option maxHeartbeats 64000000
set_option linter.unusedVariables false
set_option linter.unusedSimpArgs false
set_option linter.unusedSectionVars false
open Go.Proofs.Tryz renaming prog → ag
namespace Go.Proofs.YtbcecodakfejaaaGreat
open Go.RowKit
open bq
def uL (a b c d e f a' bS c' d' bo kV : Int) : Bool := decide (a = a') && (decide (b = bS) && (decide (c = c') && (decide (d = d') && (decide (e = bo) && decide (f = kV)))))
theorem WX (n : Nat) (a b c d e f a' bS c' d' bo kV : Int) (W : World) : (Op.equalIn (n + 1 + 1) 104 (.agg #[.int .i64 a, .int .i64 b, .int .i64 c, .int .i64 d, .int .i64 e, .int .i64 f]) (.agg #[.int .i64 a', .int .i64 bS, .int .i64 c', .int .i64 d', .int .i64 bo, .int .i64 kV])).run ag W = .ok (uL a b c d e f a' bS c' d' bo kV) W := by
 have hu : ag.underlying 104 = some (.array 6 3) := by kernel_rfl
 have hi : ag.underlying 3 = some (.int .i64) := by kernel_rfl
 obtain ⟨m, hm⟩ : ∃ m, m = n + 1 := ⟨_, rfl⟩;rw [← hm, Op.equalIn];simp only [Sem.run_bind, run_underlying hu, Result.andThen_ok];rw [hm];have aN : (sizeOf 3).run ag W = .ok 1 W := by go_simp
 have hp : ∀ (xs : Array Value) (off : Nat) (v : Value), xs[off]? = some v → (part 3 xs off).run ag W = .ok v W := fun xs off v h => by
  have aJ : (isAgg 3).run ag W = .ok false W := by
   unfold isAgg;simp only [Sem.run_bind, run_underlying hi, Result.andThen_ok, Sem.run_pure]
  unfold part;simp only [Sem.run_bind, aJ, Result.andThen_ok, nz, if_false, h, Sem.run_pure]
 simp only [aN, Result.andThen_ok];rw [Std.Legacy.Range.forIn_eq_forIn_range'];unfold uL;have lY := hp #[.int .i64 a, .int .i64 b, .int .i64 c, .int .i64 d, .int .i64 e, .int .i64 f] (0 * 1) (.int .i64 a) rfl;have c0 := hp #[.int .i64 a', .int .i64 bS, .int .i64 c', .int .i64 d', .int .i64 bo, .int .i64 kV] (0 * 1) (.int .i64 a') rfl;have p1 := hp #[.int .i64 a, .int .i64 b, .int .i64 c, .int .i64 d, .int .i64 e, .int .i64 f] (1 * 1) (.int .i64 b) rfl;have q1 := hp #[.int .i64 a', .int .i64 bS, .int .i64 c', .int .i64 d', .int .i64 bo, .int .i64 kV] (1 * 1) (.int .i64 bS) rfl;have p2 := hp #[.int .i64 a, .int .i64 b, .int .i64 c, .int .i64 d, .int .i64 e, .int .i64 f] (2 * 1) (.int .i64 c) rfl;have q2 := hp #[.int .i64 a', .int .i64 bS, .int .i64 c', .int .i64 d', .int .i64 bo, .int .i64 kV] (2 * 1) (.int .i64 c') rfl;have p3 := hp #[.int .i64 a, .int .i64 b, .int .i64 c, .int .i64 d, .int .i64 e, .int .i64 f] (3 * 1) (.int .i64 d) rfl;have bR := hp #[.int .i64 a', .int .i64 bS, .int .i64 c', .int .i64 d', .int .i64 bo, .int .i64 kV] (3 * 1) (.int .i64 d') rfl;have p4 := hp #[.int .i64 a, .int .i64 b, .int .i64 c, .int .i64 d, .int .i64 e, .int .i64 f] (4 * 1) (.int .i64 e) rfl;have dD := hp #[.int .i64 a', .int .i64 bS, .int .i64 c', .int .i64 d', .int .i64 bo, .int .i64 kV] (4 * 1) (.int .i64 bo) rfl;have vr := hp #[.int .i64 a, .int .i64 b, .int .i64 c, .int .i64 d, .int .i64 e, .int .i64 f] (5 * 1) (.int .i64 f) rfl;have l4 := hp #[.int .i64 a', .int .i64 bS, .int .i64 c', .int .i64 d', .int .i64 bo, .int .i64 kV] (5 * 1) (.int .i64 kV) rfl;rw [show List.range' [:6].start [:6].size [:6].step = [0, 1, 2, 3, 4, 5] from rfl];simp only [List.forIn_cons, List.forIn_nil, Sem.run_bind, lY, c0, p1, q1, p2, q2, p3, bR, p4, dD, vr, l4, Result.andThen_ok, run_equalIn_int W n _ .i64 .i64 _ _ hi]
 by_cases aJ : a = a'
 case neg => simp [aJ]
 subst aJ;simp only [beq_self_eq_true, Bool.not_true, nz, if_false, Sem.run_pure, Sem.run_bind, lY, c0, p1, q1, p2, q2, p3, bR, p4, dD, vr, l4, Result.andThen_ok, run_equalIn_int W n _ .i64 .i64 _ _ hi]
 by_cases ab : b = bS
 case neg => simp [ab]
 subst ab;simp only [beq_self_eq_true, Bool.not_true, nz, if_false, Sem.run_pure, Sem.run_bind, lY, c0, p1, q1, p2, q2, p3, bR, p4, dD, vr, l4, Result.andThen_ok, run_equalIn_int W n _ .i64 .i64 _ _ hi]
 by_cases al : c = c'
 case neg => simp [al]
 subst al;simp only [beq_self_eq_true, Bool.not_true, nz, if_false, Sem.run_pure, Sem.run_bind, lY, c0, p1, q1, p2, q2, p3, bR, p4, dD, vr, l4, Result.andThen_ok, run_equalIn_int W n _ .i64 .i64 _ _ hi]
 by_cases hd : d = d'
 case neg => simp [hd]
 subst hd;simp only [beq_self_eq_true, Bool.not_true, nz, if_false, Sem.run_pure, Sem.run_bind, lY, c0, p1, q1, p2, q2, p3, bR, p4, dD, vr, l4, Result.andThen_ok, run_equalIn_int W n _ .i64 .i64 _ _ hi]
 by_cases he : e = bo
 case neg => simp [he]
 subst he;simp only [beq_self_eq_true, Bool.not_true, nz, if_false, Sem.run_pure, Sem.run_bind, lY, c0, p1, q1, p2, q2, p3, bR, p4, dD, vr, l4, Result.andThen_ok, run_equalIn_int W n _ .i64 .i64 _ _ hi]
 by_cases au : f = kV
 case neg => simp [au]
 subst au;simp only [beq_self_eq_true, Bool.not_true, nz, if_false, Sem.run_pure, Sem.run_bind, lY, c0, p1, q1, p2, q2, p3, bR, p4, dD, vr, l4, Result.andThen_ok, run_equalIn_int W n _ .i64 .i64 _ _ hi];simp
abbrev v6 (a b c d e f : Int) : ah := .w (.agg [.c (.int .i64 a), .c (.int .i64 b), .c (.int .i64 c), .c (.int .i64 d), .c (.int .i64 e), .c (.int .i64 f)])
theorem WY : ag.eqGuardType ag.depth 104 = false := by kernel_rfl
theorem Kv {s : aC} {ops : Array Oper} {K : aC → Prop} {rest : List Oper} {ty : Nat} {pos : String} {after : Array Edge} {guard : Option (Nat × Bool)} {o dK : Nat} {x y : Operand} {a b c d e f a' bS c' d' bo kV : Int} (hw : want ops ⟨some o, .binOp .eql 104 x y dK, ty, pos, after, guard⟩ s = some true) (aa : s.look x = some (v6 a b c d e f)) (ai : s.look y = some (v6 a' bS c' d' bo kV)) (hd : Nat.blt o s.n = true) (h : bc ag ops K rest (s.put (some o) (bk (uL a b c d e f a' bS c' d' bo kV)))) : bc ag ops K (⟨some o, .binOp .eql 104 x y dK, ty, pos, after, guard⟩ :: rest) s :=
 sT hw aa ai rfl rfl (fun W => BH WY) (fun W => by rw [run_eql_struct, show (10000 : Nat) = 9998 + 1 + 1 from rfl, WX]; rfl) rfl hd h
abbrev Sm (k rm ph I J T : Int) (dirty : Bool) (hot fnd : List aj) (ch : List (List aj × List Int)) : List AC := [.c (.int .i64 k), .c (.int .i64 rm), .c (.int .i64 ph), .c (.int .i64 I), .c (.int .i64 J), .c (.int .i64 T), .c (.bool dirty), .p (bX 2 hot.length (bD hot)), .p (bX 2 fnd.length (bD fnd)), .p (bX 2 ch.length (eC ch))]
abbrev xG (k rm ph I J T : Int) (dirty : Bool) (hot fnd : List aj) (ch : List (List aj × List Int)) : ah := .w (.agg (Sm k rm ph I J T dirty hot fnd ch))
theorem Io {k rm ph I J T : Int} {dirty : Bool} {hot fnd : List aj} {ch : List (List aj × List Int)} : aH ag 58 [xG k rm ph I J T dirty hot fnd ch] (v6 k rm ph I J T) := by
 refine bl (f := 58) Tryz.func58 rfl rfl rfl rfl ?_;(refine eS ?_)
 ((refine bd rfl (cL rfl rfl rfl aL) ?_))
 exact ah.aS.refl _
abbrev Jo : ah := aQ (.func (.func 61) #[] #[])
def Tf (L M : List (List aj × List Int)) (k : Nat) (aM : List (Nat × ah)) (bi : List (Nat × List AC)) : Prop :=
 ∃ (i : Nat) (ii : Int), i ≤ L.length ∧ k = L.length - i ∧ ii = i ∧ bi = [] ∧ aM = [(1, qb M), (2, Jo), (15, qb L), (16, aE L.length), (17, aE ii)]
theorem acT {L M : List (List aj × List Int)} (al : km L) (Gl : L = M) : aH ag 60 [qb L, qb M, Jo] (bk true) := by
 have hlen := al.1;have fb : (L.length : Int) = M.length := by rw [Gl]
 refine bl (f := 60) Tryz.func60 rfl rfl rfl rfl ?_;(refine eS ?_);refine qv 32 (Tf L M) L.length _ [] ⟨0, 0, dx _, rfl, rfl, rfl, rfl⟩ rfl ⟨rfl, rfl, rfl, rfl, rfl, trivial⟩ trivial rfl ?_;rintro n aM bi ⟨j, ek, ae, rfl, nc, rfl, rfl⟩ cT;clear cT
 by_cases hp : j < L.length
 ·have p2 : ek < (L.length : Int) := by omega
  have p3 : 0 ≤ ek := by omega
  have p4 : ek < (M.length : Int) := by omega
  obtain ⟨V, D, g1⟩ : ∃ V D, L[j]? = some (V, D) := ⟨_, _, bJ hp⟩;have g2 : M[j]? = some (V, D) := by rw [← Gl]; exact g1
  obtain ⟨gd, fT⟩ := al.2 _ (cV g1);simp only at gd fT;have mR := wk nc g1;have sJ := wk nc g2;have aW := aap V V D D fT (by omega) fT (by omega);rw [bZ rfl, bZ rfl] at aW;clear Gl;(refine cc ?_);exact ⟨L.length - (j + 1), _, [], by omega, ⟨j + 1, ek + 1, hp, rfl, by omega, rfl, rfl⟩, rfl, ⟨rfl, rfl, rfl, rfl, rfl, trivial⟩, trivial, rfl⟩
 ·have p2 : ¬ ek < (L.length : Int) := by omega
  (refine eS ?_)
  ((refine bd rfl (a8 rfl aL) ?_))
  exact ah.aS.refl _
theorem acS {L : List (List aj × List Int)} (al : km L) : aH ag 60 [qb L, qb L, Jo] (bk true) := acT al rfl
theorem adi {k rm ph I J T : Int} {dirty : Bool} {hot fnd : List aj} {ch : List (List aj × List Int)} (aR : hot.length ≤ 1000000) (au : fnd.length ≤ 1000000) (al : km ch) : aH ag 31 [xG k rm ph I J T dirty hot fnd ch, xG k rm ph I J T dirty hot fnd ch] (bk true) := by
 have aW := Io (k := k) (rm := rm) (ph := ph) (I := I) (J := J) (T := T) (dirty := dirty) (hot := hot) (fnd := fnd) (ch := ch);have bH := Ih (D := hot) (E := hot) aR;have eF := Ih (D := fnd) (E := fnd) au;have la := acS al;rw [bZ rfl] at bH eF;have eQ : uL k rm ph I J T k rm ph I J T = true := by unfold uL; simp
 refine bl (f := 31) Tryz.func31 rfl rfl rfl rfl ?_;(refine cc ?_);refine Kv rfl rfl rfl rfl ?_;rw [eQ];have kv : (dirty == dirty) = true := by simp
 have aiD : decide (dirty = dirty) = true := by simp
 (refine cc ?_)
 ((refine bd rfl (a8 rfl aL) ?_))
 exact ah.aS.refl _
theorem adh {k rm ph I J T k' rm' ph' I' J' T' : Int} {dirty dirty' : Bool} {hot fnd hot' fnd' : List aj} {ch ch' : List (List aj × List Int)} (ax : uL k rm ph I J T k' rm' ph' I' J' T' = false) : aH ag 31 [xG k rm ph I J T dirty hot fnd ch, xG k' rm' ph' I' J' T' dirty' hot' fnd' ch'] (bk false) := by
 have aW := Io (k := k) (rm := rm) (ph := ph) (I := I) (J := J) (T := T) (dirty := dirty) (hot := hot) (fnd := fnd) (ch := ch);have bH := Io (k := k') (rm := rm') (ph := ph') (I := I') (J := J') (T := T') (dirty := dirty') (hot := hot') (fnd := fnd') (ch := ch');refine bl (f := 31) Tryz.func31 rfl rfl rfl rfl ?_;(refine cc ?_);refine Kv rfl rfl rfl rfl ?_;rw [ax];(refine eS ?_)
 ((refine bd rfl (a8 rfl aL) ?_))
 exact ah.aS.refl _
theorem bL.I6 {U : Nat → Prop} {ad : Nat → Nat} {W : World} {cs : List AC} {vs : List Value} {i : Nat} {u : Value} {x : AC} (h : bL U ad W cs vs) (hi : cs[i]? = some (.c u)) (aa : gE U ad W x u) : bL U ad W (cs.set i x) vs := by
 refine ⟨by rw [List.length_set]; exact h.1, fun j y v ai hv => ?_⟩;rw [List.getElem?_set] at ai
 split at ai
 ·rename_i e;subst e
  split at ai
  ·cases ai;have := (h.2 i _ v hi hv).1;subst this; exact aa
  ·cases ai
 ·exact h.2 j y v ai hv
theorem afe {hv fv cv : Value} {hot fnd : List aj} {ch : List (List aj × List Int)} {R : aI} (aD : R 4 = none) (cm : R 5 = none) (eQ : R 6 = none) : oB 4 (oB 5 (oB 6 (lD hv fv cv hot fnd ch R))) = R := by
 funext k;unfold oB
 by_cases ew : k = 4
 ·subst ew; rw [if_pos rfl, aD]
 ·rw [if_neg ew]
  by_cases lN : k = 5
  ·subst lN; rw [if_pos rfl, cm]
  ·rw [if_neg lN]
   by_cases rJ : k = 6
   ·subst rJ; rw [if_pos rfl, eQ]
   ·rw [if_neg rJ];unfold lD; rw [b9 _ _ rJ, b9 _ _ lN, b9 _ _ ew]
section
variable {E : List (Int × bT)} {r rm : Nat}
theorem dy.mD {s : bq.aU aj} {cs : List AC} {R : aI} (h : dy E r rm s cs R) : ∀ i, 4 ≤ i → R i = none := by
 obtain ⟨_, _, _, _, _, _, _, _, _, _, rfl⟩ := h;intro i hi
 match i, hi with
 | i + 4, _ => rfl
theorem dy.Eb {s : bq.aU aj} {cs : List AC} {R : aI} (h : dy E r rm s cs R) : ∀ i, i < 4 → ∃ q, R i = some q := by
 obtain ⟨_, _, _, _, _, _, _, _, _, _, rfl⟩ := h;intro i hi
 match i, hi with
 | 0, _ => exact ⟨_, rfl⟩
 | 1, _ => exact ⟨_, rfl⟩
 | 2, _ => exact ⟨_, rfl⟩
 | 3, _ => exact ⟨_, rfl⟩
abbrev Ep (r rm : Nat) (s : bq.aU aj) : ah := xG r rm s.ph s.I s.J s.T s.dirty s.hot s.fnd s.ch
theorem aas {s : bq.aU aj} (aR : s.hot.length ≤ 900000) (au : s.fnd.length ≤ 900000) (al : km s.ch) : ga E r rm 11 [] s (Ep r rm s) s := by
 intro cs R bj;have qZ := bj.mD 4 (by decide);have Po := bj.mD 5 (by decide);have Pp := bj.mD 6 (by decide);have h := aar aR au al bj
 have h1 := h.uI 6 Pp (Post2 := fun bW aG ay => ∃ hv fv, bW = .w (.agg ((pa r rm s.ph s.I s.J s.T s.dirty hv fv jO).set 9 (.p (bX 2 s.ch.length (eC s.ch))))) ∧ aG = cG 1000 cs ∧ ∃ cv, ay = oB 6 (lD hv fv cv s.hot s.fnd s.ch R)) (by
  rintro bW aG ay ⟨ar, rfl, hv, fv, cv, rfl, rfl, rfl⟩;refine ⟨_, _, cl _ _ _, jw _, fun U ad W v h aB => ?_, fun j ae => ?_, hv, fv, rfl, rfl, cv, rfl⟩
  ·obtain ⟨vs, e, ak⟩ := h;exact ⟨vs, e, (ak.I6 (i := 9) rfl aB : bL U ad W ((pa r rm s.ph s.I s.J s.T s.dirty hv fv cv).set 9 _) vs)⟩
  ·exact absurd ae (ah.dq rfl j))
 have h2 := h1.uI 5 Po (Post2 := fun bW aG ay => ∃ hv, bW = .w (.agg (((pa r rm s.ph s.I s.J s.T s.dirty hv jO jO).set 9 (.p (bX 2 s.ch.length (eC s.ch)))).set 8 (.p (bX 2 s.fnd.length (bD s.fnd))))) ∧ aG = cG 1000 cs ∧ ∃ fv cv, ay = oB 5 (oB 6 (lD hv fv cv s.hot s.fnd s.ch R))) (by
  rintro bW aG ay ⟨hv, fv, rfl, rfl, cv, rfl⟩;refine ⟨iD fv s.fnd, _, rfl, jw _, fun U ad W v h aB => ?_, fun j ae => ?_, hv, rfl, rfl, fv, cv, rfl⟩
  ·obtain ⟨vs, e, ak⟩ := h;exact ⟨vs, e, (ak.I6 (i := 8) rfl aB)⟩
  ·exact absurd ae (ah.dq rfl j))
 have ao := h2.uI 4 qZ (Post2 := oq 1000 fun bW ar ay => bW = Ep r rm s ∧ dy E r rm s ar ay) (by
  rintro bW aG ay ⟨hv, rfl, rfl, fv, cv, rfl⟩;refine ⟨iD hv s.hot, Ep r rm s, rfl, jw _, fun U ad W v h aB => ?_, fun j ae => ?_, cs, rfl, rfl, ?_⟩
  ·obtain ⟨vs, e, ak⟩ := h;exact ⟨vs, e, (ak.I6 (i := 7) rfl aB)⟩
  ·exact absurd ae (ah.dq rfl j)
  ·rw [afe qZ Po Pp]; exact bj)
 exact ao
def e9 (i : Nat) : Nat := if i < 10 then i + 20 else if i < 20 then i else if i < 30 then i - 20 else i
theorem I3 (j : Nat) : e9 (e9 j) = j := by
 unfold e9
 by_cases h1 : j < 10
 ·simp only [if_pos h1];rw [if_neg (by omega), if_neg (by omega), if_pos (by omega)]; omega
 ·by_cases h2 : j < 20
  ·simp only [if_neg h1, if_pos h2]
  ·by_cases ao : j < 30
   ·simp only [if_neg h1, if_neg h2, if_pos ao];rw [if_pos (by omega)]; omega
   ·simp only [if_neg h1, if_neg h2, if_neg ao]
def J8 (k : Nat) (bV : Nat → Nat) (E : List (Int × bT)) (r rm : Nat) (f : FuncId) (args : List ah) (s : bq.aU aj) (v : ah) (s' : bq.aU aj) : Prop :=
 ∀ cs R, dy E r rm s cs R → da ag f (.w (.one (.own k 0)) :: args) (cG k cs) (R.aX bV) (oq k fun bW ar ay => bW = v ∧ ∃ bh, dy E r rm s' ar bh ∧ ay = bh.aX bV)
theorem ga.nP (k : Nat) {bV : Nat → Nat} (fE : ∀ j, bV (bV j) = j) {f : FuncId} {args : List ah} {s s' : bq.aU aj} {v : ah} (h : ga E r rm f args s v s') (eg : args.all ah.aY = true) (hv : v.aY = true) : J8 k bV E r rm f args s v s' := fun cs R bj => by
 have h1 := da.at k (h cs R bj) eg bj.closed (fun bW ds ay an => ⟨by rw [an.1]; exact hv, an.2.closed⟩);refine (h1.rn fE).imp ?_;rintro bW aG ay ⟨bh, ⟨ar, rfl, rfl, b8⟩, rfl⟩;exact ⟨ar, rfl, rfl, bh, b8, rfl⟩
end
section
variable {R : aI} {s : aC} {ops : Array Oper} {dr : Option (List Nat)} {ty : Nat} {pos : String} {after : Array Edge} {guard : Option (Nat × Bool)} {K : aI → aC → Prop} {rest : List Oper}
theorem mu (k : Nat) (bV : Nat → Nat) {E : List (Int × bT)} {r rm : Nat} {dJ s1 : bq.aU aj} {v : ah} {dst : Option Nat} {f : FuncId} {g : Operand} {aM : Array TypeId} {l : List Operand} {args : List ah} {cs : List AC} {R0 : aI} [EC : Enters ag f] (hw : want ops ⟨dst, .call ⟨.value g, l.toArray, aM⟩, ty, pos, after, guard⟩ s = some true) (hm : dY dr ⟨dst, .call ⟨.value g, l.toArray, aM⟩, ty, pos, after, guard⟩ = true)
  (aq : s.look g = some (aQ (.func (.func f) #[] #[]))) (aJ : l.map s.look = (ah.w (.one (.own k 0)) :: args).map some) (af : s.mem k = some cs) (hD : pb dr k = true) (eg : args.all ah.aY = true) (hd : kT dst s.n = true) (hp : J8 k bV E r rm f args dJ v s1) (bj : dy E r rm dJ cs R0) (ap : bz (R0.aX bV) R)
  (h : ∀ ar bh, dy E r rm s1 ar bh → cJ ag ops dr K rest (bP (bh.aX bV) R) ((s.ed k ar).put dst v)) : cJ ag ops dr K (⟨dst, .call ⟨.value g, l.toArray, aM⟩, ty, pos, after, guard⟩ :: rest) R s := by
 refine Cy k hw hm aq aJ (hp cs R0 bj) af hD ap bj.closed eg hd ?_;rintro _ ar ay ⟨rfl, bh, aK, rfl⟩;exact h ar bh aK
end
abbrev two (gD fm : aI) : aI := bP gD (fm.aX e9)
section
variable {E AO : List (Int × bT)} {r rm aV rm' : Nat} {s s1 t t1 : bq.aU aj} {cs V8 ds FE : List AC} {gD uA fm pt : aI}
theorem Ei : bz gD (two gD fm) := fun i q h => hH h
theorem Sn (aJ : dy E r rm s cs gD) (ab : dy AO aV rm' t ds fm) : bz (fm.aX e9) (two gD fm) := fun i q h => by
 have hi : 4 ≤ i := Nat.not_lt.1 fun bb => by
  have : fm (e9 i) = none := ab.mD _ (by unfold e9; rw [if_pos (by omega)]; omega);rw [show fm.aX e9 i = fm (e9 i) from rfl, this] at h; cases h
 rw [show two gD fm i = bP gD (fm.aX e9) i from rfl, hI (aJ.mD i hi)]; exact h
theorem Ej (aJ : dy E r rm s cs gD) (Gv : dy E r rm s1 V8 uA) : bP uA (two gD fm) = two uA fm := by
 funext i
 by_cases hi : i < 4
 ·obtain ⟨q, an⟩ := Gv.Eb i hi;rw [hH an, show two uA fm i = bP uA (fm.aX e9) i from rfl, hH an]
 ·rw [hI (Gv.mD i (by omega)), show two gD fm i = bP gD (fm.aX e9) i from rfl, show two uA fm i = bP uA (fm.aX e9) i from rfl, hI (aJ.mD i (by omega)), hI (Gv.mD i (by omega))]
theorem So (aJ : dy E r rm s cs gD) (ab : dy AO aV rm' t ds fm) (dj : dy AO aV rm' t1 FE pt) : bP (pt.aX e9) (two gD fm) = two gD pt := by
 funext i
 by_cases hi : i < 4
 ·obtain ⟨q, an⟩ := aJ.Eb i hi;have : pt (e9 i) = none := dj.mD _ (by unfold e9; rw [if_pos (by omega)]; omega);rw [hI (show pt.aX e9 i = none from this), show two gD fm i = bP gD (fm.aX e9) i from rfl, show two gD pt i = bP gD (pt.aX e9) i from rfl, hH an, hH an]
 ·have ax := aJ.mD i (by omega);rw [show two gD pt i = bP gD (pt.aX e9) i from rfl, hI ax]
  by_cases aD : e9 i < 4
  ·obtain ⟨q, an⟩ := dj.Eb _ aD;rw [hH (show pt.aX e9 i = some q from an)]; exact an.symm
  ·have h1 : pt.aX e9 i = none := dj.mD _ (by omega);have h2 : fm.aX e9 i = none := ab.mD _ (by omega);rw [hI h1, show two gD fm i = bP gD (fm.aX e9) i from rfl, hI ax, h1, h2]
theorem agW (aJ : dy E r rm s cs gD) (ab : dy AO aV rm' t ds fm) : bP (fm.aX e9) gD = two gD fm := by
 funext i
 by_cases hi : i < 4
 ·obtain ⟨q, an⟩ := aJ.Eb i hi;have : fm (e9 i) = none := ab.mD _ (by unfold e9; rw [if_pos (by omega)]; omega);rw [hI (show fm.aX e9 i = none from this), show two gD fm i = bP gD (fm.aX e9) i from rfl, hH an, an]
 ·rw [show two gD fm i = bP gD (fm.aX e9) i from rfl, hI (aJ.mD i (by omega))];cases an : fm.aX e9 i with
  | some q => exact hH an
  | none => rw [hI an]; exact aJ.mD i (by omega)
end
theorem HB (k : Nat) {bV : Nat → Nat} (fE : ∀ j, bV (bV j) = j) {E : List (Int × bT)} {K n : Int} (ak : E.length ≤ 300) (h : gK (E.map Prod.snd) = true) : da ag 28 [jh E, aE K, aE n] b3 gh fun bW aG ay => ∃ cs bh, bW = .w (.one (.own k 0)) ∧ aG = cG k cs ∧ ay = bh.aX bV ∧ dy E (cf K) (dI n) (fu (bp E (cf K) (dI n))) cs bh := by
 have h1 := (aan (k := K) (n := n) ak h).aX (mO 24 k) (bV := bV) (iu := bV) fE fE;refine da.imp (show da ag 28 [jh E, aE K, aE n] b3 gh _ from h1) ?_;rintro bW aG ay ⟨cx, m1, bh, ⟨cs, rfl, rfl, bj⟩, rfl, rfl, rfl⟩;refine ⟨cs, bh, ?_, vi bj.closed, rfl, bj⟩;show ah.w (.one (.own (swp 24 k 24) 0)) = _;rw [Ap]
abbrev nO : List (Int × bT) := [(0, (0, 0), (4, 4)), (0, (0, 4), (4, 0))]
abbrev gu (rm : Nat) : cP aj := bp nO 0 rm
def qq : bq.aU aj := (eK (gu 9) 3 (fu (gu 9))).2
def sS : bq.aU aj := (eK (gu 9) 1000 qq).2
def Bc : bq.aU aj := (eK (gu 4) 100 (fu (gu 4))).2
theorem Kn : (eK (gu 9) 3 (fu (gu 9))).2 = qq := by unfold qq; rfl
theorem Ko : (eK (gu 9) 1000 qq).2 = sS := by unfold sS; rfl
theorem Kp : (eK (gu 4) 100 (fu (gu 4))).2 = Bc := by unfold Bc; rfl
theorem Ul : (eK (gu 9) 3 (fu (gu 9))).1 = 3 := by decide +kernel
theorem Um : qq.ph = 2 ∧ qq.hot.length = 5 := by decide +kernel
theorem Un : (eK (gu 9) 1000 qq).1 = 36 := by decide +kernel
theorem Uo : sS.ph = 4 ∧ sS.ch.length = 2 ∧ (sS.ch.map fun c => c.1.length) = [3, 3] ∧ sS.ch[0]? = some ([(0, 0), (2, 2), (4, 4)], [2, 2]) := by decide +kernel
theorem Up : Bc.ph = 5 := by decide +kernel
section
variable {E : List (Int × bT)} {r rm : Nat}
theorem IU (h : hO E r rm) {n : Nat} {s : bq.aU aj} (bj : mU E r rm s) : mU E r rm (eK (bp E r rm) n s).2 := by
 rw [(D3 n s).1]; exact (CQ h.ok _ bj).1
theorem hO.st (h : hO E r rm) {s : bq.aU aj} (bj : mU E r rm s) : s.hot.length ≤ 1024 ∧ s.fnd.length ≤ 1024 ∧ km s.ch := by
 have ab := bj.1;have aR := h.hot ab;have nil : km [] := ⟨dx _, fun c al => by cases al⟩;refine ⟨aR, ?_⟩;obtain ⟨_, az | h1 | h2 | ao | aD | cm⟩ := bj
 ·rw [az.fnd, az.ch]; exact ⟨dx _, nil⟩
 ·rw [h1.fnd, h1.ch]; exact ⟨dx _, nil⟩
 ·obtain ⟨c, p, q, _, _, _, au⟩ := h2.link;refine ⟨?_, h.wj ab h2.laid⟩;rw [au];refine il (List.length_filter_le ..) ?_;rw [dX]; omega
 ·rw [ao.fnd]; exact ⟨dx _, h.wj ab ao.laid⟩
 ·rw [aD.fnd]; exact ⟨dx _, h.wj ab aD.laid⟩
 ·rw [cm.fnd];refine ⟨dx _, ?_⟩;rcases cm.ch with ⟨al, _⟩ | ak
  ·rw [al]; exact nil
  ·exact h.wj ab ak
theorem HC (h : hO E r rm) {s : bq.aU aj} (bj : mU E r rm s) : ga E r rm 11 [] s (Ep r rm s) s := by
 obtain ⟨a, b, c⟩ := h.st bj;exact aas (by omega) (by omega) c
end
section
variable {R : aI} {s : aC} {ops : Array Oper} {dr : Option (List Nat)} {ty : Nat} {pos : String} {after : Array Edge} {guard : Option (Nat × Bool)} {K : aI → aC → Prop} {rest : List Oper}
theorem zc (k : Nat) (bV : Nat → Nat) {E : List (Int × bT)} {r rm : Nat} {dJ : bq.aU aj} {dst : Option Nat} {f : FuncId} {g : Operand} {aM : Array TypeId} {l : List Operand} {args : List ah} [EC : Enters ag f] (hw : want ops ⟨dst, .call ⟨.value g, l.toArray, aM⟩, ty, pos, after, guard⟩ s = some true) (hm : dY dr ⟨dst, .call ⟨.value g, l.toArray, aM⟩, ty, pos, after, guard⟩ = true)
  (aq : s.look g = some (aQ (.func (.func f) #[] #[]))) (aJ : l.map s.look = args.map some) (hp : da ag f args b3 gh fun bW aG ay => ∃ cs bh, bW = .w (.one (.own k 0)) ∧ aG = cG k cs ∧ ay = bh.aX bV ∧ dy E r rm dJ cs bh) (af : s.mem k = none) (bb : Nat.blt k s.n = true) (eg : args.all ah.aY = true) (hd : kT dst s.n = true)
  (h : ∀ cs bh, dy E r rm dJ cs bh → cJ ag ops dr K rest (bP (bh.aX bV) R) ((s.ed k cs).put dst (.w (.one (.own k 0))))) : cJ ag ops dr K (⟨dst, .call ⟨.value g, l.toArray, aM⟩, ty, pos, after, guard⟩ :: rest) R s := by
 refine u7 hw hm aq aJ hp (fun x aa j ae => absurd ae (ah.dq (b6.1 eg x aa) j)) (fun k' ar aK => by cases aK) (fun fs aV aK => by cases aK) (fun k' ar x j aK aa ae => by cases aK) hd ?_;rintro bW aG ay ⟨cs, bh, rfl, rfl, rfl, bj⟩;refine ⟨fun k' c aK => ?_, ?_⟩
 ·obtain ⟨rfl, rfl⟩ := hG aK;exact .inr ⟨af, by simpa [Nat.blt_eq] using bb⟩
 ·have aP : s.over (cG k cs) = s.ed k cs := by
   show ({ s with mem := bP (bG b3 k cs) s.mem } : aC) = { s with mem := bG s.mem k cs };rw [show bP (bG b3 k cs) s.mem = bG s.mem k cs from vq s.mem k cs]
  rw [aP];exact h cs bh bj
end
theorem Dy (R : aI) : bP R gh = R := by
 funext i;cases h : R i with
 | none => rw [hI h]; rfl
 | some q => exact hH h
abbrev c9 : Nat → Nat := fun j => j
theorem nn (j : Nat) : c9 (c9 j) = j := rfl
theorem yh (rm : Nat) (h1 : 1 ≤ rm) (h2 : rm ≤ 1024) : hO nO 0 rm := ⟨dx _, by decide, by decide, h1, h2⟩
theorem Uq : oz sS.ch = 2 := by decide +kernel
theorem It {α β : Type} (x : α × β) {a : α} (h : x.1 = a) : x = (a, x.2) := by subst h; rfl
theorem UF : ∃ dM fK ru : bq.aU aj, eK (gu 9) 3 (fu (gu 9)) = (3, dM) ∧ eK (gu 9) 1000 dM = (36, fK) ∧ eK (gu 4) 100 (fu (gu 4)) = ((eK (gu 4) 100 (fu (gu 4))).1, ru) ∧ mU nO 0 9 dM ∧ mU nO 0 9 fK ∧ mU nO 0 4 ru ∧ dM.ph = 2 ∧ dM.hot.length = 5 ∧ fK.ph = 4 ∧ fK.ch.length = 2 ∧ fK.ch[0]? = some ([(0, 0), (2, 2), (4, 4)], [2, 2]) ∧ oz fK.ch = 2 ∧ ru.ph = 5 := by
 have i1 : mU nO 0 9 (eK (gu 9) 3 (fu (gu 9))).2 := IU (n := 3) (s := fu (gu 9)) (yh 9 (by decide) (by decide)) (vn (gu 9) _);rw [Kn] at i1;have i2 : mU nO 0 9 (eK (gu 9) 1000 qq).2 := IU (n := 1000) (s := qq) (yh 9 (by decide) (by decide)) i1;rw [Ko] at i2;have i3 : mU nO 0 4 (eK (gu 4) 100 (fu (gu 4))).2 := IU (n := 100) (s := fu (gu 4)) (yh 4 (by decide) (by decide)) (vn (gu 4) _);rw [Kp] at i3;have aF := It _ Ul;rw [Kn] at aF;have aP := It _ Un;rw [Ko] at aP;have cr := It (eK (gu 4) 100 (fu (gu 4))) rfl;rw [Kp] at cr;have f1 := Um;have f2 := Uo;have f3 := Uq;have f4 := Up;generalize qq = dM at *;generalize sS = fK at *;generalize Bc = ru at *;exact ⟨dM, fK, ru, aF, aP, cr, i1, i2, i3, f1.1, f1.2, f2.1, f2.2.1, f2.2.2.2, f3, f4⟩
theorem ado : aH ag 9 [] (bk true) := by
 obtain ⟨dM, fK, ru, cx, dF, gA, i1, i2, i3, f1, f2, f3, f4, f5, f6, f7⟩ := UF;have qe := yh 9 (by decide) (by decide);have ue := yh 4 (by decide) (by decide);have ux := HB 15 (bV := c9) nn (E := nO) (K := 0) (n := 9) (by decide) (by decide);have JT := HB 27 (bV := e9) I3 (E := nO) (K := 0) (n := 4) (by decide) (by decide);rw [show cf 0 = 0 from by decide, show dI 9 = 9 from by decide] at ux;rw [show cf 0 = 0 from by decide, show dI 4 = 4 from by decide] at JT;have bh := CT qe (vn _ _) (n := 3) (by decide);have fk := CT qe i1 (n := 1000) (by decide);have j4 := CT ue (vn _ _) (n := 100) (by decide);rw [show (3 : Int).toNat = 3 from rfl, cx] at bh;rw [show (1000 : Int).toNat = 1000 from rfl, dF] at fk;rw [show (100 : Int).toNat = 100 from rfl, gA] at j4;clear cx dF gA;have bh := bh.nP 15 (bV := c9) nn rfl rfl;have fk := fk.nP 15 (bV := c9) nn rfl rfl;have j4 := j4.nP 27 (bV := e9) I3 rfl rfl;have rz := (HC qe i1).nP 15 (bV := c9) nn rfl rfl;have x7 := (HC qe i2).nP 15 (bV := c9) nn rfl rfl;have iM := (Ow (E := nO) (r := 0) (rm := 9) (s := fK)).nP 15 (bV := c9) nn rfl rfl;have EN := (Ow (E := nO) (r := 0) (rm := 4) (s := ru)).nP 27 (bV := e9) I3 rfl rfl;have lb := (Ov (E := nO) (r := 0) (rm := 9) (s := fK) (qe.st i2).2.2).nP 15 (bV := c9) nn rfl rfl;have pp := (HD qe i2).nP 15 (bV := c9) nn rfl rfl;rw [(xD qe.ok i2).2.2 (by omega), cp (by omega)] at pp;have JP := adi (k := (0 : Nat)) (rm := (9 : Nat)) (ph := fK.ph) (I := fK.I) (J := fK.J) (T := fK.T) (dirty := fK.dirty) (hot := fK.hot) (fnd := fK.fnd) (ch := fK.ch) (by have := (qe.st i2).1; omega) (by have := (qe.st i2).2.1; omega) (qe.st i2).2.2;have ahw := adh (k := (0 : Nat)) (rm := (9 : Nat)) (ph := dM.ph) (I := dM.I) (J := dM.J) (T := dM.T) (dirty := dM.dirty) (hot := dM.hot) (fnd := dM.fnd) (ch := dM.ch) (k' := (0 : Nat)) (rm' := (9 : Nat)) (ph' := fK.ph) (I' := fK.I) (J' := fK.J) (T' := fK.T) (dirty' := fK.dirty) (hot' := fK.hot) (fnd' := fK.fnd) (ch' := fK.ch) (by rw [f1, f3]; unfold uL; simp);rw [f6] at lb;have g1 : (dM.ph : Int) = 2 := by rw [f1]; rfl
 have g2 : (dM.hot.length : Int) = 5 := by rw [f2]; rfl
 have g3 : (fK.ph : Int) = 4 := by rw [f3]; rfl
 have g4 : (fK.ch.length : Int) = 2 := by rw [f4]; rfl
 have g7 : (ru.ph : Int) = 5 := by rw [f7]; rfl
 have mR := wk (ii := 0) rfl f5;clear qe ue i1 i2 i3 f1 f2 f3 f4 f6 f7;refine bl (f := 9) Tryz.func9 rfl rfl rfl rfl ?_;refine pw ?_;(refine ba ?_);refine zc 15 c9 rfl rfl rfl rfl ux rfl rfl rfl rfl (fun cs uz bK => ?_);rw [Dy];(refine ba ?_);refine mu 15 c9 rfl rfl rfl rfl rfl rfl rfl rfl bh bK (bz.refl _) (fun Fx mT gB => ?_);rw [show bP (aI.aX c9 mT) (aI.aX c9 uz) = aI.aX c9 mT from bK.bP gB];(refine ba ?_);refine mu 15 c9 rfl rfl rfl rfl rfl rfl rfl rfl rz gB (bz.refl _) (fun Fy ou kK => ?_);rw [show bP (aI.aX c9 ou) (aI.aX c9 mT) = aI.aX c9 ou from gB.bP kK];(refine ba ?_);refine mu 15 c9 rfl rfl rfl rfl rfl rfl rfl rfl fk kK (bz.refl _) (fun ah1 ER uh => ?_);rw [show bP (aI.aX c9 ER) (aI.aX c9 ou) = aI.aX c9 ER from kK.bP uh];(refine ba ?_);refine mu 15 c9 rfl rfl rfl rfl rfl rfl rfl rfl x7 uh (bz.refl _) (fun ah2 x1 vL => ?_);rw [show bP (aI.aX c9 x1) (aI.aX c9 ER) = aI.aX c9 x1 from uh.bP vL];(refine ba ?_);refine zc 27 e9 rfl rfl rfl rfl JT rfl rfl rfl rfl (fun ds J3 bw => ?_);rw [show bP (aI.aX e9 J3) (aI.aX c9 x1) = two x1 J3 from agW vL bw];(refine ba ?_);refine mu 27 e9 rfl rfl rfl rfl rfl rfl rfl rfl j4 bw (Sn vL bw) (fun FE vS nG => ?_);rw [So vL bw nG];(repeat first | (with_reducible apply k7 (id := 13) [0,1,2,3,4,5,6,7,8,9,10,11,12,13,14,15,16,17,18,19,20,21,22,23,24,25,26,27,28,29,30,31,32,33,34,35,36,37,38,39,40,41,42,43,44,45,46,47,48,49,50,51,52,53,54,55,56,57,58,59,60,61,62,63,64,65,66,67,68,69,70,71,72,73,74,75] [51,82,87,92,98,2000015,2000027]); kernel_rfl; kernel_rfl; rfl | refine cu ?_ | (with_reducible apply gf); rfl; (repeat first | refine gP ?_ | (with_reducible apply cg (c := true)); rfl; rfl; (exact bZ (by omega))); (with_reducible apply fL));refine mu 15 c9 rfl rfl rfl rfl rfl rfl rfl rfl iM vL Ei (fun ah3 ES Ex => ?_);rw [show bP (aI.aX c9 ES) (two x1 vS) = two ES vS from Ej vL Ex];(repeat first | refine cu ?_ | (with_reducible apply gf); rfl; (repeat first | refine gP ?_ | (with_reducible apply cg (c := true)); rfl; rfl; (exact bZ (by omega))); (with_reducible apply fL));refine mu 15 c9 rfl rfl rfl rfl rfl rfl rfl rfl lb Ex Ei (fun ah4 ET Ey => ?_);rw [show bP (aI.aX c9 ET) (two ES vS) = two ET vS from Ej Ex Ey];(repeat first | refine cu ?_ | (with_reducible apply gf); rfl; (repeat first | refine gP ?_ | (with_reducible apply cg (c := true)); rfl; rfl; (exact bZ (by omega))); (with_reducible apply fL));refine mu 15 c9 rfl rfl rfl rfl rfl rfl rfl rfl pp Ey Ei (fun ah5 EU xL => ?_);rw [show bP (aI.aX c9 EU) (two ET vS) = two EU vS from Ej Ey xL];(refine ba ?_);refine mu 27 e9 rfl rfl rfl rfl rfl rfl rfl rfl EN nG (Sn xL nG) (fun Wy J4 sH => ?_);rw [So xL nG sH];(repeat first | refine cu ?_ | (with_reducible apply gf); rfl; (repeat first | refine gP ?_ | (with_reducible apply cg (c := true)); rfl; rfl; (exact bZ (by omega))); (with_reducible apply fL));refine mu 15 c9 rfl rfl rfl rfl rfl rfl rfl rfl x7 xL Ei (fun ah6 J2 SM => ?_);rw [show bP (aI.aX c9 J2) (two EU J4) = two J2 J4 from Ej xL SM];(refine nF ?_)
 ((refine bd rfl (a8 rfl aL) ?_))
 exact ah.aS.refl _
theorem adJ {E : List (Int × bT)} : aH ag 7 [jh E] (bk (decide ((E.length : Int) ≤ 7))) := by
 refine bl (f := 7) Tryz.func7 rfl rfl rfl rfl ?_;(refine eS ?_)
 ((refine bd rfl (a8 rfl aL) ?_))
 exact ah.aS.refl _
def mC (n room : Int) : Int := 8 * (lE room + 2) * (n * lE room + 1) * (n * lE room + 1)
theorem Pf {n R : Int} (az : 0 ≤ n) (jE : n ≤ 7) (h1 : 1 ≤ R) (h2 : R ≤ 1024) : (0 ≤ n * R ∧ n * R ≤ 7168) ∧ (0 ≤ 8 * (R + 2) * (n * R + 1) ∧ 8 * (R + 2) * (n * R + 1) ≤ 58843152) ∧ (0 ≤ 8 * (R + 2) * (n * R + 1) * (n * R + 1) ∧ 8 * (R + 2) * (n * R + 1) * (n * R + 1) ≤ 421846556688) := by
 have a1 : 0 ≤ n * R := fY az (by omega);have a2 : n * R ≤ 7 * 1024 := rf jE h2 (by omega) (by omega);have b1 : 0 ≤ 8 * (R + 2) * (n * R + 1) := fY (by omega) (by omega);have b2 : 8 * (R + 2) * (n * R + 1) ≤ 8208 * 7169 := rf (by omega) (by omega) (by omega) (by omega);have c1 : 0 ≤ 8 * (R + 2) * (n * R + 1) * (n * R + 1) := fY b1 (by omega);have c2 : 8 * (R + 2) * (n * R + 1) * (n * R + 1) ≤ (8208 * 7169) * 7169 := rf b2 (by omega) (by omega) (by omega);exact ⟨⟨a1, by omega⟩, ⟨b1, by omega⟩, c1, by omega⟩
theorem afm (n : Int) : lE n = if 1024 < (if 1 > n then 1 else n) then 1024 else (if 1 > n then 1 else n) := by unfold lE; (repeat split) <;> omega
theorem Pe {n room : Int} (az : 0 ≤ n) (jE : n ≤ 7) : 0 ≤ mC n room ∧ mC n room ≤ 421846556688 := by
 have h := Pf az jE (R := lE room) (by unfold lE; (repeat split) <;> omega) (by unfold lE; (repeat split) <;> omega);exact h.2.2
theorem adZ {n room : Int} (az : 0 ≤ n) (jE : n ≤ 7) : aH ag 33 [aE n, aE room] (aE (mC n room)) := by
 unfold mC;rw [afm];obtain ⟨⟨a1, a2⟩, ⟨b1, b2⟩, c1, c2⟩ := Pf az jE (R := if 1024 < (if 1 > room then 1 else room) then 1024 else (if 1 > room then 1 else room)) (by (repeat split) <;> omega) (by (repeat split) <;> omega);have cx : 1 ≤ (if 1024 < (if 1 > room then 1 else room) then 1024 else (if 1 > room then 1 else room)) := by (repeat split) <;> omega
 have dF : (if 1024 < (if 1 > room then 1 else room) then 1024 else (if 1 > room then 1 else room)) ≤ 1024 := by (repeat split) <;> omega
 refine bl (f := 33) Tryz.func33 rfl rfl rfl rfl ?_;(refine eS ?_)
 ((refine bd rfl (a8 rfl aL) ?_))
 exact ah.aS.refl _
def TG (E : List (Int × bT)) (k : Nat) (R : aI) (aM : List (Nat × ah)) (bi : List (Nat × List AC)) : Prop :=
 ∃ (i : Nat) (ii : Int) (v : Value), i ≤ E.length ∧ k = E.length - i ∧ ii = i ∧ R = bt 0 ⟨68, 5, v, i, pC (E.take i)⟩ ∧ bi = [] ∧ aM = [(3, aQ v), (6, jh E), (7, aE E.length), (8, aE ii)]
theorem ac7 {E : List (Int × bT)} (ap : E.length ≤ 900000) : aH ag 32 [jh E] (jh E) := by
 refine bl (f := 32) Tryz.func32 rfl rfl rfl rfl ?_;refine pw ?_;refine D6 ?_;(refine ba ?_);refine mb 0 68 5 rfl ?_
 skip
 refine jW 18 (TG E) E.length (bt 0 ⟨68, 5, .slice none 0 0, 0, []⟩) _ [] ⟨0, 0, .slice none 0 0, dx _, rfl, rfl, rfl, rfl, rfl⟩ (kI _ _ _) rfl ⟨rfl, rfl, rfl, rfl, trivial⟩ trivial rfl ?_;rintro n R aM bi ⟨i, ii, v, hi, rfl, fp, rfl, rfl, rfl⟩ cT;clear cT
 by_cases an : i < E.length
 ·have q2 : ii < (E.length : Int) := by omega
  have bR : 0 ≤ ii := by omega
  obtain ⟨o, a, b, c, d, g1⟩ : ∃ o a b c d, E[i]? = some (o, (a, b), (c, d)) := ⟨_, _, _, _, _, bJ an⟩;have mR := uO fp g1
  have cr : pC (E.take (i + 1)) = pC (E.take i) ++ [.c (.int .i64 a), .c (.int .i64 b), .c (.int .i64 c), .c (.int .i64 d), .c (.int .i64 o)] := by
   rw [jT an, (bA.1 g1).2]; simp [pC, BC]
  (refine ba ?_);refine n2 0 rfl rfl rfl rfl ?q1 ?q2 rfl rfl (fun v1 iW => ?_)
  case q1 => exact js (by show i + 1 ≤ 1000000; omega)
  case q2 => show (i + 1) * 40 ≤ 140737488355328; omega
  (refine ba ?_);refine ⟨E.length - (i + 1), bt 0 ⟨68, 5, v1, i + 1, pC (E.take (i + 1))⟩, _, [], by omega, ⟨i + 1, ii + 1, v1, an, rfl, by omega, rfl, rfl, rfl⟩, ?_, rfl, ⟨rfl, rfl, rfl, rfl, trivial⟩, trivial, rfl⟩;rw [cr];exact kI _ _ _
 ·have q2 : ¬ ii < (E.length : Int) := by omega
  have cq : i = E.length := by omega
  subst cq;rw [List.take_length];refine Af 0 3 ⟨68, 5, v, E.length, pC E⟩ rfl rfl ?_;(refine ba ?_)
  ((refine bd rfl (a8 rfl aL) ?_))
  exact ah.aS.refl _
def TR (E : List (Int × bT)) (k : Nat) (aM : List (Nat × ah)) (bi : List (Nat × List AC)) : Prop :=
 ∃ (i : Nat) (ii : Int), i ≤ E.length ∧ k = E.length - i ∧ ii = i ∧ gK (E.map Prod.snd) = gK ((E.drop i).map Prod.snd) ∧ bi = [] ∧ aM = [(0, jh E), (3, aE ii)]
theorem Dj {a b : Int} : gg (a, b) = true ↔ b7 a b = true ∧ a ≠ 134217728 ∧ b ≠ 134217728 := by
 rw [pX];unfold b7;simp only [c5, b4];omega
theorem adg {E : List (Int × bT)} (ap : E.length ≤ 4611686018427387904) : aH ag 8 [jh E] (bk (gK (E.map Prod.snd))) := by
 refine bl (f := 8) Tryz.func8 rfl rfl rfl rfl ?_;(refine eS ?_);refine qv 60 (TR E) E.length _ [] ⟨0, 0, dx _, rfl, rfl, rfl, rfl, rfl⟩ rfl ⟨rfl, rfl, trivial⟩ trivial rfl ?_;rintro n aM bi ⟨j, ek, ae, rfl, nc, gG, rfl, rfl⟩ cT;clear cT
 by_cases hp : j < E.length
 ·have p2 : ek < (E.length : Int) := by omega
  have p3 : 0 ≤ ek := by omega
  obtain ⟨o, a, b, c, d, g1⟩ : ∃ o a b c d, E[j]? = some (o, (a, b), (c, d)) := ⟨_, _, _, _, _, bJ hp⟩;have mR := uO nc g1;have hd : E.drop j = (o, (a, b), (c, d)) :: E.drop (j + 1) := by rw [mG hp, (bA.1 g1).2]
  have e : gK ((E.drop j).map Prod.snd) = ((gg (a, b) && gg (c, d)) && gK ((E.drop (j + 1)).map Prod.snd)) := by rw [hd]; rfl
  rw [e] at gG;have y6 := Dj (a := a) (b := b);have rX := Dj (a := c) (b := d);have Dl : gg (a, b) = false → gK (E.map Prod.snd) = false := fun h => by rw [gG, h]; rfl
  have Dm : gg (c, d) = false → gK (E.map Prod.snd) = false := fun h => by rw [gG, h, Bool.and_false]; rfl
  cases ef : b7 a b with
  | false =>
   have aW := tO ef;have gG := Dl (Bool.eq_false_iff.2 fun h => by have := y6.1 h; rw [ef] at this; exact absurd this.1 (by decide));rw [gG];(repeat first | refine eA ?_ | refine lH aW ?_)
   ((refine bd rfl (a8 rfl aL) ?_))
   exact ah.aS.refl _
  | true =>
   have aW := tO ef;cases kX : b7 c d with
   | false =>
    have bH := tO kX;have gG := Dm (Bool.eq_false_iff.2 fun h => by have := rX.1 h; rw [kX] at this; exact absurd this.1 (by decide));rw [gG];(repeat first | refine eA ?_ | refine lH aW ?_ | refine lH bH ?_)
    ((refine bd rfl (a8 rfl aL) ?_))
    exact ah.aS.refl _
   | true =>
    have bH := tO kX
    by_cases aJ : a = 134217728
    ·have gG := Dl (Bool.eq_false_iff.2 fun h => by have := y6.1 h; omega);rw [gG];(repeat first | refine eA ?_ | refine lH aW ?_ | refine lH bH ?_ | (with_reducible apply cg (c := true)); rfl; rfl; (exact bZ (by omega)))
     ((refine bd rfl (a8 rfl aL) ?_))
     exact ah.aS.refl _
    by_cases ab : b = 134217728
    ·have gG := Dl (Bool.eq_false_iff.2 fun h => by have := y6.1 h; omega);rw [gG];(repeat first | refine eA ?_ | refine lH aW ?_ | refine lH bH ?_ | (with_reducible apply cg (c := true)); rfl; rfl; (exact bZ (by omega)) | (with_reducible apply cg (c := false)); rfl; rfl; (exact cp (by omega)))
     ((refine bd rfl (a8 rfl aL) ?_))
     exact ah.aS.refl _
    by_cases al : c = 134217728
    ·have gG := Dm (Bool.eq_false_iff.2 fun h => by have := rX.1 h; omega);rw [gG];(repeat first | refine eA ?_ | refine lH aW ?_ | refine lH bH ?_ | (with_reducible apply cg (c := true)); rfl; rfl; (exact bZ (by omega)) | (with_reducible apply cg (c := false)); rfl; rfl; (exact cp (by omega)))
     ((refine bd rfl (a8 rfl aL) ?_))
     exact ah.aS.refl _
    by_cases wK : d = 134217728
    ·have gG := Dm (Bool.eq_false_iff.2 fun h => by have := rX.1 h; omega);rw [gG];(repeat first | refine eA ?_ | refine lH aW ?_ | refine lH bH ?_ | (with_reducible apply cg (c := false)); rfl; rfl; (exact cp (by omega)))
     ((refine bd rfl (a8 rfl aL) ?_))
     exact ah.aS.refl _
    rw [y6.2 ⟨ef, aJ, ab⟩, rX.2 ⟨kX, al, wK⟩, l8, l8] at gG;clear Dl Dm y6 rX;(repeat first | refine eA ?_ | refine lH aW ?_ | refine lH bH ?_ | (with_reducible apply cg (c := false)); rfl; rfl; (exact cp (by omega)));exact ⟨E.length - (j + 1), _, [], by omega, ⟨j + 1, ek + 1, hp, rfl, by omega, gG, rfl, rfl⟩, rfl, ⟨rfl, rfl, trivial⟩, trivial, rfl⟩
 ·have p2 : ¬ ek < (E.length : Int) := by omega
  rw [tW (by omega)] at gG;rw [gG];(refine eS ?_)
  ((refine bd rfl (a8 rfl aL) ?_))
  exact ah.aS.refl _
def x4 (k : Nat) (bV : Nat → Nat) (E : List (Int × bT)) (r rm : Nat) (f : FuncId) (args : List ah) (dJ : bq.aU aj) : Prop :=
 da ag f args b3 gh fun bW aG ay => ∃ cs bh, bW = .w (.one (.own k 0)) ∧ aG = cG k cs ∧ ay = bh.aX bV ∧ dy E r rm dJ cs bh
theorem x4.tO9 {gJ : Nat} {E : List (Int × bT)} {r rm : Nat} {f : FuncId} {args : List ah} {dJ : bq.aU aj} (h : x4 gJ c9 E r rm f args dJ) (eg : args.all ah.aY = true) (k : Nat) {bV : Nat → Nat} (fE : ∀ j, bV (bV j) = j) : x4 k bV E r rm f args dJ := by
 have h1 := da.aX (bC := swp gJ k) (mO gJ k) (bV := bV) (iu := bV) fE fE h
 have aP : args.map (ah.aX (swp gJ k)) = args := by
  conv => rhs; rw [← List.map_id args]
  exact o5 fun x aa => tY (b6.1 eg x aa)
 rw [aP] at h1;refine da.imp (show da ag f args b3 gh _ from h1) ?_;rintro bW aG ay ⟨cx, m1, bh, ⟨cs, fk, rfl, rfl, rfl, bj⟩, rfl, rfl, rfl⟩;refine ⟨cs, fk, ?_, vi bj.closed, rfl, bj⟩;show ah.w (.one (.own (swp gJ k gJ) 0)) = _;rw [Ap]
theorem Ot {o : cP aj} {ok : Nat → List aj × List Int → Prop} (af : kp o ok) : ∀ (n : Nat) {s : bq.aU aj}, h6 o ok s → 4 ≤ s.ph → lv o n s = s
 | 0, s, _, _ => rfl
 | n + 1, s, h, aD => by
  have e := (xD af h).2.2 aD;show lv o n (eP o s) = s;rw [e]; exact Ot af n h aD
theorem run_eq {o : cP aj} {ok : Nat → List aj × List Int → Prop} (af : kp o ok) (n : Nat) {s : bq.aU aj} (h : h6 o ok s) : (eK o n s).2 = lv o n s := by
 obtain ⟨h1, h2, ao⟩ := D3 (o := o) n s
 by_cases al : (eK o n s).1 < n
 ·have aD := ao al;have e : n = (eK o n s).1 + (n - (eK o n s).1) := by omega
  have hi := (CQ af (eK o n s).1 h).1;rw [h1] at aD ⊢
  conv => rhs; rw [e, Oq]
  exact (Ot af _ hi aD).symm
 ·have e : (eK o n s).1 = n := by omega
  rw [h1, e]
section
variable {E : List (Int × bT)} {k room : Int}
def qf (E : List (Int × bT)) (k room : Int) : bq.aU aj := lv (bp E (cf k) (dI room)) (mC E.length room).toNat (fu (bp E (cf k) (dI room)))
theorem Ju (h : gK (E.map Prod.snd) = true) (ak : E.length ≤ 7) : mU E (cf k) (dI room) (qf E k room) ∧ 4 ≤ (qf E k room).ph ∧ (eK (bp E (cf k) (dI room)) (mC E.length room).toNat (fu (bp E (cf k) (dI room)))).2 = qf E k room ∧ ((eK (bp E (cf k) (dI room)) (mC E.length room).toNat (fu (bp E (cf k) (dI room)))).1 : Int) ≤ mC E.length room := by
 have hw : hO E (cf k) (dI room) := II h (by omega);have aw : (bp E (cf k) (dI room)).R = dI room := rfl;have ax := hO.n E (cf k) (dI room);have ab := Pe (n := E.length) (room := room) (by omega) (by omega)
 have hm : 8 * ((bp E (cf k) (dI room)).R + 2) * (((bp E (cf k) (dI room)).n * (bp E (cf k) (dI room)).R + 1) * ((bp E (cf k) (dI room)).n * (bp E (cf k) (dI room)).R + 1)) ≤ (mC E.length room).toNat := by
  rw [aw, ax]
  have e : ((8 * (dI room + 2) * ((E.length * dI room + 1) * (E.length * dI room + 1)) : Nat) : Int) = mC E.length room := by
   unfold mC;rw [← IL room]
   push_cast
   rw [ki (8 * ((dI room : Int) + 2)), show ((dI room : Int) + 1 + 1) = (dI room : Int) + 2 by omega]
  omega
 have he := WU hw.ok (by rw [aw]; exact hw.pos) hm;refine ⟨he.1, ?_, run_eq hw.ok _ (vn _ _), ?_⟩
 ·unfold qf;rcases he.2 with aD | cm
  ·rw [aD.ph]; decide
  ·rw [cm.ph]; decide
 ·have := (D3 (o := bp E (cf k) (dI room)) (mC E.length room).toNat (fu (bp E (cf k) (dI room)))).2.1;omega
theorem aaF (h : gK (E.map Prod.snd) = true) (ak : E.length ≤ 7) : x4 12 c9 E (cf k) (dI room) 10 [jh E, aE k, aE room] (qf E k room) := by
 obtain ⟨i1, aD, aF, aP⟩ := Ju (k := k) (room := room) h ak;have hw : hO E (cf k) (dI room) := II h (by omega);have ux := HB 12 (bV := c9) nn (E := E) (K := k) (n := room) (by omega) h;have aW := ac7 (E := E) (by omega);have bH := adZ (n := E.length) (room := room) (by omega) (by omega);have ab := Pe (n := E.length) (room := room) (by omega) (by omega);have bh := CT hw (vn _ _) (n := mC E.length room) (by omega);have nK := HD hw i1;rw [(xD hw.ok i1).2.2 aD, cp (by omega)] at nK;rw [aF] at bh;generalize (eK (bp E (cf k) (dI room)) (mC E.length room).toNat (fu (bp E (cf k) (dI room)))).1 = did at *;generalize qf E k room = dM at *;generalize fu (bp E (cf k) (dI room)) = EY at *;clear aF;generalize mC E.length room = M at *;have aiH : ¬ (did : Int) > M := by omega
 have bh := bh.nP 12 (bV := c9) nn rfl rfl;have nK := nK.nP 12 (bV := c9) nn rfl rfl;refine dt (f := 10) Tryz.func10 rfl (dl rfl) (by exact nQ) ?_;(refine nF ?_);refine zc 12 c9 rfl rfl rfl rfl ux rfl rfl rfl rfl (fun cs uz bK => ?_);rw [Dy];(refine nF ?_);refine mu 12 c9 rfl rfl rfl rfl rfl rfl rfl rfl bh bK (bz.refl _) (fun Fx mT gB => ?_);rw [show bP (aI.aX c9 mT) (aI.aX c9 uz) = aI.aX c9 mT from bK.bP gB];(repeat first | refine cu ?_ | (with_reducible apply gf); rfl; (repeat first | refine gP ?_ | refine fi ?_ | (with_reducible apply cg (c := false)); rfl; rfl; (exact cp (by omega))); (with_reducible apply fL));refine mu 12 c9 rfl rfl rfl rfl rfl rfl rfl rfl nK gB (bz.refl _) (fun Fy ou kK => ?_);rw [show bP (aI.aX c9 ou) (aI.aX c9 mT) = aI.aX c9 ou from gB.bP kK];(refine ba ?_)
 ((refine Ch 12 rfl (a8 rfl aL) rfl (bz.refl _) kK.closed rfl ?_))
 exact ⟨Fy, ou, rfl, rfl, rfl, kK⟩
theorem aaE (h : gK (E.map Prod.snd) = true) (ak : E.length ≤ 7) (j : Nat) {bV : Nat → Nat} (fE : ∀ j, bV (bV j) = j) : x4 j bV E (cf k) (dI room) 10 [jh E, aE k, aE room] (qf E k room) := (aaF h ak).tO9 rfl j fE
end
theorem WT {E : List (Int × bT)} {k room : Int} (h : gK (E.map Prod.snd) = true) (ak : E.length ≤ 7) : xV (bp E (cf k) (dI room)) (tI (E.map Prod.snd) (cf k)) (qf E k room) ∨ AW (bp E (cf k) (dI room)) (tI (E.map Prod.snd) (cf k)) (qf E k room) := by
 obtain ⟨i1, aD, _, _⟩ := Ju (k := k) (room := room) h ak;exact Mf i1 aD
section
variable {E : List (Int × bT)} {r rm : Nat}
abbrev stM (r rm : Nat) (s : bq.aU aj) : List AC := Sm r rm s.ph s.I s.J s.T s.dirty s.hot s.fnd s.ch
abbrev wg (V : List aj) (D : List Int) : List AC := [.p (bX 2 V.length (bD V)), .p (bX 1 D.length (ck D))]
theorem ZU {r : Nat} {x y : Int} (h : dd r x y = true) : (-9223372036854775808 ≤ x ∧ x ≤ 9223372036854775807) ∧ -9223372036854775808 ≤ y ∧ y ≤ 9223372036854775807 := by
 have hd : (134217728 : Int) / 2 ^ r ≤ 134217728 := Int.ediv_le_self _ (by decide);unfold dd wi at h;simp only [c5, b4] at h;omega
end
theorem Rx {r : Nat} (h : r ≤ 28) : cf (r : Int) = r := by unfold cf; (repeat split) <;> omega
theorem Z6 (k : Int) : fQ k (cf k) := by
 refine ⟨IJ k, ?_⟩;unfold cf; (repeat split) <;> omega
section
variable {E : List (Int × bT)} {r : Nat}
end
theorem afI {P : Program} {t : TypeId} {x : Int} {r : Nat} (ap : r ≤ 28) (az : 0 ≤ x * 2 ^ r) (h1 : x * 2 ^ r ≤ 9223372036854775807) (W : World) : (binOp .shl t (.int .i64 x) (.int .i64 (r : Int))).run P W = .ok (.int .i64 (x * 2 ^ r)) W := by
 have e : (binOp .shl t (.int .i64 x) (.int .i64 (r : Int))).run P W = .ok (.int .i64 (IntKind.i64.wrap (x * 2 ^ r))) W := by
  clear az h1;obtain rfl | rfl | rfl | rfl | rfl | rfl | rfl | rfl | rfl | rfl | rfl | rfl | rfl | rfl | rfl | rfl | rfl | rfl | rfl | rfl | rfl | rfl | rfl | rfl | rfl | rfl | rfl | rfl | rfl : r = 0 ∨ r = 1 ∨ r = 2 ∨ r = 3 ∨ r = 4 ∨ r = 5 ∨ r = 6 ∨ r = 7 ∨ r = 8 ∨ r = 9 ∨ r = 10 ∨ r = 11 ∨ r = 12 ∨ r = 13 ∨ r = 14 ∨ r = 15 ∨ r = 16 ∨ r = 17 ∨ r = 18 ∨ r = 19 ∨ r = 20 ∨ r = 21 ∨ r = 22 ∨ r = 23 ∨ r = 24 ∨ r = 25 ∨ r = 26 ∨ r = 27 ∨ r = 28 := by omega
  all_goals rfl
 rw [e, mw (by omega)]
section
variable {P : Program} {s : aC} {ops : Array Oper} {K : aC → Prop} {rest : List Oper} {ty : Nat} {pos : String} {after : Array Edge} {guard : Option (Nat × Bool)} {d : Nat}
theorem KE {t dK : Nat} {x y : Operand} {n : Int} {r : Nat} (hw : want ops ⟨some d, .binOp .shl t x y dK, ty, pos, after, guard⟩ s = some true) (aa : s.look x = some (aQ (.int .i64 n))) (ai : s.look y = some (aQ (.int .i64 (r : Int)))) (ap : r ≤ 28) (az : 0 ≤ n * 2 ^ r) (h1 : n * 2 ^ r ≤ 9223372036854775807) (hd : Nat.blt d s.n = true) (h : bc P ops K rest (s.put (some d) (aE (n * 2 ^ r)))) : bc P ops K (⟨some d, .binOp .shl t x y dK, ty, pos, after, guard⟩ :: rest) s :=
 sT (va := .int .i64 n) (vb := .int .i64 (r : Int)) hw aa ai rfl rfl (fun W => rfl) (fun W => afI ap az h1 W) rfl hd h
end
def Te (V : List aj) (D : List Int) (n : Nat) (aM : List (Nat × ah)) (bi : List (Nat × List AC)) : Prop :=
 ∃ (k : Nat) (cU d : Int), k ≤ D.length ∧ n = D.length - k ∧ cU = k ∧ d = eX (D.take k) ∧ bi = [(1, jL V D)] ∧ aM = [(1, jZ 1), (3, aE d), (4, aE cU)]
theorem acR {V : List aj} {D : List Int} (hd : D.length ≤ 1000000) : aH ag 20 [jz V D] (aE (eX D)) := by
 refine bl (f := 20) Tryz.func20 rfl rfl rfl rfl ?_;(refine eS ?_);refine qv 25 (Te V D) D.length _ [(1, jL V D)] ⟨0, 0, 0, dx _, rfl, rfl, rfl, rfl, rfl⟩ rfl ⟨rfl, rfl, rfl, trivial⟩ ⟨rfl, trivial⟩ rfl ?_;rintro n aM bi ⟨k, cU, d, af, rfl, hA, j9, rfl, rfl⟩ cT;clear cT
 by_cases an : k < D.length
 ·have q2 : cU < (D.length : Int) := by omega
  have bR : 0 ≤ cU := by omega
  obtain ⟨e, g1⟩ : ∃ e, D[k]? = some e := ⟨_, bJ an⟩;have iK := w5 hA g1;have aB := LY g1;rw [← j9, show max d e = if e > d then e else d by split <;> omega] at aB
  by_cases he : e > d
  ·rw [if_pos he] at aB;(refine eS ?_);exact ⟨D.length - (k + 1), _, [(1, jL V D)], by omega, ⟨k + 1, cU + 1, _, by omega, rfl, by omega, aB.symm, rfl, rfl⟩, rfl, ⟨rfl, rfl, rfl, trivial⟩, ⟨rfl, trivial⟩, rfl⟩
  ·rw [if_neg he] at aB;(refine eS ?_);exact ⟨D.length - (k + 1), _, [(1, jL V D)], by omega, ⟨k + 1, cU + 1, _, by omega, rfl, by omega, aB.symm, rfl, rfl⟩, rfl, ⟨rfl, rfl, rfl, trivial⟩, ⟨rfl, trivial⟩, rfl⟩
 ·have q2 : ¬ cU < (D.length : Int) := by omega
  have cq : D.take k = D := gn (by omega);rw [cq] at j9;rw [← j9];(refine eS ?_)
  ((refine bd rfl (a8 rfl aL) ?_))
  exact ah.aS.refl _
def TS (V : List aj) (D : List Int) (r : Nat) (n : Nat) (aM : List (Nat × ah)) (bi : List (Nat × List AC)) : Prop :=
 ∃ (i : Nat) (ii : Int) (b1 b2 dm cY : Bool), i ≤ V.length ∧ n = V.length - i ∧ ii = i ∧ (∀ v ∈ V.take i, dd r v.1 v.2 = true) ∧ fe xe (V.take i) = false ∧ fe DU (V.take i) = b1 ∧ fe C1 (V.take i) = b2 ∧ fe Em (V.take i) = dm ∧ fe Bz (V.take i) = cY ∧ (∀ d ∈ D.take (i - 1), 1 ≤ d ∧ d ≤ 1048576) ∧ bi = [(2, jL V D)] ∧ aM = [(1, aE r), (2, jZ 2), (5, bk b1), (6, bk b2), (7, bk dm), (8, bk cY), (9, aE ii)]
theorem Sh {α : Type} {l : List α} {i : Nat} {x : α} {Q : α → Prop} (h : l[i]? = some x) (aa : Q x) (aJ : ∀ y ∈ l.take i, Q y) : ∀ y ∈ l.take (i + 1), Q y := fun y ai => by
 rw [jT (bA.1 h).1, (bA.1 h).2] at ai;rcases jS.1 ai with ai | ai
 ·exact aJ y ai
 ·rw [kF.1 ai]; exact aa
theorem adf {V : List aj} {D : List Int} {k : Int} (ak : V.length ≤ 1000000) (hd : D.length ≤ 1000000) (fD : ∀ v ∈ V, uv v) : aH ag 17 [jz V D, aE k] (bk (decide (k = (cf k : Int)) && sy (cf k) V D)) := by
 have aW := zQ (Z6 k)
 by_cases af : k = (cf k : Int)
 case neg =>
  rw [cp af, Bool.false_and];refine bl (f := 17) Tryz.func17 rfl rfl rfl rfl ?_;(repeat first | refine eA ?_ | refine fi ?_ | (with_reducible apply cg (c := true)); rfl; rfl; ((simp only [nR]; (omega))))
  ((refine bd rfl (a8 rfl aL) ?_))
  exact ah.aS.refl _
 obtain ⟨r, ap, rfl⟩ : ∃ r : Nat, r ≤ 28 ∧ k = (r : Int) := ⟨cf k, IJ k, af⟩;rw [bZ af, l8];rw [Rx ap] at aW ⊢;clear af;have hT : (!decide ((r : Int) = (r : Int))) = false := by simp
 by_cases az : (V.length : Int) = 0
 ·rw [vy fun h => h.1 (jv (by omega))];refine bl (f := 17) Tryz.func17 rfl rfl rfl rfl ?_;(repeat first | refine eA ?_ | refine fi ?_ | (with_reducible apply cg (c := true)); rfl; rfl; (exact bZ (by omega)) | (with_reducible apply cg (c := false)); rfl; rfl; (assumption))
  ((refine bd rfl (a8 rfl aL) ?_))
  exact ah.aS.refl _
 by_cases h1 : (D.length : Int) + 1 = (V.length : Int)
 case neg =>
  rw [vy fun h => h1 (by have := h.2.1; omega)];refine bl (f := 17) Tryz.func17 rfl rfl rfl rfl ?_;(repeat first | refine eA ?_ | refine fi ?_ | (with_reducible apply cg (c := false)); rfl; rfl; (first | assumption | exact cp (by omega)))
  ((refine bd rfl (a8 rfl aL) ?_))
  exact ah.aS.refl _
 refine bl (f := 17) Tryz.func17 rfl rfl rfl rfl ?_;(repeat first | refine eA ?_ | refine fi ?_ | (with_reducible apply cg (c := false)); rfl; rfl; (first | assumption | exact cp (by omega)));refine qv 125 (TS V D r) V.length _ [(2, jL V D)] ⟨0, 0, false, false, false, false, dx _, rfl, rfl, fun v h => (by cases h), rfl, rfl, rfl, rfl, rfl, fun d h => (by cases h), rfl, rfl⟩ rfl ⟨rfl, rfl, rfl, rfl, rfl, rfl, rfl, trivial⟩ ⟨rfl, trivial⟩ rfl ?_;rintro n aM bi ⟨i, ii, b1, b2, dm, cY, hi, rfl, fp, aq, m0, m1, m2, m3, m4, kv, rfl, rfl⟩ cT;clear cT
 by_cases an : i < V.length
 case neg =>
  have q2 : ¬ ii < (V.length : Int) := by omega
  rw [gn (by omega)] at aq m0 m1 m2 m3 m4 kv
  have e : sy r V D = (!(b1 && b2) && !(dm && cY)) := by
   rw [afy, bZ (by omega : 0 < V.length), bZ (by omega : (D.length : Int) = (V.length : Int) - 1), show (V.all fun v => dd r v.1 v.2) = true from b6.2 aq, show (D.all fun d => decide (1 ≤ d ∧ d ≤ 1048576)) = true from b6.2 fun d hd => bZ (kv d hd)];unfold yF; rw [m0, m1, m2, m3, m4];simp
  rw [e];clear m0 m1 m2 m3 m4 e kv aq fD;cases b1 <;> cases b2 <;> cases dm <;> cases cY
  all_goals
   (refine eS ?_)
   ((refine bd rfl (a8 rfl aL) ?_))
   exact ah.aS.refl _
 have q2 : ii < (V.length : Int) := by omega
 have bR : 0 ≤ ii := by omega
 obtain ⟨z, w, g2⟩ : ∃ z w, V[i]? = some (z, w) := ⟨_, _, bJ an⟩;have uk := lV fp g2;have CF : uv (z, w) := fD _ (cV g2);unfold uv at CF;simp only at CF;have bH := QA (x := z) (y := w) (Oi ap) (by omega) (by omega) (by omega) (by omega) rfl;cases Cj : dd r z w with
 | false =>
  rw [Cj] at bH;rw [vy fun h => by have := h.2.2.1 _ (cV g2); rw [Cj] at this; cases this];clear aq m0 m1 m2 m3 m4 kv fD CF;(refine cc ?_)
  ((refine bd rfl (a8 rfl aL) ?_))
  exact ah.aS.refl _
 | true =>
 rw [Cj] at bH;have dW := Sh g2 (Q := fun v : aj => dd r v.1 v.2 = true) Cj aq;clear fD CF
 match i, hi, an, fp, aq, m0, m1, m2, m3, m4, kv, g2, dW with
 | 0, hi, an, fp, aq, m0, m1, m2, m3, m4, kv, g2, dW =>
  have z0 : ii = 0 := fp;have a1 : false = b1 := m1;have a2 : false = b2 := m2;have a3 : false = dm := m3;have a4 : false = cY := m4;subst a1; subst a2; subst a3; subst a4;have fG := yk (c := xe) V;have eJ := yk (c := DU) V;have ft := yk (c := C1) V;have oR := yk (c := Em) V;have qZ := yk (c := Bz) V;clear m0 m1 m2 m3 m4 aq kv;(refine cc ?_);exact ⟨V.length - 1, _, [(2, jL V D)], by omega, ⟨1, ii + 1, false, false, false, false, by omega, rfl, by omega, dW, fG, eJ, ft, oR, qZ, fun d h => (by cases h), rfl, rfl⟩, rfl, ⟨rfl, rfl, rfl, rfl, rfl, rfl, rfl, trivial⟩, ⟨rfl, trivial⟩, rfl⟩
 | k + 1, hi, an, fp, aq, m0, m1, m2, m3, m4, kv, g2, dW =>
  have z0 : ¬ ii = 0 := by omega
  have dD : 0 ≤ ii - 1 := by omega
  have l4 : ii - 1 < (V.length : Int) := by omega
  have DO : ii - 1 < (D.length : Int) := by omega
  obtain ⟨x, y, g1⟩ : ∃ x y, V[k]? = some (x, y) := ⟨_, _, bJ (by omega)⟩;obtain ⟨d, g3⟩ : ∃ d, D[k]? = some d := ⟨_, bJ (by omega)⟩;have iK := lV (j := ii - 1) (i := k) (by omega) g1;have JE := w5 (show ii - 1 = (k : Int) by omega) g3;have dJ := yl (c := xe) g1 g2;have s1 := yl (c := DU) g1 g2;have s2 := yl (c := C1) g1 g2;have bN := yl (c := Em) g1 g2;have bO := yl (c := Bz) g1 g2;rw [m0] at dJ;rw [m1] at s1;rw [m2] at s2;rw [m3] at bN;rw [m4] at bO;cases he : c7 x y z w with
  | true =>
   have e : sy r V D = false := vy fun h => by
    have cm := (RQ.1 h).2.2.2.1;rw [show fe (fun p q => c7 p.1 p.2 q.1 q.2) V = true from Vj (c := xe) (V := V) (k := k + 2) (by rw [dJ]; exact he)] at cm;cases cm
   rw [e];clear dJ s1 s2 bN bO m0 m1 m2 m3 m4 aq dW kv;(repeat first | refine eA ?_ | refine fi ?_ | (with_reducible apply cg (c := true)); rfl; rfl; (assumption))
   ((refine bd rfl (a8 rfl aL) ?_))
   exact ah.aS.refl _
  | false =>
  by_cases d1 : d < 1
  ·rw [vy fun h => by have := h.2.2.2.2.1 _ (cV g3); omega];clear dJ s1 s2 bN bO m0 m1 m2 m3 m4 aq dW kv;(repeat first | refine eA ?_ | refine fi ?_ | (with_reducible apply cg (c := true)); rfl; rfl; (exact bZ (by omega)) | (with_reducible apply cg (c := false)); rfl; rfl; (assumption))
   ((refine bd rfl (a8 rfl aL) ?_))
   exact ah.aS.refl _
  by_cases d2 : d > 1048576
  ·rw [vy fun h => by have := h.2.2.2.2.1 _ (cV g3); omega];clear dJ s1 s2 bN bO m0 m1 m2 m3 m4 aq dW kv;(repeat first | refine eA ?_ | refine fi ?_ | (with_reducible apply cg (c := false)); rfl; rfl; (first | assumption | exact cp (by omega)))
   ((refine bd rfl (a8 rfl aL) ?_))
   exact ah.aS.refl _
  have cq : fe xe (V.take (k + 2)) = false := by rw [dJ]; exact he
  have Yp := Sh g3 (Q := fun d : Int => 1 ≤ d ∧ d ≤ 1048576) (by omega) kv;clear dJ m0 m1 m2 m3 m4 aq kv;cases b1 <;> cases b2 <;> cases dm <;> cases cY
  all_goals
   (repeat first | refine eA ?_ | refine fi ?_ | (with_reducible apply cg (c := false)); rfl; rfl; (first | assumption | exact cp (by omega)));exact ⟨V.length - (k + 2), _, [(2, jL V D)], by omega, ⟨k + 2, ii + 1, _, _, _, _, by omega, rfl, by omega, dW, cq, s1, s2, bN, bO, Yp, rfl, rfl⟩, rfl, ⟨rfl, rfl, rfl, rfl, rfl, rfl, rfl, trivial⟩, ⟨rfl, trivial⟩, rfl⟩
def TH (V : List aj) (D : List Int) (n : Nat) (R : aI) (aM : List (Nat × ah)) (bi : List (Nat × List AC)) : Prop :=
 ∃ (k : Nat) (v : Value) (cU : Int), k ≤ V.length ∧ n = V.length - k ∧ cU = k ∧ R = bt 0 (q9 v (V.take k)) ∧ bi = [(2, [.c (.slice none 0 0), .c (.slice none 0 0)]), (3, [.c v, .p (bX 1 D.length (ck D))])] ∧ aM = [(2, jZ 2), (3, jZ 3), (12, gq V), (13, aE V.length), (14, aE cU)]
theorem ac9 {V : List aj} {D : List Int} (ak : V.length ≤ 50000) (hd : D.length ≤ 50000) : aH ag 16 [jz V D] (jz V D) := by
 have aF : 0 + D.length = D.length := je _;have aP : [] ++ ck D = ck D := rfl;refine bl (f := 16) Tryz.func16 rfl rfl rfl rfl ?_;refine pw ?_;refine mb 0 40 2 rfl ?_;(repeat first | (with_reducible apply gf); rfl; (repeat first | (with_reducible apply KB); rfl; rfl | (with_reducible apply Kq); (iterate 3 rfl); (exact js (by omega)); (omega); (assumption); (assumption); rfl | refine gP ?_); (with_reducible apply fL) | refine cu ?_);refine jW 26 (TH V D) V.length (bt 0 (q9 (.slice none 0 0) [])) _ [(2, [.c (.slice none 0 0), .c (.slice none 0 0)]), (3, [.c (.slice none 0 0), .p (bX 1 D.length (ck D))])] ⟨0, .slice none 0 0, 0, dx _, rfl, rfl, rfl, rfl, rfl⟩ (kI _ _ _) rfl ⟨rfl, rfl, rfl, rfl, rfl, trivial⟩ ⟨rfl, rfl, trivial⟩ rfl ?_;rintro n R aM bi ⟨k, v, cU, af, rfl, hA, rfl, rfl, rfl⟩ cT;clear cT;have zj : (V.take k).length ≤ k := by rw [dX]; omega
 by_cases an : k < V.length
 ·have q2 : cU < (V.length : Int) := by omega
  have bR : 0 ≤ cU := by omega
  obtain ⟨x, y, g1⟩ : ∃ x y, V[k]? = some (x, y) := ⟨_, _, bJ an⟩;have iK := lV hA g1
  have aB : V.take (k + 1) = V.take k ++ [(x, y)] := by
   rw [jT an, (bA.1 g1).2]
  (refine ba ?_);refine n2 0 rfl rfl rfl rfl ?q1 ?q2 rfl rfl (fun v' bQ => ?_)
  case q1 => exact js (by show (V.take k).length + 1 ≤ 1000000; omega)
  case q2 => show ((V.take k).length + 1) * 16 ≤ 140737488355328; omega
  (refine ba ?_);refine ⟨V.length - (k + 1), bt 0 (q9 v' (V.take (k + 1))), _, [(2, [.c (.slice none 0 0), .c (.slice none 0 0)]), (3, [.c v', .p (bX 1 D.length (ck D))])], by omega, ⟨k + 1, v', cU + 1, by omega, rfl, by omega, rfl, rfl, rfl⟩, ?_, rfl, ⟨rfl, rfl, rfl, rfl, rfl, trivial⟩, ⟨rfl, rfl, trivial⟩, rfl⟩;rw [aB, Qe]; exact kI _ _ _
 ·have q2 : ¬ cU < (V.length : Int) := by omega
  have cq : V.take k = V := gn (by omega);rw [cq];refine IY 0 3 0 (q9 v V) rfl rfl rfl ?_;(refine ba ?_)
  ((refine bd rfl (cL rfl rfl rfl aL) ?_))
  exact ah.aS.refl _
end Go.Proofs.YtbcecodakfejaaaGreat
