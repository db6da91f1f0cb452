/-
  My own texts, without what this claim does not need. My own text.
-/
import Derived.Test.YtbcecodakfejaaaGreatSNodedK15
set_option maxRecDepth 100000
set_option maxHeartbeats 64000000
set_option linter.unusedVariables false
set_option linter.unusedSimpArgs false
set_option linter.unusedSectionVars false
open Go.Proofs.Tryz renaming prog → ag
namespace Go.Proofs.YtbcecodakfejaaaGreat
open Go.RowKit
open bu
def uV (a b c d e f a' bT c' d' bq kW : Int) : Bool := decide (a = a') && (decide (b = bT) && (decide (c = c') && (decide (d = d') && (decide (e = bq) && decide (f = kW)))))
theorem Wn (n : Nat) (a b c d e f a' bT c' d' bq kW : Int) (W : World) : (Op.equalIn (n + 1 + 1) 104 (.agg #[.int .i64 a, .int .i64 b, .int .i64 c, .int .i64 d, .int .i64 e, .int .i64 f]) (.agg #[.int .i64 a', .int .i64 bT, .int .i64 c', .int .i64 d', .int .i64 bq, .int .i64 kW])).run ag W = .ok (uV a b c d e f a' bT c' d' bq kW) W := by
 have hu : ag.underlying 104 = some (.array 6 3) := by kernel_rfl
 have hi : ag.underlying 3 = some (.int .i64) := by kernel_rfl
 obtain ⟨m, hm⟩ : ∃ m, m = n + 1 := ⟨_, rfl⟩;rw [← hm, Op.equalIn];simp only [Sem.run_bind, run_underlying hu, Result.andThen_ok];rw [hm];have aP : (sizeOf 3).run ag W = .ok 1 W := by go_simp
 have hp : ∀ (xs : Array Value) (off : Nat) (v : Value), xs[off]? = some v → (part 3 xs off).run ag W = .ok v W := fun xs off v h => by
  have aJ : (isAgg 3).run ag W = .ok false W := by
   unfold isAgg;simp only [Sem.run_bind, run_underlying hi, Result.andThen_ok, Sem.run_pure]
  unfold part;simp only [Sem.run_bind, aJ, Result.andThen_ok, nD, if_false, h, Sem.run_pure]
 simp only [aP, Result.andThen_ok];rw [Std.Legacy.Range.forIn_eq_forIn_range'];unfold uV;have l7 := hp #[.int .i64 a, .int .i64 b, .int .i64 c, .int .i64 d, .int .i64 e, .int .i64 f] (0 * 1) (.int .i64 a) rfl;have di := hp #[.int .i64 a', .int .i64 bT, .int .i64 c', .int .i64 d', .int .i64 bq, .int .i64 kW] (0 * 1) (.int .i64 a') rfl;have p1 := hp #[.int .i64 a, .int .i64 b, .int .i64 c, .int .i64 d, .int .i64 e, .int .i64 f] (1 * 1) (.int .i64 b) rfl;have q1 := hp #[.int .i64 a', .int .i64 bT, .int .i64 c', .int .i64 d', .int .i64 bq, .int .i64 kW] (1 * 1) (.int .i64 bT) rfl;have p2 := hp #[.int .i64 a, .int .i64 b, .int .i64 c, .int .i64 d, .int .i64 e, .int .i64 f] (2 * 1) (.int .i64 c) rfl;have q2 := hp #[.int .i64 a', .int .i64 bT, .int .i64 c', .int .i64 d', .int .i64 bq, .int .i64 kW] (2 * 1) (.int .i64 c') rfl;have p3 := hp #[.int .i64 a, .int .i64 b, .int .i64 c, .int .i64 d, .int .i64 e, .int .i64 f] (3 * 1) (.int .i64 d) rfl;have bO := hp #[.int .i64 a', .int .i64 bT, .int .i64 c', .int .i64 d', .int .i64 bq, .int .i64 kW] (3 * 1) (.int .i64 d') rfl;have p4 := hp #[.int .i64 a, .int .i64 b, .int .i64 c, .int .i64 d, .int .i64 e, .int .i64 f] (4 * 1) (.int .i64 e) rfl;have dj := hp #[.int .i64 a', .int .i64 bT, .int .i64 c', .int .i64 d', .int .i64 bq, .int .i64 kW] (4 * 1) (.int .i64 bq) rfl;have vJ := hp #[.int .i64 a, .int .i64 b, .int .i64 c, .int .i64 d, .int .i64 e, .int .i64 f] (5 * 1) (.int .i64 f) rfl;have mc := hp #[.int .i64 a', .int .i64 bT, .int .i64 c', .int .i64 d', .int .i64 bq, .int .i64 kW] (5 * 1) (.int .i64 kW) rfl;rw [show List.range' [:6].start [:6].size [:6].step = [0, 1, 2, 3, 4, 5] from rfl];simp only [List.forIn_cons, List.forIn_nil, Sem.run_bind, l7, di, p1, q1, p2, q2, p3, bO, p4, dj, vJ, mc, Result.andThen_ok, run_equalIn_int W n _ .i64 .i64 _ _ hi]
 by_cases aJ : a = a'
 case neg => simp [aJ]
 subst aJ;simp only [beq_self_eq_true, Bool.not_true, nD, if_false, Sem.run_pure, Sem.run_bind, l7, di, p1, q1, p2, q2, p3, bO, p4, dj, vJ, mc, Result.andThen_ok, run_equalIn_int W n _ .i64 .i64 _ _ hi]
 by_cases ab : b = bT
 case neg => simp [ab]
 subst ab;simp only [beq_self_eq_true, Bool.not_true, nD, if_false, Sem.run_pure, Sem.run_bind, l7, di, p1, q1, p2, q2, p3, bO, p4, dj, vJ, mc, Result.andThen_ok, run_equalIn_int W n _ .i64 .i64 _ _ hi]
 by_cases aj : c = c'
 case neg => simp [aj]
 subst aj;simp only [beq_self_eq_true, Bool.not_true, nD, if_false, Sem.run_pure, Sem.run_bind, l7, di, p1, q1, p2, q2, p3, bO, p4, dj, vJ, mc, Result.andThen_ok, run_equalIn_int W n _ .i64 .i64 _ _ hi]
 by_cases hd : d = d'
 case neg => simp [hd]
 subst hd;simp only [beq_self_eq_true, Bool.not_true, nD, if_false, Sem.run_pure, Sem.run_bind, l7, di, p1, q1, p2, q2, p3, bO, p4, dj, vJ, mc, Result.andThen_ok, run_equalIn_int W n _ .i64 .i64 _ _ hi]
 by_cases he : e = bq
 case neg => simp [he]
 subst he;simp only [beq_self_eq_true, Bool.not_true, nD, if_false, Sem.run_pure, Sem.run_bind, l7, di, p1, q1, p2, q2, p3, bO, p4, dj, vJ, mc, Result.andThen_ok, run_equalIn_int W n _ .i64 .i64 _ _ hi]
 by_cases ar : f = kW
 case neg => simp [ar]
 subst ar;simp only [beq_self_eq_true, Bool.not_true, nD, if_false, Sem.run_pure, Sem.run_bind, l7, di, p1, q1, p2, q2, p3, bO, p4, dj, vJ, mc, Result.andThen_ok, run_equalIn_int W n _ .i64 .i64 _ _ hi];simp
abbrev v6 (a b c d e f : Int) : ah := .w (.agg [.c (.int .i64 a), .c (.int .i64 b), .c (.int .i64 c), .c (.int .i64 d), .c (.int .i64 e), .c (.int .i64 f)])
theorem Wo : ag.eqGuardType ag.depth 104 = false := by kernel_rfl
theorem J8 {s : aA} {ops : Array Oper} {K : aA → Prop} {rest : List Oper} {ty : Nat} {pos : String} {after : Array Edge} {guard : Option (Nat × Bool)} {o dU : Nat} {x y : Operand} {a b c d e f a' bT c' d' bq kW : Int} (hw : want ops ⟨some o, .binOp .eql 104 x y dU, ty, pos, after, guard⟩ s = some true) (aa : s.look x = some (v6 a b c d e f)) (ai : s.look y = some (v6 a' bT c' d' bq kW)) (hd : Nat.blt o s.n = true) (h : bb ag ops K rest (s.put (some o) (bk (uV a b c d e f a' bT c' d' bq kW)))) : bb ag ops K (⟨some o, .binOp .eql 104 x y dU, ty, pos, after, guard⟩ :: rest) s :=
 uL hw aa ai rfl rfl (fun W => BU Wo) (fun W => by rw [run_eql_struct, show (10000 : Nat) = 9998 + 1 + 1 from rfl, Wn]; rfl) rfl hd h
abbrev RM (k rm ph I J T : Int) (dirty : Bool) (hot fnd : List ao) (ch : List (List ao × List Int)) : List AC := [.c (.int .i64 k), .c (.int .i64 rm), .c (.int .i64 ph), .c (.int .i64 I), .c (.int .i64 J), .c (.int .i64 T), .c (.bool dirty), .p (cc 2 hot.length (bP hot)), .p (cc 2 fnd.length (bP fnd)), .p (cc 2 ch.length (ev ch))]
abbrev vU (k rm ph I J T : Int) (dirty : Bool) (hot fnd : List ao) (ch : List (List ao × List Int)) : ah := .w (.agg (RM k rm ph I J T dirty hot fnd ch))
theorem Ib {k rm ph I J T : Int} {dirty : Bool} {hot fnd : List ao} {ch : List (List ao × List Int)} : aC ag 58 [vU k rm ph I J T dirty hot fnd ch] (v6 k rm ph I J T) := by
 refine bm (f := 58) Tryz.func58 rfl rfl rfl rfl ?_;(refine eF ?_)
 ((refine bc rfl (cu rfl rfl rfl aN) ?_))
 exact ah.aQ.refl _
abbrev I3 : ah := aR (.func (.func 61) #[] #[])
def Sy (L M : List (List ao × List Int)) (k : Nat) (aL : List (Nat × ah)) (bd : List (Nat × List AC)) : Prop :=
 ∃ (i : Nat) (ii : Int), i ≤ L.length ∧ k = L.length - i ∧ ii = i ∧ bd = [] ∧ aL = [(1, re M), (2, I3), (15, re L), (16, aH L.length), (17, aH ii)]
theorem acy {L M : List (List ao × List Int)} (aj : jD L) (F6 : L = M) : aC ag 60 [re L, re M, I3] (bk true) := by
 have hlen := aj.1;have e1 : (L.length : Int) = M.length := by rw [F6]
 refine bm (f := 60) Tryz.func60 rfl rfl rfl rfl ?_;(refine eF ?_);refine s8 32 (Sy L M) L.length _ [] ⟨0, 0, dC _, rfl, rfl, rfl, rfl⟩ rfl ⟨rfl, rfl, rfl, rfl, rfl, trivial⟩ trivial rfl ?_;rintro n aL bd ⟨j, ee, ae, rfl, nl, rfl, rfl⟩ c0;clear c0
 by_cases hp : j < L.length
 ·have p2 : ee < (L.length : Int) := by omega
  have p3 : 0 ≤ ee := by omega
  have p4 : ee < (M.length : Int) := by omega
  obtain ⟨V, D, g1⟩ : ∃ V D, L[j]? = some (V, D) := ⟨_, _, bN hp⟩;have g2 : M[j]? = some (V, D) := by rw [← F6]; exact g1
  obtain ⟨hj, gE⟩ := aj.2 _ (c7 g1);simp only at hj gE;have lN := uQ nl g1;have rq := uQ nl g2;have aT := Z0 V V D D gE (by omega) gE (by omega);rw [cw rfl, cw rfl] at aT;clear F6;(refine bY ?_);exact ⟨L.length - (j + 1), _, [], by omega, ⟨j + 1, ee + 1, hp, rfl, by omega, rfl, rfl⟩, rfl, ⟨rfl, rfl, rfl, rfl, rfl, trivial⟩, trivial, rfl⟩
 ·have p2 : ¬ ee < (L.length : Int) := by omega
  (refine eF ?_)
  ((refine bc rfl (bf rfl aN) ?_))
  exact ah.aQ.refl _
theorem acx {L : List (List ao × List Int)} (aj : jD L) : aC ag 60 [re L, re L, I3] (bk true) := acy aj rfl
theorem acV {k rm ph I J T : Int} {dirty : Bool} {hot fnd : List ao} {ch : List (List ao × List Int)} (aU : hot.length ≤ 1000000) (ar : fnd.length ≤ 1000000) (aj : jD ch) : aC ag 31 [vU k rm ph I J T dirty hot fnd ch, vU k rm ph I J T dirty hot fnd ch] (bk true) := by
 have aT := Ib (k := k) (rm := rm) (ph := ph) (I := I) (J := J) (T := T) (dirty := dirty) (hot := hot) (fnd := fnd) (ch := ch);have bH := H4 (D := hot) (E := hot) aU;have et := H4 (D := fnd) (E := fnd) ar;have ld := acx aj;rw [cw rfl] at bH et;have fh : uV k rm ph I J T k rm ph I J T = true := by unfold uV; simp
 refine bm (f := 31) Tryz.func31 rfl rfl rfl rfl ?_;(refine bY ?_);refine J8 rfl rfl rfl rfl ?_;rw [fh];have yW : (dirty == dirty) = true := by simp
 have aik : decide (dirty = dirty) = true := by simp
 (refine bY ?_)
 ((refine bc rfl (bf rfl aN) ?_))
 exact ah.aQ.refl _
theorem acU {k rm ph I J T k' rm' ph' I' J' T' : Int} {dirty dirty' : Bool} {hot fnd hot' fnd' : List ao} {ch ch' : List (List ao × List Int)} (ax : uV k rm ph I J T k' rm' ph' I' J' T' = false) : aC ag 31 [vU k rm ph I J T dirty hot fnd ch, vU k' rm' ph' I' J' T' dirty' hot' fnd' ch'] (bk false) := by
 have aT := Ib (k := k) (rm := rm) (ph := ph) (I := I) (J := J) (T := T) (dirty := dirty) (hot := hot) (fnd := fnd) (ch := ch);have bH := Ib (k := k') (rm := rm') (ph := ph') (I := I') (J := J') (T := T') (dirty := dirty') (hot := hot') (fnd := fnd') (ch := ch');refine bm (f := 31) Tryz.func31 rfl rfl rfl rfl ?_;(refine bY ?_);refine J8 rfl rfl rfl rfl ?_;rw [ax];(refine eF ?_)
 ((refine bc rfl (bf rfl aN) ?_))
 exact ah.aQ.refl _
theorem bL.IJ {U : Nat → Prop} {ad : Nat → Nat} {W : World} {cs : List AC} {vs : List Value} {i : Nat} {u : Value} {x : AC} (h : bL U ad W cs vs) (hi : cs[i]? = some (.c u)) (aa : gh U ad W x u) : bL U ad W (cs.set i x) vs := by
 refine ⟨by rw [List.length_set]; exact h.1, fun j y v ai hv => ?_⟩;rw [List.getElem?_set] at ai
 split at ai
 ·rename_i e;subst e
  split at ai
  ·cases ai;have := (h.2 i _ v hi hv).1;subst this; exact aa
  ·cases ai
 ·exact h.2 j y v ai hv
theorem ae4 {hv fv cv : Value} {hot fnd : List ao} {ch : List (List ao × List Int)} {R : aI} (aE : R 4 = none) (cY : R 5 = none) (fh : R 6 = none) : oA 4 (oA 5 (oA 6 (lE hv fv cv hot fnd ch R))) = R := by
 funext k;unfold oA
 by_cases dZ : k = 4
 ·subst dZ; rw [if_pos rfl, aE]
 ·rw [if_neg dZ]
  by_cases kV : k = 5
  ·subst kV; rw [if_pos rfl, cY]
  ·rw [if_neg kV]
   by_cases rN : k = 6
   ·subst rN; rw [if_pos rfl, fh]
   ·rw [if_neg rN];unfold lE; rw [cl _ _ rN, cl _ _ kV, cl _ _ dZ]
section
variable {E : List (Int × bS)} {r rm : Nat}
theorem dE.mK {s : bu.aV ao} {cs : List AC} {R : aI} (h : dE E r rm s cs R) : ∀ i, 4 ≤ i → R i = none := by
 obtain ⟨_, _, _, _, _, _, _, _, _, _, rfl⟩ := h;intro i hi
 match i, hi with
 | i + 4, _ => rfl
theorem dE.Ed {s : bu.aV ao} {cs : List AC} {R : aI} (h : dE E r rm s cs R) : ∀ i, i < 4 → ∃ q, R i = some q := by
 obtain ⟨_, _, _, _, _, _, _, _, _, _, rfl⟩ := h;intro i hi
 match i, hi with
 | 0, _ => exact ⟨_, rfl⟩
 | 1, _ => exact ⟨_, rfl⟩
 | 2, _ => exact ⟨_, rfl⟩
 | 3, _ => exact ⟨_, rfl⟩
abbrev Er (r rm : Nat) (s : bu.aV ao) : ah := vU r rm s.ph s.I s.J s.T s.dirty s.hot s.fnd s.ch
theorem Z3 {s : bu.aV ao} (aU : s.hot.length ≤ 900000) (ar : s.fnd.length ≤ 900000) (aj : jD s.ch) : gg E r rm 11 [] s (Er r rm s) s := by
 intro cs R bj;have l5 := bj.mK 4 (by decide);have OM := bj.mK 5 (by decide);have ON := bj.mK 6 (by decide);have h := Z2 aU ar aj bj
 have h1 := h.uR 6 ON (Post2 := fun b0 aG ay => ∃ hv fv, b0 = .w (.agg ((pb r rm s.ph s.I s.J s.T s.dirty hv fv gK).set 9 (.p (cc 2 s.ch.length (ev s.ch))))) ∧ aG = cN 1000 cs ∧ ∃ cv, ay = oA 6 (lE hv fv cv s.hot s.fnd s.ch R)) (by
  rintro b0 aG ay ⟨au, rfl, hv, fv, cv, rfl, rfl, rfl⟩;refine ⟨_, _, cx _ _ _, jw _, fun U ad W v h aB => ?_, fun j ae => ?_, hv, fv, rfl, rfl, cv, rfl⟩
  ·obtain ⟨vs, e, ak⟩ := h;exact ⟨vs, e, (ak.IJ (i := 9) rfl aB : bL U ad W ((pb r rm s.ph s.I s.J s.T s.dirty hv fv cv).set 9 _) vs)⟩
  ·exact absurd ae (ah.du rfl j))
 have h2 := h1.uR 5 OM (Post2 := fun b0 aG ay => ∃ hv, b0 = .w (.agg (((pb r rm s.ph s.I s.J s.T s.dirty hv gK gK).set 9 (.p (cc 2 s.ch.length (ev s.ch)))).set 8 (.p (cc 2 s.fnd.length (bP s.fnd))))) ∧ aG = cN 1000 cs ∧ ∃ fv cv, ay = oA 5 (oA 6 (lE hv fv cv s.hot s.fnd s.ch R))) (by
  rintro b0 aG ay ⟨hv, fv, rfl, rfl, cv, rfl⟩;refine ⟨iH fv s.fnd, _, rfl, jw _, fun U ad W v h aB => ?_, fun j ae => ?_, hv, rfl, rfl, fv, cv, rfl⟩
  ·obtain ⟨vs, e, ak⟩ := h;exact ⟨vs, e, (ak.IJ (i := 8) rfl aB)⟩
  ·exact absurd ae (ah.du rfl j))
 have an := h2.uR 4 l5 (Post2 := ol 1000 fun b0 au ay => b0 = Er r rm s ∧ dE E r rm s au ay) (by
  rintro b0 aG ay ⟨hv, rfl, rfl, fv, cv, rfl⟩;refine ⟨iH hv s.hot, Er r rm s, rfl, jw _, fun U ad W v h aB => ?_, fun j ae => ?_, cs, rfl, rfl, ?_⟩
  ·obtain ⟨vs, e, ak⟩ := h;exact ⟨vs, e, (ak.IJ (i := 7) rfl aB)⟩
  ·exact absurd ae (ah.du rfl j)
  ·rw [ae4 l5 OM ON]; exact bj)
 exact an
def fe (i : Nat) : Nat := if i < 10 then i + 20 else if i < 20 then i else if i < 30 then i - 20 else i
theorem IF (j : Nat) : fe (fe j) = j := by
 unfold fe
 by_cases h1 : j < 10
 ·simp only [if_pos h1];rw [if_neg (by omega), if_neg (by omega), if_pos (by omega)]; omega
 ·by_cases h2 : j < 20
  ·simp only [if_neg h1, if_pos h2]
  ·by_cases an : j < 30
   ·simp only [if_neg h1, if_neg h2, if_pos an];rw [if_pos (by omega)]; omega
   ·simp only [if_neg h1, if_neg h2, if_neg an]
def JJ (k : Nat) (b4 : Nat → Nat) (E : List (Int × bS)) (r rm : Nat) (f : FuncId) (args : List ah) (s : bu.aV ao) (v : ah) (s' : bu.aV ao) : Prop :=
 ∀ cs R, dE E r rm s cs R → dk ag f (.w (.one (.own k 0)) :: args) (cN k cs) (R.a6 b4) (ol k fun b0 au ay => b0 = v ∧ ∃ ba, dE E r rm s' au ba ∧ ay = ba.a6 b4)
theorem gg.ov (k : Nat) {b4 : Nat → Nat} (fH : ∀ j, b4 (b4 j) = j) {f : FuncId} {args : List ah} {s s' : bu.aV ao} {v : ah} (h : gg E r rm f args s v s') (ek : args.all ah.aZ = true) (hv : v.aZ = true) : JJ k b4 E r rm f args s v s' := fun cs R bj => by
 have h1 := dk.at k (h cs R bj) ek bj.closed (fun b0 ds ay al => ⟨by rw [al.1]; exact hv, al.2.closed⟩);refine (h1.rn fH).imp ?_;rintro b0 aG ay ⟨ba, ⟨au, rfl, rfl, ck⟩, rfl⟩;exact ⟨au, rfl, rfl, ba, ck, rfl⟩
end
section
variable {R : aI} {s : aA} {ops : Array Oper} {dr : Option (List Nat)} {ty : Nat} {pos : String} {after : Array Edge} {guard : Option (Nat × Bool)} {K : aI → aA → Prop} {rest : List Oper}
theorem nt (k : Nat) (b4 : Nat → Nat) {E : List (Int × bS)} {r rm : Nat} {er s1 : bu.aV ao} {v : ah} {dst : Option Nat} {f : FuncId} {g : Operand} {aL : Array TypeId} {l : List Operand} {args : List ah} {cs : List AC} {R0 : aI} [x2 : Enters ag f] (hw : want ops ⟨dst, .call ⟨.value g, l.toArray, aL⟩, ty, pos, after, guard⟩ s = some true) (hm : dW dr ⟨dst, .call ⟨.value g, l.toArray, aL⟩, ty, pos, after, guard⟩ = true)
  (aq : s.look g = some (aR (.func (.func f) #[] #[]))) (aJ : l.map s.look = (ah.w (.one (.own k 0)) :: args).map some) (af : s.mem k = some cs) (hq : pc dr k = true) (ek : args.all ah.aZ = true) (hd : kT dst s.n = true) (hp : JJ k b4 E r rm f args er v s1) (bj : dE E r rm er cs R0) (ap : bB (R0.a6 b4) R)
  (h : ∀ au ba, dE E r rm s1 au ba → cQ ag ops dr K rest (bV (ba.a6 b4) R) ((s.eh k au).put dst v)) : cQ ag ops dr K (⟨dst, .call ⟨.value g, l.toArray, aL⟩, ty, pos, after, guard⟩ :: rest) R s := by
 refine CA k hw hm aq aJ (hp cs R0 bj) af hq ap bj.closed ek hd ?_;rintro _ au ay ⟨rfl, ba, aO, rfl⟩;exact h au ba aO
end
abbrev two (gC ft : aI) : aI := bV gC (ft.a6 fe)
section
variable {E AZ : List (Int × bS)} {r rm aX rm' : Nat} {s s1 t t1 : bu.aV ao} {cs VB ds Fy : List AC} {gC uG ft po : aI}
theorem Ek : bB gC (two gC ft) := fun i q h => hL h
theorem RN (aJ : dE E r rm s cs gC) (ab : dE AZ aX rm' t ds ft) : bB (ft.a6 fe) (two gC ft) := fun i q h => by
 have hi : 4 ≤ i := Nat.not_lt.1 fun bg => by
  have : ft (fe i) = none := ab.mK _ (by unfold fe; rw [if_pos (by omega)]; omega);rw [show ft.a6 fe i = ft (fe i) from rfl, this] at h; cases h
 rw [show two gC ft i = bV gC (ft.a6 fe) i from rfl, hM (aJ.mK i hi)]; exact h
theorem El (aJ : dE E r rm s cs gC) (Gd : dE E r rm s1 VB uG) : bV uG (two gC ft) = two uG ft := by
 funext i
 by_cases hi : i < 4
 ·obtain ⟨q, al⟩ := Gd.Ed i hi;rw [hL al, show two uG ft i = bV uG (ft.a6 fe) i from rfl, hL al]
 ·rw [hM (Gd.mK i (by omega)), show two gC ft i = bV gC (ft.a6 fe) i from rfl, show two uG ft i = bV uG (ft.a6 fe) i from rfl, hM (aJ.mK i (by omega)), hM (Gd.mK i (by omega))]
theorem RO (aJ : dE E r rm s cs gC) (ab : dE AZ aX rm' t ds ft) (dA : dE AZ aX rm' t1 Fy po) : bV (po.a6 fe) (two gC ft) = two gC po := by
 funext i
 by_cases hi : i < 4
 ·obtain ⟨q, al⟩ := aJ.Ed i hi;have : po (fe i) = none := dA.mK _ (by unfold fe; rw [if_pos (by omega)]; omega);rw [hM (show po.a6 fe i = none from this), show two gC ft i = bV gC (ft.a6 fe) i from rfl, show two gC po i = bV gC (po.a6 fe) i from rfl, hL al, hL al]
 ·have ax := aJ.mK i (by omega);rw [show two gC po i = bV gC (po.a6 fe) i from rfl, hM ax]
  by_cases aE : fe i < 4
  ·obtain ⟨q, al⟩ := dA.Ed _ aE;rw [hL (show po.a6 fe i = some q from al)]; exact al.symm
  ·have h1 : po.a6 fe i = none := dA.mK _ (by omega);have h2 : ft.a6 fe i = none := ab.mK _ (by omega);rw [hM h1, show two gC ft i = bV gC (ft.a6 fe) i from rfl, hM ax, h1, h2]
theorem agP (aJ : dE E r rm s cs gC) (ab : dE AZ aX rm' t ds ft) : bV (ft.a6 fe) gC = two gC ft := by
 funext i
 by_cases hi : i < 4
 ·obtain ⟨q, al⟩ := aJ.Ed i hi;have : ft (fe i) = none := ab.mK _ (by unfold fe; rw [if_pos (by omega)]; omega);rw [hM (show ft.a6 fe i = none from this), show two gC ft i = bV gC (ft.a6 fe) i from rfl, hL al, al]
 ·rw [show two gC ft i = bV gC (ft.a6 fe) i from rfl, hM (aJ.mK i (by omega))];cases al : ft.a6 fe i with
  | some q => exact hL al
  | none => rw [hM al]; exact aJ.mK i (by omega)
end
theorem Hk (k : Nat) {b4 : Nat → Nat} (fH : ∀ j, b4 (b4 j) = j) {E : List (Int × bS)} {K n : Int} (ak : E.length ≤ 300) (h : gI (E.map Prod.snd) = true) : dk ag 28 [jA E, aH K, aH n] ca gj fun b0 aG ay => ∃ cs ba, b0 = .w (.one (.own k 0)) ∧ aG = cN k cs ∧ ay = ba.a6 b4 ∧ dE E (dz K) (eb n) (fB (bx E (dz K) (eb n))) cs ba := by
 have h1 := (ZY (k := K) (n := n) ak h).a6 (mS 24 k) (b4 := b4) (ix := b4) fH fH;refine dk.imp (show dk ag 28 [jA E, aH K, aH n] ca gj _ from h1) ?_;rintro b0 aG ay ⟨b6, m1, ba, ⟨cs, rfl, rfl, bj⟩, rfl, rfl, rfl⟩;refine ⟨cs, ba, ?_, vw bj.closed, rfl, bj⟩;show ah.w (.one (.own (swp 24 k 24) 0)) = _;rw [Ay]
abbrev nO : List (Int × bS) := [(0, (0, 0), (4, 4)), (0, (0, 4), (4, 0))]
abbrev gu (rm : Nat) : cU ao := bx nO 0 rm
def qn : bu.aV ao := (eN (gu 9) 3 (fB (gu 9))).2
def s5 : bu.aV ao := (eN (gu 9) 1000 qn).2
def Bq : bu.aV ao := (eN (gu 4) 100 (fB (gu 4))).2
theorem JY : (eN (gu 9) 3 (fB (gu 9))).2 = qn := by unfold qn; rfl
theorem JZ : (eN (gu 9) 1000 qn).2 = s5 := by unfold s5; rfl
theorem J0 : (eN (gu 4) 100 (fB (gu 4))).2 = Bq := by unfold Bq; rfl
theorem TL : (eN (gu 9) 3 (fB (gu 9))).1 = 3 := by decide +kernel
theorem TM : qn.ph = 2 ∧ qn.hot.length = 5 := by decide +kernel
theorem TN : (eN (gu 9) 1000 qn).1 = 36 := by decide +kernel
theorem TO : s5.ph = 4 ∧ s5.ch.length = 2 ∧ (s5.ch.map fun c => c.1.length) = [3, 3] ∧ s5.ch[0]? = some ([(0, 0), (2, 2), (4, 4)], [2, 2]) := by decide +kernel
theorem TP : Bq.ph = 5 := by decide +kernel
section
variable {E : List (Int × bS)} {r rm : Nat}
theorem IB (h : h9 E r rm) {n : Nat} {s : bu.aV ao} (bj : mu E r rm s) : mu E r rm (eN (bx E r rm) n s).2 := by
 rw [(D4 n s).1]; exact (CP h.ok _ bj).1
theorem h9.st (h : h9 E r rm) {s : bu.aV ao} (bj : mu E r rm s) : s.hot.length ≤ 1024 ∧ s.fnd.length ≤ 1024 ∧ jD s.ch := by
 have ab := bj.1;have aU := h.hot ab;have nil : jD [] := ⟨dC _, fun c aj => by cases aj⟩;refine ⟨aU, ?_⟩;obtain ⟨_, aD | h1 | h2 | an | aE | cY⟩ := bj
 ·rw [aD.fnd, aD.ch]; exact ⟨dC _, nil⟩
 ·rw [h1.fnd, h1.ch]; exact ⟨dC _, nil⟩
 ·obtain ⟨c, p, q, _, _, _, ar⟩ := h2.link;refine ⟨?_, h.wF ab h2.laid⟩;rw [ar];refine ha (List.length_filter_le ..) ?_;rw [dK]; omega
 ·rw [an.fnd]; exact ⟨dC _, h.wF ab an.laid⟩
 ·rw [aE.fnd]; exact ⟨dC _, h.wF ab aE.laid⟩
 ·rw [cY.fnd];refine ⟨dC _, ?_⟩;rcases cY.ch with ⟨aj, _⟩ | ak
  ·rw [aj]; exact nil
  ·exact h.wF ab ak
theorem Hl (h : h9 E r rm) {s : bu.aV ao} (bj : mu E r rm s) : gg E r rm 11 [] s (Er r rm s) s := by
 obtain ⟨a, b, c⟩ := h.st bj;exact Z3 (by omega) (by omega) c
end
section
variable {R : aI} {s : aA} {ops : Array Oper} {dr : Option (List Nat)} {ty : Nat} {pos : String} {after : Array Edge} {guard : Option (Nat × Bool)} {K : aI → aA → Prop} {rest : List Oper}
theorem zj (k : Nat) (b4 : Nat → Nat) {E : List (Int × bS)} {r rm : Nat} {er : bu.aV ao} {dst : Option Nat} {f : FuncId} {g : Operand} {aL : Array TypeId} {l : List Operand} {args : List ah} [x2 : Enters ag f] (hw : want ops ⟨dst, .call ⟨.value g, l.toArray, aL⟩, ty, pos, after, guard⟩ s = some true) (hm : dW dr ⟨dst, .call ⟨.value g, l.toArray, aL⟩, ty, pos, after, guard⟩ = true)
  (aq : s.look g = some (aR (.func (.func f) #[] #[]))) (aJ : l.map s.look = args.map some) (hp : dk ag f args ca gj fun b0 aG ay => ∃ cs ba, b0 = .w (.one (.own k 0)) ∧ aG = cN k cs ∧ ay = ba.a6 b4 ∧ dE E r rm er cs ba) (af : s.mem k = none) (bg : Nat.blt k s.n = true) (ek : args.all ah.aZ = true) (hd : kT dst s.n = true)
  (h : ∀ cs ba, dE E r rm er cs ba → cQ ag ops dr K rest (bV (ba.a6 b4) R) ((s.eh k cs).put dst (.w (.one (.own k 0))))) : cQ ag ops dr K (⟨dst, .call ⟨.value g, l.toArray, aL⟩, ty, pos, after, guard⟩ :: rest) R s := by
 refine vl hw hm aq aJ hp (fun x aa j ae => absurd ae (ah.du (cB.1 ek x aa) j)) (fun k' au aO => by cases aO) (fun fl aX aO => by cases aO) (fun k' au x j aO aa ae => by cases aO) hd ?_;rintro b0 aG ay ⟨cs, ba, rfl, rfl, rfl, bj⟩;refine ⟨fun k' c aO => ?_, ?_⟩
 ·obtain ⟨rfl, rfl⟩ := hK aO;exact .inr ⟨af, by simpa [Nat.blt_eq] using bg⟩
 ·have aM : s.over (cN k cs) = s.eh k cs := by
   show ({ s with mem := bV (bK ca k cs) s.mem } : aA) = { s with mem := bK s.mem k cs };rw [show bV (bK ca k cs) s.mem = bK s.mem k cs from vI s.mem k cs]
  rw [aM];exact h cs ba bj
end
theorem Dt (R : aI) : bV R gj = R := by
 funext i;cases h : R i with
 | none => rw [hM h]; rfl
 | some q => exact hL h
abbrev dB : Nat → Nat := fun j => j
theorem n3 (j : Nat) : dB (dB j) = j := rfl
theorem yp (rm : Nat) (h1 : 1 ≤ rm) (h2 : rm ≤ 1024) : h9 nO 0 rm := ⟨dC _, by decide, by decide, h1, h2⟩
theorem TQ : uU s5.ch = 2 := by decide +kernel
theorem Ih {α β : Type} (x : α × β) {a : α} (h : x.1 = a) : x = (a, x.2) := by subst h; rfl
theorem T6 : ∃ ew fM rA : bu.aV ao, eN (gu 9) 3 (fB (gu 9)) = (3, ew) ∧ eN (gu 9) 1000 ew = (36, fM) ∧ eN (gu 4) 100 (fB (gu 4)) = ((eN (gu 4) 100 (fB (gu 4))).1, rA) ∧ mu nO 0 9 ew ∧ mu nO 0 9 fM ∧ mu nO 0 4 rA ∧ ew.ph = 2 ∧ ew.hot.length = 5 ∧ fM.ph = 4 ∧ fM.ch.length = 2 ∧ fM.ch[0]? = some ([(0, 0), (2, 2), (4, 4)], [2, 2]) ∧ uU fM.ch = 2 ∧ rA.ph = 5 := by
 have i1 : mu nO 0 9 (eN (gu 9) 3 (fB (gu 9))).2 := IB (n := 3) (s := fB (gu 9)) (yp 9 (by decide) (by decide)) (vB (gu 9) _);rw [JY] at i1;have i2 : mu nO 0 9 (eN (gu 9) 1000 qn).2 := IB (n := 1000) (s := qn) (yp 9 (by decide) (by decide)) i1;rw [JZ] at i2;have i3 : mu nO 0 4 (eN (gu 4) 100 (fB (gu 4))).2 := IB (n := 100) (s := fB (gu 4)) (yp 4 (by decide) (by decide)) (vB (gu 4) _);rw [J0] at i3;have aF := Ih _ TL;rw [JY] at aF;have aM := Ih _ TN;rw [JZ] at aM;have cg := Ih (eN (gu 4) 100 (fB (gu 4))) rfl;rw [J0] at cg;have f1 := TM;have f2 := TO;have f3 := TQ;have f4 := TP;generalize qn = ew at *;generalize s5 = fM at *;generalize Bq = rA at *;exact ⟨ew, fM, rA, aF, aM, cg, i1, i2, i3, f1.1, f1.2, f2.1, f2.2.1, f2.2.2.2, f3, f4⟩
theorem ac1 : aC ag 9 [] (bk true) := by
 obtain ⟨ew, fM, rA, b6, cD, fp, i1, i2, i3, f1, f2, f3, f4, f5, f6, f7⟩ := T6;have qc := yp 9 (by decide) (by decide);have AJ := yp 4 (by decide) (by decide);have ru := Hk 15 (b4 := dB) n3 (E := nO) (K := 0) (n := 9) (by decide) (by decide);have uB := Hk 27 (b4 := fe) IF (E := nO) (K := 0) (n := 4) (by decide) (by decide);rw [show dz 0 = 0 from by decide, show eb 9 = 9 from by decide] at ru;rw [show dz 0 = 0 from by decide, show eb 4 = 4 from by decide] at uB;have ba := CS qc (vB _ _) (n := 3) (by decide);have ec := CS qc i1 (n := 1000) (by decide);have gr := CS AJ (vB _ _) (n := 100) (by decide);rw [show (3 : Int).toNat = 3 from rfl, b6] at ba;rw [show (1000 : Int).toNat = 1000 from rfl, cD] at ec;rw [show (100 : Int).toNat = 100 from rfl, fp] at gr;clear b6 cD fp;have ba := ba.ov 15 (b4 := dB) n3 rfl rfl;have ec := ec.ov 15 (b4 := dB) n3 rfl rfl;have gr := gr.ov 27 (b4 := fe) IF rfl rfl;have s0 := (Hl qc i1).ov 15 (b4 := dB) n3 rfl rfl;have yh := (Hl qc i2).ov 15 (b4 := dB) n3 rfl rfl;have fj := (NT (E := nO) (r := 0) (rm := 9) (s := fM)).ov 15 (b4 := dB) n3 rfl rfl;have EM := (NT (E := nO) (r := 0) (rm := 4) (s := rA)).ov 27 (b4 := fe) IF rfl rfl;have kN := (ZT (E := nO) (r := 0) (rm := 9) (s := fM) (qc.st i2).2.2).ov 15 (b4 := dB) n3 rfl rfl;have iP := (Hm qc i2).ov 15 (b4 := dB) n3 rfl rfl;rw [(xR qc.ok i2).2.2 (by omega), c3 (by omega)] at iP;have Ju := acV (k := (0 : Nat)) (rm := (9 : Nat)) (ph := fM.ph) (I := fM.I) (J := fM.J) (T := fM.T) (dirty := fM.dirty) (hot := fM.hot) (fnd := fM.fnd) (ch := fM.ch) (by have := (qc.st i2).1; omega) (by have := (qc.st i2).2.1; omega) (qc.st i2).2.2;have aho := acU (k := (0 : Nat)) (rm := (9 : Nat)) (ph := ew.ph) (I := ew.I) (J := ew.J) (T := ew.T) (dirty := ew.dirty) (hot := ew.hot) (fnd := ew.fnd) (ch := ew.ch) (k' := (0 : Nat)) (rm' := (9 : Nat)) (ph' := fM.ph) (I' := fM.I) (J' := fM.J) (T' := fM.T) (dirty' := fM.dirty) (hot' := fM.hot) (fnd' := fM.fnd) (ch' := fM.ch) (by rw [f1, f3]; unfold uV; simp);rw [f6] at kN;have g1 : (ew.ph : Int) = 2 := by rw [f1]; rfl
 have g2 : (ew.hot.length : Int) = 5 := by rw [f2]; rfl
 have g3 : (fM.ph : Int) = 4 := by rw [f3]; rfl
 have g4 : (fM.ch.length : Int) = 2 := by rw [f4]; rfl
 have g7 : (rA.ph : Int) = 5 := by rw [f7]; rfl
 have lN := uQ (ii := 0) rfl f5;clear qc AJ i1 i2 i3 f1 f2 f3 f4 f6 f7;refine bm (f := 9) Tryz.func9 rfl rfl rfl rfl ?_;refine ow ?_;(refine a7 ?_);refine zj 15 dB rfl rfl rfl rfl ru rfl rfl rfl rfl (fun cs uE bp => ?_);rw [Dt];(refine a7 ?_);refine nt 15 dB rfl rfl rfl rfl rfl rfl rfl rfl ba bp (bB.refl _) (fun Fu mr hQ => ?_);rw [show bV (aI.a6 dB mr) (aI.a6 dB uE) = aI.a6 dB mr from bp.bV hQ];(refine a7 ?_);refine nt 15 dB rfl rfl rfl rfl rfl rfl rfl rfl s0 hQ (bB.refl _) (fun Lc uF nJ => ?_);rw [show bV (aI.a6 dB uF) (aI.a6 dB mr) = aI.a6 dB uF from hQ.bV nJ];(refine a7 ?_);refine nt 15 dB rfl rfl rfl rfl rfl rfl rfl rfl ec nJ (bB.refl _) (fun ahJ EQ ur => ?_);rw [show bV (aI.a6 dB EQ) (aI.a6 dB uF) = aI.a6 dB EQ from nJ.bV ur];(refine a7 ?_);refine nt 15 dB rfl rfl rfl rfl rfl rfl rfl rfl yh ur (bB.refl _) (fun ahK yd vZ => ?_);rw [show bV (aI.a6 dB yd) (aI.a6 dB EQ) = aI.a6 dB yd from ur.bV vZ];(refine a7 ?_);refine zj 27 fe rfl rfl rfl rfl uB rfl rfl rfl rfl (fun ds JE a8 => ?_);rw [show bV (aI.a6 fe JE) (aI.a6 dB yd) = two yd JE from agP vZ a8];(refine a7 ?_);refine nt 27 fe rfl rfl rfl rfl rfl rfl rfl rfl gr a8 (RN vZ a8) (fun Fy wj mm => ?_);rw [RO vZ a8 mm];(repeat first | (with_reducible apply lG (id := 13) [0,1,2,3,4,5,6,7,8,9,10,11,12,13,14,15,16,17,18,19,20,21,22,23,24,25,26,27,28,29,30,31,32,33,34,35,36,37,38,39,40,41,42,43,44,45,46,47,48,49,50,51,52,53,54,55,56,57,58,59,60,61,62,63,64,65,66,67,68,69,70,71,72,73,74,75] [51,82,87,92,98,2000015,2000027]); kernel_rfl; kernel_rfl; rfl | refine c5 ?_ | (with_reducible apply jo); rfl; (repeat first | refine jC ?_ | (with_reducible apply cW (c := true)); rfl; rfl; (exact cw (by omega))); (with_reducible apply iy));refine nt 15 dB rfl rfl rfl rfl rfl rfl rfl rfl fj vZ Ek (fun ahL ER Eu => ?_);rw [show bV (aI.a6 dB ER) (two yd wj) = two ER wj from El vZ Eu];(repeat first | refine c5 ?_ | (with_reducible apply jo); rfl; (repeat first | refine jC ?_ | (with_reducible apply cW (c := true)); rfl; rfl; (exact cw (by omega))); (with_reducible apply iy));refine nt 15 dB rfl rfl rfl rfl rfl rfl rfl rfl kN Eu Ek (fun ahM ES Ev => ?_);rw [show bV (aI.a6 dB ES) (two ER wj) = two ES wj from El Eu Ev];(repeat first | refine c5 ?_ | (with_reducible apply jo); rfl; (repeat first | refine jC ?_ | (with_reducible apply cW (c := true)); rfl; rfl; (exact cw (by omega))); (with_reducible apply iy));refine nt 15 dB rfl rfl rfl rfl rfl rfl rfl rfl iP Ev Ek (fun ahN ET xZ => ?_);rw [show bV (aI.a6 dB ET) (two ES wj) = two ET wj from El Ev xZ];(refine a7 ?_);refine nt 27 fe rfl rfl rfl rfl rfl rfl rfl rfl EM mm (RN xZ mm) (fun VY JF rl => ?_);rw [RO xZ mm rl];(repeat first | refine c5 ?_ | (with_reducible apply jo); rfl; (repeat first | refine jC ?_ | (with_reducible apply cW (c := true)); rfl; rfl; (exact cw (by omega))); (with_reducible apply iy));refine nt 15 dB rfl rfl rfl rfl rfl rfl rfl rfl yh xZ Ek (fun ahO JD Sa => ?_);rw [show bV (aI.a6 dB JD) (two ET JF) = two JD JF from El xZ Sa];(refine mU ?_)
 ((refine bc rfl (bf rfl aN) ?_))
 exact ah.aQ.refl _
theorem ado {E : List (Int × bS)} : aC ag 7 [jA E] (bk (decide ((E.length : Int) ≤ 7))) := by
 refine bm (f := 7) Tryz.func7 rfl rfl rfl rfl ?_;(refine eF ?_)
 ((refine bc rfl (bf rfl aN) ?_))
 exact ah.aQ.refl _
def mJ (n room : Int) : Int := 8 * (lF room + 2) * (n * lF room + 1) * (n * lF room + 1)
theorem OC {n R : Int} (aD : 0 ≤ n) (jM : n ≤ 7) (h1 : 1 ≤ R) (h2 : R ≤ 1024) : (0 ≤ n * R ∧ n * R ≤ 7168) ∧ (0 ≤ 8 * (R + 2) * (n * R + 1) ∧ 8 * (R + 2) * (n * R + 1) ≤ 58843152) ∧ (0 ≤ 8 * (R + 2) * (n * R + 1) * (n * R + 1) ∧ 8 * (R + 2) * (n * R + 1) * (n * R + 1) ≤ 421846556688) := by
 have a1 : 0 ≤ n * R := gM aD (by omega);have a2 : n * R ≤ 7 * 1024 := sE jM h2 (by omega) (by omega);have b1 : 0 ≤ 8 * (R + 2) * (n * R + 1) := gM (by omega) (by omega);have b2 : 8 * (R + 2) * (n * R + 1) ≤ 8208 * 7169 := sE (by omega) (by omega) (by omega) (by omega);have c1 : 0 ≤ 8 * (R + 2) * (n * R + 1) * (n * R + 1) := gM b1 (by omega);have c2 : 8 * (R + 2) * (n * R + 1) * (n * R + 1) ≤ (8208 * 7169) * 7169 := sE b2 (by omega) (by omega) (by omega);exact ⟨⟨a1, by omega⟩, ⟨b1, by omega⟩, c1, by omega⟩
theorem afc (n : Int) : lF n = if 1024 < (if 1 > n then 1 else n) then 1024 else (if 1 > n then 1 else n) := by unfold lF; (repeat split) <;> omega
theorem OB {n room : Int} (aD : 0 ≤ n) (jM : n ≤ 7) : 0 ≤ mJ n room ∧ mJ n room ≤ 421846556688 := by
 have h := OC aD jM (R := lF room) (by unfold lF; (repeat split) <;> omega) (by unfold lF; (repeat split) <;> omega);exact h.2.2
theorem adE {n room : Int} (aD : 0 ≤ n) (jM : n ≤ 7) : aC ag 33 [aH n, aH room] (aH (mJ n room)) := by
 unfold mJ;rw [afc];obtain ⟨⟨a1, a2⟩, ⟨b1, b2⟩, c1, c2⟩ := OC aD jM (R := if 1024 < (if 1 > room then 1 else room) then 1024 else (if 1 > room then 1 else room)) (by (repeat split) <;> omega) (by (repeat split) <;> omega);have b6 : 1 ≤ (if 1024 < (if 1 > room then 1 else room) then 1024 else (if 1 > room then 1 else room)) := by (repeat split) <;> omega
 have cD : (if 1024 < (if 1 > room then 1 else room) then 1024 else (if 1 > room then 1 else room)) ≤ 1024 := by (repeat split) <;> omega
 refine bm (f := 33) Tryz.func33 rfl rfl rfl rfl ?_;(refine eF ?_)
 ((refine bc rfl (bf rfl aN) ?_))
 exact ah.aQ.refl _
def S2 (E : List (Int × bS)) (k : Nat) (R : aI) (aL : List (Nat × ah)) (bd : List (Nat × List AC)) : Prop :=
 ∃ (i : Nat) (ii : Int) (v : Value), i ≤ E.length ∧ k = E.length - i ∧ ii = i ∧ R = br 0 ⟨68, 5, v, i, nR (E.take i)⟩ ∧ bd = [] ∧ aL = [(3, aR v), (6, jA E), (7, aH E.length), (8, aH ii)]
theorem acN {E : List (Int × bS)} (ap : E.length ≤ 900000) : aC ag 32 [jA E] (jA E) := by
 refine bm (f := 32) Tryz.func32 rfl rfl rfl rfl ?_;refine ow ?_;refine Rm ?_;(refine a7 ?_);refine lH 0 68 5 rfl ?_
 skip
 refine jz 18 (S2 E) E.length (br 0 ⟨68, 5, .slice none 0 0, 0, []⟩) _ [] ⟨0, 0, .slice none 0 0, dC _, rfl, rfl, rfl, rfl, rfl⟩ (jx _ _ _) rfl ⟨rfl, rfl, rfl, rfl, trivial⟩ trivial rfl ?_;rintro n R aL bd ⟨i, ii, v, hi, rfl, gv, rfl, rfl, rfl⟩ c0;clear c0
 by_cases al : i < E.length
 ·have q2 : ii < (E.length : Int) := by omega
  have bO : 0 ≤ ii := by omega
  obtain ⟨o, a, b, c, d, g1⟩ : ∃ o a b c d, E[i]? = some (o, (a, b), (c, d)) := ⟨_, _, _, _, _, bN al⟩;have lN := wK gv g1
  have cg : nR (E.take (i + 1)) = nR (E.take i) ++ [.c (.int .i64 a), .c (.int .i64 b), .c (.int .i64 c), .c (.int .i64 d), .c (.int .i64 o)] := by
   rw [j3 al, (bM.1 g1).2]; simp [nR, BP]
  (refine a7 ?_);refine nr 0 rfl rfl rfl rfl ?q1 ?q2 rfl rfl (fun v1 hI => ?_)
  case q1 => exact iY (by show i + 1 ≤ 1000000; omega)
  case q2 => show (i + 1) * 40 ≤ 140737488355328; omega
  (refine a7 ?_);refine ⟨E.length - (i + 1), br 0 ⟨68, 5, v1, i + 1, nR (E.take (i + 1))⟩, _, [], by omega, ⟨i + 1, ii + 1, v1, al, rfl, by omega, rfl, rfl, rfl⟩, ?_, rfl, ⟨rfl, rfl, rfl, rfl, trivial⟩, trivial, rfl⟩;rw [cg];exact jx _ _ _
 ·have q2 : ¬ ii < (E.length : Int) := by omega
  have cX : i = E.length := by omega
  subst cX;rw [List.take_length];refine xN 0 3 ⟨68, 5, v, E.length, nR E⟩ rfl rfl ?_;(refine a7 ?_)
  ((refine bc rfl (bf rfl aN) ?_))
  exact ah.aQ.refl _
def Tg (E : List (Int × bS)) (k : Nat) (aL : List (Nat × ah)) (bd : List (Nat × List AC)) : Prop :=
 ∃ (i : Nat) (ii : Int), i ≤ E.length ∧ k = E.length - i ∧ ii = i ∧ gI (E.map Prod.snd) = gI ((E.drop i).map Prod.snd) ∧ bd = [] ∧ aL = [(0, jA E), (3, aH ii)]
theorem OY {a b : Int} : gJ (a, b) = true ↔ bA a b = true ∧ a ≠ 134217728 ∧ b ≠ 134217728 := by
 rw [sr];unfold bA;simp only [dc, cq];omega
theorem acS {E : List (Int × bS)} (ap : E.length ≤ 4611686018427387904) : aC ag 8 [jA E] (bk (gI (E.map Prod.snd))) := by
 refine bm (f := 8) Tryz.func8 rfl rfl rfl rfl ?_;(refine eF ?_);refine s8 60 (Tg E) E.length _ [] ⟨0, 0, dC _, rfl, rfl, rfl, rfl, rfl⟩ rfl ⟨rfl, rfl, trivial⟩ trivial rfl ?_;rintro n aL bd ⟨j, ee, ae, rfl, nl, gF, rfl, rfl⟩ c0;clear c0
 by_cases hp : j < E.length
 ·have p2 : ee < (E.length : Int) := by omega
  have p3 : 0 ≤ ee := by omega
  obtain ⟨o, a, b, c, d, g1⟩ : ∃ o a b c d, E[j]? = some (o, (a, b), (c, d)) := ⟨_, _, _, _, _, bN hp⟩;have lN := wK nl g1;have hd : E.drop j = (o, (a, b), (c, d)) :: E.drop (j + 1) := by rw [mN hp, (bM.1 g1).2]
  have e : gI ((E.drop j).map Prod.snd) = ((gJ (a, b) && gJ (c, d)) && gI ((E.drop (j + 1)).map Prod.snd)) := by rw [hd]; rfl
  rw [e] at gF;have zd := OY (a := a) (b := b);have r4 := OY (a := c) (b := d);have Di : gJ (a, b) = false → gI (E.map Prod.snd) = false := fun h => by rw [gF, h]; rfl
  have Dj : gJ (c, d) = false → gI (E.map Prod.snd) = false := fun h => by rw [gF, h, Bool.and_false]; rfl
  cases ej : bA a b with
  | false =>
   have aT := l9 ej;have gF := Di (Bool.eq_false_iff.2 fun h => by have := zd.1 h; rw [ej] at this; exact absurd this.1 (by decide));rw [gF];(repeat first | refine ez ?_ | refine e9 aT ?_)
   ((refine bc rfl (bf rfl aN) ?_))
   exact ah.aQ.refl _
  | true =>
   have aT := l9 ej;cases jO : bA c d with
   | false =>
    have bH := l9 jO;have gF := Dj (Bool.eq_false_iff.2 fun h => by have := r4.1 h; rw [jO] at this; exact absurd this.1 (by decide));rw [gF];(repeat first | refine ez ?_ | refine e9 aT ?_ | refine e9 bH ?_)
    ((refine bc rfl (bf rfl aN) ?_))
    exact ah.aQ.refl _
   | true =>
    have bH := l9 jO
    by_cases aJ : a = 134217728
    ·have gF := Di (Bool.eq_false_iff.2 fun h => by have := zd.1 h; omega);rw [gF];(repeat first | refine ez ?_ | refine e9 aT ?_ | refine e9 bH ?_ | (with_reducible apply cW (c := true)); rfl; rfl; (exact cw (by omega)))
     ((refine bc rfl (bf rfl aN) ?_))
     exact ah.aQ.refl _
    by_cases ab : b = 134217728
    ·have gF := Di (Bool.eq_false_iff.2 fun h => by have := zd.1 h; omega);rw [gF];(repeat first | refine ez ?_ | refine e9 aT ?_ | refine e9 bH ?_ | (with_reducible apply cW (c := true)); rfl; rfl; (exact cw (by omega)) | (with_reducible apply cW (c := false)); rfl; rfl; (exact c3 (by omega)))
     ((refine bc rfl (bf rfl aN) ?_))
     exact ah.aQ.refl _
    by_cases aj : c = 134217728
    ·have gF := Dj (Bool.eq_false_iff.2 fun h => by have := r4.1 h; omega);rw [gF];(repeat first | refine ez ?_ | refine e9 aT ?_ | refine e9 bH ?_ | (with_reducible apply cW (c := true)); rfl; rfl; (exact cw (by omega)) | (with_reducible apply cW (c := false)); rfl; rfl; (exact c3 (by omega)))
     ((refine bc rfl (bf rfl aN) ?_))
     exact ah.aQ.refl _
    by_cases wY : d = 134217728
    ·have gF := Dj (Bool.eq_false_iff.2 fun h => by have := r4.1 h; omega);rw [gF];(repeat first | refine ez ?_ | refine e9 aT ?_ | refine e9 bH ?_ | (with_reducible apply cW (c := false)); rfl; rfl; (exact c3 (by omega)))
     ((refine bc rfl (bf rfl aN) ?_))
     exact ah.aQ.refl _
    rw [zd.2 ⟨ej, aJ, ab⟩, r4.2 ⟨jO, aj, wY⟩, p0, p0] at gF;clear Di Dj zd r4;(repeat first | refine ez ?_ | refine e9 aT ?_ | refine e9 bH ?_ | (with_reducible apply cW (c := false)); rfl; rfl; (exact c3 (by omega)));exact ⟨E.length - (j + 1), _, [], by omega, ⟨j + 1, ee + 1, hp, rfl, by omega, gF, rfl, rfl⟩, rfl, ⟨rfl, rfl, trivial⟩, trivial, rfl⟩
 ·have p2 : ¬ ee < (E.length : Int) := by omega
  rw [uf (by omega)] at gF;rw [gF];(refine eF ?_)
  ((refine bc rfl (bf rfl aN) ?_))
  exact ah.aQ.refl _
def yf (k : Nat) (b4 : Nat → Nat) (E : List (Int × bS)) (r rm : Nat) (f : FuncId) (args : List ah) (er : bu.aV ao) : Prop :=
 dk ag f args ca gj fun b0 aG ay => ∃ cs ba, b0 = .w (.one (.own k 0)) ∧ aG = cN k cs ∧ ay = ba.a6 b4 ∧ dE E r rm er cs ba
theorem yf.tO9 {e5 : Nat} {E : List (Int × bS)} {r rm : Nat} {f : FuncId} {args : List ah} {er : bu.aV ao} (h : yf e5 dB E r rm f args er) (ek : args.all ah.aZ = true) (k : Nat) {b4 : Nat → Nat} (fH : ∀ j, b4 (b4 j) = j) : yf k b4 E r rm f args er := by
 have h1 := dk.a6 (bF := swp e5 k) (mS e5 k) (b4 := b4) (ix := b4) fH fH h
 have aM : args.map (ah.a6 (swp e5 k)) = args := by
  conv => rhs; rw [← List.map_id args]
  exact nE fun x aa => uh (cB.1 ek x aa)
 rw [aM] at h1;refine dk.imp (show dk ag f args ca gj _ from h1) ?_;rintro b0 aG ay ⟨b6, m1, ba, ⟨cs, ec, rfl, rfl, rfl, bj⟩, rfl, rfl, rfl⟩;refine ⟨cs, ec, ?_, vw bj.closed, rfl, bj⟩;show ah.w (.one (.own (swp e5 k e5) 0)) = _;rw [Ay]
theorem NR {o : cU ao} {ok : Nat → List ao × List Int → Prop} (af : j9 o ok) : ∀ (n : Nat) {s : bu.aV ao}, h8 o ok s → 4 ≤ s.ph → lz o n s = s
 | 0, s, _, _ => rfl
 | n + 1, s, h, aE => by
  have e := (xR af h).2.2 aE;show lz o n (eQ o s) = s;rw [e]; exact NR af n h aE
theorem run_eq {o : cU ao} {ok : Nat → List ao × List Int → Prop} (af : j9 o ok) (n : Nat) {s : bu.aV ao} (h : h8 o ok s) : (eN o n s).2 = lz o n s := by
 obtain ⟨h1, h2, an⟩ := D4 (o := o) n s
 by_cases aj : (eN o n s).1 < n
 ·have aE := an aj;have e : n = (eN o n s).1 + (n - (eN o n s).1) := by omega
  have hi := (CP af (eN o n s).1 h).1;rw [h1] at aE ⊢
  conv => rhs; rw [e, NQ]
  exact (NR af _ hi aE).symm
 ·have e : (eN o n s).1 = n := by omega
  rw [h1, e]
section
variable {E : List (Int × bS)} {k room : Int}
def ri (E : List (Int × bS)) (k room : Int) : bu.aV ao := lz (bx E (dz k) (eb room)) (mJ E.length room).toNat (fB (bx E (dz k) (eb room)))
theorem Je (h : gI (E.map Prod.snd) = true) (ak : E.length ≤ 7) : mu E (dz k) (eb room) (ri E k room) ∧ 4 ≤ (ri E k room).ph ∧ (eN (bx E (dz k) (eb room)) (mJ E.length room).toNat (fB (bx E (dz k) (eb room)))).2 = ri E k room ∧ ((eN (bx E (dz k) (eb room)) (mJ E.length room).toNat (fB (bx E (dz k) (eb room)))).1 : Int) ≤ mJ E.length room := by
 have hw : h9 E (dz k) (eb room) := Iv h (by omega);have aw : (bx E (dz k) (eb room)).R = eb room := rfl;have ax := h9.n E (dz k) (eb room);have ab := OB (n := E.length) (room := room) (by omega) (by omega)
 have hm : 8 * ((bx E (dz k) (eb room)).R + 2) * (((bx E (dz k) (eb room)).n * (bx E (dz k) (eb room)).R + 1) * ((bx E (dz k) (eb room)).n * (bx E (dz k) (eb room)).R + 1)) ≤ (mJ E.length room).toNat := by
  rw [aw, ax]
  have e : ((8 * (eb room + 2) * ((E.length * eb room + 1) * (E.length * eb room + 1)) : Nat) : Int) = mJ E.length room := by
   unfold mJ;rw [← Ix room]
   push_cast
   rw [kv (8 * ((eb room : Int) + 2)), show ((eb room : Int) + 1 + 1) = (eb room : Int) + 2 by omega]
  omega
 have he := Wk hw.ok (by rw [aw]; exact hw.pos) hm;refine ⟨he.1, ?_, run_eq hw.ok _ (vB _ _), ?_⟩
 ·unfold ri;rcases he.2 with aE | cY
  ·rw [aE.ph]; decide
  ·rw [cY.ph]; decide
 ·have := (D4 (o := bx E (dz k) (eb room)) (mJ E.length room).toNat (fB (bx E (dz k) (eb room)))).2.1;omega
theorem aag (h : gI (E.map Prod.snd) = true) (ak : E.length ≤ 7) : yf 12 dB E (dz k) (eb room) 10 [jA E, aH k, aH room] (ri E k room) := by
 obtain ⟨i1, aE, aF, aM⟩ := Je (k := k) (room := room) h ak;have hw : h9 E (dz k) (eb room) := Iv h (by omega);have ru := Hk 12 (b4 := dB) n3 (E := E) (K := k) (n := room) (by omega) h;have aT := acN (E := E) (by omega);have bH := adE (n := E.length) (room := room) (by omega) (by omega);have ab := OB (n := E.length) (room := room) (by omega) (by omega);have ba := CS hw (vB _ _) (n := mJ E.length room) (by omega);have h7 := Hm hw i1;rw [(xR hw.ok i1).2.2 aE, c3 (by omega)] at h7;rw [aF] at ba;generalize (eN (bx E (dz k) (eb room)) (mJ E.length room).toNat (fB (bx E (dz k) (eb room)))).1 = did at *;generalize ri E k room = ew at *;generalize fB (bx E (dz k) (eb room)) = EW at *;clear aF;generalize mJ E.length room = M at *;have aim : ¬ (did : Int) > M := by omega
 have ba := ba.ov 12 (b4 := dB) n3 rfl rfl;have h7 := h7.ov 12 (b4 := dB) n3 rfl rfl;refine dv (f := 10) Tryz.func10 rfl (dq rfl) (by exact nP) ?_;(refine mU ?_);refine zj 12 dB rfl rfl rfl rfl ru rfl rfl rfl rfl (fun cs uE bp => ?_);rw [Dt];(refine mU ?_);refine nt 12 dB rfl rfl rfl rfl rfl rfl rfl rfl ba bp (bB.refl _) (fun Fu mr hQ => ?_);rw [show bV (aI.a6 dB mr) (aI.a6 dB uE) = aI.a6 dB mr from bp.bV hQ];(repeat first | refine c5 ?_ | (with_reducible apply jo); rfl; (repeat first | refine jC ?_ | refine jB ?_ | (with_reducible apply cW (c := false)); rfl; rfl; (exact c3 (by omega))); (with_reducible apply iy));refine nt 12 dB rfl rfl rfl rfl rfl rfl rfl rfl h7 hQ (bB.refl _) (fun Lc uF nJ => ?_);rw [show bV (aI.a6 dB uF) (aI.a6 dB mr) = aI.a6 dB uF from hQ.bV nJ];(refine a7 ?_)
 ((refine Cm 12 rfl (bf rfl aN) rfl (bB.refl _) nJ.closed rfl ?_))
 exact ⟨Lc, uF, rfl, rfl, rfl, nJ⟩
theorem aaf (h : gI (E.map Prod.snd) = true) (ak : E.length ≤ 7) (j : Nat) {b4 : Nat → Nat} (fH : ∀ j, b4 (b4 j) = j) : yf j b4 E (dz k) (eb room) 10 [jA E, aH k, aH room] (ri E k room) := (aag h ak).tO9 rfl j fH
end
theorem Wj {E : List (Int × bS)} {k room : Int} (h : gI (E.map Prod.snd) = true) (ak : E.length ≤ 7) : sT (bx E (dz k) (eb room)) (tQ (E.map Prod.snd) (dz k)) (ri E k room) ∨ A7 (bx E (dz k) (eb room)) (tQ (E.map Prod.snd) (dz k)) (ri E k room) := by
 obtain ⟨i1, aE, _, _⟩ := Je (k := k) (room := room) h ak;exact LK i1 aE
section
variable {E : List (Int × bS)} {r rm : Nat}
abbrev stM (r rm : Nat) (s : bu.aV ao) : List AC := RM r rm s.ph s.I s.J s.T s.dirty s.hot s.fnd s.ch
abbrev BD (V : List ao) (D : List Int) : List AC := [.p (cc 2 V.length (bP V)), .p (cc 1 D.length (cA D))]
end
def S3 (V : List ao) (D : List Int) (n : Nat) (R : aI) (aL : List (Nat × ah)) (bd : List (Nat × List AC)) : Prop :=
 ∃ (k : Nat) (v : Value) (ef : Int), k ≤ V.length ∧ n = V.length - k ∧ ef = k ∧ R = br 0 (q4 v (V.take k)) ∧ bd = [(2, [.c (.slice none 0 0), .c (.slice none 0 0)]), (3, [.c v, .p (cc 1 D.length (cA D))])] ∧ aL = [(2, sN 2), (3, sN 3), (12, gA V), (13, aH V.length), (14, aH ef)]
theorem acO {V : List ao} {D : List Int} (ak : V.length ≤ 50000) (hd : D.length ≤ 50000) : aC ag 16 [mT V D] (mT V D) := by
 have aF : 0 + D.length = D.length := jd _;have aM : [] ++ cA D = cA D := rfl;refine bm (f := 16) Tryz.func16 rfl rfl rfl rfl ?_;refine ow ?_;refine lH 0 40 2 rfl ?_;(repeat first | (with_reducible apply jo); rfl; (repeat first | (with_reducible apply Kb); rfl; rfl | (with_reducible apply J1); (iterate 3 rfl); (exact iY (by omega)); (omega); (assumption); (assumption); rfl | refine jC ?_); (with_reducible apply iy) | refine c5 ?_);refine jz 26 (S3 V D) V.length (br 0 (q4 (.slice none 0 0) [])) _ [(2, [.c (.slice none 0 0), .c (.slice none 0 0)]), (3, [.c (.slice none 0 0), .p (cc 1 D.length (cA D))])] ⟨0, .slice none 0 0, 0, dC _, rfl, rfl, rfl, rfl, rfl⟩ (jx _ _ _) rfl ⟨rfl, rfl, rfl, rfl, rfl, trivial⟩ ⟨rfl, rfl, trivial⟩ rfl ?_;rintro n R aL bd ⟨k, v, ef, af, rfl, jR, rfl, rfl, rfl⟩ c0;clear c0;have vm : (V.take k).length ≤ k := by rw [dK]; omega
 by_cases al : k < V.length
 ·have q2 : ef < (V.length : Int) := by omega
  have bO : 0 ≤ ef := by omega
  obtain ⟨x, y, g1⟩ : ∃ x y, V[k]? = some (x, y) := ⟨_, _, bN al⟩;have jE := pR jR g1
  have aB : V.take (k + 1) = V.take k ++ [(x, y)] := by
   rw [j3 al, (bM.1 g1).2]
  (refine a7 ?_);refine nr 0 rfl rfl rfl rfl ?q1 ?q2 rfl rfl (fun v' bR => ?_)
  case q1 => exact iY (by show (V.take k).length + 1 ≤ 1000000; omega)
  case q2 => show ((V.take k).length + 1) * 16 ≤ 140737488355328; omega
  (refine a7 ?_);refine ⟨V.length - (k + 1), br 0 (q4 v' (V.take (k + 1))), _, [(2, [.c (.slice none 0 0), .c (.slice none 0 0)]), (3, [.c v', .p (cc 1 D.length (cA D))])], by omega, ⟨k + 1, v', ef + 1, by omega, rfl, by omega, rfl, rfl, rfl⟩, ?_, rfl, ⟨rfl, rfl, rfl, rfl, rfl, trivial⟩, ⟨rfl, rfl, trivial⟩, rfl⟩;rw [aB, PE]; exact jx _ _ _
 ·have q2 : ¬ ef < (V.length : Int) := by omega
  have cX : V.take k = V := gn (by omega);rw [cX];refine D6 0 3 0 (q4 v V) rfl rfl rfl ?_;(refine a7 ?_)
  ((refine bc rfl (cu rfl rfl rfl aN) ?_))
  exact ah.aQ.refl _
instance aiO : kR ag 59 48 2 48 := ⟨by kernel_rfl⟩
abbrev vF (E : List (Int × bS)) (k rm ph I J T : Int) (dirty : Bool) (hot fnd : List ao) (ch : List (List ao × List Int)) : List AC := [.p (cc 5 E.length (nR E)), .c (.int .i64 k), .c (.int .i64 rm), .c (.int .i64 ph), .c (.int .i64 I), .c (.int .i64 J), .c (.int .i64 T), .c (.bool dirty), .p (cc 2 hot.length (bP hot)), .p (cc 2 fnd.length (bP fnd)), .p (cc 2 ch.length (ev ch))]
abbrev RT (E : List (Int × bS)) (k rm ph I J T : Int) (dirty : Bool) (hot fnd : List ao) (ch : List (List ao × List Int)) : ah := .w (.agg (vF E k rm ph I J T dirty hot fnd ch))
abbrev HU (E : List (Int × bS)) (k rm ph I J T : Int) (dirty : Bool) (hot fnd : List ao) (v : Value) : List AC := [.p (cc 5 E.length (nR E)), .c (.int .i64 k), .c (.int .i64 rm), .c (.int .i64 ph), .c (.int .i64 I), .c (.int .i64 J), .c (.int .i64 T), .c (.bool dirty), .p (cc 2 hot.length (bP hot)), .p (cc 2 fnd.length (bP fnd)), .c v]
abbrev HV : List AC := [.c gK, .c (.int .i64 0), .c (.int .i64 0), .c (.int .i64 0), .c (.int .i64 0), .c (.int .i64 0), .c (.int .i64 0), .c (.bool false), .c gK, .c gK, .c gK]
abbrev xv (v : Value) (l : List (List ao × List Int)) : bG := ⟨48, 2, v, l.length, ev l⟩
theorem ab4 (v : Value) (l : List (List ao × List Int)) (V : List ao) (D : List Int) : xv v (l ++ [(V, D)]) = ⟨48, 2, v, l.length + 1, ev l ++ BD V D⟩ := by
 unfold xv; rw [cJ]; simp [ev, ox]
def S4 (E : List (Int × bS)) (k rm ph I J T : Int) (dirty : Bool) (hot fnd : List ao) (ch : List (List ao × List Int)) (n : Nat) (R : aI) (aL : List (Nat × ah)) (bd : List (Nat × List AC)) : Prop :=
 ∃ (i : Nat) (ii : Int) (v : Value), i ≤ ch.length ∧ n = ch.length - i ∧ ii = i ∧ R = br 0 (xv v (ch.take i)) ∧ aL = [(4, sN 4), (5, sN 5), (31, re ch), (32, aH ch.length), (33, aH ii)] ∧ bd = [(4, HV), (5, HU E k rm ph I J T dirty hot fnd v)]
theorem acP {E : List (Int × bS)} {k rm ph I J T : Int} {dirty : Bool} {hot fnd : List ao} {ch : List (List ao × List Int)} (aU : hot.length ≤ 50000) (ar : fnd.length ≤ 50000) (aj : jD ch) : aC ag 23 [vU k rm ph I J T dirty hot fnd ch, jA E] (RT E k rm ph I J T dirty hot fnd ch) := by
 have rv := PI aU;have uD := PI ar;have hlen := aj.1;refine bm (f := 23) Tryz.func23 rfl rfl rfl rfl ?_;refine ow ?_;refine lH 0 48 2 rfl ?_;(repeat first | (with_reducible apply dQ (id := 1) [22,0,1,2,3,4,5,6,7,8,9,10,11,12,13,14,15,16,17,18,19,20,21,23]); kernel_rfl; kernel_rfl; rfl | refine c5 ?_ | refine iw ?_);refine jz 46 (S4 E k rm ph I J T dirty hot fnd ch) ch.length (br 0 (xv gK [])) _ [(4, HV), (5, HU E k rm ph I J T dirty hot fnd gK)] ⟨0, 0, gK, dC _, rfl, rfl, rfl, rfl, rfl⟩ (jx _ _ _) rfl ⟨rfl, rfl, rfl, rfl, rfl, trivial⟩ ⟨rfl, rfl, trivial⟩ rfl ?_;rintro n R aL bd ⟨i, ii, v, hi, rfl, gv, rfl, rfl, rfl⟩ c0;clear c0
 by_cases al : i < ch.length
 ·have q2 : ii < (ch.length : Int) := by omega
  have bO : 0 ≤ ii := by omega
  obtain ⟨V, D, g1⟩ : ∃ V D, ch[i]? = some (V, D) := ⟨_, _, bN al⟩;obtain ⟨hj, gE⟩ := aj.2 _ (c7 g1);simp only at hj gE;have lN := uQ gv g1;have lM := acO (V := V) (D := D) (by omega) (by omega);have vm : (ch.take i).length ≤ i := by rw [dK]; omega
  have aB : ch.take (i + 1) = ch.take i ++ [(V, D)] := by
   rw [j3 al, (bM.1 g1).2]
  (repeat first | (with_reducible apply dQ (id := 5) [0,1,2,3,4,5,6,7]); kernel_rfl; kernel_rfl; rfl | refine c5 ?_ | refine iw ?_);refine nr 0 rfl rfl rfl rfl ?q1 ?q2 rfl rfl (fun v' bR => ?_)
  case q1 => exact iY (by show (ch.take i).length + 1 ≤ 1000000; omega)
  case q2 => show ((ch.take i).length + 1) * 48 ≤ 140737488355328; omega
  (refine a7 ?_);refine ⟨ch.length - (i + 1), br 0 (xv v' (ch.take (i + 1))), _, [(4, HV), (5, HU E k rm ph I J T dirty hot fnd v')], by omega, ⟨i + 1, ii + 1, v', by omega, rfl, by omega, rfl, rfl, rfl⟩, ?_, rfl, ⟨rfl, rfl, rfl, rfl, rfl, trivial⟩, ⟨rfl, rfl, trivial⟩, rfl⟩;rw [aB, ab4]; exact jx _ _ _
 ·have q2 : ¬ ii < (ch.length : Int) := by omega
  have cX : ch.take i = ch := gn (by omega);rw [cX];refine D6 0 5 10 (xv v ch) rfl rfl rfl ?_;(refine a7 ?_)
  ((refine bc rfl (cu rfl rfl rfl aN) ?_))
  exact ah.aQ.refl _
theorem PL {x y k : Int} {r : Nat} (h : gB k r) (ab : eM r x y = true) : aC ag 45 [aK x y, aH k] (aK (2 ^ r * x) (2 ^ r * y)) := by
 obtain ⟨⟨q1, q2⟩, bO, dj⟩ := (zz r x y).1 ab;have aT := acY h;generalize (2 : Int) ^ r = P at *;refine bm (f := 45) Tryz.func45 rfl rfl rfl rfl ?_;(refine bY ?_)
 ((refine bc rfl (cu rfl rfl rfl aN) ?_))
 exact ah.aQ.refl _
instance aiP : kR ag 57 63 4 32 := ⟨by kernel_rfl⟩
abbrev sj (r : Nat) (L : List (ao × ao)) : List AC := jX (L.map (fz r))
abbrev sk (r : Nat) (v : Value) (L : List (ao × ao)) : bG := ⟨63, 4, v, L.length, sj r L⟩
abbrev AG (r : Nat) (L : List (ao × ao)) : ah := cy 4 L.length (sj r L)
theorem aaL (r : Nat) (v : Value) (L : List (ao × ao)) (x : ao × ao) : sk r v (L ++ [x]) = ⟨63, 4, v, L.length + 1, sj r L ++ oR (fz r x)⟩ := by
 unfold sk sj; rw [List.map_append, cJ]; simp [jX]
def SW (r : Nat) (tO : List AC) (ch : List (List ao × List Int)) (n : Nat) (R : aI) (aL : List (Nat × ah)) (bd : List (Nat × List AC)) : Prop :=
 ∃ (i : Nat) (ii : Int) (v : Value), i ≤ ch.length ∧ n = ch.length - i ∧ ii = i ∧ R = br 0 (sk r v (aW (ch.take i))) ∧ aL = [(1, sN 1), (3, aR v), (4, aH ii)] ∧ bd = [(1, tO)]
def SV (r : Nat) (tO : List AC) (V : List ao) (D : List Int) (ii : Int) (pre : List (ao × ao)) (n : Nat) (R : aI) (aL : List (Nat × ah)) (bd : List (Nat × List AC)) : Prop :=
 ∃ (j : Nat) (ee : Int) (v : Value), j ≤ D.length ∧ n = D.length - j ∧ ee = j ∧ R = br 0 (sk r v (pre ++ (fI V).take j)) ∧ aL = [(1, sN 1), (3, aR v), (4, aH ii), (5, sN 5), (6, aH ee)] ∧ bd = [(1, tO), (5, BD V D)]
theorem acE {E : List (Int × bS)} {r : Nat} {rm ph I J T : Int} {dirty : Bool} {hot fnd : List ao} {ch : List (List ao × List Int)} (ap : r ≤ 28) (aj : jD ch) (aq : ∀ c ∈ ch, ∀ v ∈ c.1, eM r v.1 v.2 = true) : aC ag 22 [RT E r rm ph I J T dirty hot fnd ch] (AG r (aW ch)) := by
 have ak := aj.1;have aw : gB (r : Int) r := ⟨ap, .inr (.inr rfl)⟩;refine bm (f := 22) Tryz.func22 rfl rfl rfl rfl ?_;refine ow ?_;refine lH 0 63 4 rfl ?_;(refine a7 ?_);refine jz 49 (SW r (vF E r rm ph I J T dirty hot fnd ch) ch) ch.length (br 0 (sk r gK [])) _ [(1, vF E r rm ph I J T dirty hot fnd ch)] ⟨0, 0, gK, dC _, rfl, rfl, rfl, rfl, rfl⟩ (jx _ _ _) rfl ⟨rfl, rfl, rfl, trivial⟩ ⟨rfl, trivial⟩ rfl ?_;rintro n R aL bd ⟨i, ii, v, hi, rfl, gv, rfl, rfl, rfl⟩ c0;clear c0
 by_cases al : i < ch.length
 case neg =>
  have q2 : ¬ ii < (ch.length : Int) := by omega
  have cX : ch.take i = ch := gn (by omega);rw [cX];refine xN 0 3 (sk r v (aW ch)) rfl rfl ?_;(refine a7 ?_)
  ((refine bc rfl (bf rfl aN) ?_))
  exact ah.aQ.refl _
 have q2 : ii < (ch.length : Int) := by omega
 have bO : 0 ≤ ii := by omega
 obtain ⟨V, D, g1⟩ : ∃ V D, ch[i]? = some (V, D) := ⟨_, _, bN al⟩;obtain ⟨hj, gE⟩ := aj.2 _ (c7 g1);simp only at hj gE;have lN := uQ gv g1
 have YJ : (aW (ch.take i)).length ≤ 300 * 1100 := by
  refine ha (xk (m := 1100) fun c oE => (aj.2 c (nB oE)).2) (ju _ ?_);rw [dK]; omega
 have cg : aW (ch.take (i + 1)) = aW (ch.take i) ++ fI V := by
  rw [j3 al, zO, show ch[i] = (V, D) from kJ ((bN al).symm.trans g1)];simp [aW]
 have GD : (fI V).length = D.length := by rw [si]; omega
 have MS : ∀ v ∈ V, eM r v.1 v.2 = true := aq _ (c7 g1);generalize aW (ch.take i) = pre at *;(refine a7 ?_);refine jz 49 (SV r (vF E r rm ph I J T dirty hot fnd ch) V D ii pre) D.length (br 0 (sk r v pre)) _ [(1, vF E r rm ph I J T dirty hot fnd ch), (5, BD V D)] ⟨0, 0, v, dC _, rfl, rfl, by rw [List.take_zero, nC], rfl, rfl⟩ (jx _ _ _) rfl ⟨rfl, rfl, rfl, rfl, rfl, trivial⟩ ⟨rfl, rfl, trivial⟩ rfl ?_;clear v;rintro n R aL bd ⟨j, ee, v, ae, rfl, nl, rfl, rfl, rfl⟩ c0;clear c0
 by_cases hs : j < D.length
 case neg =>
  have s2 : ¬ ee + 1 < (V.length : Int) := by omega
  have kV : (fI V).take j = fI V := gn (by omega);rw [kV, ← cg];(refine a7 ?_);exact ⟨ch.length - (i + 1), br 0 (sk r v (aW (ch.take (i + 1)))), _, [(1, vF E r rm ph I J T dirty hot fnd ch)], by omega, ⟨i + 1, ii + 1, v, by omega, rfl, by omega, rfl, rfl, rfl⟩, bB.refl _, rfl, ⟨rfl, rfl, rfl, trivial⟩, ⟨rfl, trivial⟩, rfl⟩
 obtain ⟨a, b, g2⟩ : ∃ a b, V[j]? = some (a, b) := ⟨_, _, bN (by omega)⟩;obtain ⟨c, d, g3⟩ : ∃ a b, V[j + 1]? = some (a, b) := ⟨_, _, bN (by omega)⟩;have rq := pR nl g2;have SB := pR (show ee + 1 = ((j + 1 : Nat) : Int) by omega) g3;have s2 : ee + 1 < (V.length : Int) := by omega
 have bC : 0 ≤ ee := by omega
 have bE : ee < (V.length : Int) := by omega
 have s3 := PL aw (MS _ (c7 g2));have s4 := PL aw (MS _ (c7 g3));simp only at s3 s4
 have dZ : pre ++ (fI V).take (j + 1) = (pre ++ (fI V).take j) ++ [((a, b), (c, d))] := by
  have h1 : j + 1 < V.length := by omega
  have h2 := Od h1;rw [show V[j] = (a, b) from kJ ((bN (by omega)).symm.trans g2), show V[j + 1] = (c, d) from kJ ((bN (by omega)).symm.trans g3)] at h2;obtain ⟨an, aE⟩ := bM.1 h2;rw [j3 an, aE, iu]
 have hq : ((fI V).take j).length ≤ 1100 := by rw [dK]; omega
 have hlen : (pre ++ (fI V).take j).length ≤ 300 * 1100 + 1100 := by rw [cJ]; omega
 (repeat first | (with_reducible apply dQ (id := 9) [0,1,2,3,4,5,6,7,8,9,10,11,12,13,14,15,16,17,18,19,20,21]); kernel_rfl; kernel_rfl; rfl | refine c5 ?_ | refine iw ?_);refine nr 0 rfl rfl rfl rfl ?q1 ?q2 rfl rfl (fun v' bR => ?_)
 case q1 => exact iY (by show (pre ++ (fI V).take j).length + 1 ≤ 1000000; omega)
 case q2 => show ((pre ++ (fI V).take j).length + 1) * 32 ≤ 140737488355328; omega
 (refine a7 ?_);exact ⟨D.length - (j + 1), br 0 (sk r v' (pre ++ (fI V).take (j + 1))), _, [(1, vF E r rm ph I J T dirty hot fnd ch), (5, BD V D)], by omega, ⟨j + 1, ee + 1, v', by omega, rfl, by omega, rfl, rfl, rfl⟩, by rw [dZ, aaL]; exact jx _ _ _, rfl, ⟨rfl, rfl, rfl, rfl, rfl, trivial⟩, ⟨rfl, rfl, trivial⟩, rfl⟩
theorem aaM (a1 a2 b1 b2 : Int) : cV b1 b2 a1 a2 = cV a1 a2 b1 b2 ∧ cI b1 b2 a1 a2 = cI a1 a2 b1 b2 ∧ cR b1 b2 a1 a2 = cR a1 a2 b1 b2 ∧ cH b1 b2 a1 a2 = cH a1 a2 b1 b2 := by
 unfold cV cI cR cH cM;refine ⟨?_, ?_, ?_, ?_⟩ <;> (repeat split) <;> omega
theorem FF (a b : Int) : b8 a b a b = true := mz.2 ⟨rfl, rfl⟩
theorem Wi {r : Nat} {l m : ao × ao} {M : eI} (h1 : M.k = 1 → pq l m) (h2 : M.k = 2 → l = m ∨ l = (m.2, m.1)) : rO M (2 ^ r * l.1.1) (2 ^ r * l.1.2) (2 ^ r * l.2.1) (2 ^ r * l.2.2) (2 ^ r * m.1.1) (2 ^ r * m.1.2) (2 ^ r * m.2.1) (2 ^ r * m.2.2) = true := by
 unfold rO
 by_cases bl : M.k = 1
 ·rw [if_pos bl];rcases h1 bl with h | h | h | h <;> rw [h] <;> simp [FF]
 ·rw [if_neg bl]
  by_cases bJ : M.k = 2
  ·rw [if_pos bJ];rcases h2 bJ with h | h
   ·rw [h]; unfold pz; simp [FF]
   ·rw [h];obtain ⟨aF, aM, cg, dZ⟩ := aaM (2 ^ r * m.1.1) (2 ^ r * m.1.2) (2 ^ r * m.2.1) (2 ^ r * m.2.2);show pz (cV (2 ^ r * m.2.1) (2 ^ r * m.2.2) (2 ^ r * m.1.1) (2 ^ r * m.1.2)) (cI (2 ^ r * m.2.1) (2 ^ r * m.2.2) (2 ^ r * m.1.1) (2 ^ r * m.1.2)) (cR (2 ^ r * m.2.1) (2 ^ r * m.2.2) (2 ^ r * m.1.1) (2 ^ r * m.1.2)) (cH (2 ^ r * m.2.1) (2 ^ r * m.2.2) (2 ^ r * m.1.1) (2 ^ r * m.1.2)) _ _ _ _ = true;rw [aF, aM, cg, dZ]; unfold pz; simp [FF]
  ·rw [if_neg bJ]
theorem pq.symm {l m : ao × ao} (h : pq l m) : pq m l := by
 rcases h with h | h | h | h
 ·exact .inl h.symm
 ·exact .inr (.inr (.inl h.symm))
 ·exact .inr (.inl h.symm)
 ·exact .inr (.inr (.inr h.symm))
section
variable {E : List (Int × bS)} {r rm : Nat}
theorem abO {s : bu.aV ao} (hw : h9 E r rm) (bj : mu E r rm s) (aE : sT (bx E r rm) (tQ (E.map Prod.snd) r) s) {a b : Nat} {l m : ao × ao} (aJ : (aW s.ch)[a]? = some l) (ab : (aW s.ch)[b]? = some m) (jm : a < b) :
  rO (kp (2 ^ r * m.1.1) (2 ^ r * m.1.2) (2 ^ r * m.2.1) (2 ^ r * m.2.2) (2 ^ r * l.1.1) (2 ^ r * l.1.2) (2 ^ r * l.2.1) (2 ^ r * l.2.2)) (2 ^ r * m.1.1) (2 ^ r * m.1.2) (2 ^ r * m.2.1) (2 ^ r * m.2.2) (2 ^ r * l.1.1) (2 ^ r * l.1.2) (2 ^ r * l.2.1) (2 ^ r * l.2.2) = true := by
 obtain ⟨d1, d2⟩ := VT (Re (E.map Prod.snd) hw.r rm) hw.ok bj.1 aE aJ ab jm;obtain ⟨_, a1, a2⟩ := tI hw.ok aE.laid (c7 aJ);obtain ⟨_, b1, b2⟩ := tI hw.ok aE.laid (c7 ab);have g1 := nc (bj.1.fb _ a1);have g2 := nc (bj.1.fb _ a2);have g3 := nc (bj.1.fb _ b1);have g4 := nc (bj.1.fb _ b2)
 have e : kp (2 ^ r * m.1.1) (2 ^ r * m.1.2) (2 ^ r * m.2.1) (2 ^ r * m.2.2) (2 ^ r * l.1.1) (2 ^ r * l.1.2) (2 ^ r * l.2.1) (2 ^ r * l.2.2) = vv (2 ^ r) l m := by
  unfold kp;rw [g1, g2, g3, g4];exact aaZ _ _ _ _ _ _ _ _
 rw [e];exact Wi (fun h => pq.symm (d1 h)) (fun h => (d2 h).imp (fun h => h.symm) fun h => by rw [h])
theorem Of {r : Nat} {L : List (ao × ao)} {i : Nat} {ii : Int} {l : ao × ao} (hi : ii = i) (h : L[i]? = some l) : ((sj r L).drop (ii.toNat * 4)).take 4 = [.c (.int .i64 (2 ^ r * l.1.1)), .c (.int .i64 (2 ^ r * l.1.2)), .c (.int .i64 (2 ^ r * l.2.1)), .c (.int .i64 (2 ^ r * l.2.2))] := by
 subst hi; rw [kK];exact yH (f := oR) (fun x => (rfl : (oR x).length = 4)) (show (L.map (fz r))[i]? = some (fz r l) by rw [eg, h]; rfl)
theorem aaK (r : Nat) (L : List (ao × ao)) (i : Nat) : (sj r L).take (i * 4) = sj r (L.take i) := by
 unfold sj;rw [List.map_take];generalize L.map (fz r) = M
 induction M generalizing i with
 | nil => simp [jX]
 | cons x M b5 =>
  match i with
  | 0 => simp [jX]
  | i + 1 =>
   rw [show (i + 1) * 4 = 4 + i * 4 by omega, List.take_succ_cons];show (oR x ++ jX M).take (4 + i * 4) = oR x ++ jX (M.take i);rw [← b5 i, List.take_append];rw [show (oR x).length = 4 from rfl, Nat.add_sub_cancel_left, gn (by show 4 ≤ 4 + i * 4; omega)]
abbrev Hv (r : Nat) (l : ao × ao) : List AC := [.c (.int .i64 (2 ^ r * l.1.1)), .c (.int .i64 (2 ^ r * l.1.2)), .c (.int .i64 (2 ^ r * l.2.1)), .c (.int .i64 (2 ^ r * l.2.2))]
def S0 (r rm : Nat) (S : bu.aV ao) (L : List (ao × ao)) (R0 : aI) (n : Nat) (R : aI) (aL : List (Nat × ah)) (bd : List (Nat × List AC)) : Prop :=
 ∃ (i : Nat) (ii : Int), i ≤ L.length ∧ n = L.length - i ∧ ii = i ∧ R = R0 ∧ aL = [(9, AG r L), (39, AG r L), (40, aH L.length), (41, aH ii)] ∧ bd = [(8, stM r rm S)]
def S1 (r rm : Nat) (S : bu.aV ao) (L : List (ao × ao)) (R0 : aI) (i : Nat) (ii : Int) (l : ao × ao) (n : Nat) (R : aI) (aL : List (Nat × ah)) (bd : List (Nat × List AC)) : Prop :=
 ∃ (j : Nat) (ee : Int), j ≤ i ∧ n = i - j ∧ ee = j ∧ R = R0 ∧ aL = [(9, AG r L), (39, AG r L), (40, aH L.length), (41, aH ii), (11, .w (.one (.own 11 0))), (48, cy 4 i (sj r (L.take i))), (49, aH i), (50, aH ee)] ∧ bd = [(8, stM r rm S), (11, Hv r l)]
theorem aas {E : List (Int × bS)} {k room : Int} : aC ag 5 [jA E, aH k, aH room] (bk true) := by
 have aT := ado (E := E);have lL := ac1
 by_cases ak : (E.length : Int) ≤ 7
 case neg =>
  rw [c3 ak] at aT;refine bm (f := 5) Tryz.func5 rfl rfl rfl rfl ?_;(refine bY ?_)
  ((refine bc rfl (bf rfl aN) ?_))
  exact ah.aQ.refl _
 rw [cw ak] at aT;have bH := acS (E := E) (by omega);cases ax : gI (E.map Prod.snd) with
 | false =>
  rw [ax] at bH;refine bm (f := 5) Tryz.func5 rfl rfl rfl rfl ?_;(refine bY ?_)
  ((refine bc rfl (bf rfl aN) ?_))
  exact ah.aQ.refl _
 | true =>
  rw [ax] at bH;have ia := aaf (k := k) (room := room) ax (by omega) 26 (b4 := dB) n3;obtain ⟨i1, _, _, _⟩ := Je (k := k) (room := room) ax (by omega);have hw : h9 E (dz k) (eb room) := Iv ax (by omega);have s0 := (Hl hw i1).ov 26 (b4 := dB) n3 rfl rfl;have ar := Wj (k := k) (room := room) ax (by omega);have iW := hw.st i1;generalize ri E k room = ew at *
  by_cases p1 : (ew.ph : Int) = 4
  case neg =>
   refine bm (f := 5) Tryz.func5 rfl rfl rfl rfl ?_;refine ow ?_;(refine mU ?_);refine zj 26 dB rfl rfl rfl rfl ia rfl rfl rfl rfl (fun cs uE bp => ?_);rw [Dt];(refine a7 ?_);refine nt 26 dB rfl rfl rfl rfl rfl rfl rfl rfl s0 bp (bB.refl _) (fun Fu mr hQ => ?_);rw [show bV (aI.a6 dB mr) (aI.a6 dB uE) = aI.a6 dB mr from bp.bV hQ];(refine mU ?_)
   ((refine bc rfl (bf rfl aN) ?_))
   exact ah.aQ.refl _
  have aE : sT (bx E (dz k) (eb room)) (tQ (E.map Prod.snd) (dz k)) ew := by
   rcases ar with h | h
   ·exact h
   ·rw [h.ph] at p1; exact absurd p1 (by decide)
  obtain ⟨s1, s2, D8⟩ := iW;have X6 := i1.1.fb;have rv := acP (E := E) (k := ((dz k : Nat) : Int)) (rm := ((eb room : Nat) : Int)) (ph := (ew.ph : Int)) (I := (ew.I : Int)) (J := (ew.J : Int)) (T := (ew.T : Int)) (dirty := ew.dirty) (hot := ew.hot) (fnd := ew.fnd) (ch := ew.ch) (by omega) (by omega) D8
  have rr := acE (E := E) (r := dz k) (rm := ((eb room : Nat) : Int)) (ph := (ew.ph : Int)) (I := (ew.I : Int)) (J := (ew.J : Int)) (T := (ew.T : Int)) (dirty := ew.dirty) (hot := ew.hot) (fnd := ew.fnd) (ch := ew.ch) hw.r D8 (fun c aj v hv => by
   obtain ⟨i, hi⟩ := j1 aj;exact X6 _ ((aE.laid.ib i c hi).hot v hv))
  have aib : (aW ew.ch).length ≤ 300 * 1100 := ha (xk (m := 1100) fun c oE => (D8.2 c oE).2) (ju _ D8.1);have XU := fun a b l m aJ ab jm => abO hw i1 aE (a := a) (b := b) (l := l) (m := m) aJ ab jm;generalize aW ew.ch = L at *;refine bm (f := 5) Tryz.func5 rfl rfl rfl rfl ?_;refine ow ?_;(refine mU ?_);refine zj 26 dB rfl rfl rfl rfl ia rfl rfl rfl rfl (fun cs uE bp => ?_);rw [Dt];(refine a7 ?_);refine nt 26 dB rfl rfl rfl rfl rfl rfl rfl rfl s0 bp (bB.refl _) (fun Fu mr hQ => ?_);rw [show bV (aI.a6 dB mr) (aI.a6 dB uE) = aI.a6 dB mr from bp.bV hQ];(refine mU ?_);refine jz 67 (S0 (dz k) (eb room) ew L mr) L.length mr _ [(8, stM (dz k) (eb room) ew)] ⟨0, 0, dC _, rfl, rfl, rfl, rfl, rfl⟩ (bB.refl _) rfl ⟨rfl, rfl, rfl, rfl, trivial⟩ ⟨rfl, trivial⟩ rfl ?_;rintro n R aL bd ⟨i, ii, hi, rfl, gv, rfl, rfl, rfl⟩ c0;clear c0
  by_cases al : i < L.length
  case neg =>
   have q2 : ¬ ii < (L.length : Int) := by omega
   (refine mU ?_)
   ((refine bc rfl (bf rfl aN) ?_))
   exact ah.aQ.refl _
  obtain ⟨m, g1⟩ : ∃ m, L[i]? = some m := ⟨_, bN al⟩;have lN := Of (r := dz k) gv g1;have q2 : ii < (L.length : Int) := by omega
  have bO : 0 ≤ ii := by omega
  have dj : ii.toNat = i := by omega
  have mc := aaK (dz k) L i;(refine a7 ?_);refine jz 67 (S1 (dz k) (eb room) ew L R i ii m) i R _ [(8, stM (dz k) (eb room) ew), (11, Hv (dz k) m)] ⟨0, 0, dC _, rfl, rfl, rfl, rfl, rfl⟩ (bB.refl _) rfl ⟨rfl, rfl, rfl, rfl, rfl, rfl, rfl, rfl, trivial⟩ ⟨rfl, rfl, trivial⟩ rfl ?_;rintro n R aL bd ⟨j, ee, ae, rfl, nl, rfl, rfl, rfl⟩ c0;clear c0
  by_cases ap : j < i
  case neg =>
   have cD : ¬ ee < (i : Int) := by omega
   (refine a7 ?_);exact ⟨L.length - (i + 1), R, _, [(8, stM (dz k) (eb room) ew)], by omega, ⟨i + 1, ii + 1, by omega, rfl, by omega, rfl, rfl, rfl⟩, bB.refl _, rfl, ⟨rfl, rfl, rfl, rfl, trivial⟩, ⟨rfl, trivial⟩, rfl⟩
  obtain ⟨l, g2⟩ : ∃ l, L[j]? = some l := ⟨_, bN (by omega)⟩;have g3 : (L.take i)[j]? = some l := by rw [List.getElem?_take, if_pos ap]; exact g2
  have rq := Of (r := dz k) nl g3;have cD : ee < (i : Int) := by omega
  have fp : 0 ≤ ee := by omega
  have x2 := adK (a1 := 2 ^ dz k * m.1.1) (a2 := 2 ^ dz k * m.1.2) (b1 := 2 ^ dz k * m.2.1) (b2 := 2 ^ dz k * m.2.2) (c1 := 2 ^ dz k * l.1.1) (c2 := 2 ^ dz k * l.1.2) (d1 := 2 ^ dz k * l.2.1) (d2 := 2 ^ dz k * l.2.2);rw [XU j i l m g2 g1 ap] at x2;(refine mU ?_);exact ⟨i - (j + 1), R, _, [(8, stM (dz k) (eb room) ew), (11, Hv (dz k) m)], by omega, ⟨j + 1, ee + 1, by omega, rfl, by omega, rfl, rfl, rfl⟩, bB.refl _, rfl, ⟨rfl, rfl, rfl, rfl, rfl, rfl, rfl, rfl, trivial⟩, ⟨rfl, rfl, trivial⟩, rfl⟩
end
end Go.Proofs.YtbcecodakfejaaaGreat
namespace Go.Proofs.YtbcecodakfejaaaGreat
theorem abP (E : List (Int × bu.bS)) (k room : Int) (_ : (E.length : Int) ≤ 9223372036854775807) (_ : -9223372036854775808 ≤ k ∧ k ≤ 9223372036854775807) (_ : -9223372036854775808 ≤ room ∧ room ≤ 9223372036854775807) : aC ag 5 [jA E, aH k, aH room] (bk true) := aas
end Go.Proofs.YtbcecodakfejaaaGreat
