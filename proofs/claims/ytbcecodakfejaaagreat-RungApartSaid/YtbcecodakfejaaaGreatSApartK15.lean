/-
  My own texts, without what this claim does not need. My own text.
-/
import Derived.Test.YtbcecodakfejaaaGreatSApartK14
set_option maxRecDepth 100000
set_option maxHeartbeats 64000000
set_option linter.unusedVariables false
set_option linter.unusedSimpArgs false
set_option linter.unusedSectionVars false
open Go.Proofs.Tryz renaming prog → ag
namespace Go.Proofs.YtbcecodakfejaaaGreat
open Go.RowKit
open bp
def ul (a b c d e f a' bK c' d' bm kD : Int) : Bool := decide (a = a') && (decide (b = bK) && (decide (c = c') && (decide (d = d') && (decide (e = bm) && decide (f = kD)))))
theorem V2 (n : Nat) (a b c d e f a' bK c' d' bm kD : Int) (W : World) : (Op.equalIn (n + 1 + 1) 104 (.agg #[.int .i64 a, .int .i64 b, .int .i64 c, .int .i64 d, .int .i64 e, .int .i64 f]) (.agg #[.int .i64 a', .int .i64 bK, .int .i64 c', .int .i64 d', .int .i64 bm, .int .i64 kD])).run ag W = .ok (ul a b c d e f a' bK c' d' bm kD) W := by
 have hu : ag.underlying 104 = some (.array 6 3) := by kernel_rfl
 have hi : ag.underlying 3 = some (.int .i64) := by kernel_rfl
 obtain ⟨m, hm⟩ : ∃ m, m = n + 1 := ⟨_, rfl⟩;rw [← hm, Op.equalIn];simp only [Sem.run_bind, run_underlying hu, Result.andThen_ok];rw [hm];have aI : (sizeOf 3).run ag W = .ok 1 W := by go_simp
 have hp : ∀ (xs : Array Value) (off : Nat) (v : Value), xs[off]? = some v → (part 3 xs off).run ag W = .ok v W := fun xs off v h => by
  have aH : (isAgg 3).run ag W = .ok false W := by
   unfold isAgg;simp only [Sem.run_bind, run_underlying hi, Result.andThen_ok, Sem.run_pure]
  unfold part;simp only [Sem.run_bind, aH, Result.andThen_ok, mZ, if_false, h, Sem.run_pure]
 simp only [aI, Result.andThen_ok];rw [Std.Legacy.Range.forIn_eq_forIn_range'];unfold ul;have lI := hp #[.int .i64 a, .int .i64 b, .int .i64 c, .int .i64 d, .int .i64 e, .int .i64 f] (0 * 1) (.int .i64 a) rfl;have q0 := hp #[.int .i64 a', .int .i64 bK, .int .i64 c', .int .i64 d', .int .i64 bm, .int .i64 kD] (0 * 1) (.int .i64 a') rfl;have p1 := hp #[.int .i64 a, .int .i64 b, .int .i64 c, .int .i64 d, .int .i64 e, .int .i64 f] (1 * 1) (.int .i64 b) rfl;have q1 := hp #[.int .i64 a', .int .i64 bK, .int .i64 c', .int .i64 d', .int .i64 bm, .int .i64 kD] (1 * 1) (.int .i64 bK) rfl;have p2 := hp #[.int .i64 a, .int .i64 b, .int .i64 c, .int .i64 d, .int .i64 e, .int .i64 f] (2 * 1) (.int .i64 c) rfl;have q2 := hp #[.int .i64 a', .int .i64 bK, .int .i64 c', .int .i64 d', .int .i64 bm, .int .i64 kD] (2 * 1) (.int .i64 c') rfl;have p3 := hp #[.int .i64 a, .int .i64 b, .int .i64 c, .int .i64 d, .int .i64 e, .int .i64 f] (3 * 1) (.int .i64 d) rfl;have bE := hp #[.int .i64 a', .int .i64 bK, .int .i64 c', .int .i64 d', .int .i64 bm, .int .i64 kD] (3 * 1) (.int .i64 d') rfl;have p4 := hp #[.int .i64 a, .int .i64 b, .int .i64 c, .int .i64 d, .int .i64 e, .int .i64 f] (4 * 1) (.int .i64 e) rfl;have c4 := hp #[.int .i64 a', .int .i64 bK, .int .i64 c', .int .i64 d', .int .i64 bm, .int .i64 kD] (4 * 1) (.int .i64 bm) rfl;have u4 := hp #[.int .i64 a, .int .i64 b, .int .i64 c, .int .i64 d, .int .i64 e, .int .i64 f] (5 * 1) (.int .i64 f) rfl;have kP := hp #[.int .i64 a', .int .i64 bK, .int .i64 c', .int .i64 d', .int .i64 bm, .int .i64 kD] (5 * 1) (.int .i64 kD) rfl;rw [show List.range' [:6].start [:6].size [:6].step = [0, 1, 2, 3, 4, 5] from rfl];simp only [List.forIn_cons, List.forIn_nil, Sem.run_bind, lI, q0, p1, q1, p2, q2, p3, bE, p4, c4, u4, kP, Result.andThen_ok, run_equalIn_int W n _ .i64 .i64 _ _ hi]
 by_cases aH : a = a'
 case neg => simp [aH]
 subst aH;simp only [beq_self_eq_true, Bool.not_true, mZ, if_false, Sem.run_pure, Sem.run_bind, lI, q0, p1, q1, p2, q2, p3, bE, p4, c4, u4, kP, Result.andThen_ok, run_equalIn_int W n _ .i64 .i64 _ _ hi]
 by_cases ab : b = bK
 case neg => simp [ab]
 subst ab;simp only [beq_self_eq_true, Bool.not_true, mZ, if_false, Sem.run_pure, Sem.run_bind, lI, q0, p1, q1, p2, q2, p3, bE, p4, c4, u4, kP, Result.andThen_ok, run_equalIn_int W n _ .i64 .i64 _ _ hi]
 by_cases aj : c = c'
 case neg => simp [aj]
 subst aj;simp only [beq_self_eq_true, Bool.not_true, mZ, if_false, Sem.run_pure, Sem.run_bind, lI, q0, p1, q1, p2, q2, p3, bE, p4, c4, u4, kP, Result.andThen_ok, run_equalIn_int W n _ .i64 .i64 _ _ hi]
 by_cases hd : d = d'
 case neg => simp [hd]
 subst hd;simp only [beq_self_eq_true, Bool.not_true, mZ, if_false, Sem.run_pure, Sem.run_bind, lI, q0, p1, q1, p2, q2, p3, bE, p4, c4, u4, kP, Result.andThen_ok, run_equalIn_int W n _ .i64 .i64 _ _ hi]
 by_cases he : e = bm
 case neg => simp [he]
 subst he;simp only [beq_self_eq_true, Bool.not_true, mZ, if_false, Sem.run_pure, Sem.run_bind, lI, q0, p1, q1, p2, q2, p3, bE, p4, c4, u4, kP, Result.andThen_ok, run_equalIn_int W n _ .i64 .i64 _ _ hi]
 by_cases ap : f = kD
 case neg => simp [ap]
 subst ap;simp only [beq_self_eq_true, Bool.not_true, mZ, if_false, Sem.run_pure, Sem.run_bind, lI, q0, p1, q1, p2, q2, p3, bE, p4, c4, u4, kP, Result.andThen_ok, run_equalIn_int W n _ .i64 .i64 _ _ hi];simp
abbrev v6 (a b c d e f : Int) : ah := .w (.agg [.c (.int .i64 a), .c (.int .i64 b), .c (.int .i64 c), .c (.int .i64 d), .c (.int .i64 e), .c (.int .i64 f)])
theorem V3 : ag.eqGuardType ag.depth 104 = false := by kernel_rfl
theorem JJ {s : az} {ops : Array Oper} {K : az → Prop} {rest : List Oper} {ty : Nat} {pos : String} {after : Array Edge} {guard : Option (Nat × Bool)} {o dK : Nat} {x y : Operand} {a b c d e f a' bK c' d' bm kD : Int} (hw : want ops ⟨some o, .binOp .eql 104 x y dK, ty, pos, after, guard⟩ s = some true) (aa : s.look x = some (v6 a b c d e f)) (ai : s.look y = some (v6 a' bK c' d' bm kD)) (hd : Nat.blt o s.n = true) (h : a7 ag ops K rest (s.put (some o) (bf (ul a b c d e f a' bK c' d' bm kD)))) : a7 ag ops K (⟨some o, .binOp .eql 104 x y dK, ty, pos, after, guard⟩ :: rest) s :=
 ue hw aa ai rfl rfl (fun W => Bk V3) (fun W => by rw [run_eql_struct, show (10000 : Nat) = 9998 + 1 + 1 from rfl, V2]; rfl) rfl hd h
abbrev Ro (k rm ph I J T : Int) (dirty : Bool) (hot fnd : List an) (ch : List (List an × List Int)) : List AC := [.c (.int .i64 k), .c (.int .i64 rm), .c (.int .i64 ph), .c (.int .i64 I), .c (.int .i64 J), .c (.int .i64 T), .c (.bool dirty), .p (cl 2 hot.length (bL hot)), .p (cl 2 fnd.length (bL fnd)), .p (cl 2 ch.length (ew ch))]
abbrev xh (k rm ph I J T : Int) (dirty : Bool) (hot fnd : List an) (ch : List (List an × List Int)) : ah := .w (.agg (Ro k rm ph I J T dirty hot fnd ch))
theorem HN {k rm ph I J T : Int} {dirty : Bool} {hot fnd : List an} {ch : List (List an × List Int)} : aC ag 58 [xh k rm ph I J T dirty hot fnd ch] (v6 k rm ph I J T) := by
 refine bi (f := 58) Tryz.func58 rfl rfl rfl rfl ?_;(refine fl ?_)
 ((refine ba rfl (cL rfl rfl rfl aK) ?_))
 exact ah.aQ.refl _
abbrev IE : ah := aM (.func (.func 61) #[] #[])
def Sh (L M : List (List an × List Int)) (k : Nat) (aL : List (Nat × ah)) (bj : List (Nat × List AC)) : Prop :=
 ∃ (i : Nat) (ii : Int), i ≤ L.length ∧ k = L.length - i ∧ ii = i ∧ bj = [] ∧ aL = [(1, oP M), (2, IE), (15, oP L), (16, aB L.length), (17, aB ii)]
theorem abQ {L M : List (List an × List Int)} (aj : kc L) (FJ : L = M) : aC ag 60 [oP L, oP M, IE] (bf true) := by
 have hlen := aj.1;have e0 : (L.length : Int) = M.length := by rw [FJ]
 refine bi (f := 60) Tryz.func60 rfl rfl rfl rfl ?_;(refine fl ?_);refine sD 32 (Sh L M) L.length _ [] ⟨0, 0, dA _, rfl, rfl, rfl, rfl⟩ rfl ⟨rfl, rfl, rfl, rfl, rfl, trivial⟩ trivial rfl ?_;rintro n aL bj ⟨j, en, ae, rfl, og, rfl, rfl⟩ c3;clear c3
 by_cases hp : j < L.length
 ·have p2 : en < (L.length : Int) := by omega
  have p3 : 0 ≤ en := by omega
  have p4 : en < (M.length : Int) := by omega
  obtain ⟨V, D, g1⟩ : ∃ V D, L[j]? = some (V, D) := ⟨_, _, bQ hp⟩;have g2 : M[j]? = some (V, D) := by rw [← FJ]; exact g1
  obtain ⟨hG, gH⟩ := aj.2 _ (c5 g1);simp only at hG gH;have mz := vJ og g1;have si := vJ og g2;have aU := Zs V V D D gH (by omega) gH (by omega);rw [ck rfl, ck rfl] at aU;clear FJ;(refine bZ ?_);exact ⟨L.length - (j + 1), _, [], by omega, ⟨j + 1, en + 1, hp, rfl, by omega, rfl, rfl⟩, rfl, ⟨rfl, rfl, rfl, rfl, rfl, trivial⟩, trivial, rfl⟩
 ·have p2 : ¬ en < (L.length : Int) := by omega
  (refine fl ?_)
  ((refine ba rfl (a6 rfl aK) ?_))
  exact ah.aQ.refl _
theorem abP {L : List (List an × List Int)} (aj : kc L) : aC ag 60 [oP L, oP L, IE] (bf true) := abQ aj rfl
theorem acb {k rm ph I J T : Int} {dirty : Bool} {hot fnd : List an} {ch : List (List an × List Int)} (aR : hot.length ≤ 1000000) (ap : fnd.length ≤ 1000000) (aj : kc ch) : aC ag 31 [xh k rm ph I J T dirty hot fnd ch, xh k rm ph I J T dirty hot fnd ch] (bf true) := by
 have aU := HN (k := k) (rm := rm) (ph := ph) (I := I) (J := J) (T := T) (dirty := dirty) (hot := hot) (fnd := fnd) (ch := ch);have bD := HG (D := hot) (E := hot) aR;have eg := HG (D := fnd) (E := fnd) ap;have kb := abP aj;rw [ck rfl] at bD eg;have ff : ul k rm ph I J T k rm ph I J T = true := by unfold ul; simp
 refine bi (f := 31) Tryz.func31 rfl rfl rfl rfl ?_;(refine bZ ?_);refine JJ rfl rfl rfl rfl ?_;rw [ff];have yp : (dirty == dirty) = true := by simp
 have ahr : decide (dirty = dirty) = true := by simp
 (refine bZ ?_)
 ((refine ba rfl (a6 rfl aK) ?_))
 exact ah.aQ.refl _
theorem aca {k rm ph I J T k' rm' ph' I' J' T' : Int} {dirty dirty' : Bool} {hot fnd hot' fnd' : List an} {ch ch' : List (List an × List Int)} (au : ul k rm ph I J T k' rm' ph' I' J' T' = false) : aC ag 31 [xh k rm ph I J T dirty hot fnd ch, xh k' rm' ph' I' J' T' dirty' hot' fnd' ch'] (bf false) := by
 have aU := HN (k := k) (rm := rm) (ph := ph) (I := I) (J := J) (T := T) (dirty := dirty) (hot := hot) (fnd := fnd) (ch := ch);have bD := HN (k := k') (rm := rm') (ph := ph') (I := I') (J := J') (T := T') (dirty := dirty') (hot := hot') (fnd := fnd') (ch := ch');refine bi (f := 31) Tryz.func31 rfl rfl rfl rfl ?_;(refine bZ ?_);refine JJ rfl rfl rfl rfl ?_;rw [au];(refine fl ?_)
 ((refine ba rfl (a6 rfl aK) ?_))
 exact ah.aQ.refl _
theorem bH.Im {U : Nat → Prop} {ad : Nat → Nat} {W : World} {cs : List AC} {vs : List Value} {i : Nat} {u : Value} {x : AC} (h : bH U ad W cs vs) (hi : cs[i]? = some (.c u)) (aa : gd U ad W x u) : bH U ad W (cs.set i x) vs := by
 refine ⟨by rw [List.length_set]; exact h.1, fun j y v ai hv => ?_⟩;rw [List.getElem?_set] at ai
 split at ai
 ·rename_i e;subst e
  split at ai
  ·cases ai;have := (h.2 i _ v hi hv).1;subst this; exact aa
  ·cases ai
 ·exact h.2 j y v ai hv
theorem aea {hv fv cv : Value} {hot fnd : List an} {ch : List (List an × List Int)} {R : aG} (aE : R 4 = none) (cZ : R 5 = none) (ff : R 6 = none) : n9 4 (n9 5 (n9 6 (li hv fv cv hot fnd ch R))) = R := by
 funext k;unfold n9
 by_cases eB : k = 4
 ·subst eB; rw [if_pos rfl, aE]
 ·rw [if_neg eB]
  by_cases lx : k = 5
  ·subst lx; rw [if_pos rfl, cZ]
  ·rw [if_neg lx]
   by_cases rk : k = 6
   ·subst rk; rw [if_pos rfl, ff]
   ·rw [if_neg rk];unfold li; rw [b3 _ _ rk, b3 _ _ lx, b3 _ _ eB]
section
variable {E : List (Int × bU)} {r rm : Nat}
theorem dm.mi {s : bp.aS an} {cs : List AC} {R : aG} (h : dm E r rm s cs R) : ∀ i, 4 ≤ i → R i = none := by
 obtain ⟨_, _, _, _, _, _, _, _, _, _, rfl⟩ := h;intro i hi
 match i, hi with
 | i + 4, _ => rfl
theorem dm.Dz {s : bp.aS an} {cs : List AC} {R : aG} (h : dm E r rm s cs R) : ∀ i, i < 4 → ∃ q, R i = some q := by
 obtain ⟨_, _, _, _, _, _, _, _, _, _, rfl⟩ := h;intro i hi
 match i, hi with
 | 0, _ => exact ⟨_, rfl⟩
 | 1, _ => exact ⟨_, rfl⟩
 | 2, _ => exact ⟨_, rfl⟩
 | 3, _ => exact ⟨_, rfl⟩
abbrev DM (r rm : Nat) (s : bp.aS an) : ah := xh r rm s.ph s.I s.J s.T s.dirty s.hot s.fnd s.ch
theorem Zv {s : bp.aS an} (aR : s.hot.length ≤ 900000) (ap : s.fnd.length ≤ 900000) (aj : kc s.ch) : fM E r rm 11 [] s (DM r rm s) s := by
 intro cs R bh;have tf := bh.mi 4 (by decide);have Ok := bh.mi 5 (by decide);have Ol := bh.mi 6 (by decide);have h := Zu aR ap aj bh
 have h1 := h.ui 6 Ol (Post2 := fun bR aD aw => ∃ hv fv, bR = .w (.agg ((oM r rm s.ph s.I s.J s.T s.dirty hv fv jD).set 9 (.p (cl 2 s.ch.length (ew s.ch))))) ∧ aD = cE 1000 cs ∧ ∃ cv, aw = n9 6 (li hv fv cv s.hot s.fnd s.ch R)) (by
  rintro bR aD aw ⟨aq, rfl, hv, fv, cv, rfl, rfl, rfl⟩;refine ⟨_, _, cf _ _ _, jk _, fun U ad W v h ax => ?_, fun j ae => ?_, hv, fv, rfl, rfl, cv, rfl⟩
  ·obtain ⟨vs, e, hl⟩ := h;exact ⟨vs, e, (hl.Im (i := 9) rfl ax : bH U ad W ((oM r rm s.ph s.I s.J s.T s.dirty hv fv cv).set 9 _) vs)⟩
  ·exact absurd ae (ah.dd rfl j))
 have h2 := h1.ui 5 Ok (Post2 := fun bR aD aw => ∃ hv, bR = .w (.agg (((oM r rm s.ph s.I s.J s.T s.dirty hv jD jD).set 9 (.p (cl 2 s.ch.length (ew s.ch)))).set 8 (.p (cl 2 s.fnd.length (bL s.fnd))))) ∧ aD = cE 1000 cs ∧ ∃ fv cv, aw = n9 5 (n9 6 (li hv fv cv s.hot s.fnd s.ch R))) (by
  rintro bR aD aw ⟨hv, fv, rfl, rfl, cv, rfl⟩;refine ⟨iw fv s.fnd, _, rfl, jk _, fun U ad W v h ax => ?_, fun j ae => ?_, hv, rfl, rfl, fv, cv, rfl⟩
  ·obtain ⟨vs, e, hl⟩ := h;exact ⟨vs, e, (hl.Im (i := 8) rfl ax)⟩
  ·exact absurd ae (ah.dd rfl j))
 have h3 := h2.ui 4 tf (Post2 := nY 1000 fun bR aq aw => bR = DM r rm s ∧ dm E r rm s aq aw) (by
  rintro bR aD aw ⟨hv, rfl, rfl, fv, cv, rfl⟩;refine ⟨iw hv s.hot, DM r rm s, rfl, jk _, fun U ad W v h ax => ?_, fun j ae => ?_, cs, rfl, rfl, ?_⟩
  ·obtain ⟨vs, e, hl⟩ := h;exact ⟨vs, e, (hl.Im (i := 7) rfl ax)⟩
  ·exact absurd ae (ah.dd rfl j)
  ·rw [aea tf Ok Ol]; exact bh)
 exact h3
def eY (i : Nat) : Nat := if i < 10 then i + 20 else if i < 20 then i else if i < 30 then i - 20 else i
theorem Ij (j : Nat) : eY (eY j) = j := by
 unfold eY
 by_cases h1 : j < 10
 ·simp only [if_pos h1];rw [if_neg (by omega), if_neg (by omega), if_pos (by omega)]; omega
 ·by_cases h2 : j < 20
  ·simp only [if_neg h1, if_pos h2]
  ·by_cases h3 : j < 30
   ·simp only [if_neg h1, if_neg h2, if_pos h3];rw [if_pos (by omega)]; omega
   ·simp only [if_neg h1, if_neg h2, if_neg h3]
def Jl (k : Nat) (bS : Nat → Nat) (E : List (Int × bU)) (r rm : Nat) (f : FuncId) (args : List ah) (s : bp.aS an) (v : ah) (s' : bp.aS an) : Prop :=
 ∀ cs R, dm E r rm s cs R → cY ag f (.w (.one (.own k 0)) :: args) (cE k cs) (R.aW bS) (nY k fun bR aq aw => bR = v ∧ ∃ bg, dm E r rm s' aq bg ∧ aw = bg.aW bS)
theorem fM.n5 (k : Nat) {bS : Nat → Nat} (fr : ∀ j, bS (bS j) = j) {f : FuncId} {args : List ah} {s s' : bp.aS an} {v : ah} (h : fM E r rm f args s v s') (dW : args.all ah.aV = true) (hv : v.aV = true) : Jl k bS E r rm f args s v s' := fun cs R bh => by
 have h1 := cY.at k (h cs R bh) dW bh.closed (fun bR ds aw ak => ⟨by rw [ak.1]; exact hv, ak.2.closed⟩);refine (h1.rn fr).imp ?_;rintro bR aD aw ⟨bg, ⟨aq, rfl, rfl, b0⟩, rfl⟩;exact ⟨aq, rfl, rfl, bg, b0, rfl⟩
end
section
variable {R : aG} {s : az} {ops : Array Oper} {dr : Option (List Nat)} {ty : Nat} {pos : String} {after : Array Edge} {guard : Option (Nat × Bool)} {K : aG → az → Prop} {rest : List Oper}
theorem mR (k : Nat) (bS : Nat → Nat) {E : List (Int × bU)} {r rm : Nat} {dB s1 : bp.aS an} {v : ah} {dst : Option Nat} {f : FuncId} {g : Operand} {aL : Array TypeId} {l : List Operand} {args : List ah} {cs : List AC} {R0 : aG} [D0 : Enters ag f] (hw : want ops ⟨dst, .call ⟨.value g, l.toArray, aL⟩, ty, pos, after, guard⟩ s = some true) (hm : dL dr ⟨dst, .call ⟨.value g, l.toArray, aL⟩, ty, pos, after, guard⟩ = true)
  (ao : s.look g = some (aM (.func (.func f) #[] #[]))) (aH : l.map s.look = (ah.w (.one (.own k 0)) :: args).map some) (af : s.mem k = some cs) (hg : oN dr k = true) (dW : args.all ah.aV = true) (hd : kC dst s.n = true) (hp : Jl k bS E r rm f args dB v s1) (bh : dm E r rm dB cs R0) (al : bt (R0.aW bS) R)
  (h : ∀ aq bg, dm E r rm s1 aq bg → ct ag ops dr K rest (bJ (bg.aW bS) R) ((s.dT k aq).put dst v)) : ct ag ops dr K (⟨dst, .call ⟨.value g, l.toArray, aL⟩, ty, pos, after, guard⟩ :: rest) R s := by
 refine B6 k hw hm ao aH (hp cs R0 bh) af hg al bh.closed dW hd ?_;rintro _ aq aw ⟨rfl, bg, aJ, rfl⟩;exact h aq bg aJ
end
abbrev two (gb fb : aG) : aG := bJ gb (fb.aW eY)
section
variable {E Aq : List (Int × bU)} {r rm aT rm' : Nat} {s s1 t t1 : bp.aS an} {cs Vg ds E2 : List AC} {gb tY fb o0 : aG}
theorem DG : bt gb (two gb fb) := fun i q h => hk h
theorem Rp (aH : dm E r rm s cs gb) (ab : dm Aq aT rm' t ds fb) : bt (fb.aW eY) (two gb fb) := fun i q h => by
 have hi : 4 ≤ i := Nat.not_lt.1 fun a8 => by
  have : fb (eY i) = none := ab.mi _ (by unfold eY; rw [if_pos (by omega)]; omega);rw [show fb.aW eY i = fb (eY i) from rfl, this] at h; cases h
 rw [show two gb fb i = bJ gb (fb.aW eY) i from rfl, hn (aH.mi i hi)]; exact h
theorem DH (aH : dm E r rm s cs gb) (FR : dm E r rm s1 Vg tY) : bJ tY (two gb fb) = two tY fb := by
 funext i
 by_cases hi : i < 4
 ·obtain ⟨q, ak⟩ := FR.Dz i hi;rw [hk ak, show two tY fb i = bJ tY (fb.aW eY) i from rfl, hk ak]
 ·rw [hn (FR.mi i (by omega)), show two gb fb i = bJ gb (fb.aW eY) i from rfl, show two tY fb i = bJ tY (fb.aW eY) i from rfl, hn (aH.mi i (by omega)), hn (FR.mi i (by omega))]
theorem Rq (aH : dm E r rm s cs gb) (ab : dm Aq aT rm' t ds fb) (c9 : dm Aq aT rm' t1 E2 o0) : bJ (o0.aW eY) (two gb fb) = two gb o0 := by
 funext i
 by_cases hi : i < 4
 ·obtain ⟨q, ak⟩ := aH.Dz i hi;have : o0 (eY i) = none := c9.mi _ (by unfold eY; rw [if_pos (by omega)]; omega);rw [hn (show o0.aW eY i = none from this), show two gb fb i = bJ gb (fb.aW eY) i from rfl, show two gb o0 i = bJ gb (o0.aW eY) i from rfl, hk ak, hk ak]
 ·have au := aH.mi i (by omega);rw [show two gb o0 i = bJ gb (o0.aW eY) i from rfl, hn au]
  by_cases aE : eY i < 4
  ·obtain ⟨q, ak⟩ := c9.Dz _ aE;rw [hk (show o0.aW eY i = some q from ak)]; exact ak.symm
  ·have h1 : o0.aW eY i = none := c9.mi _ (by omega);have h2 : fb.aW eY i = none := ab.mi _ (by omega);rw [hn h1, show two gb fb i = bJ gb (fb.aW eY) i from rfl, hn au, h1, h2]
theorem afR (aH : dm E r rm s cs gb) (ab : dm Aq aT rm' t ds fb) : bJ (fb.aW eY) gb = two gb fb := by
 funext i
 by_cases hi : i < 4
 ·obtain ⟨q, ak⟩ := aH.Dz i hi;have : fb (eY i) = none := ab.mi _ (by unfold eY; rw [if_pos (by omega)]; omega);rw [hn (show fb.aW eY i = none from this), show two gb fb i = bJ gb (fb.aW eY) i from rfl, hk ak, ak]
 ·rw [show two gb fb i = bJ gb (fb.aW eY) i from rfl, hn (aH.mi i (by omega))];cases ak : fb.aW eY i with
  | some q => exact hk ak
  | none => rw [hn ak]; exact aH.mi i (by omega)
end
theorem GZ (k : Nat) {bS : Nat → Nat} (fr : ∀ j, bS (bS j) = j) {E : List (Int × bU)} {K n : Int} (hl : E.length ≤ 300) (h : gi (E.map Prod.snd) = true) : cY ag 28 [jL E, aB K, aB n] bW fO fun bR aD aw => ∃ cs bg, bR = .w (.one (.own k 0)) ∧ aD = cE k cs ∧ aw = bg.aW bS ∧ dm E (c6 K) (dG n) (fj (bu E (c6 K) (dG n))) cs bg := by
 have h1 := (Zq (k := K) (n := n) hl h).aW (mv 24 k) (bS := bS) (ib := bS) fr fr;refine cY.imp (show cY ag 28 [jL E, aB K, aB n] bW fO _ from h1) ?_;rintro bR aD aw ⟨b9, m1, bg, ⟨cs, rfl, rfl, bh⟩, rfl, rfl, rfl⟩;refine ⟨cs, bg, ?_, uT bh.closed, rfl, bh⟩;show ah.w (.one (.own (swp 24 k 24) 0)) = _;rw [zX]
abbrev nt : List (Int × bU) := [(0, (0, 0), (4, 4)), (0, (0, 4), (4, 0))]
abbrev fT (rm : Nat) : cO an := bu nt 0 rm
def p7 : bp.aS an := (eE (fT 9) 3 (fj (fT 9))).2
def sx : bp.aS an := (eE (fT 9) 1000 p7).2
def AQ : bp.aS an := (eE (fT 4) 100 (fj (fT 4))).2
theorem JB : (eE (fT 9) 3 (fj (fT 9))).2 = p7 := by unfold p7; rfl
theorem JC : (eE (fT 9) 1000 p7).2 = sx := by unfold sx; rfl
theorem JD : (eE (fT 4) 100 (fj (fT 4))).2 = AQ := by unfold AQ; rfl
theorem Tq : (eE (fT 9) 3 (fj (fT 9))).1 = 3 := by decide +kernel
theorem Tr : p7.ph = 2 ∧ p7.hot.length = 5 := by decide +kernel
theorem Ts : (eE (fT 9) 1000 p7).1 = 36 := by decide +kernel
theorem Tt : sx.ph = 4 ∧ sx.ch.length = 2 ∧ (sx.ch.map fun c => c.1.length) = [3, 3] ∧ sx.ch[0]? = some ([(0, 0), (2, 2), (4, 4)], [2, 2]) := by decide +kernel
theorem Tu : AQ.ph = 5 := by decide +kernel
section
variable {E : List (Int × bU)} {r rm : Nat}
theorem Ic (h : ie E r rm) {n : Nat} {s : bp.aS an} (bh : mC E r rm s) : mC E r rm (eE (bu E r rm) n s).2 := by
 rw [(Ds n s).1]; exact (Ch h.ok _ bh).1
theorem ie.st (h : ie E r rm) {s : bp.aS an} (bh : mC E r rm s) : s.hot.length ≤ 1024 ∧ s.fnd.length ≤ 1024 ∧ kc s.ch := by
 have ab := bh.1;have aR := h.hot ab;have nil : kc [] := ⟨dA _, fun c aj => by cases aj⟩;refine ⟨aR, ?_⟩;obtain ⟨_, aA | h1 | h2 | h3 | aE | cZ⟩ := bh
 ·rw [aA.fnd, aA.ch]; exact ⟨dA _, nil⟩
 ·rw [h1.fnd, h1.ch]; exact ⟨dA _, nil⟩
 ·obtain ⟨c, p, q, _, _, _, ap⟩ := h2.link;refine ⟨?_, h.vI ab h2.laid⟩;rw [ap];refine h8 (List.length_filter_le ..) ?_;rw [dS]; omega
 ·rw [h3.fnd]; exact ⟨dA _, h.vI ab h3.laid⟩
 ·rw [aE.fnd]; exact ⟨dA _, h.vI ab aE.laid⟩
 ·rw [cZ.fnd];refine ⟨dA _, ?_⟩;rcases cZ.ch with ⟨aj, _⟩ | hl
  ·rw [aj]; exact nil
  ·exact h.vI ab hl
theorem G0 (h : ie E r rm) {s : bp.aS an} (bh : mC E r rm s) : fM E r rm 11 [] s (DM r rm s) s := by
 obtain ⟨a, b, c⟩ := h.st bh;exact Zv (by omega) (by omega) c
end
section
variable {R : aG} {s : az} {ops : Array Oper} {dr : Option (List Nat)} {ty : Nat} {pos : String} {after : Array Edge} {guard : Option (Nat × Bool)} {K : aG → az → Prop} {rest : List Oper}
theorem yP (k : Nat) (bS : Nat → Nat) {E : List (Int × bU)} {r rm : Nat} {dB : bp.aS an} {dst : Option Nat} {f : FuncId} {g : Operand} {aL : Array TypeId} {l : List Operand} {args : List ah} [D0 : Enters ag f] (hw : want ops ⟨dst, .call ⟨.value g, l.toArray, aL⟩, ty, pos, after, guard⟩ s = some true) (hm : dL dr ⟨dst, .call ⟨.value g, l.toArray, aL⟩, ty, pos, after, guard⟩ = true)
  (ao : s.look g = some (aM (.func (.func f) #[] #[]))) (aH : l.map s.look = args.map some) (hp : cY ag f args bW fO fun bR aD aw => ∃ cs bg, bR = .w (.one (.own k 0)) ∧ aD = cE k cs ∧ aw = bg.aW bS ∧ dm E r rm dB cs bg) (af : s.mem k = none) (a8 : Nat.blt k s.n = true) (dW : args.all ah.aV = true) (hd : kC dst s.n = true)
  (h : ∀ cs bg, dm E r rm dB cs bg → ct ag ops dr K rest (bJ (bg.aW bS) R) ((s.dT k cs).put dst (.w (.one (.own k 0))))) : ct ag ops dr K (⟨dst, .call ⟨.value g, l.toArray, aL⟩, ty, pos, after, guard⟩ :: rest) R s := by
 refine uL hw hm ao aH hp (fun x aa j ae => absurd ae (ah.dd (cb.1 dW x aa) j)) (fun k' aq aJ => by cases aJ) (fun fi aT aJ => by cases aJ) (fun k' aq x j aJ aa ae => by cases aJ) hd ?_;rintro bR aD aw ⟨cs, bg, rfl, rfl, rfl, bh⟩;refine ⟨fun k' c aJ => ?_, ?_⟩
 ·obtain ⟨rfl, rfl⟩ := hj aJ;exact .inr ⟨af, by simpa [Nat.blt_eq] using a8⟩
 ·have aN : s.over (cE k cs) = s.dT k cs := by
   show ({ s with mem := bJ (bA bW k cs) s.mem } : az) = { s with mem := bA s.mem k cs };rw [show bJ (bA bW k cs) s.mem = bA s.mem k cs from u3 s.mem k cs]
  rw [aN];exact h cs bg bh
end
theorem CV (R : aG) : bJ R fO = R := by
 funext i;cases h : R i with
 | none => rw [hn h]; rfl
 | some q => exact hk h
abbrev dk : Nat → Nat := fun j => j
theorem nH (j : Nat) : dk (dk j) = j := rfl
theorem xQ (rm : Nat) (h1 : 1 ≤ rm) (h2 : rm ≤ 1024) : ie nt 0 rm := ⟨dA _, by decide, by decide, h1, h2⟩
theorem Tv : uk sx.ch = 2 := by decide +kernel
theorem HS {α β : Type} (x : α × β) {a : α} (h : x.1 = a) : x = (a, x.2) := by subst h; rfl
theorem TM : ∃ dP fc q3 : bp.aS an, eE (fT 9) 3 (fj (fT 9)) = (3, dP) ∧ eE (fT 9) 1000 dP = (36, fc) ∧ eE (fT 4) 100 (fj (fT 4)) = ((eE (fT 4) 100 (fj (fT 4))).1, q3) ∧ mC nt 0 9 dP ∧ mC nt 0 9 fc ∧ mC nt 0 4 q3 ∧ dP.ph = 2 ∧ dP.hot.length = 5 ∧ fc.ph = 4 ∧ fc.ch.length = 2 ∧ fc.ch[0]? = some ([(0, 0), (2, 2), (4, 4)], [2, 2]) ∧ uk fc.ch = 2 ∧ q3.ph = 5 := by
 have i1 : mC nt 0 9 (eE (fT 9) 3 (fj (fT 9))).2 := Ic (n := 3) (s := fj (fT 9)) (xQ 9 (by decide) (by decide)) (uY (fT 9) _);rw [JB] at i1;have i2 : mC nt 0 9 (eE (fT 9) 1000 p7).2 := Ic (n := 1000) (s := p7) (xQ 9 (by decide) (by decide)) i1;rw [JC] at i2;have i3 : mC nt 0 4 (eE (fT 4) 100 (fj (fT 4))).2 := Ic (n := 100) (s := fj (fT 4)) (xQ 4 (by decide) (by decide)) (uY (fT 4) _);rw [JD] at i3;have aF := HS _ Tq;rw [JB] at aF;have aN := HS _ Ts;rw [JC] at aN;have b5 := HS (eE (fT 4) 100 (fj (fT 4))) rfl;rw [JD] at b5;have f1 := Tr;have f2 := Tt;have f3 := Tv;have f4 := Tu;generalize p7 = dP at *;generalize sx = fc at *;generalize AQ = q3 at *;exact ⟨dP, fc, q3, aF, aN, b5, i1, i2, i3, f1.1, f1.2, f2.1, f2.2.1, f2.2.2.2, f3, f4⟩
theorem aci : aC ag 9 [] (bf true) := by
 obtain ⟨dP, fc, q3, b9, cT, e9, i1, i2, i3, f1, f2, f3, f4, f5, f6, f7⟩ := TM;have pS := xQ 9 (by decide) (by decide);have ku := xQ 4 (by decide) (by decide);have qY := GZ 15 (bS := dk) nH (E := nt) (K := 0) (n := 9) (by decide) (by decide);have AB := GZ 27 (bS := eY) Ij (E := nt) (K := 0) (n := 4) (by decide) (by decide);rw [show c6 0 = 0 from by decide, show dG 9 = 9 from by decide] at qY;rw [show c6 0 = 0 from by decide, show dG 4 = 4 from by decide] at AB;have bg := Ck pS (uY _ _) (n := 3) (by decide);have fo := Ck pS i1 (n := 1000) (by decide);have ky := Ck ku (uY _ _) (n := 100) (by decide);rw [show (3 : Int).toNat = 3 from rfl, b9] at bg;rw [show (1000 : Int).toNat = 1000 from rfl, cT] at fo;rw [show (100 : Int).toNat = 100 from rfl, e9] at ky;clear b9 cT e9;have bg := bg.n5 15 (bS := dk) nH rfl rfl;have fo := fo.n5 15 (bS := dk) nH rfl rfl;have ky := ky.n5 27 (bS := eY) Ij rfl rfl;have sv := (G0 pS i1).n5 15 (bS := dk) nH rfl rfl;have xI := (G0 pS i2).n5 15 (bS := dk) nH rfl rfl;have iD := (Nu (E := nt) (r := 0) (rm := 9) (s := fc)).n5 15 (bS := dk) nH rfl rfl;have Ef := (Nu (E := nt) (r := 0) (rm := 4) (s := q3)).n5 27 (bS := eY) Ij rfl rfl;have lr := (Zl (E := nt) (r := 0) (rm := 9) (s := fc) (pS.st i2).2.2).n5 15 (bS := dk) nH rfl rfl;have oX := (G1 pS i2).n5 15 (bS := dk) nH rfl rfl;rw [(xd pS.ok i2).2.2 (by omega), cC (by omega)] at oX;have I5 := acb (k := (0 : Nat)) (rm := (9 : Nat)) (ph := fc.ph) (I := fc.I) (J := fc.J) (T := fc.T) (dirty := fc.dirty) (hot := fc.hot) (fnd := fc.fnd) (ch := fc.ch) (by have := (pS.st i2).1; omega) (by have := (pS.st i2).2.1; omega) (pS.st i2).2.2;have agr := aca (k := (0 : Nat)) (rm := (9 : Nat)) (ph := dP.ph) (I := dP.I) (J := dP.J) (T := dP.T) (dirty := dP.dirty) (hot := dP.hot) (fnd := dP.fnd) (ch := dP.ch) (k' := (0 : Nat)) (rm' := (9 : Nat)) (ph' := fc.ph) (I' := fc.I) (J' := fc.J) (T' := fc.T) (dirty' := fc.dirty) (hot' := fc.hot) (fnd' := fc.fnd) (ch' := fc.ch) (by rw [f1, f3]; unfold ul; simp);rw [f6] at lr;have g1 : (dP.ph : Int) = 2 := by rw [f1]; rfl
 have g2 : (dP.hot.length : Int) = 5 := by rw [f2]; rfl
 have g3 : (fc.ph : Int) = 4 := by rw [f3]; rfl
 have g4 : (fc.ch.length : Int) = 2 := by rw [f4]; rfl
 have g7 : (q3.ph : Int) = 5 := by rw [f7]; rfl
 have mz := vJ (ii := 0) rfl f5;clear pS ku i1 i2 i3 f1 f2 f3 f4 f6 f7;refine bi (f := 9) Tryz.func9 rfl rfl rfl rfl ?_;refine rb ?_;(refine aZ ?_);refine yP 15 dk rfl rfl rfl rfl qY rfl rfl rfl rfl (fun cs tW bG => ?_);rw [CV];(refine aZ ?_);refine mR 15 dk rfl rfl rfl rfl rfl rfl rfl rfl bg bG (bt.refl _) (fun EW lY gV => ?_);rw [show bJ (aG.aW dk lY) (aG.aW dk tW) = aG.aW dk lY from bG.bJ gV];(refine aZ ?_);refine mR 15 dk rfl rfl rfl rfl rfl rfl rfl rfl sv gV (bt.refl _) (fun KQ tX lU => ?_);rw [show bJ (aG.aW dk tX) (aG.aW dk lY) = aG.aW dk tX from gV.bJ lU];(refine aZ ?_);refine mR 15 dk rfl rfl rfl rfl rfl rfl rfl rfl fo lU (bt.refl _) (fun agU Ej tL => ?_);rw [show bJ (aG.aW dk Ej) (aG.aW dk tX) = aG.aW dk Ej from lU.bJ tL];(refine aZ ?_);refine mR 15 dk rfl rfl rfl rfl rfl rfl rfl rfl xI tL (bt.refl _) (fun agV xC vo => ?_);rw [show bJ (aG.aW dk xC) (aG.aW dk Ej) = aG.aW dk xC from tL.bJ vo];(refine aZ ?_);refine yP 27 eY rfl rfl rfl rfl AB rfl rfl rfl rfl (fun ds Jg bo => ?_);rw [show bJ (aG.aW eY Jg) (aG.aW dk xC) = two xC Jg from afR vo bo];(refine aZ ?_);refine mR 27 eY rfl rfl rfl rfl rfl rfl rfl rfl ky bo (Rp vo bo) (fun E2 vw nh => ?_);rw [Rq vo bo nh];(repeat first | (with_reducible apply ll (id := 13) [0,1,2,3,4,5,6,7,8,9,10,11,12,13,14,15,16,17,18,19,20,21,22,23,24,25,26,27,28,29,30,31,32,33,34,35,36,37,38,39,40,41,42,43,44,45,46,47,48,49,50,51,52,53,54,55,56,57,58,59,60,61,62,63,64,65,66,67,68,69,70,71,72,73,74,75] [51,82,87,92,98,2000015,2000027]); kernel_rfl; kernel_rfl; rfl | refine cF ?_ | (with_reducible apply hX); rfl; (repeat first | refine iB ?_ | (with_reducible apply cc (c := true)); rfl; rfl; (exact ck (by omega))); (with_reducible apply gY));refine mR 15 dk rfl rfl rfl rfl rfl rfl rfl rfl iD vo DG (fun agW Ek DV => ?_);rw [show bJ (aG.aW dk Ek) (two xC vw) = two Ek vw from DH vo DV];(repeat first | refine cF ?_ | (with_reducible apply hX); rfl; (repeat first | refine iB ?_ | (with_reducible apply cc (c := true)); rfl; rfl; (exact ck (by omega))); (with_reducible apply gY));refine mR 15 dk rfl rfl rfl rfl rfl rfl rfl rfl lr DV DG (fun agX El DW => ?_);rw [show bJ (aG.aW dk El) (two Ek vw) = two El vw from DH DV DW];(repeat first | refine cF ?_ | (with_reducible apply hX); rfl; (repeat first | refine iB ?_ | (with_reducible apply cc (c := true)); rfl; rfl; (exact ck (by omega))); (with_reducible apply gY));refine mR 15 dk rfl rfl rfl rfl rfl rfl rfl rfl oX DW DG (fun agY Em xn => ?_);rw [show bJ (aG.aW dk Em) (two El vw) = two Em vw from DH DW xn];(refine aZ ?_);refine mR 27 eY rfl rfl rfl rfl rfl rfl rfl rfl Ef nh (Rp xn nh) (fun VD Jh sf => ?_);rw [Rq xn nh sf];(repeat first | refine cF ?_ | (with_reducible apply hX); rfl; (repeat first | refine iB ?_ | (with_reducible apply cc (c := true)); rfl; rfl; (exact ck (by omega))); (with_reducible apply gY));refine mR 15 dk rfl rfl rfl rfl rfl rfl rfl rfl xI xn DG (fun agZ Jf RP => ?_);rw [show bJ (aG.aW dk Jf) (two Em Jh) = two Jf Jh from DH xn RP];(refine mx ?_)
 ((refine ba rfl (a6 rfl aK) ?_))
 exact ah.aQ.refl _
theorem acF {E : List (Int × bU)} : aC ag 7 [jL E] (bf (decide ((E.length : Int) ≤ 7))) := by
 refine bi (f := 7) Tryz.func7 rfl rfl rfl rfl ?_;(refine fl ?_)
 ((refine ba rfl (a6 rfl aK) ?_))
 exact ah.aQ.refl _
def mh (n room : Int) : Int := 8 * (lj room + 2) * (n * lj room + 1) * (n * lj room + 1)
theorem Oc {n R : Int} (aA : 0 ≤ n) (js : n ≤ 7) (h1 : 1 ≤ R) (h2 : R ≤ 1024) : (0 ≤ n * R ∧ n * R ≤ 7168) ∧ (0 ≤ 8 * (R + 2) * (n * R + 1) ∧ 8 * (R + 2) * (n * R + 1) ≤ 58843152) ∧ (0 ≤ 8 * (R + 2) * (n * R + 1) * (n * R + 1) ∧ 8 * (R + 2) * (n * R + 1) * (n * R + 1) ≤ 421846556688) := by
 have a1 : 0 ≤ n * R := fD aA (by omega);have a2 : n * R ≤ 7 * 1024 := r5 js h2 (by omega) (by omega);have b1 : 0 ≤ 8 * (R + 2) * (n * R + 1) := fD (by omega) (by omega);have b2 : 8 * (R + 2) * (n * R + 1) ≤ 8208 * 7169 := r5 (by omega) (by omega) (by omega) (by omega);have c1 : 0 ≤ 8 * (R + 2) * (n * R + 1) * (n * R + 1) := fD b1 (by omega);have c2 : 8 * (R + 2) * (n * R + 1) * (n * R + 1) ≤ (8208 * 7169) * 7169 := r5 b2 (by omega) (by omega) (by omega);exact ⟨⟨a1, by omega⟩, ⟨b1, by omega⟩, c1, by omega⟩
theorem aeg (n : Int) : lj n = if 1024 < (if 1 > n then 1 else n) then 1024 else (if 1 > n then 1 else n) := by unfold lj; (repeat split) <;> omega
theorem Ob {n room : Int} (aA : 0 ≤ n) (js : n ≤ 7) : 0 ≤ mh n room ∧ mh n room ≤ 421846556688 := by
 have h := Oc aA js (R := lj room) (by unfold lj; (repeat split) <;> omega) (by unfold lj; (repeat split) <;> omega);exact h.2.2
theorem acV {n room : Int} (aA : 0 ≤ n) (js : n ≤ 7) : aC ag 33 [aB n, aB room] (aB (mh n room)) := by
 unfold mh;rw [aeg];obtain ⟨⟨a1, a2⟩, ⟨b1, b2⟩, c1, c2⟩ := Oc aA js (R := if 1024 < (if 1 > room then 1 else room) then 1024 else (if 1 > room then 1 else room)) (by (repeat split) <;> omega) (by (repeat split) <;> omega);have b9 : 1 ≤ (if 1024 < (if 1 > room then 1 else room) then 1024 else (if 1 > room then 1 else room)) := by (repeat split) <;> omega
 have cT : (if 1024 < (if 1 > room then 1 else room) then 1024 else (if 1 > room then 1 else room)) ≤ 1024 := by (repeat split) <;> omega
 refine bi (f := 33) Tryz.func33 rfl rfl rfl rfl ?_;(refine fl ?_)
 ((refine ba rfl (a6 rfl aK) ?_))
 exact ah.aQ.refl _
def SL (E : List (Int × bU)) (k : Nat) (R : aG) (aL : List (Nat × ah)) (bj : List (Nat × List AC)) : Prop :=
 ∃ (i : Nat) (ii : Int) (v : Value), i ≤ E.length ∧ k = E.length - i ∧ ii = i ∧ R = bw 0 ⟨68, 5, v, i, pe (E.take i)⟩ ∧ bj = [] ∧ aL = [(3, aM v), (6, jL E), (7, aB E.length), (8, aB ii)]
theorem ab6 {E : List (Int × bU)} (al : E.length ≤ 900000) : aC ag 32 [jL E] (jL E) := by
 refine bi (f := 32) Tryz.func32 rfl rfl rfl rfl ?_;refine rb ?_;refine Ih ?_;(refine aZ ?_);refine nS 0 68 5 rfl ?_
 skip
 refine j7 18 (SL E) E.length (bw 0 ⟨68, 5, .slice none 0 0, 0, []⟩) _ [] ⟨0, 0, .slice none 0 0, dA _, rfl, rfl, rfl, rfl, rfl⟩ (ms _ _ _) rfl ⟨rfl, rfl, rfl, rfl, trivial⟩ trivial rfl ?_;rintro n R aL bj ⟨i, ii, v, hi, rfl, hc, rfl, rfl, rfl⟩ c3;clear c3
 by_cases ak : i < E.length
 ·have q2 : ii < (E.length : Int) := by omega
  have bE : 0 ≤ ii := by omega
  obtain ⟨o, a, b, c, d, g1⟩ : ∃ o a b c d, E[i]? = some (o, (a, b), (c, d)) := ⟨_, _, _, _, _, bQ ak⟩;have mz := vP hc g1
  have b5 : pe (E.take (i + 1)) = pe (E.take i) ++ [.c (.int .i64 a), .c (.int .i64 b), .c (.int .i64 c), .c (.int .i64 d), .c (.int .i64 o)] := by
   rw [nO ak, (bF.1 g1).2]; simp [pe, Bf]
  (refine aZ ?_);refine qs 0 rfl rfl rfl rfl ?q1 ?q2 rfl rfl (fun v1 hZ => ?_)
  case q1 => exact kL (by show i + 1 ≤ 1000000; omega)
  case q2 => show (i + 1) * 40 ≤ 140737488355328; omega
  (refine aZ ?_);refine ⟨E.length - (i + 1), bw 0 ⟨68, 5, v1, i + 1, pe (E.take (i + 1))⟩, _, [], by omega, ⟨i + 1, ii + 1, v1, ak, rfl, by omega, rfl, rfl, rfl⟩, ?_, rfl, ⟨rfl, rfl, rfl, rfl, trivial⟩, trivial, rfl⟩;rw [b5];exact ms _ _ _
 ·have q2 : ¬ ii < (E.length : Int) := by omega
  have cW : i = E.length := by omega
  subst cW;rw [List.take_length];refine zN 0 3 ⟨68, 5, v, E.length, pe E⟩ rfl rfl ?_;(refine aZ ?_)
  ((refine ba rfl (a6 rfl aK) ?_))
  exact ah.aQ.refl _
def SV (E : List (Int × bU)) (k : Nat) (aL : List (Nat × ah)) (bj : List (Nat × List AC)) : Prop :=
 ∃ (i : Nat) (ii : Int), i ≤ E.length ∧ k = E.length - i ∧ ii = i ∧ gi (E.map Prod.snd) = gi ((E.drop i).map Prod.snd) ∧ bj = [] ∧ aL = [(0, jL E), (3, aB ii)]
theorem Oz {a b : Int} : gj (a, b) = true ↔ b7 a b = true ∧ a ≠ 134217728 ∧ b ≠ 134217728 := by
 rw [rW];unfold b7;simp only [dx, ca];omega
theorem ab9 {E : List (Int × bU)} (al : E.length ≤ 4611686018427387904) : aC ag 8 [jL E] (bf (gi (E.map Prod.snd))) := by
 refine bi (f := 8) Tryz.func8 rfl rfl rfl rfl ?_;(refine fl ?_);refine sD 60 (SV E) E.length _ [] ⟨0, 0, dA _, rfl, rfl, rfl, rfl, rfl⟩ rfl ⟨rfl, rfl, trivial⟩ trivial rfl ?_;rintro n aL bj ⟨j, en, ae, rfl, og, gg, rfl, rfl⟩ c3;clear c3
 by_cases hp : j < E.length
 ·have p2 : en < (E.length : Int) := by omega
  have p3 : 0 ≤ en := by omega
  obtain ⟨o, a, b, c, d, g1⟩ : ∃ o a b c d, E[j]? = some (o, (a, b), (c, d)) := ⟨_, _, _, _, _, bQ hp⟩;have mz := vP og g1;have hd : E.drop j = (o, (a, b), (c, d)) :: E.drop (j + 1) := by rw [ml hp, (bF.1 g1).2]
  have e : gi ((E.drop j).map Prod.snd) = ((gj (a, b) && gj (c, d)) && gi ((E.drop (j + 1)).map Prod.snd)) := by rw [hd]; rfl
  rw [e] at gg;have yF := Oz (a := a) (b := b);have rE := Oz (a := c) (b := d);have CK : gj (a, b) = false → gi (E.map Prod.snd) = false := fun h => by rw [gg, h]; rfl
  have CL : gj (c, d) = false → gi (E.map Prod.snd) = false := fun h => by rw [gg, h, Bool.and_false]; rfl
  cases dV : b7 a b with
  | false =>
   have aU := tq dV;have gg := CK (Bool.eq_false_iff.2 fun h => by have := yF.1 h; rw [dV] at this; exact absurd this.1 (by decide));rw [gg];(repeat first | refine ec ?_ | refine lp aU ?_)
   ((refine ba rfl (a6 rfl aK) ?_))
   exact ah.aQ.refl _
  | true =>
   have aU := tq dV;cases kF : b7 c d with
   | false =>
    have bD := tq kF;have gg := CL (Bool.eq_false_iff.2 fun h => by have := rE.1 h; rw [kF] at this; exact absurd this.1 (by decide));rw [gg];(repeat first | refine ec ?_ | refine lp aU ?_ | refine lp bD ?_)
    ((refine ba rfl (a6 rfl aK) ?_))
    exact ah.aQ.refl _
   | true =>
    have bD := tq kF
    by_cases aH : a = 134217728
    ·have gg := CK (Bool.eq_false_iff.2 fun h => by have := yF.1 h; omega);rw [gg];(repeat first | refine ec ?_ | refine lp aU ?_ | refine lp bD ?_ | (with_reducible apply cc (c := true)); rfl; rfl; (exact ck (by omega)))
     ((refine ba rfl (a6 rfl aK) ?_))
     exact ah.aQ.refl _
    by_cases ab : b = 134217728
    ·have gg := CK (Bool.eq_false_iff.2 fun h => by have := yF.1 h; omega);rw [gg];(repeat first | refine ec ?_ | refine lp aU ?_ | refine lp bD ?_ | (with_reducible apply cc (c := true)); rfl; rfl; (exact ck (by omega)) | (with_reducible apply cc (c := false)); rfl; rfl; (exact cC (by omega)))
     ((refine ba rfl (a6 rfl aK) ?_))
     exact ah.aQ.refl _
    by_cases aj : c = 134217728
    ·have gg := CL (Bool.eq_false_iff.2 fun h => by have := rE.1 h; omega);rw [gg];(repeat first | refine ec ?_ | refine lp aU ?_ | refine lp bD ?_ | (with_reducible apply cc (c := true)); rfl; rfl; (exact ck (by omega)) | (with_reducible apply cc (c := false)); rfl; rfl; (exact cC (by omega)))
     ((refine ba rfl (a6 rfl aK) ?_))
     exact ah.aQ.refl _
    by_cases wh : d = 134217728
    ·have gg := CL (Bool.eq_false_iff.2 fun h => by have := rE.1 h; omega);rw [gg];(repeat first | refine ec ?_ | refine lp aU ?_ | refine lp bD ?_ | (with_reducible apply cc (c := false)); rfl; rfl; (exact cC (by omega)))
     ((refine ba rfl (a6 rfl aK) ?_))
     exact ah.aQ.refl _
    rw [yF.2 ⟨dV, aH, ab⟩, rE.2 ⟨kF, aj, wh⟩, mq, mq] at gg;clear CK CL yF rE;(repeat first | refine ec ?_ | refine lp aU ?_ | refine lp bD ?_ | (with_reducible apply cc (c := false)); rfl; rfl; (exact cC (by omega)));exact ⟨E.length - (j + 1), _, [], by omega, ⟨j + 1, en + 1, hp, rfl, by omega, gg, rfl, rfl⟩, rfl, ⟨rfl, rfl, trivial⟩, trivial, rfl⟩
 ·have p2 : ¬ en < (E.length : Int) := by omega
  rw [tA (by omega)] at gg;rw [gg];(refine fl ?_)
  ((refine ba rfl (a6 rfl aK) ?_))
  exact ah.aQ.refl _
def xF (k : Nat) (bS : Nat → Nat) (E : List (Int × bU)) (r rm : Nat) (f : FuncId) (args : List ah) (dB : bp.aS an) : Prop :=
 cY ag f args bW fO fun bR aD aw => ∃ cs bg, bR = .w (.one (.own k 0)) ∧ aD = cE k cs ∧ aw = bg.aW bS ∧ dm E r rm dB cs bg
theorem xF.tO9 {fX : Nat} {E : List (Int × bU)} {r rm : Nat} {f : FuncId} {args : List ah} {dB : bp.aS an} (h : xF fX dk E r rm f args dB) (dW : args.all ah.aV = true) (k : Nat) {bS : Nat → Nat} (fr : ∀ j, bS (bS j) = j) : xF k bS E r rm f args dB := by
 have h1 := cY.aW (bx := swp fX k) (mv fX k) (bS := bS) (ib := bS) fr fr h
 have aN : args.map (ah.aW (swp fX k)) = args := by
  conv => rhs; rw [← List.map_id args]
  exact oI fun x aa => tE (cb.1 dW x aa)
 rw [aN] at h1;refine cY.imp (show cY ag f args bW fO _ from h1) ?_;rintro bR aD aw ⟨b9, m1, bg, ⟨cs, fo, rfl, rfl, rfl, bh⟩, rfl, rfl, rfl⟩;refine ⟨cs, fo, ?_, uT bh.closed, rfl, bh⟩;show ah.w (.one (.own (swp fX k fX) 0)) = _;rw [zX]
theorem Ns {o : cO an} {ok : Nat → List an × List Int → Prop} (af : ke o ok) : ∀ (n : Nat) {s : bp.aS an}, hP o ok s → 4 ≤ s.ph → lc o n s = s
 | 0, s, _, _ => rfl
 | n + 1, s, h, aE => by
  have e := (xd af h).2.2 aE;show lc o n (eJ o s) = s;rw [e]; exact Ns af n h aE
theorem run_eq {o : cO an} {ok : Nat → List an × List Int → Prop} (af : ke o ok) (n : Nat) {s : bp.aS an} (h : hP o ok s) : (eE o n s).2 = lc o n s := by
 obtain ⟨h1, h2, h3⟩ := Ds (o := o) n s
 by_cases aj : (eE o n s).1 < n
 ·have aE := h3 aj;have e : n = (eE o n s).1 + (n - (eE o n s).1) := by omega
  have hi := (Ch af (eE o n s).1 h).1;rw [h1] at aE ⊢
  conv => rhs; rw [e, Nr]
  exact (Ns af _ hi aE).symm
 ·have e : (eE o n s).1 = n := by omega
  rw [h1, e]
section
variable {E : List (Int × bU)} {k room : Int}
def qW (E : List (Int × bU)) (k room : Int) : bp.aS an := lc (bu E (c6 k) (dG room)) (mh E.length room).toNat (fj (bu E (c6 k) (dG room)))
theorem IJ (h : gi (E.map Prod.snd) = true) (hl : E.length ≤ 7) : mC E (c6 k) (dG room) (qW E k room) ∧ 4 ≤ (qW E k room).ph ∧ (eE (bu E (c6 k) (dG room)) (mh E.length room).toNat (fj (bu E (c6 k) (dG room)))).2 = qW E k room ∧ ((eE (bu E (c6 k) (dG room)) (mh E.length room).toNat (fj (bu E (c6 k) (dG room)))).1 : Int) ≤ mh E.length room := by
 have hw : ie E (c6 k) (dG room) := H7 h (by omega);have ar : (bu E (c6 k) (dG room)).R = dG room := rfl;have au := ie.n E (c6 k) (dG room);have ab := Ob (n := E.length) (room := room) (by omega) (by omega)
 have hm : 8 * ((bu E (c6 k) (dG room)).R + 2) * (((bu E (c6 k) (dG room)).n * (bu E (c6 k) (dG room)).R + 1) * ((bu E (c6 k) (dG room)).n * (bu E (c6 k) (dG room)).R + 1)) ≤ (mh E.length room).toNat := by
  rw [ar, au]
  have e : ((8 * (dG room + 2) * ((E.length * dG room + 1) * (E.length * dG room + 1)) : Nat) : Int) = mh E.length room := by
   unfold mh;rw [← H9 room]
   push_cast
   rw [jl (8 * ((dG room : Int) + 2)), show ((dG room : Int) + 1 + 1) = (dG room : Int) + 2 by omega]
  omega
 have he := VZ hw.ok (by rw [ar]; exact hw.pos) hm;refine ⟨he.1, ?_, run_eq hw.ok _ (uY _ _), ?_⟩
 ·unfold qW;rcases he.2 with aE | cZ
  ·rw [aE.ph]; decide
  ·rw [cZ.ph]; decide
 ·have := (Ds (o := bu E (c6 k) (dG room)) (mh E.length room).toNat (fj (bu E (c6 k) (dG room)))).2.1;omega
theorem ZI (h : gi (E.map Prod.snd) = true) (hl : E.length ≤ 7) : xF 12 dk E (c6 k) (dG room) 10 [jL E, aB k, aB room] (qW E k room) := by
 obtain ⟨i1, aE, aF, aN⟩ := IJ (k := k) (room := room) h hl;have hw : ie E (c6 k) (dG room) := H7 h (by omega);have qY := GZ 12 (bS := dk) nH (E := E) (K := k) (n := room) (by omega) h;have aU := ab6 (E := E) (by omega);have bD := acV (n := E.length) (room := room) (by omega) (by omega);have ab := Ob (n := E.length) (room := room) (by omega) (by omega);have bg := Ck hw (uY _ _) (n := mh E.length room) (by omega);have nm := G1 hw i1;rw [(xd hw.ok i1).2.2 aE, cC (by omega)] at nm;rw [aF] at bg;generalize (eE (bu E (c6 k) (dG room)) (mh E.length room).toNat (fj (bu E (c6 k) (dG room)))).1 = did at *;generalize qW E k room = dP at *;generalize fj (bu E (c6 k) (dG room)) = Ep at *;clear aF;generalize mh E.length room = M at *;have aht : ¬ (did : Int) > M := by omega
 have bg := bg.n5 12 (bS := dk) nH rfl rfl;have nm := nm.n5 12 (bS := dk) nH rfl rfl;refine de (f := 10) Tryz.func10 rfl (db rfl) (by exact nu) ?_;(refine mx ?_);refine yP 12 dk rfl rfl rfl rfl qY rfl rfl rfl rfl (fun cs tW bG => ?_);rw [CV];(refine mx ?_);refine mR 12 dk rfl rfl rfl rfl rfl rfl rfl rfl bg bG (bt.refl _) (fun EW lY gV => ?_);rw [show bJ (aG.aW dk lY) (aG.aW dk tW) = aG.aW dk lY from bG.bJ gV];(repeat first | refine cF ?_ | (with_reducible apply hX); rfl; (repeat first | refine iB ?_ | refine gF ?_ | (with_reducible apply cc (c := false)); rfl; rfl; (exact cC (by omega))); (with_reducible apply gY));refine mR 12 dk rfl rfl rfl rfl rfl rfl rfl rfl nm gV (bt.refl _) (fun KQ tX lU => ?_);rw [show bJ (aG.aW dk tX) (aG.aW dk lY) = aG.aW dk tX from gV.bJ lU];(refine aZ ?_)
 ((refine BR 12 rfl (a6 rfl aK) rfl (bt.refl _) lU.closed rfl ?_))
 exact ⟨KQ, tX, rfl, rfl, rfl, lU⟩
theorem ZH (h : gi (E.map Prod.snd) = true) (hl : E.length ≤ 7) (j : Nat) {bS : Nat → Nat} (fr : ∀ j, bS (bS j) = j) : xF j bS E (c6 k) (dG room) 10 [jL E, aB k, aB room] (qW E k room) := (ZI h hl).tO9 rfl j fr
end
theorem VY {E : List (Int × bU)} {k room : Int} (h : gi (E.map Prod.snd) = true) (hl : E.length ≤ 7) : xy (bu E (c6 k) (dG room)) (u1 (E.map Prod.snd) (c6 k)) (qW E k room) ∨ Ay (bu E (c6 k) (dG room)) (u1 (E.map Prod.snd) (c6 k)) (qW E k room) := by
 obtain ⟨i1, aE, _, _⟩ := IJ (k := k) (room := room) h hl;exact Lj i1 aE
section
variable {E : List (Int × bU)} {r rm : Nat}
abbrev stM (r rm : Nat) (s : bp.aS an) : List AC := Ro r rm s.ph s.I s.J s.T s.dirty s.hot s.fnd s.ch
abbrev sE (V : List an) (D : List Int) : List AC := [.p (cl 2 V.length (bL V)), .p (cl 1 D.length (cu D))]
def RR (r rm : Nat) (S : bp.aS an) (R0 : aG) (n : Nat) (R : aG) (aL : List (Nat × ah)) (bj : List (Nat × List AC)) : Prop :=
 ∃ (i : Nat) (ii : Int), i ≤ S.ch.length ∧ n = S.ch.length - i ∧ ii = i ∧ R = R0 ∧ aL = [(8, .w (.one (.own 8 0))), (38, oP S.ch), (39, aB S.ch.length), (40, aB ii)] ∧ bj = [(8, stM r rm S)]
def RS (r rm : Nat) (S : bp.aS an) (R0 : aG) (V : List an) (D : List Int) (ii : Int) (n : Nat) (R : aG) (aL : List (Nat × ah)) (bj : List (Nat × List AC)) : Prop :=
 ∃ (j : Nat) (en : Int), j ≤ D.length ∧ n = D.length - j ∧ en = j ∧ R = R0 ∧ aL = [(8, .w (.one (.own 8 0))), (38, oP S.ch), (39, aB S.ch.length), (40, aB ii), (10, .w (.one (.own 10 0))), (45, mw D), (46, aB D.length), (47, aB en)] ∧ bj = [(8, stM r rm S), (10, sE V D)]
def RT (r rm : Nat) (S : bp.aS an) (R0 : aG) (V : List an) (D : List Int) (ii en p1 p2 q1 q2 : Int) (n : Nat) (R : aG) (aL : List (Nat × ah)) (bj : List (Nat × List AC)) : Prop :=
 ∃ (t : Nat) (tt : Int), t ≤ S.hot.length ∧ n = S.hot.length - t ∧ tt = t ∧ R = R0 ∧ aL = [(8, .w (.one (.own 8 0))), (38, oP S.ch), (39, aB S.ch.length), (40, aB ii), (10, .w (.one (.own 10 0))), (45, mw D), (46, aB D.length), (47, aB en), (12, .w (.one (.own 12 0))), (13, .w (.one (.own 13 0))), (62, gT S.hot), (63, aB S.hot.length), (64, aB tt)] ∧ bj = [(8, stM r rm S), (10, sE V D), (12, mU p1 p2), (13, mU q1 q2)]
theorem Nb {r : Nat} {x y : Int} (h : er r x y = true) : (-9223372036854775808 ≤ x ∧ x ≤ 9223372036854775807) ∧ -9223372036854775808 ≤ y ∧ y ≤ 9223372036854775807 := by
 have hd : (134217728 : Int) / 2 ^ r ≤ 134217728 := Int.ediv_le_self _ (by decide);unfold er wi at h;simp only [dx, ca] at h;omega
theorem ZV {E : List (Int × bU)} {k room : Int} : aC ag 3 [jL E, aB k, aB room] (bf true) := by
 have aU := acF (E := E);have ni := aci
 by_cases hl : (E.length : Int) ≤ 7
 case neg =>
  rw [cC hl] at aU;refine bi (f := 3) Tryz.func3 rfl rfl rfl rfl ?_;(refine bZ ?_)
  ((refine ba rfl (a6 rfl aK) ?_))
  exact ah.aQ.refl _
 rw [ck hl] at aU;have bD := ab9 (E := E) (by omega);cases au : gi (E.map Prod.snd) with
 | false =>
  rw [au] at bD;refine bi (f := 3) Tryz.func3 rfl rfl rfl rfl ?_;(refine bZ ?_)
  ((refine ba rfl (a6 rfl aK) ?_))
  exact ah.aQ.refl _
 | true =>
  rw [au] at bD;have gX := ZH (k := k) (room := room) au (by omega) 28 (bS := dk) nH;obtain ⟨i1, _, _, _⟩ := IJ (k := k) (room := room) au (by omega);have hw : ie E (c6 k) (dG room) := H7 au (by omega);have sv := (G0 hw i1).n5 28 (bS := dk) nH rfl rfl;have ap := VY (k := k) (room := room) au (by omega);have iP := hw.st i1;generalize qW E k room = dP at *
  by_cases p1 : (dP.ph : Int) = 4
  case neg =>
   refine bi (f := 3) Tryz.func3 rfl rfl rfl rfl ?_;refine rb ?_;(refine mx ?_);refine yP 28 dk rfl rfl rfl rfl gX rfl rfl rfl rfl (fun cs tW bG => ?_);rw [CV];(refine aZ ?_);refine mR 28 dk rfl rfl rfl rfl rfl rfl rfl rfl sv bG (bt.refl _) (fun EW lY gV => ?_);rw [show bJ (aG.aW dk lY) (aG.aW dk tW) = aG.aW dk lY from bG.bJ gV];(refine mx ?_)
   ((refine ba rfl (a6 rfl aK) ?_))
   exact ah.aQ.refl _
  have aE : xy (bu E (c6 k) (dG room)) (u1 (E.map Prod.snd) (c6 k)) dP := by
   rcases ap with h | h
   ·exact h
   ·rw [h.ph] at p1; exact absurd p1 (by decide)
  obtain ⟨s1, s2, bM, bN⟩ := iP;have cA := hw.r;have F6 := i1.1.gv;have k9 := hw.room;refine bi (f := 3) Tryz.func3 rfl rfl rfl rfl ?_;refine rb ?_;(refine mx ?_);refine yP 28 dk rfl rfl rfl rfl gX rfl rfl rfl rfl (fun cs tW bG => ?_);rw [CV];(refine aZ ?_);refine mR 28 dk rfl rfl rfl rfl rfl rfl rfl rfl sv bG (bt.refl _) (fun EW lY gV => ?_);rw [show bJ (aG.aW dk lY) (aG.aW dk tW) = aG.aW dk lY from bG.bJ gV];(refine aZ ?_);refine j7 94 (RR (c6 k) (dG room) dP lY) dP.ch.length lY _ [(8, stM (c6 k) (dG room) dP)] ⟨0, 0, dA _, rfl, rfl, rfl, rfl, rfl⟩ (bt.refl _) rfl ⟨rfl, rfl, rfl, rfl, trivial⟩ ⟨rfl, trivial⟩ rfl ?_;rintro n R aL bj ⟨i, ii, hi, rfl, hc, rfl, rfl, rfl⟩ c3;clear c3
  by_cases ak : i < dP.ch.length
  case neg =>
   have q2 : ¬ ii < (dP.ch.length : Int) := by omega
   (refine mx ?_)
   ((refine ba rfl (a6 rfl aK) ?_))
   exact ah.aQ.refl _
  obtain ⟨V, D, g1⟩ : ∃ V D, dP.ch[i]? = some (V, D) := ⟨_, _, bQ ak⟩;obtain ⟨hG, gH⟩ := bN _ (c5 g1);simp only at hG gH;have mz := vJ hc g1;have q2 : ii < (dP.ch.length : Int) := by omega
  have bE : 0 ≤ ii := by omega
  (refine aZ ?_);refine j7 94 (RS (c6 k) (dG room) dP R V D ii) D.length R _ [(8, stM (c6 k) (dG room) dP), (10, sE V D)] ⟨0, 0, dA _, rfl, rfl, rfl, rfl, rfl⟩ (bt.refl _) rfl ⟨rfl, rfl, rfl, rfl, rfl, rfl, rfl, rfl, trivial⟩ ⟨rfl, rfl, trivial⟩ rfl ?_;rintro n R aL bj ⟨j, en, ae, rfl, og, rfl, rfl, rfl⟩ c3;clear c3
  by_cases al : j < D.length
  case neg =>
   have cT : ¬ en < (D.length : Int) := by omega
   (refine aZ ?_);exact ⟨dP.ch.length - (i + 1), R, _, [(8, stM (c6 k) (dG room) dP)], by omega, ⟨i + 1, ii + 1, by omega, rfl, by omega, rfl, rfl, rfl⟩, bt.refl _, rfl, ⟨rfl, rfl, rfl, rfl, trivial⟩, ⟨rfl, trivial⟩, rfl⟩
  obtain ⟨pD, pE, g2⟩ : ∃ a b, V[j]? = some (a, b) := ⟨_, _, bQ (by omega)⟩;obtain ⟨pG, pH, g3⟩ : ∃ a b, V[j + 1]? = some (a, b) := ⟨_, _, bQ (by omega)⟩;have si := qt og g2;have Sk := qt (show en + 1 = ((j + 1 : Nat) : Int) by omega) g3;have cT : en < (D.length : Int) := by omega
  have e9 : 0 ≤ en := by omega
  have j5 : en < (V.length : Int) := by omega
  have zA : en + 1 < (V.length : Int) := by omega
  have cK : ((pD, pE), (pG, pH)) ∈ aX dP.ch := List.mem_flatMap.2 ⟨_, c5 g1, NP g2 g3⟩;obtain ⟨_, mN, oj⟩ := zf hw.ok aE.laid cK;have LV := F6 _ mN;have Wz := F6 _ oj;have Ix := aE.Ix _ cK;(repeat first | (with_reducible apply dj (id := 15) [11,12,0,1,2,3,4,5,6,7,8,9,10,13,14]); kernel_rfl; kernel_rfl; rfl | refine cF ?_);refine j7 94 (RT (c6 k) (dG room) dP R V D ii en pD pE pG pH) dP.hot.length R _ [(8, stM (c6 k) (dG room) dP), (10, sE V D), (12, mU pD pE), (13, mU pG pH)] ⟨0, 0, dA _, rfl, rfl, rfl, rfl, rfl⟩ (bt.refl _) rfl ⟨rfl, rfl, rfl, rfl, rfl, rfl, rfl, rfl, rfl, rfl, rfl, rfl, rfl, trivial⟩ ⟨rfl, rfl, rfl, rfl, trivial⟩ rfl ?_;rintro n R aL bj ⟨t, tt, ax, rfl, YA, rfl, rfl, rfl⟩ c3;clear c3
  by_cases hu : t < dP.hot.length
  case neg =>
   have cm : ¬ tt < (dP.hot.length : Int) := by omega
   (refine aZ ?_);exact ⟨D.length - (j + 1), R, _, [(8, stM (c6 k) (dG room) dP), (10, sE V D)], by omega, ⟨j + 1, en + 1, by omega, rfl, by omega, rfl, rfl, rfl⟩, bt.refl _, rfl, ⟨rfl, rfl, rfl, rfl, rfl, rfl, rfl, rfl, trivial⟩, ⟨rfl, rfl, trivial⟩, rfl⟩
  obtain ⟨b8, cp, g4⟩ : ∃ a b, dP.hot[t]? = some (a, b) := ⟨_, _, bQ hu⟩;have ago := qt YA g4;have cm : tt < (dP.hot.length : Int) := by omega
  have iW : 0 ≤ tt := by omega
  have aa := Ix _ (c5 g4);have Fy := F6 _ (c5 g4);have ar : fS ((c6 k : Nat) : Int) (c6 k) := ⟨cA, .inr (.inr rfl)⟩;have agm := pF (x := pD) (y := pE) ar LV;have agn := pF (x := pG) (y := pH) ar Wz;have agO := (wI (c6 k) b8 cp).1 Fy;have Sv := abU (a1 := 2 ^ c6 k * pD) (a2 := 2 ^ c6 k * pE) (b1 := 2 ^ c6 k * pG) (b2 := 2 ^ c6 k * pH) (q1 := b8) (q2 := cp) (k := ((c6 k : Nat) : Int)) (by omega) (Nb Fy).1 (Nb Fy).2
  have fin : ∀ b1 b2 : Bool, dI b8 cp pD pE = b1 → dI b8 cp pG pH = b2 → (b1 = true ∨ (b1 = false ∧ b2 = true) ∨ (b1 = false ∧ b2 = false ∧ nA (2 ^ c6 k * pD) (2 ^ c6 k * pE) (2 ^ c6 k * pG) (2 ^ c6 k * pH) b8 cp ((c6 k : Nat) : Int) = false)) := fun b1 b2 aF aN => by
   cases b1 with
   | true => exact .inl rfl
   | false =>
    cases b2 with
    | true => exact .inr (.inl ⟨rfl, rfl⟩)
    | false =>
     refine .inr (.inr ⟨rfl, rfl, ?_⟩);have dY : ((b8, cp) : an) ≠ (pD, pE) := fun e => by rw [pd.2 (Prod.mk.inj e)] at aF; cases aF
     have et : ((b8, cp) : an) ≠ (pG, pH) := fun e => by rw [pd.2 (Prod.mk.inj e)] at aN; cases aN
     unfold iI at aa;rw [ck dY, ck et, mq, mq] at aa;exact aa
  rcases fin _ _ rfl rfl with aF | ⟨aF, aN⟩ | ⟨aF, aN, b5⟩
  ·(repeat first | (with_reducible apply dj (id := 19) [0,1,2,3,4,5,6,7,8,9,10,11,12,13,14,15,16,17,18,19,20,21]); kernel_rfl; kernel_rfl; rfl | refine cF ?_ | (with_reducible apply hX); rfl; (repeat first | refine iB ?_ | (with_reducible apply cc (c := false)); rfl; rfl; ((simp only [mE]; (omega)))); (with_reducible apply gY));exact ⟨dP.hot.length - (t + 1), R, _, [(8, stM (c6 k) (dG room) dP), (10, sE V D), (12, mU pD pE), (13, mU pG pH)], by omega, ⟨t + 1, tt + 1, by omega, rfl, by omega, rfl, rfl, rfl⟩, bt.refl _, rfl, ⟨rfl, rfl, rfl, rfl, rfl, rfl, rfl, rfl, rfl, rfl, rfl, rfl, rfl, trivial⟩, ⟨rfl, rfl, rfl, rfl, trivial⟩, rfl⟩
  ·(repeat first | (with_reducible apply dj (id := 19) [0,1,2,3,4,5,6,7,8,9,10,11,12,13,14,15,16,17,18,19,20,21]); kernel_rfl; kernel_rfl; rfl | refine cF ?_ | (with_reducible apply hX); rfl; (repeat first | refine iB ?_ | (with_reducible apply cc (c := true)); rfl; rfl; ((simp only [mE]; (omega))) | (with_reducible apply cc (c := false)); rfl; rfl; ((simp only [mE]; (omega)))); (with_reducible apply gY));exact ⟨dP.hot.length - (t + 1), R, _, [(8, stM (c6 k) (dG room) dP), (10, sE V D), (12, mU pD pE), (13, mU pG pH)], by omega, ⟨t + 1, tt + 1, by omega, rfl, by omega, rfl, rfl, rfl⟩, bt.refl _, rfl, ⟨rfl, rfl, rfl, rfl, rfl, rfl, rfl, rfl, rfl, rfl, rfl, rfl, rfl, trivial⟩, ⟨rfl, rfl, rfl, rfl, trivial⟩, rfl⟩
  ·rw [b5] at Sv;(repeat first | (with_reducible apply dj (id := 19) [0,1,2,3,4,5,6,7,8,9,10,11,12,13,14,15,16,17,18,19,20,21]); kernel_rfl; kernel_rfl; rfl | refine cF ?_ | (with_reducible apply hX); rfl; (repeat first | refine iB ?_ | refine gF ?_ | (with_reducible apply cc (c := true)); rfl; rfl; ((simp only [mE]; (omega)))); (with_reducible apply gY));exact ⟨dP.hot.length - (t + 1), R, _, [(8, stM (c6 k) (dG room) dP), (10, sE V D), (12, mU pD pE), (13, mU pG pH)], by omega, ⟨t + 1, tt + 1, by omega, rfl, by omega, rfl, rfl, rfl⟩, bt.refl _, rfl, ⟨rfl, rfl, rfl, rfl, rfl, rfl, rfl, rfl, rfl, rfl, rfl, rfl, rfl, trivial⟩, ⟨rfl, rfl, rfl, rfl, trivial⟩, rfl⟩
end
end Go.Proofs.YtbcecodakfejaaaGreat
namespace Go.Proofs.YtbcecodakfejaaaGreat
theorem Uv (E : List (Int × bp.bU)) (k room : Int) (_ : (E.length : Int) ≤ 9223372036854775807) (_ : -9223372036854775808 ≤ k ∧ k ≤ 9223372036854775807) (_ : -9223372036854775808 ≤ room ∧ room ≤ 9223372036854775807) : aC ag 3 [jL E, aB k, aB room] (bf true) := ZV
end Go.Proofs.YtbcecodakfejaaaGreat
namespace Go.Proofs.YtbcecodakfejaaaGreat
open Go.ChangeShapes Go.WideShapes Go.ChangeAt Go.RowKit Go.Joins
theorem laidOut : laidOutB ag = true := by kernel_rfl
theorem LF : ∀ (L : List (List Int)), (∀ x ∈ L, x.length = 5) → ∃ l : List (Int × bp.bU), l.length = L.length ∧ rq L = pe l
 | [], _ => ⟨[], rfl, rfl⟩
 | x :: L, h => by
  obtain ⟨l, h1, h2⟩ := LF L fun y ai => h y (by simp [ai]);have aa := h x (by simp)
  match x, aa with
  | [a, b, c, d, o], _ =>
   refine ⟨(o, (a, b), (c, d)) :: l, by simp [h1], ?_⟩;show rq ([a, b, c, d, o] :: L) = Bf (o, (a, b), (c, d)) ++ pe l;rw [← h2];unfold rq;rw [List.flatten_cons, List.map_append];rfl
theorem VV {H : Type} {enc : TypeId × Value → H} {P : Program} {W : World} {e : TypeId} {g0 g1 g2 f0 f1 : Field} (he : P.underlying e = some (.struct #[g0, g1, g2])) (ce : P.cellsOf e = 5) (lI : g0.offset = 0) (p1 : g1.offset = 2) (p2 : g2.offset = 4) (d0 : P.cellsOf g0.type = 2) (ax : g1.type = g0.type) (d2 : P.cellsOf g2.type = 1) (bC : P.underlying g2.type = some (.int .i64))
  (ao : P.underlying g0.type = some (.struct #[f0, f1])) (CQ : f0.offset = 0) (o1 : f1.offset = 1) (gr : P.cellsOf f0.type = 1) (c1 : P.cellsOf f1.type = 1) (fX : P.underlying f0.type = some (.int .i64)) (bd : P.underlying f1.type = some (.int .i64))
  {n : Nat} {cs : List Value} {d : DataW H × List MemPlace} (h : DataW.trod enc P W 0 (fun _ => true) true n e cs = some d) : ∃ a b x y v : Int, cs = [.int .i64 a, .int .i64 b, .int .i64 x, .int .i64 y, .int .i64 v] := by
 obtain ⟨xs, k, _, _, cA, oo, ap⟩ := DataW.trod_struct he h;rw [ce] at cA
 match cs, cA, xs, oo with
 | [u, v, w, r, s], _, [cW, aF, aN], _ =>
  have q0 := ap 0 g0 rfl;have q1 := ap 1 g1 rfl;have q2 := ap 2 g2 rfl;simp [lI, p1, p2, d0, d2, ax] at q0 q1 q2;obtain ⟨a, b, aa⟩ := Lb ao d0 CQ o1 gr c1 fX bd q0;obtain ⟨x, y, ai⟩ := Lb ao d0 CQ o1 gr c1 fX bd q1;obtain ⟨z, aI⟩ := E9 bC q2 rfl;cases aa; cases ai; cases aI;exact ⟨a, b, x, y, z, rfl⟩
theorem abA {H : Type} {enc : TypeId × Value → H} {P : Program} {W : World} {t e : TypeId} (ax : P.underlying t = some (.slice e)) (ce : P.cellsOf e = 5)
  (yr : ∀ (n : Nat) (cs : List Value) d, DataW.trod enc P W 0 (fun _ => true) true n e cs = some d → ∃ a b x y v : Int, cs = [.int .i64 a, .int .i64 b, .int .i64 x, .int .i64 y, .int .i64 v])
  {v : Value} {d : DataW H} {p : List MemPlace} (hv : ∃ a len cap, v = .slice a len cap) (aA : DataW.Trod enc P W 0 (fun _ => true) true t v d p) :
  ∃ l : List (Int × bp.bU), (l.length : Int) ≤ 9223372036854775807 ∧ cR (fun _ => True) id W (jL l) v := by
 obtain ⟨L, h1, h2, h3⟩ := abB 5 ax ce (fun n cs d h => by obtain ⟨a, b, x, y, v, e⟩ := yr n cs d h; exact ⟨[a, b, x, y, v], e⟩) hv aA (by decide);obtain ⟨l, aE, cZ⟩ := LF L h2;rw [cZ] at h3;refine ⟨l, by rw [aE]; exact h1, ?_⟩;rw [← aE] at h3;exact h3
theorem adl {P : Program} {f : FuncId} {args : List ah} (h : aC P f args (bf true)) (iY : List Value) (W : World) (hl : args.length = iY.length) (al : ∀ (i : Nat) (x : ah) (v : Value), args[i]? = some x → iY[i]? = some v → cR (fun _ => True) id W x v) :
  Calls P f iY.toArray W fun e bb => e = .returned (.bool true) ∧ Below W.heap.size W bb :=
 (h.call (fun _ => True) W iY ⟨hl, al⟩).mono fun e bb ⟨v, he, ⟨hv, _⟩, ab⟩ => by subst hv; exact ⟨he, ab⟩
end Go.Proofs.YtbcecodakfejaaaGreat
