/-
  My own texts, without what this claim does not need. My own text.
-/
import Derived.Test.YtbcecodakfejaaaGreatSKeepsK16
set_option maxRecDepth 100000
set_option maxHeartbeats 64000000
set_option linter.unusedVariables false
set_option linter.unusedSimpArgs false
set_option linter.unusedSectionVars false
open Go.Proofs.Tryz renaming prog → ag
namespace Go.Proofs.YtbcecodakfejaaaGreat
open Go.RowKit
open br
def vH (a b c d e f a' bE c' d' bm ls : Int) : Bool := decide (a = a') && (decide (b = bE) && (decide (c = c') && (decide (d = d') && (decide (e = bm) && decide (f = ls)))))
theorem Yo (n : Nat) (a b c d e f a' bE c' d' bm ls : Int) (W : World) : (Op.equalIn (n + 1 + 1) 104 (.agg #[.int .i64 a, .int .i64 b, .int .i64 c, .int .i64 d, .int .i64 e, .int .i64 f]) (.agg #[.int .i64 a', .int .i64 bE, .int .i64 c', .int .i64 d', .int .i64 bm, .int .i64 ls])).run ag W = .ok (vH a b c d e f a' bE c' d' bm ls) W := by
 have hu : ag.underlying 104 = some (.array 6 3) := by kernel_rfl
 have hi : ag.underlying 3 = some (.int .i64) := by kernel_rfl
 obtain ⟨m, hm⟩ : ∃ m, m = n + 1 := ⟨_, rfl⟩;rw [← hm, Op.equalIn];simp only [Sem.run_bind, run_underlying hu, Result.andThen_ok];rw [hm];have aN : (sizeOf 3).run ag W = .ok 1 W := by go_simp
 have hp : ∀ (xs : Array Value) (off : Nat) (v : Value), xs[off]? = some v → (part 3 xs off).run ag W = .ok v W := fun xs off v h => by
  have aF : (isAgg 3).run ag W = .ok false W := by
   unfold isAgg;simp only [Sem.run_bind, run_underlying hi, Result.andThen_ok, Sem.run_pure]
  unfold part;simp only [Sem.run_bind, aF, Result.andThen_ok, n3, if_false, h, Sem.run_pure]
 simp only [aN, Result.andThen_ok];rw [Std.Legacy.Range.forIn_eq_forIn_range'];unfold vH;have mG := hp #[.int .i64 a, .int .i64 b, .int .i64 c, .int .i64 d, .int .i64 e, .int .i64 f] (0 * 1) (.int .i64 a) rfl;have q0 := hp #[.int .i64 a', .int .i64 bE, .int .i64 c', .int .i64 d', .int .i64 bm, .int .i64 ls] (0 * 1) (.int .i64 a') rfl;have p1 := hp #[.int .i64 a, .int .i64 b, .int .i64 c, .int .i64 d, .int .i64 e, .int .i64 f] (1 * 1) (.int .i64 b) rfl;have q1 := hp #[.int .i64 a', .int .i64 bE, .int .i64 c', .int .i64 d', .int .i64 bm, .int .i64 ls] (1 * 1) (.int .i64 bE) rfl;have p2 := hp #[.int .i64 a, .int .i64 b, .int .i64 c, .int .i64 d, .int .i64 e, .int .i64 f] (2 * 1) (.int .i64 c) rfl;have q2 := hp #[.int .i64 a', .int .i64 bE, .int .i64 c', .int .i64 d', .int .i64 bm, .int .i64 ls] (2 * 1) (.int .i64 c') rfl;have p3 := hp #[.int .i64 a, .int .i64 b, .int .i64 c, .int .i64 d, .int .i64 e, .int .i64 f] (3 * 1) (.int .i64 d) rfl;have bB := hp #[.int .i64 a', .int .i64 bE, .int .i64 c', .int .i64 d', .int .i64 bm, .int .i64 ls] (3 * 1) (.int .i64 d') rfl;have p4 := hp #[.int .i64 a, .int .i64 b, .int .i64 c, .int .i64 d, .int .i64 e, .int .i64 f] (4 * 1) (.int .i64 e) rfl;have cS := hp #[.int .i64 a', .int .i64 bE, .int .i64 c', .int .i64 d', .int .i64 bm, .int .i64 ls] (4 * 1) (.int .i64 bm) rfl;have wJ := hp #[.int .i64 a, .int .i64 b, .int .i64 c, .int .i64 d, .int .i64 e, .int .i64 f] (5 * 1) (.int .i64 f) rfl;have lH := hp #[.int .i64 a', .int .i64 bE, .int .i64 c', .int .i64 d', .int .i64 bm, .int .i64 ls] (5 * 1) (.int .i64 ls) rfl;rw [show List.range' [:6].start [:6].size [:6].step = [0, 1, 2, 3, 4, 5] from rfl];simp only [List.forIn_cons, List.forIn_nil, Sem.run_bind, mG, q0, p1, q1, p2, q2, p3, bB, p4, cS, wJ, lH, Result.andThen_ok, run_equalIn_int W n _ .i64 .i64 _ _ hi]
 by_cases aF : a = a'
 case neg => simp [aF]
 subst aF;simp only [beq_self_eq_true, Bool.not_true, n3, if_false, Sem.run_pure, Sem.run_bind, mG, q0, p1, q1, p2, q2, p3, bB, p4, cS, wJ, lH, Result.andThen_ok, run_equalIn_int W n _ .i64 .i64 _ _ hi]
 by_cases ab : b = bE
 case neg => simp [ab]
 subst ab;simp only [beq_self_eq_true, Bool.not_true, n3, if_false, Sem.run_pure, Sem.run_bind, mG, q0, p1, q1, p2, q2, p3, bB, p4, cS, wJ, lH, Result.andThen_ok, run_equalIn_int W n _ .i64 .i64 _ _ hi]
 by_cases aj : c = c'
 case neg => simp [aj]
 subst aj;simp only [beq_self_eq_true, Bool.not_true, n3, if_false, Sem.run_pure, Sem.run_bind, mG, q0, p1, q1, p2, q2, p3, bB, p4, cS, wJ, lH, Result.andThen_ok, run_equalIn_int W n _ .i64 .i64 _ _ hi]
 by_cases hd : d = d'
 case neg => simp [hd]
 subst hd;simp only [beq_self_eq_true, Bool.not_true, n3, if_false, Sem.run_pure, Sem.run_bind, mG, q0, p1, q1, p2, q2, p3, bB, p4, cS, wJ, lH, Result.andThen_ok, run_equalIn_int W n _ .i64 .i64 _ _ hi]
 by_cases he : e = bm
 case neg => simp [he]
 subst he;simp only [beq_self_eq_true, Bool.not_true, n3, if_false, Sem.run_pure, Sem.run_bind, mG, q0, p1, q1, p2, q2, p3, bB, p4, cS, wJ, lH, Result.andThen_ok, run_equalIn_int W n _ .i64 .i64 _ _ hi]
 by_cases ap : f = ls
 case neg => simp [ap]
 subst ap;simp only [beq_self_eq_true, Bool.not_true, n3, if_false, Sem.run_pure, Sem.run_bind, mG, q0, p1, q1, p2, q2, p3, bB, p4, cS, wJ, lH, Result.andThen_ok, run_equalIn_int W n _ .i64 .i64 _ _ hi];simp
abbrev v6 (a b c d e f : Int) : ah := .w (.agg [.c (.int .i64 a), .c (.int .i64 b), .c (.int .i64 c), .c (.int .i64 d), .c (.int .i64 e), .c (.int .i64 f)])
theorem Yp : ag.eqGuardType ag.depth 104 = false := by kernel_rfl
theorem LV {s : aC} {ops : Array Oper} {K : aC → Prop} {rest : List Oper} {ty : Nat} {pos : String} {after : Array Edge} {guard : Option (Nat × Bool)} {o ed : Nat} {x y : Operand} {a b c d e f a' bE c' d' bm ls : Int} (hw : want ops ⟨some o, .binOp .eql 104 x y ed, ty, pos, after, guard⟩ s = some true) (aa : s.look x = some (v6 a b c d e f)) (ai : s.look y = some (v6 a' bE c' d' bm ls)) (hd : Nat.blt o s.n = true) (h : bg ag ops K rest (s.put (some o) (a7 (vH a b c d e f a' bE c' d' bm ls)))) : bg ag ops K (⟨some o, .binOp .eql 104 x y ed, ty, pos, after, guard⟩ :: rest) s :=
 vy hw aa ai rfl rfl (fun W => CU Yp) (fun W => by rw [run_eql_struct, show (10000 : Nat) = 9998 + 1 + 1 from rfl, Yo]; rfl) rfl hd h
abbrev aiV (k rm ph I J T : Int) (dirty : Bool) (hot fnd : List ao) (ch : List (List ao × List Int)) : List AC := [.c (.int .i64 k), .c (.int .i64 rm), .c (.int .i64 ph), .c (.int .i64 I), .c (.int .i64 J), .c (.int .i64 T), .c (.bool dirty), .p (cM 2 hot.length (b3 hot)), .p (cM 2 fnd.length (b3 fnd)), .p (cM 2 ch.length (eG ch))]
abbrev yC (k rm ph I J T : Int) (dirty : Bool) (hot fnd : List ao) (ch : List (List ao × List Int)) : ah := .w (.agg (aiV k rm ph I J T dirty hot fnd ch))
theorem JX {k rm ph I J T : Int} {dirty : Bool} {hot fnd : List ao} {ch : List (List ao × List Int)} : au ag 58 [yC k rm ph I J T dirty hot fnd ch] (v6 k rm ph I J T) := by
 refine bd (f := 58) Tryz.func58 rfl rfl rfl rfl ?_;(refine eF ?_)
 ((refine aW rfl (cD rfl rfl rfl aJ) ?_))
 exact ah.aK.refl _
abbrev KL : ah := aQ (.func (.func 61) #[] #[])
def Ut (L M : List (List ao × List Int)) (k : Nat) (aL : List (Nat × ah)) (bh : List (Nat × List AC)) : Prop :=
 ∃ (i : Nat) (ii : Int), i ≤ L.length ∧ k = L.length - i ∧ ii = i ∧ bh = [] ∧ aL = [(1, sd M), (2, KL), (15, sd L), (16, ax L.length), (17, ax ii)]
theorem aeF {L M : List (List ao × List Int)} (aj : kZ L) (HL : L = M) : au ag 60 [sd L, sd M, KL] (a7 true) := by
 have hlen := aj.1;have e6 : (L.length : Int) = M.length := by rw [HL]
 refine bd (f := 60) Tryz.func60 rfl rfl rfl rfl ?_;(refine eF ?_);refine sD 32 (Ut L M) L.length _ [] ⟨0, 0, dJ _, rfl, rfl, rfl, rfl⟩ rfl ⟨rfl, rfl, rfl, rfl, rfl, trivial⟩ trivial rfl ?_;rintro n aL bh ⟨j, eC, ae, rfl, pg, rfl, rfl⟩ c9;clear c9
 by_cases hp : j < L.length
 ·have p2 : eC < (L.length : Int) := by omega
  have p3 : 0 ≤ eC := by omega
  have p4 : eC < (M.length : Int) := by omega
  obtain ⟨V, D, g1⟩ : ∃ V D, L[j]? = some (V, D) := ⟨_, _, bN hp⟩;have g2 : M[j]? = some (V, D) := by rw [← HL]; exact g1
  obtain ⟨iZ, ja⟩ := aj.2 _ (dc g1);simp only at iZ ja;have mR := xq pg g1;have sn := xq pg g2;have aS := ab5 V V D D ja (by omega) ja (by omega);rw [cd rfl, cd rfl] at aS;clear HL;(refine bS ?_);exact ⟨L.length - (j + 1), _, [], by omega, ⟨j + 1, eC + 1, hp, rfl, by omega, rfl, rfl⟩, rfl, ⟨rfl, rfl, rfl, rfl, rfl, trivial⟩, trivial, rfl⟩
 ·have p2 : ¬ eC < (L.length : Int) := by omega
  (refine eF ?_)
  ((refine aW rfl (aY rfl aJ) ?_))
  exact ah.aK.refl _
theorem aeE {L : List (List ao × List Int)} (aj : kZ L) : au ag 60 [sd L, sd L, KL] (a7 true) := aeF aj rfl
theorem ae0 {k rm ph I J T : Int} {dirty : Bool} {hot fnd : List ao} {ch : List (List ao × List Int)} (aR : hot.length ≤ 1000000) (ap : fnd.length ≤ 1000000) (aj : kZ ch) : au ag 31 [yC k rm ph I J T dirty hot fnd ch, yC k rm ph I J T dirty hot fnd ch] (a7 true) := by
 have aS := JX (k := k) (rm := rm) (ph := ph) (I := I) (J := J) (T := T) (dirty := dirty) (hot := hot) (fnd := fnd) (ch := ch);have bD := JQ (D := hot) (E := hot) aR;have dW := JQ (D := fnd) (E := fnd) ap;have js := aeE aj;rw [cd rfl] at bD dW;have fs : vH k rm ph I J T k rm ph I J T = true := by unfold vH; simp
 refine bd (f := 31) Tryz.func31 rfl rfl rfl rfl ?_;(refine bS ?_);refine LV rfl rfl rfl rfl ?_;rw [fs];have zK : (dirty == dirty) = true := by simp
 have akz : decide (dirty = dirty) = true := by simp
 (refine bS ?_)
 ((refine aW rfl (aY rfl aJ) ?_))
 exact ah.aK.refl _
theorem aeZ {k rm ph I J T k' rm' ph' I' J' T' : Int} {dirty dirty' : Bool} {hot fnd hot' fnd' : List ao} {ch ch' : List (List ao × List Int)} (aw : vH k rm ph I J T k' rm' ph' I' J' T' = false) : au ag 31 [yC k rm ph I J T dirty hot fnd ch, yC k' rm' ph' I' J' T' dirty' hot' fnd' ch'] (a7 false) := by
 have aS := JX (k := k) (rm := rm) (ph := ph) (I := I) (J := J) (T := T) (dirty := dirty) (hot := hot) (fnd := fnd) (ch := ch);have bD := JX (k := k') (rm := rm') (ph := ph') (I := I') (J := J') (T := T') (dirty := dirty') (hot := hot') (fnd := fnd') (ch := ch');refine bd (f := 31) Tryz.func31 rfl rfl rfl rfl ?_;(refine bS ?_);refine LV rfl rfl rfl rfl ?_;rw [aw];(refine eF ?_)
 ((refine aW rfl (aY rfl aJ) ?_))
 exact ah.aK.refl _
theorem bM.Kv {U : Nat → Prop} {ad : Nat → Nat} {W : World} {cs : List AC} {vs : List Value} {i : Nat} {u : Value} {x : AC} (h : bM U ad W cs vs) (hi : cs[i]? = some (.c u)) (aa : gx U ad W x u) : bM U ad W (cs.set i x) vs := by
 refine ⟨by rw [List.length_set]; exact h.1, fun j y v ai hv => ?_⟩;rw [List.getElem?_set] at ai
 split at ai
 ·rename_i e;subst e
  split at ai
  ·cases ai;have := (h.2 i _ v hi hv).1;subst this; exact aa
  ·cases ai
 ·exact h.2 j y v ai hv
theorem aha {hv fv cv : Value} {hot fnd : List ao} {ch : List (List ao × List Int)} {R : aI} (aD : R 4 = none) (cU : R 5 = none) (fs : R 6 = none) : pa 4 (pa 5 (pa 6 (mf hv fv cv hot fnd ch R))) = R := by
 funext k;unfold pa
 by_cases ey : k = 4
 ·subst ey; rw [if_pos rfl, aD]
 ·rw [if_neg ey]
  by_cases k2 : k = 5
  ·subst k2; rw [if_pos rfl, cU]
  ·rw [if_neg k2]
   by_cases nE : k = 6
   ·subst nE; rw [if_pos rfl, fs]
   ·rw [if_neg nE];unfold mf; rw [ct _ _ nE, ct _ _ k2, ct _ _ ey]
section
variable {E : List (Int × bO)} {r rm : Nat}
theorem dN.nk {s : br.aT ao} {cs : List AC} {R : aI} (h : dN E r rm s cs R) : ∀ i, 4 ≤ i → R i = none := by
 obtain ⟨_, _, _, _, _, _, _, _, _, _, rfl⟩ := h;intro i hi
 match i, hi with
 | i + 4, _ => rfl
theorem dN.FE {s : br.aT ao} {cs : List AC} {R : aI} (h : dN E r rm s cs R) : ∀ i, i < 4 → ∃ q, R i = some q := by
 obtain ⟨_, _, _, _, _, _, _, _, _, _, rfl⟩ := h;intro i hi
 match i, hi with
 | 0, _ => exact ⟨_, rfl⟩
 | 1, _ => exact ⟨_, rfl⟩
 | 2, _ => exact ⟨_, rfl⟩
 | 3, _ => exact ⟨_, rfl⟩
abbrev FR (r rm : Nat) (s : br.aT ao) : ah := yC r rm s.ph s.I s.J s.T s.dirty s.hot s.fnd s.ch
theorem ab8 {s : br.aT ao} (aR : s.hot.length ≤ 900000) (ap : s.fnd.length ≤ 900000) (aj : kZ s.ch) : gw E r rm 11 [] s (FR r rm s) s := by
 intro cs R bl;have mE := bl.nk 4 (by decide);have QG := bl.nk 5 (by decide);have QH := bl.nk 6 (by decide);have h := ab7 aR ap aj bl
 have h1 := h.vD 6 QH (Post2 := fun cb aH ay => ∃ hv fv, cb = .w (.agg ((pT r rm s.ph s.I s.J s.T s.dirty hv fv kn).set 9 (.p (cM 2 s.ch.length (eG s.ch))))) ∧ aH = cZ 1000 cs ∧ ∃ cv, ay = pa 6 (mf hv fv cv s.hot s.fnd s.ch R)) (by
  rintro cb aH ay ⟨ar, rfl, hv, fv, cv, rfl, rfl, rfl⟩;refine ⟨_, _, cF _ _ _, j4 _, fun U ad W v h aB => ?_, fun j ae => ?_, hv, fv, rfl, rfl, cv, rfl⟩
  ·obtain ⟨vs, e, hl⟩ := h;exact ⟨vs, e, (hl.Kv (i := 9) rfl aB : bM U ad W ((pT r rm s.ph s.I s.J s.T s.dirty hv fv cv).set 9 _) vs)⟩
  ·exact absurd ae (ah.dC rfl j))
 have h2 := h1.vD 5 QG (Post2 := fun cb aH ay => ∃ hv, cb = .w (.agg (((pT r rm s.ph s.I s.J s.T s.dirty hv kn kn).set 9 (.p (cM 2 s.ch.length (eG s.ch)))).set 8 (.p (cM 2 s.fnd.length (b3 s.fnd))))) ∧ aH = cZ 1000 cs ∧ ∃ fv cv, ay = pa 5 (pa 6 (mf hv fv cv s.hot s.fnd s.ch R))) (by
  rintro cb aH ay ⟨hv, fv, rfl, rfl, cv, rfl⟩;refine ⟨jh fv s.fnd, _, rfl, j4 _, fun U ad W v h aB => ?_, fun j ae => ?_, hv, rfl, rfl, fv, cv, rfl⟩
  ·obtain ⟨vs, e, hl⟩ := h;exact ⟨vs, e, (hl.Kv (i := 8) rfl aB)⟩
  ·exact absurd ae (ah.dC rfl j))
 have h3 := h2.vD 4 mE (Post2 := oX 1000 fun cb ar ay => cb = FR r rm s ∧ dN E r rm s ar ay) (by
  rintro cb aH ay ⟨hv, rfl, rfl, fv, cv, rfl⟩;refine ⟨jh hv s.hot, FR r rm s, rfl, j4 _, fun U ad W v h aB => ?_, fun j ae => ?_, cs, rfl, rfl, ?_⟩
  ·obtain ⟨vs, e, hl⟩ := h;exact ⟨vs, e, (hl.Kv (i := 7) rfl aB)⟩
  ·exact absurd ae (ah.dC rfl j)
  ·rw [aha mE QG QH]; exact bl)
 exact h3
def fo (i : Nat) : Nat := if i < 10 then i + 20 else if i < 20 then i else if i < 30 then i - 20 else i
theorem Kp (j : Nat) : fo (fo j) = j := by
 unfold fo
 by_cases h1 : j < 10
 ·simp only [if_pos h1];rw [if_neg (by omega), if_neg (by omega), if_pos (by omega)]; omega
 ·by_cases h2 : j < 20
  ·simp only [if_neg h1, if_pos h2]
  ·by_cases h3 : j < 30
   ·simp only [if_neg h1, if_neg h2, if_pos h3];rw [if_pos (by omega)]; omega
   ·simp only [if_neg h1, if_neg h2, if_neg h3]
def Lt (k : Nat) (ca : Nat → Nat) (E : List (Int × bO)) (r rm : Nat) (f : FuncId) (args : List ah) (s : br.aT ao) (v : ah) (s' : br.aT ao) : Prop :=
 ∀ cs R, dN E r rm s cs R → du ag f (.w (.one (.own k 0)) :: args) (cZ k cs) (R.a6 ca) (oX k fun cb ar ay => cb = v ∧ ∃ bf, dN E r rm s' ar bf ∧ ay = bf.a6 ca)
theorem gw.om (k : Nat) {ca : Nat → Nat} (fM : ∀ j, ca (ca j) = j) {f : FuncId} {args : List ah} {s s' : br.aT ao} {v : ah} (h : gw E r rm f args s v s') (eo : args.all ah.aZ = true) (hv : v.aZ = true) : Lt k ca E r rm f args s v s' := fun cs R bl => by
 have h1 := du.at k (h cs R bl) eo bl.closed (fun cb ds ay ak => ⟨by rw [ak.1]; exact hv, ak.2.closed⟩);refine (h1.rn fM).imp ?_;rintro cb aH ay ⟨bf, ⟨ar, rfl, rfl, cr⟩, rfl⟩;exact ⟨ar, rfl, rfl, bf, cr, rfl⟩
end
section
variable {R : aI} {s : aC} {ops : Array Oper} {dr : Option (List Nat)} {ty : Nat} {pos : String} {after : Array Edge} {guard : Option (Nat × Bool)} {K : aI → aC → Prop} {rest : List Oper}
theorem nT (k : Nat) (ca : Nat → Nat) {E : List (Int × bO)} {r rm : Nat} {dV s1 : br.aT ao} {v : ah} {dst : Option Nat} {f : FuncId} {g : Operand} {aL : Array TypeId} {l : List Operand} {args : List ah} {cs : List AC} {R0 : aI} [vh : Enters ag f] (hw : want ops ⟨dst, .call ⟨.value g, l.toArray, aL⟩, ty, pos, after, guard⟩ s = some true) (hm : cY dr ⟨dst, .call ⟨.value g, l.toArray, aL⟩, ty, pos, after, guard⟩ = true)
  (an : s.look g = some (aQ (.func (.func f) #[] #[]))) (aF : l.map s.look = (ah.w (.one (.own k 0)) :: args).map some) (af : s.mem k = some cs) (hR : pU dr k = true) (eo : args.all ah.aZ = true) (hd : lp dst s.n = true) (hp : Lt k ca E r rm f args dV v s1) (bl : dN E r rm dV cs R0) (al : bx (R0.a6 ca) R)
  (h : ∀ ar bf, dN E r rm s1 ar bf → cT ag ops dr K rest (bX (bf.a6 ca) R) ((s.ej k ar).put dst v)) : cT ag ops dr K (⟨dst, .call ⟨.value g, l.toArray, aL⟩, ty, pos, after, guard⟩ :: rest) R s := by
 refine DK k hw hm an aF (hp cs R0 bl) af hR al bl.closed eo hd ?_;rintro _ ar ay ⟨rfl, bf, aM, rfl⟩;exact h ar bf aM
end
abbrev two (gO fz : aI) : aI := bX gO (fz.a6 fo)
section
variable {E BV : List (Int × bO)} {r rm aV rm' : Nat} {s s1 t t1 : br.aT ao} {cs XB ds G9 : List AC} {gO vt fz p9 : aI}
theorem FL : bx gO (two gO fz) := fun i q h => hX h
theorem TL (aF : dN E r rm s cs gO) (ab : dN BV aV rm' t ds fz) : bx (fz.a6 fo) (two gO fz) := fun i q h => by
 have hi : 4 ≤ i := Nat.not_lt.1 fun bb => by
  have : fz (fo i) = none := ab.nk _ (by unfold fo; rw [if_pos (by omega)]; omega);rw [show fz.a6 fo i = fz (fo i) from rfl, this] at h; cases h
 rw [show two gO fz i = bX gO (fz.a6 fo) i from rfl, hY (aF.nk i hi)]; exact h
theorem FM (aF : dN E r rm s cs gO) (HS : dN E r rm s1 XB vt) : bX vt (two gO fz) = two vt fz := by
 funext i
 by_cases hi : i < 4
 ·obtain ⟨q, ak⟩ := HS.FE i hi;rw [hX ak, show two vt fz i = bX vt (fz.a6 fo) i from rfl, hX ak]
 ·rw [hY (HS.nk i (by omega)), show two gO fz i = bX gO (fz.a6 fo) i from rfl, show two vt fz i = bX vt (fz.a6 fo) i from rfl, hY (aF.nk i (by omega)), hY (HS.nk i (by omega))]
theorem TM (aF : dN E r rm s cs gO) (ab : dN BV aV rm' t ds fz) (dt : dN BV aV rm' t1 G9 p9) : bX (p9.a6 fo) (two gO fz) = two gO p9 := by
 funext i
 by_cases hi : i < 4
 ·obtain ⟨q, ak⟩ := aF.FE i hi;have : p9 (fo i) = none := dt.nk _ (by unfold fo; rw [if_pos (by omega)]; omega);rw [hY (show p9.a6 fo i = none from this), show two gO fz i = bX gO (fz.a6 fo) i from rfl, show two gO p9 i = bX gO (p9.a6 fo) i from rfl, hX ak, hX ak]
 ·have aw := aF.nk i (by omega);rw [show two gO p9 i = bX gO (p9.a6 fo) i from rfl, hY aw]
  by_cases aD : fo i < 4
  ·obtain ⟨q, ak⟩ := dt.FE _ aD;rw [hX (show p9.a6 fo i = some q from ak)]; exact ak.symm
  ·have h1 : p9.a6 fo i = none := dt.nk _ (by omega);have h2 : fz.a6 fo i = none := ab.nk _ (by omega);rw [hY h1, show two gO fz i = bX gO (fz.a6 fo) i from rfl, hY aw, h1, h2]
theorem aiX (aF : dN E r rm s cs gO) (ab : dN BV aV rm' t ds fz) : bX (fz.a6 fo) gO = two gO fz := by
 funext i
 by_cases hi : i < 4
 ·obtain ⟨q, ak⟩ := aF.FE i hi;have : fz (fo i) = none := ab.nk _ (by unfold fo; rw [if_pos (by omega)]; omega);rw [hY (show fz.a6 fo i = none from this), show two gO fz i = bX gO (fz.a6 fo) i from rfl, hX ak, ak]
 ·rw [show two gO fz i = bX gO (fz.a6 fo) i from rfl, hY (aF.nk i (by omega))];cases ak : fz.a6 fo i with
  | some q => exact hX ak
  | none => rw [hY ak]; exact aF.nk i (by omega)
end
theorem I9 (k : Nat) {ca : Nat → Nat} (fM : ∀ j, ca (ca j) = j) {E : List (Int × bO)} {K n : Int} (hl : E.length ≤ 300) (h : gJ (E.map Prod.snd) = true) : du ag 28 [gX E, ax K, ax n] cj eU fun cb aH ay => ∃ cs bf, cb = .w (.one (.own k 0)) ∧ aH = cZ k cs ∧ ay = bf.a6 ca ∧ dN E (eV K) (ef n) (fk (bt E (eV K) (ef n))) cs bf := by
 have h1 := (ab3 (k := K) (n := n) hl h).a6 (nv 24 k) (ca := ca) (iV := ca) fM fM;refine du.imp (show du ag 28 [gX E, ax K, ax n] cj eU _ from h1) ?_;rintro cb aH ay ⟨bV, m1, bf, ⟨cs, rfl, rfl, bl⟩, rfl, rfl, rfl⟩;refine ⟨cs, bf, ?_, wx bl.closed, rfl, bl⟩;show ah.w (.one (.own (swp 24 k 24) 0)) = _;rw [Bx]
abbrev ol : List (Int × bO) := [(0, (0, 0), (4, 4)), (0, (0, 4), (4, 0))]
abbrev gH (rm : Nat) : cw ao := bt ol 0 rm
def rp : br.aT ao := (eQ (gH 9) 3 (fk (gH 9))).2
def tQ : br.aT ao := (eQ (gH 9) 1000 rp).2
def Co : br.aT ao := (eQ (gH 4) 100 (fk (gH 4))).2
theorem LM : (eQ (gH 9) 3 (fk (gH 9))).2 = rp := by unfold rp; rfl
theorem LN : (eQ (gH 9) 1000 rp).2 = tQ := by unfold tQ; rfl
theorem LO : (eQ (gH 4) 100 (fk (gH 4))).2 = Co := by unfold Co; rfl
theorem VI : (eQ (gH 9) 3 (fk (gH 9))).1 = 3 := by decide +kernel
theorem VJ : rp.ph = 2 ∧ rp.hot.length = 5 := by decide +kernel
theorem VK : (eQ (gH 9) 1000 rp).1 = 36 := by decide +kernel
theorem VL : tQ.ph = 4 ∧ tQ.ch.length = 2 ∧ (tQ.ch.map fun c => c.1.length) = [3, 3] ∧ tQ.ch[0]? = some ([(0, 0), (2, 2), (4, 4)], [2, 2]) := by decide +kernel
theorem VM : Co.ph = 5 := by decide +kernel
section
variable {E : List (Int × bO)} {r rm : Nat}
theorem Kk (h : hA E r rm) {n : Nat} {s : br.aT ao} (bl : nB E r rm s) : nB E r rm (eQ (bt E r rm) n s).2 := by
 rw [(Fv n s).1]; exact (DY h.ok _ bl).1
theorem hA.st (h : hA E r rm) {s : br.aT ao} (bl : nB E r rm s) : s.hot.length ≤ 1024 ∧ s.fnd.length ≤ 1024 ∧ kZ s.ch := by
 have ab := bl.1;have aR := h.hot ab;have nil : kZ [] := ⟨dJ _, fun c aj => by cases aj⟩;refine ⟨aR, ?_⟩;obtain ⟨_, aA | h1 | h2 | h3 | aD | cU⟩ := bl
 ·rw [aA.fnd, aA.ch]; exact ⟨dJ _, nil⟩
 ·rw [h1.fnd, h1.ch]; exact ⟨dJ _, nil⟩
 ·obtain ⟨c, p, q, _, _, _, ap⟩ := h2.link;refine ⟨?_, h.xp ab h2.laid⟩;rw [ap];refine ht (List.length_filter_le ..) ?_;rw [ei]; omega
 ·rw [h3.fnd]; exact ⟨dJ _, h.xp ab h3.laid⟩
 ·rw [aD.fnd]; exact ⟨dJ _, h.xp ab aD.laid⟩
 ·rw [cU.fnd];refine ⟨dJ _, ?_⟩;rcases cU.ch with ⟨aj, _⟩ | hl
  ·rw [aj]; exact nil
  ·exact h.xp ab hl
theorem Jb (h : hA E r rm) {s : br.aT ao} (bl : nB E r rm s) : gw E r rm 11 [] s (FR r rm s) s := by
 obtain ⟨a, b, c⟩ := h.st bl;exact ab8 (by omega) (by omega) c
end
section
variable {R : aI} {s : aC} {ops : Array Oper} {dr : Option (List Nat)} {ty : Nat} {pos : String} {after : Array Edge} {guard : Option (Nat × Bool)} {K : aI → aC → Prop} {rest : List Oper}
theorem DM (k : Nat) (ca : Nat → Nat) {E : List (Int × bO)} {r rm : Nat} {dV : br.aT ao} {dst : Option Nat} {f : FuncId} {g : Operand} {aL : Array TypeId} {l : List Operand} {args : List ah} [vh : Enters ag f] (hw : want ops ⟨dst, .call ⟨.value g, l.toArray, aL⟩, ty, pos, after, guard⟩ s = some true) (hm : cY dr ⟨dst, .call ⟨.value g, l.toArray, aL⟩, ty, pos, after, guard⟩ = true)
  (an : s.look g = some (aQ (.func (.func f) #[] #[]))) (aF : l.map s.look = args.map some) (hp : du ag f args cj eU fun cb aH ay => ∃ cs bf, cb = .w (.one (.own k 0)) ∧ aH = cZ k cs ∧ ay = bf.a6 ca ∧ dN E r rm dV cs bf) (af : s.mem k = none) (bb : Nat.blt k s.n = true) (eo : args.all ah.aZ = true) (hd : lp dst s.n = true)
  (h : ∀ cs bf, dN E r rm dV cs bf → cT ag ops dr K rest (bX (bf.a6 ca) R) ((s.ej k cs).put dst (.w (.one (.own k 0))))) : cT ag ops dr K (⟨dst, .call ⟨.value g, l.toArray, aL⟩, ty, pos, after, guard⟩ :: rest) R s := by
 refine we hw hm an aF hp (fun x aa j ae => absurd ae (ah.dC (cB.1 eo x aa) j)) (fun k' ar aM => by cases aM) (fun eH aV aM => by cases aM) (fun k' ar x j aM aa ae => by cases aM) hd ?_;rintro cb aH ay ⟨cs, bf, rfl, rfl, rfl, bl⟩;refine ⟨fun k' c aM => ?_, ?_⟩
 ·obtain ⟨rfl, rfl⟩ := hW aM;exact .inr ⟨af, by simpa [Nat.blt_eq] using bb⟩
 ·have aO : s.over (cZ k cs) = s.ej k cs := by
   show ({ s with mem := bX (bI cj k cs) s.mem } : aC) = { s with mem := bI s.mem k cs };rw [show bX (bI cj k cs) s.mem = bI s.mem k cs from wI s.mem k cs]
  rw [aO];exact h cs bf bl
end
theorem JO (R : aI) : bX R eU = R := by
 funext i;cases h : R i with
 | none => rw [hY h]; rfl
 | some q => exact hX h
abbrev dK : Nat → Nat := fun j => j
theorem nW (j : Nat) : dK (dK j) = j := rfl
theorem zb (rm : Nat) (h1 : 1 ≤ rm) (h2 : rm ≤ 1024) : hA ol 0 rm := ⟨dJ _, by decide, by decide, h1, h2⟩
theorem VN : vG tQ.ch = 2 := by decide +kernel
theorem J0 {α β : Type} (x : α × β) {a : α} (h : x.1 = a) : x = (a, x.2) := by subst h; rfl
theorem V4 : ∃ gy fA su : br.aT ao, eQ (gH 9) 3 (fk (gH 9)) = (3, gy) ∧ eQ (gH 9) 1000 gy = (36, fA) ∧ eQ (gH 4) 100 (fk (gH 4)) = ((eQ (gH 4) 100 (fk (gH 4))).1, su) ∧ nB ol 0 9 gy ∧ nB ol 0 9 fA ∧ nB ol 0 4 su ∧ gy.ph = 2 ∧ gy.hot.length = 5 ∧ fA.ph = 4 ∧ fA.ch.length = 2 ∧ fA.ch[0]? = some ([(0, 0), (2, 2), (4, 4)], [2, 2]) ∧ vG fA.ch = 2 ∧ su.ph = 5 := by
 have i1 : nB ol 0 9 (eQ (gH 9) 3 (fk (gH 9))).2 := Kk (n := 3) (s := fk (gH 9)) (zb 9 (by decide) (by decide)) (ti (gH 9) _);rw [LM] at i1;have i2 : nB ol 0 9 (eQ (gH 9) 1000 rp).2 := Kk (n := 1000) (s := rp) (zb 9 (by decide) (by decide)) i1;rw [LN] at i2;have i3 : nB ol 0 4 (eQ (gH 4) 100 (fk (gH 4))).2 := Kk (n := 100) (s := fk (gH 4)) (zb 4 (by decide) (by decide)) (ti (gH 4) _);rw [LO] at i3;have aG := J0 _ VI;rw [LM] at aG;have aO := J0 _ VK;rw [LN] at aO;have cl := J0 (eQ (gH 4) 100 (fk (gH 4))) rfl;rw [LO] at cl;have f1 := VJ;have f2 := VL;have f3 := VN;have f4 := VM;generalize rp = gy at *;generalize tQ = fA at *;generalize Co = su at *;exact ⟨gy, fA, su, aG, aO, cl, i1, i2, i3, f1.1, f1.2, f2.1, f2.2.1, f2.2.2.2, f3, f4⟩
theorem ae6 : au ag 9 [] (a7 true) := by
 obtain ⟨gy, fA, su, bV, cC, eY, i1, i2, i3, f1, f2, f3, f4, f5, f6, f7⟩ := V4;have q4 := zb 9 (by decide) (by decide);have kz := zb 4 (by decide) (by decide);have nA := I9 15 (ca := dK) nW (E := ol) (K := 0) (n := 9) (by decide) (by decide);have sq := I9 27 (ca := fo) Kp (E := ol) (K := 0) (n := 4) (by decide) (by decide);rw [show eV 0 = 0 from by decide, show ef 9 = 9 from by decide] at nA;rw [show eV 0 = 0 from by decide, show ef 4 = 4 from by decide] at sq;have bf := D1 q4 (ti _ _) (n := 3) (by decide);have ev := D1 q4 i1 (n := 1000) (by decide);have fR := D1 kz (ti _ _) (n := 100) (by decide);rw [show (3 : Int).toNat = 3 from rfl, bV] at bf;rw [show (1000 : Int).toNat = 1000 from rfl, cC] at ev;rw [show (100 : Int).toNat = 100 from rfl, eY] at fR;clear bV cC eY;have bf := bf.om 15 (ca := dK) nW rfl rfl;have ev := ev.om 15 (ca := dK) nW rfl rfl;have fR := fR.om 27 (ca := fo) Kp rfl rfl;have vw := (Jb q4 i1).om 15 (ca := dK) nW rfl rfl;have y3 := (Jb q4 i2).om 15 (ca := dK) nW rfl rfl;have jv := (Ja (E := ol) (r := 0) (rm := 9) (s := fA)).om 15 (ca := dK) nW rfl rfl;have Gi := (Ja (E := ol) (r := 0) (rm := 4) (s := su)).om 27 (ca := fo) Kp rfl rfl;have k0 := (abY (E := ol) (r := 0) (rm := 9) (s := fA) (q4.st i2).2.2).om 15 (ca := dK) nW rfl rfl;have p5 := (Jc q4 i2).om 15 (ca := dK) nW rfl rfl;rw [(wS q4.ok i2).2.2 (by omega), cA (by omega)] at p5;have Le := ae0 (k := (0 : Nat)) (rm := (9 : Nat)) (ph := fA.ph) (I := fA.I) (J := fA.J) (T := fA.T) (dirty := fA.dirty) (hot := fA.hot) (fnd := fA.fnd) (ch := fA.ch) (by have := (q4.st i2).1; omega) (by have := (q4.st i2).2.1; omega) (q4.st i2).2.2;have ajw := aeZ (k := (0 : Nat)) (rm := (9 : Nat)) (ph := gy.ph) (I := gy.I) (J := gy.J) (T := gy.T) (dirty := gy.dirty) (hot := gy.hot) (fnd := gy.fnd) (ch := gy.ch) (k' := (0 : Nat)) (rm' := (9 : Nat)) (ph' := fA.ph) (I' := fA.I) (J' := fA.J) (T' := fA.T) (dirty' := fA.dirty) (hot' := fA.hot) (fnd' := fA.fnd) (ch' := fA.ch) (by rw [f1, f3]; unfold vH; simp);rw [f6] at k0;have g1 : (gy.ph : Int) = 2 := by rw [f1]; rfl
 have g2 : (gy.hot.length : Int) = 5 := by rw [f2]; rfl
 have g3 : (fA.ph : Int) = 4 := by rw [f3]; rfl
 have g4 : (fA.ch.length : Int) = 2 := by rw [f4]; rfl
 have g7 : (su.ph : Int) = 5 := by rw [f7]; rfl
 have mR := xq (ii := 0) rfl f5;clear q4 kz i1 i2 i3 f1 f2 f3 f4 f6 f7;refine bd (f := 9) Tryz.func9 rfl rfl rfl rfl ?_;refine tU ?_;(refine bc ?_);refine DM 15 dK rfl rfl rfl rfl nA rfl rfl rfl rfl (fun cs yW bq => ?_);rw [JO];(refine bc ?_);refine nT 15 dK rfl rfl rfl rfl rfl rfl rfl rfl bf bq (bx.refl _) (fun M3 p6 gZ => ?_);rw [show bX (aI.a6 dK p6) (aI.a6 dK yW) = aI.a6 dK p6 from bq.bX gZ];(refine bc ?_);refine nT 15 dK rfl rfl rfl rfl rfl rfl rfl rfl vw gZ (bx.refl _) (fun G3 o3 lg => ?_);rw [show bX (aI.a6 dK o3) (aI.a6 dK p6) = aI.a6 dK o3 from gZ.bX lg];(refine bc ?_);refine nT 15 dK rfl rfl rfl rfl rfl rfl rfl rfl ev lg (bx.refl _) (fun ajY Gm vg => ?_);rw [show bX (aI.a6 dK Gm) (aI.a6 dK o3) = aI.a6 dK Gm from lg.bX vg];(refine bc ?_);refine nT 15 dK rfl rfl rfl rfl rfl rfl rfl rfl y3 vg (bx.refl _) (fun ajZ yX w0 => ?_);rw [show bX (aI.a6 dK yX) (aI.a6 dK Gm) = aI.a6 dK yX from vg.bX w0];(refine bc ?_);refine DM 27 fo rfl rfl rfl rfl sq rfl rfl rfl rfl (fun ds Lo a8 => ?_);rw [show bX (aI.a6 fo Lo) (aI.a6 dK yX) = two yX Lo from aiX w0 a8];(refine bc ?_);refine nT 27 fo rfl rfl rfl rfl rfl rfl rfl rfl fR a8 (TL w0 a8) (fun G9 xa mP => ?_);rw [TM w0 a8 mP];(repeat first | (with_reducible apply mh (id := 13) [0,1,2,3,4,5,6,7,8,9,10,11,12,13,14,15,16,17,18,19,20,21,22,23,24,25,26,27,28,29,30,31,32,33,34,35,36,37,38,39,40,41,42,43,44,45,46,47,48,49,50,51,52,53,54,55,56,57,58,59,60,61,62,63,64,65,66,67,68,69,70,71,72,73,74,75] [51,82,87,92,98,2000015,2000027]); kernel_rfl; kernel_rfl; rfl | refine cG ?_ | (with_reducible apply fX); rfl; (repeat first | refine gu ?_ | (with_reducible apply bP (c := true)); rfl; rfl; (exact cd (by omega))); (with_reducible apply fC));refine nT 15 dK rfl rfl rfl rfl rfl rfl rfl rfl jv w0 FL (fun aj0 Gn F0 => ?_);rw [show bX (aI.a6 dK Gn) (two yX xa) = two Gn xa from FM w0 F0];(repeat first | refine cG ?_ | (with_reducible apply fX); rfl; (repeat first | refine gu ?_ | (with_reducible apply bP (c := true)); rfl; rfl; (exact cd (by omega))); (with_reducible apply fC));refine nT 15 dK rfl rfl rfl rfl rfl rfl rfl rfl k0 F0 FL (fun aj1 Gp F1 => ?_);rw [show bX (aI.a6 dK Gp) (two Gn xa) = two Gp xa from FM F0 F1];(repeat first | refine cG ?_ | (with_reducible apply fX); rfl; (repeat first | refine gu ?_ | (with_reducible apply bP (c := true)); rfl; rfl; (exact cd (by omega))); (with_reducible apply fC));refine nT 15 dK rfl rfl rfl rfl rfl rfl rfl rfl p5 F1 FL (fun aj2 Gq yI => ?_);rw [show bX (aI.a6 dK Gq) (two Gp xa) = two Gq xa from FM F1 yI];(refine bc ?_);refine nT 27 fo rfl rfl rfl rfl rfl rfl rfl rfl Gi mP (TL yI mP) (fun akb Lp sj => ?_);rw [TM yI mP sj];(repeat first | refine cG ?_ | (with_reducible apply fX); rfl; (repeat first | refine gu ?_ | (with_reducible apply bP (c := true)); rfl; rfl; (exact cd (by omega))); (with_reducible apply fC));refine nT 15 dK rfl rfl rfl rfl rfl rfl rfl rfl y3 yI FL (fun aj3 Ln T5 => ?_);rw [show bX (aI.a6 dK Ln) (two Gq Lp) = two Ln Lp from FM yI T5];(refine oV ?_)
 ((refine aW rfl (aY rfl aJ) ?_))
 exact ah.aK.refl _
theorem afr {E : List (Int × bO)} : au ag 7 [gX E] (a7 (decide ((E.length : Int) ≤ 7))) := by
 refine bd (f := 7) Tryz.func7 rfl rfl rfl rfl ?_;(refine eF ?_)
 ((refine aW rfl (aY rfl aJ) ?_))
 exact ah.aK.refl _
def mc (n room : Int) : Int := 8 * (mg room + 2) * (n * mg room + 1) * (n * mg room + 1)
theorem Qx {n R : Int} (aA : 0 ≤ n) (kb : n ≤ 7) (h1 : 1 ≤ R) (h2 : R ≤ 1024) : (0 ≤ n * R ∧ n * R ≤ 7168) ∧ (0 ≤ 8 * (R + 2) * (n * R + 1) ∧ 8 * (R + 2) * (n * R + 1) ≤ 58843152) ∧ (0 ≤ 8 * (R + 2) * (n * R + 1) * (n * R + 1) ∧ 8 * (R + 2) * (n * R + 1) * (n * R + 1) ≤ 421846556688) := by
 have a1 : 0 ≤ n * R := ga aA (by omega);have a2 : n * R ≤ 7 * 1024 := tu kb h2 (by omega) (by omega);have b1 : 0 ≤ 8 * (R + 2) * (n * R + 1) := ga (by omega) (by omega);have b2 : 8 * (R + 2) * (n * R + 1) ≤ 8208 * 7169 := tu (by omega) (by omega) (by omega) (by omega);have c1 : 0 ≤ 8 * (R + 2) * (n * R + 1) * (n * R + 1) := ga b1 (by omega);have c2 : 8 * (R + 2) * (n * R + 1) * (n * R + 1) ≤ (8208 * 7169) * 7169 := tu b2 (by omega) (by omega) (by omega);exact ⟨⟨a1, by omega⟩, ⟨b1, by omega⟩, c1, by omega⟩
theorem ahi (n : Int) : mg n = if 1024 < (if 1 > n then 1 else n) then 1024 else (if 1 > n then 1 else n) := by unfold mg; (repeat split) <;> omega
theorem Qw {n room : Int} (aA : 0 ≤ n) (kb : n ≤ 7) : 0 ≤ mc n room ∧ mc n room ≤ 421846556688 := by
 have h := Qx aA kb (R := mg room) (by unfold mg; (repeat split) <;> omega) (by unfold mg; (repeat split) <;> omega);exact h.2.2
theorem afH {n room : Int} (aA : 0 ≤ n) (kb : n ≤ 7) : au ag 33 [ax n, ax room] (ax (mc n room)) := by
 unfold mc;rw [ahi];obtain ⟨⟨a1, a2⟩, ⟨b1, b2⟩, c1, c2⟩ := Qx aA kb (R := if 1024 < (if 1 > room then 1 else room) then 1024 else (if 1 > room then 1 else room)) (by (repeat split) <;> omega) (by (repeat split) <;> omega);have bV : 1 ≤ (if 1024 < (if 1 > room then 1 else room) then 1024 else (if 1 > room then 1 else room)) := by (repeat split) <;> omega
 have cC : (if 1024 < (if 1 > room then 1 else room) then 1024 else (if 1 > room then 1 else room)) ≤ 1024 := by (repeat split) <;> omega
 refine bd (f := 33) Tryz.func33 rfl rfl rfl rfl ?_;(refine eF ?_)
 ((refine aW rfl (aY rfl aJ) ?_))
 exact ah.aK.refl _
def U0 (E : List (Int × bO)) (k : Nat) (R : aI) (aL : List (Nat × ah)) (bh : List (Nat × List AC)) : Prop :=
 ∃ (i : Nat) (ii : Int) (v : Value), i ≤ E.length ∧ k = E.length - i ∧ ii = i ∧ R = bC 0 ⟨68, 5, v, i, qo (E.take i)⟩ ∧ bh = [] ∧ aL = [(3, aQ v), (6, gX E), (7, ax E.length), (8, ax ii)]
theorem aeV {E : List (Int × bO)} (al : E.length ≤ 900000) : au ag 32 [gX E] (gX E) := by
 refine bd (f := 32) Tryz.func32 rfl rfl rfl rfl ?_;refine tU ?_;refine Kn ?_;(refine bc ?_);refine oO 0 68 5 rfl ?_
 skip
 refine kw 18 (U0 E) E.length (bC 0 ⟨68, 5, .slice none 0 0, 0, []⟩) _ [] ⟨0, 0, .slice none 0 0, dJ _, rfl, rfl, rfl, rfl, rfl⟩ (nt _ _ _) rfl ⟨rfl, rfl, rfl, rfl, trivial⟩ trivial rfl ?_;rintro n R aL bh ⟨i, ii, v, hi, rfl, gS, rfl, rfl, rfl⟩ c9;clear c9
 by_cases ak : i < E.length
 ·have q2 : ii < (E.length : Int) := by omega
  have bB : 0 ≤ ii := by omega
  obtain ⟨o, a, b, c, d, g1⟩ : ∃ o a b c d, E[i]? = some (o, (a, b), (c, d)) := ⟨_, _, _, _, _, bN ak⟩;have mR := sI gS g1
  have cl : qo (E.take (i + 1)) = qo (E.take i) ++ [.c (.int .i64 a), .c (.int .i64 b), .c (.int .i64 c), .c (.int .i64 d), .c (.int .i64 o)] := by
   rw [mM ak, (bL.1 g1).2]; simp [qo, CO]
  (refine bc ?_);refine rR 0 rfl rfl rfl rfl ?q1 ?q2 rfl rfl (fun v1 hk => ?_)
  case q1 => exact lA (by show i + 1 ≤ 1000000; omega)
  case q2 => show (i + 1) * 40 ≤ 140737488355328; omega
  (refine bc ?_);refine ⟨E.length - (i + 1), bC 0 ⟨68, 5, v1, i + 1, qo (E.take (i + 1))⟩, _, [], by omega, ⟨i + 1, ii + 1, v1, ak, rfl, by omega, rfl, rfl, rfl⟩, ?_, rfl, ⟨rfl, rfl, rfl, rfl, trivial⟩, trivial, rfl⟩;rw [cl];exact nt _ _ _
 ·have q2 : ¬ ii < (E.length : Int) := by omega
  have dh : i = E.length := by omega
  subst dh;rw [List.take_length];refine Bn 0 3 ⟨68, 5, v, E.length, qo E⟩ rfl rfl ?_;(refine bc ?_)
  ((refine aW rfl (aY rfl aJ) ?_))
  exact ah.aK.refl _
def Vb (E : List (Int × bO)) (k : Nat) (aL : List (Nat × ah)) (bh : List (Nat × List AC)) : Prop :=
 ∃ (i : Nat) (ii : Int), i ≤ E.length ∧ k = E.length - i ∧ ii = i ∧ gJ (E.map Prod.snd) = gJ ((E.drop i).map Prod.snd) ∧ bh = [] ∧ aL = [(0, gX E), (3, ax ii)]
theorem Es {a b : Int} : gD (a, b) = true ↔ bu a b = true ∧ a ≠ 134217728 ∧ b ≠ 134217728 := by
 rw [qK];unfold bu;simp only [c6, cg];omega
theorem aeY {E : List (Int × bO)} (al : E.length ≤ 4611686018427387904) : au ag 8 [gX E] (a7 (gJ (E.map Prod.snd))) := by
 refine bd (f := 8) Tryz.func8 rfl rfl rfl rfl ?_;(refine eF ?_);refine sD 60 (Vb E) E.length _ [] ⟨0, 0, dJ _, rfl, rfl, rfl, rfl, rfl⟩ rfl ⟨rfl, rfl, trivial⟩ trivial rfl ?_;rintro n aL bh ⟨j, eC, ae, rfl, pg, gR, rfl, rfl⟩ c9;clear c9
 by_cases hp : j < E.length
 ·have p2 : eC < (E.length : Int) := by omega
  have p3 : 0 ≤ eC := by omega
  obtain ⟨o, a, b, c, d, g1⟩ : ∃ o a b c d, E[j]? = some (o, (a, b), (c, d)) := ⟨_, _, _, _, _, bN hp⟩;have mR := sI pg g1;have hd : E.drop j = (o, (a, b), (c, d)) :: E.drop (j + 1) := by rw [nm hp, (bL.1 g1).2]
  have e : gJ ((E.drop j).map Prod.snd) = ((gD (a, b) && gD (c, d)) && gJ ((E.drop (j + 1)).map Prod.snd)) := by rw [hd]; rfl
  rw [e] at gR;have z8 := Es (a := a) (b := b);have sY := Es (a := c) (b := d);have Ew : gD (a, b) = false → gJ (E.map Prod.snd) = false := fun h => by rw [gR, h]; rfl
  have Ex : gD (c, d) = false → gJ (E.map Prod.snd) = false := fun h => by rw [gR, h, Bool.and_false]; rfl
  cases en : bu a b with
  | false =>
   have aS := kQ en;have gR := Ew (Bool.eq_false_iff.2 fun h => by have := z8.1 h; rw [en] at this; exact absurd this.1 (by decide));rw [gR];(repeat first | refine dv ?_ | refine ff aS ?_)
   ((refine aW rfl (aY rfl aJ) ?_))
   exact ah.aK.refl _
  | true =>
   have aS := kQ en;cases kd : bu c d with
   | false =>
    have bD := kQ kd;have gR := Ex (Bool.eq_false_iff.2 fun h => by have := sY.1 h; rw [kd] at this; exact absurd this.1 (by decide));rw [gR];(repeat first | refine dv ?_ | refine ff aS ?_ | refine ff bD ?_)
    ((refine aW rfl (aY rfl aJ) ?_))
    exact ah.aK.refl _
   | true =>
    have bD := kQ kd
    by_cases aF : a = 134217728
    ·have gR := Ew (Bool.eq_false_iff.2 fun h => by have := z8.1 h; omega);rw [gR];(repeat first | refine dv ?_ | refine ff aS ?_ | refine ff bD ?_ | (with_reducible apply bP (c := true)); rfl; rfl; (exact cd (by omega)))
     ((refine aW rfl (aY rfl aJ) ?_))
     exact ah.aK.refl _
    by_cases ab : b = 134217728
    ·have gR := Ew (Bool.eq_false_iff.2 fun h => by have := z8.1 h; omega);rw [gR];(repeat first | refine dv ?_ | refine ff aS ?_ | refine ff bD ?_ | (with_reducible apply bP (c := true)); rfl; rfl; (exact cd (by omega)) | (with_reducible apply bP (c := false)); rfl; rfl; (exact cA (by omega)))
     ((refine aW rfl (aY rfl aJ) ?_))
     exact ah.aK.refl _
    by_cases aj : c = 134217728
    ·have gR := Ex (Bool.eq_false_iff.2 fun h => by have := sY.1 h; omega);rw [gR];(repeat first | refine dv ?_ | refine ff aS ?_ | refine ff bD ?_ | (with_reducible apply bP (c := true)); rfl; rfl; (exact cd (by omega)) | (with_reducible apply bP (c := false)); rfl; rfl; (exact cA (by omega)))
     ((refine aW rfl (aY rfl aJ) ?_))
     exact ah.aK.refl _
    by_cases xL : d = 134217728
    ·have gR := Ex (Bool.eq_false_iff.2 fun h => by have := sY.1 h; omega);rw [gR];(repeat first | refine dv ?_ | refine ff aS ?_ | refine ff bD ?_ | (with_reducible apply bP (c := false)); rfl; rfl; (exact cA (by omega)))
     ((refine aW rfl (aY rfl aJ) ?_))
     exact ah.aK.refl _
    rw [z8.2 ⟨en, aF, ab⟩, sY.2 ⟨kd, aj, xL⟩, oN, oN] at gR;clear Ew Ex z8 sY;(repeat first | refine dv ?_ | refine ff aS ?_ | refine ff bD ?_ | (with_reducible apply bP (c := false)); rfl; rfl; (exact cA (by omega)));exact ⟨E.length - (j + 1), _, [], by omega, ⟨j + 1, eC + 1, hp, rfl, by omega, gR, rfl, rfl⟩, rfl, ⟨rfl, rfl, trivial⟩, trivial, rfl⟩
 ·have p2 : ¬ eC < (E.length : Int) := by omega
  rw [uZ (by omega)] at gR;rw [gR];(refine eF ?_)
  ((refine aW rfl (aY rfl aJ) ?_))
  exact ah.aK.refl _
def y0 (k : Nat) (ca : Nat → Nat) (E : List (Int × bO)) (r rm : Nat) (f : FuncId) (args : List ah) (dV : br.aT ao) : Prop :=
 du ag f args cj eU fun cb aH ay => ∃ cs bf, cb = .w (.one (.own k 0)) ∧ aH = cZ k cs ∧ ay = bf.a6 ca ∧ dN E r rm dV cs bf
theorem y0.tO9 {eW : Nat} {E : List (Int × bO)} {r rm : Nat} {f : FuncId} {args : List ah} {dV : br.aT ao} (h : y0 eW dK E r rm f args dV) (eo : args.all ah.aZ = true) (k : Nat) {ca : Nat → Nat} (fM : ∀ j, ca (ca j) = j) : y0 k ca E r rm f args dV := by
 have h1 := du.a6 (bF := swp eW k) (nv eW k) (ca := ca) (iV := ca) fM fM h
 have aO : args.map (ah.a6 (swp eW k)) = args := by
  conv => rhs; rw [← List.map_id args]
  exact np fun x aa => u6 (cB.1 eo x aa)
 rw [aO] at h1;refine du.imp (show du ag f args cj eU _ from h1) ?_;rintro cb aH ay ⟨bV, m1, bf, ⟨cs, ev, rfl, rfl, rfl, bl⟩, rfl, rfl, rfl⟩;refine ⟨cs, ev, ?_, wx bl.closed, rfl, bl⟩;show ah.w (.one (.own (swp eW k eW) 0)) = _;rw [Bx]
theorem I4 {o : cw ao} {ok : Nat → List ao × List Int → Prop} (af : jw o ok) : ∀ (n : Nat) {s : br.aT ao}, ha o ok s → 4 ≤ s.ph → la o n s = s
 | 0, s, _, _ => rfl
 | n + 1, s, h, aD => by
  have e := (wS af h).2.2 aD;show la o n (cJ o s) = s;rw [e]; exact I4 af n h aD
theorem run_eq {o : cw ao} {ok : Nat → List ao × List Int → Prop} (af : jw o ok) (n : Nat) {s : br.aT ao} (h : ha o ok s) : (eQ o n s).2 = la o n s := by
 obtain ⟨h1, h2, h3⟩ := Fv (o := o) n s
 by_cases aj : (eQ o n s).1 < n
 ·have aD := h3 aj;have e : n = (eQ o n s).1 + (n - (eQ o n s).1) := by omega
  have hi := (DY af (eQ o n s).1 h).1;rw [h1] at aD ⊢
  conv => rhs; rw [e, PL]
  exact (I4 af _ hi aD).symm
 ·have e : (eQ o n s).1 = n := by omega
  rw [h1, e]
section
variable {E : List (Int × bO)} {k room : Int}
def oa (E : List (Int × bO)) (k room : Int) : br.aT ao := la (bt E (eV k) (ef room)) (mc E.length room).toNat (fk (bt E (eV k) (ef room)))
theorem KW (h : gJ (E.map Prod.snd) = true) (hl : E.length ≤ 7) : nB E (eV k) (ef room) (oa E k room) ∧ 4 ≤ (oa E k room).ph ∧ (eQ (bt E (eV k) (ef room)) (mc E.length room).toNat (fk (bt E (eV k) (ef room)))).2 = oa E k room ∧ ((eQ (bt E (eV k) (ef room)) (mc E.length room).toNat (fk (bt E (eV k) (ef room)))).1 : Int) ≤ mc E.length room := by
 have hw : hA E (eV k) (ef room) := Fj h (by omega);have aq : (bt E (eV k) (ef room)).R = ef room := rfl;have aw := hA.n E (eV k) (ef room);have ab := Qw (n := E.length) (room := room) (by omega) (by omega)
 have hm : 8 * ((bt E (eV k) (ef room)).R + 2) * (((bt E (eV k) (ef room)).n * (bt E (eV k) (ef room)).R + 1) * ((bt E (eV k) (ef room)).n * (bt E (eV k) (ef room)).R + 1)) ≤ (mc E.length room).toNat := by
  rw [aq, aw]
  have e : ((8 * (ef room + 2) * ((E.length * ef room + 1) * (E.length * ef room + 1)) : Nat) : Int) = mc E.length room := by
   unfold mc;rw [← Kf room]
   push_cast
   rw [j5 (8 * ((ef room : Int) + 2)), show ((ef room : Int) + 1 + 1) = (ef room : Int) + 2 by omega]
  omega
 have he := Yk hw.ok (by rw [aq]; exact hw.pos) hm;refine ⟨he.1, ?_, run_eq hw.ok _ (ti _ _), ?_⟩
 ·unfold oa;rcases he.2 with aD | cU
  ·rw [aD.ph]; decide
  ·rw [cU.ph]; decide
 ·have := (Fv (o := bt E (eV k) (ef room)) (mc E.length room).toNat (fk (bt E (eV k) (ef room)))).2.1;omega
theorem acn (h : gJ (E.map Prod.snd) = true) (hl : E.length ≤ 7) : y0 12 dK E (eV k) (ef room) 10 [gX E, ax k, ax room] (oa E k room) := by
 obtain ⟨i1, aD, aG, aO⟩ := KW (k := k) (room := room) h hl;have hw : hA E (eV k) (ef room) := Fj h (by omega);have nA := I9 12 (ca := dK) nW (E := E) (K := k) (n := room) (by omega) h;have aS := aeV (E := E) (by omega);have bD := afH (n := E.length) (room := room) (by omega) (by omega);have ab := Qw (n := E.length) (room := room) (by omega) (by omega);have bf := D1 hw (ti _ _) (n := mc E.length room) (by omega);have oh := Jc hw i1;rw [(wS hw.ok i1).2.2 aD, cA (by omega)] at oh;rw [aG] at bf;generalize (eQ (bt E (eV k) (ef room)) (mc E.length room).toNat (fk (bt E (eV k) (ef room)))).1 = did at *;generalize oa E k room = gy at *;generalize fk (bt E (eV k) (ef room)) = Gt at *;clear aG;generalize mc E.length room = M at *;have akB : ¬ (did : Int) > M := by omega
 have bf := bf.om 12 (ca := dK) nW rfl rfl;have oh := oh.om 12 (ca := dK) nW rfl rfl;refine dE (f := 10) Tryz.func10 rfl (dA rfl) (by exact oo) ?_;(refine oV ?_);refine DM 12 dK rfl rfl rfl rfl nA rfl rfl rfl rfl (fun cs yW bq => ?_);rw [JO];(refine oV ?_);refine nT 12 dK rfl rfl rfl rfl rfl rfl rfl rfl bf bq (bx.refl _) (fun M3 p6 gZ => ?_);rw [show bX (aI.a6 dK p6) (aI.a6 dK yW) = aI.a6 dK p6 from bq.bX gZ];(repeat first | refine cG ?_ | (with_reducible apply fX); rfl; (repeat first | refine gu ?_ | refine e7 ?_ | (with_reducible apply bP (c := false)); rfl; rfl; (exact cA (by omega))); (with_reducible apply fC));refine nT 12 dK rfl rfl rfl rfl rfl rfl rfl rfl oh gZ (bx.refl _) (fun G3 o3 lg => ?_);rw [show bX (aI.a6 dK o3) (aI.a6 dK p6) = aI.a6 dK o3 from gZ.bX lg];(refine bc ?_)
 ((refine Dx 12 rfl (aY rfl aJ) rfl (bx.refl _) lg.closed rfl ?_))
 exact ⟨G3, o3, rfl, rfl, rfl, lg⟩
theorem acm (h : gJ (E.map Prod.snd) = true) (hl : E.length ≤ 7) (j : Nat) {ca : Nat → Nat} (fM : ∀ j, ca (ca j) = j) : y0 j ca E (eV k) (ef room) 10 [gX E, ax k, ax room] (oa E k room) := (acn h hl).tO9 rfl j fM
end
section
variable {E : List (Int × bO)} {r rm : Nat}
theorem Py {r : Nat} {x y : Int} (h : eA r x y = true) : (-9223372036854775808 ≤ x ∧ x ≤ 9223372036854775807) ∧ -9223372036854775808 ≤ y ∧ y ≤ 9223372036854775807 := by
 have hd : (134217728 : Int) / 2 ^ r ≤ 134217728 := Int.ediv_le_self _ (by decide);unfold eA wi at h;simp only [c6, cg] at h;omega
end
theorem adT {E : List (Int × bO)} {r rm : Nat} : (news (bt E r rm)).length = E.length := by
 unfold news; rw [iD, List.length_range, hA.n]
end Go.Proofs.YtbcecodakfejaaaGreat
