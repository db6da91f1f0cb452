/-
  My own texts, without what this claim does not need. My own text.
-/
import Derived.Test.YtbcecodakfejaaaGreatSKeepsK11
set_option maxRecDepth 100000
set_option maxHeartbeats 64000000
set_option linter.unusedVariables false
set_option linter.unusedSimpArgs false
set_option linter.unusedSectionVars false
open Go.Proofs.Tryz renaming prog → ag
namespace Go.Proofs.YtbcecodakfejaaaGreat
open Go.RowKit
theorem PI : b3 [] = [] := rfl
theorem PJ (p : Int × Int) (l : List (Int × Int)) : ((b3 (p :: l)).drop ((1 : Int).toNat * 2)).take (l.length * 2) = b3 l := by
 show ((b3 (p :: l)).drop 2).take (l.length * 2) = b3 l;rw [← oD];simp [b3]
theorem I3 (p : Int × Int) (l : List (Int × Int)) : b3 l ++ [.c (.int .i64 p.1), .c (.int .i64 p.2)] = b3 (l ++ [p]) := by rw [ta]; rfl
theorem abQ (l : List (Int × Int)) (k : Nat) : ((b3 l).drop (0 * 2)).take ((l.take k).length * 2) = b3 (l.take k) := by
 have e : b3 l = b3 (l.take k) ++ b3 (l.drop k) := by rw [← ta, kr]
 rw [e, Nat.zero_mul, List.drop_zero, ← oD];simp
theorem abP (l : List (Int × Int)) (k : Nat) (af : k ≤ l.length) : ((b3 l).drop (k * 2)).take ((l.drop k).length * 2) = b3 (l.drop k) := by
 have e : b3 l = b3 (l.take k) ++ b3 (l.drop k) := by rw [← ta, kr]
 have aO : k * 2 = (b3 (l.take k)).length := by rw [oD, ei, pP af]
 rw [e, aO, List.drop_left, ← oD, List.take_length]
abbrev jh (v : Value) (l : List (Int × Int)) : bG := ⟨36, 2, v, l.length, b3 l⟩
instance akX : lm ag 27 36 2 16 := ⟨by kernel_rfl⟩
def UY (M : List (Int × Int)) (lt : Int × Int → Int × Int → Bool) (Ef : ah) (K : Nat) (m : Nat) (R : aI) (aL : List (Nat × ah)) (bh : List (Nat × List AC)) : Prop :=
 ∃ (a b out : List (Int × Int)) (v : Value), m = a.length + b.length ∧ out ++ eX lt a b = M ∧ out.length + m = K ∧ R = bC 0 (jh v out) ∧ aL = [(0, h7 a), (1, h7 b), (2, Ef), (7, aQ v)] ∧ bh = []
theorem JV {fx fy : Bool} {a b : List (Int × Int)} (aF : a.length ≤ 100000) (ab : b.length ≤ 100000) :
  au ag 136 [h7 a, h7 b, wV fx fy] (h7 (eX (dS fx fy) a b)) := by
 refine bd (f := 136) Tryz.func136 rfl rfl rfl rfl ?_;refine tU ?_;(refine bc ?_);refine Ai (l := 0) (c' := a.length + b.length) 0 rfl rfl rfl rfl (dJ _) rfl rfl ?h2 (lA (by omega)) rfl (fun v hv => ?_)
 case h2 => omega
 (refine bc ?_);refine kw 52 (UY (eX (dS fx fy) a b) (dS fx fy) (wV fx fy) (a.length + b.length)) (a.length + b.length) (bC 0 (jh v [])) _ _ ⟨a, b, [], v, rfl, rfl, j3 _, rfl, rfl, rfl⟩ (nt _ _ _) rfl ⟨rfl, rfl, rfl, rfl, trivial⟩ trivial rfl ?_;rintro m R aL bh ⟨a', bE, out, v, rfl, fT, fi, rfl, rfl, rfl⟩ c9;clear c9 hv
 by_cases J7 : 0 < a'.length
 ·by_cases J8 : 0 < bE.length
  ·have SF : (a'.length : Int) > 0 := by omega
   have agA : (bE.length : Int) > 0 := by omega
   obtain ⟨⟨x, n⟩, a2, rfl⟩ := List.exists_cons_of_length_pos J7;obtain ⟨⟨y, m⟩, b2, rfl⟩ := List.exists_cons_of_length_pos J8;have k1 : ((b3 ((x, n) :: a2)).drop ((0 : Int).toNat * 2)).take 2 = [.c (.int .i64 x), .c (.int .i64 n)] := uE (j := 0) (i := 0) rfl rfl;have yL : ((b3 ((y, m) :: b2)).drop ((0 : Int).toNat * 2)).take 2 = [.c (.int .i64 y), .c (.int .i64 m)] := uE (j := 0) (i := 0) rfl rfl;have aS := ae8 (x := y) (y := m) (z := x) (w := n) (l := fx) (d := fy) rfl;rw [show za y m x n fx fy = dS fx fy (y, m) (x, n) from rfl] at aS;cases bb : dS fx fy (y, m) (x, n) with
   | true =>
    rw [bb] at aS;have aG : ((y, m) :: b2).length - (1 : Int).toNat = b2.length := rfl;have aO := PJ (y, m) b2
    have HM : (out ++ [(y, m)]) ++ eX (dS fx fy) ((x, n) :: a2) b2 = eX (dS fx fy) a b := by
     rw [← fT, eX, if_pos bb, hK]; rfl
    have Ij : (out ++ [(y, m)]).length = out.length + 1 := cO;have nN : ((y, m) :: b2).length = b2.length + 1 := rfl;have aam : ((x, n) :: a2).length = a2.length + 1 := rfl;(repeat first | (with_reducible apply dl (id := 3) [0,1,2,3,4,5,6,7]); kernel_rfl; kernel_rfl; rfl | (with_reducible apply dl (id := 4) [0,1,2,3,6,7,4,5,8,9]); kernel_rfl; kernel_rfl; rfl | refine cG ?_ | (with_reducible apply fX); rfl; (repeat first | refine gu ?_ | refine e7 ?_ | (with_reducible apply bP (c := true)); rfl; rfl; (exact cd (by omega))); (with_reducible apply fC));refine rR 0 rfl rfl rfl rfl ?q1 ?q2 rfl rfl (fun v' b8 => ?_)
    case q1 => exact lA (by show out.length + 1 ≤ 1000000; omega)
    case q2 => show (out.length + 1) * 16 ≤ 140737488355328; omega
    (refine bc ?_)
    have cl : jh v' (out ++ [(y, m)]) = ⟨36, 2, v', out.length + 1, b3 out ++ [.c (.int .i64 y), .c (.int .i64 m)]⟩ := by
     unfold jh; rw [← I3, cO]; rfl
    refine ⟨_, bC 0 (jh v' (out ++ [(y, m)])), _, _, ?_, ⟨(x, n) :: a2, b2, out ++ [(y, m)], v', rfl, HM, ?_, rfl, rfl, rfl⟩, by rw [cl]; exact nt _ _ _, rfl, ⟨rfl, rfl, rfl, rfl, trivial⟩, trivial, rfl⟩
    ·omega
    ·omega
   | false =>
    rw [bb] at aS;have aG : ((x, n) :: a2).length - (1 : Int).toNat = a2.length := rfl;have aO := PJ (x, n) a2
    have HM : (out ++ [(x, n)]) ++ eX (dS fx fy) a2 ((y, m) :: b2) = eX (dS fx fy) a b := by
     rw [← fT, eX, if_neg (by rw [bb]; decide), hK]; rfl
    have Ij : (out ++ [(x, n)]).length = out.length + 1 := cO;have nN : ((y, m) :: b2).length = b2.length + 1 := rfl;have aam : ((x, n) :: a2).length = a2.length + 1 := rfl;(repeat first | (with_reducible apply dl (id := 3) [0,1,2,3,4,5,6,7]); kernel_rfl; kernel_rfl; rfl | (with_reducible apply dl (id := 5) [0,1,2,3,6,7,4,5,8,9]); kernel_rfl; kernel_rfl; rfl | refine cG ?_ | (with_reducible apply fX); rfl; (repeat first | refine gu ?_ | refine e7 ?_ | (with_reducible apply bP (c := true)); rfl; rfl; (exact cd (by omega))); (with_reducible apply fC));refine rR 0 rfl rfl rfl rfl ?q1 ?q2 rfl rfl (fun v' b8 => ?_)
    case q1 => exact lA (by show out.length + 1 ≤ 1000000; omega)
    case q2 => show (out.length + 1) * 16 ≤ 140737488355328; omega
    (refine bc ?_)
    have cl : jh v' (out ++ [(x, n)]) = ⟨36, 2, v', out.length + 1, b3 out ++ [.c (.int .i64 x), .c (.int .i64 n)]⟩ := by
     unfold jh; rw [← I3, cO]; rfl
    refine ⟨_, bC 0 (jh v' (out ++ [(x, n)])), _, _, ?_, ⟨a2, (y, m) :: b2, out ++ [(x, n)], v', rfl, HM, ?_, rfl, rfl, rfl⟩, by rw [cl]; exact nt _ _ _, rfl, ⟨rfl, rfl, rfl, rfl, trivial⟩, trivial, rfl⟩
    ·omega
    ·omega
  ·have SF : (a'.length : Int) > 0 := by omega
   have agA : ¬ (bE.length : Int) > 0 := by omega
   have OC : bE = [] := List.length_eq_zero_iff.1 (by omega);have aN : (a'.length : Int) = a'.length := rfl;(repeat first | refine cG ?_ | (with_reducible apply fX); rfl; (repeat first | refine gu ?_ | (with_reducible apply bP (c := true)); rfl; rfl; (exact cd (by omega))); (with_reducible apply fC));refine rR 0 rfl rfl rfl rfl ?q1 ?q2 (wm _) rfl (fun v' b8 => ?_)
   case q1 => exact lA (by show out.length + a'.length ≤ 1000000; omega)
   case q2 => show (out.length + a'.length) * 16 ≤ 140737488355328; omega
   (refine bc ?_);refine O6 (k := (eX (dS fx fy) a b).length) (zs := b3 (eX (dS fx fy) a b)) 0 rfl rfl rfl rfl ?p1 ?p2 ?p3 ?p4 (wm _) rfl ?_
   case p1 => exact lA (by show (out.length + a'.length) + bE.length ≤ 1000000; omega)
   case p2 => show ((out.length + a'.length) + bE.length) * 16 ≤ 140737488355328; omega
   case p3 => show (out.length + a'.length) + bE.length = (eX (dS fx fy) a b).length; rw [Jy]; omega
   case p4 => show (b3 out ++ b3 a') ++ b3 bE = b3 (eX (dS fx fy) a b); rw [← fT, OC, Jz, ← ta, PI, me]
   (refine bc ?_)
   ((refine aW rfl (aY rfl aJ) ?_))
   exact ah.aK.refl _
 ·have SF : ¬ (a'.length : Int) > 0 := by omega
  have Zr : a' = [] := List.length_eq_zero_iff.1 (by omega);(repeat first | refine cG ?_ | (with_reducible apply fX); rfl; (repeat first | refine gu ?_ | (with_reducible apply bP (c := false)); rfl; rfl; (exact cA (by omega))); (with_reducible apply fC));refine rR 0 rfl rfl rfl rfl ?q1 ?q2 (wm _) rfl (fun v' b8 => ?_)
  case q1 => exact lA (by show out.length + a'.length ≤ 1000000; omega)
  case q2 => show (out.length + a'.length) * 16 ≤ 140737488355328; omega
  (refine bc ?_);refine O6 (k := (eX (dS fx fy) a b).length) (zs := b3 (eX (dS fx fy) a b)) 0 rfl rfl rfl rfl ?p1 ?p2 ?p3 ?p4 (wm _) rfl ?_
  case p1 => exact lA (by show (out.length + a'.length) + bE.length ≤ 1000000; omega)
  case p2 => show ((out.length + a'.length) + bE.length) * 16 ≤ 140737488355328; omega
  case p3 => show (out.length + a'.length) + bE.length = (eX (dS fx fy) a b).length; rw [Jy]; omega
  case p4 => show (b3 out ++ b3 a') ++ b3 bE = b3 (eX (dS fx fy) a b); rw [← fT, Zr, adq, PI, me, ← ta]
  (refine bc ?_)
  ((refine aW rfl (aY rfl aJ) ?_))
  exact ah.aK.refl _
theorem ae4 {fx fy : Bool} :
  ∀ (N : Nat) (l : List (Int × Int)), l.length ≤ N → N ≤ 100000 → au ag 100 [h7 l, wV fx fy] (h7 (jo (dS fx fy) l)) := by
 intro N
 induction N with
 | zero =>
  intro l h1 h2;have mm := JV (fx := fx) (fy := fy) (a := l) (b := []) (by omega) (by simp);rw [Jz] at mm
  have aS : au ag 136 [h7 l, KN, wV fx fy] (h7 l) := R6 mm rfl rfl (by
   intro i x y aa ai
   match i with
   | 0 => cases aa; cases ai; exact .refl _
   | 1 => cases aa; cases ai; exact nil_le 2
   | 2 => cases aa; cases ai; exact .refl _
   | i + 3 => simp at aa)
  have q1 : (l.length : Int) < 2 := by omega
  have e : jo (dS fx fy) l = l := by rw [jo, dif_pos (by omega)]
  rw [e];clear mm;refine bd (f := 100) Tryz.func100 rfl rfl rfl rfl ?_;(refine bS ?_)
  ((refine aW rfl (aY rfl aJ) ?_))
  exact ah.aK.refl _
 | succ N b9 =>
  intro l h1 h2
  by_cases q : l.length < 2
  ·have mm := JV (fx := fx) (fy := fy) (a := l) (b := []) (by omega) (by simp);rw [Jz] at mm
   have aS : au ag 136 [h7 l, KN, wV fx fy] (h7 l) := R6 mm rfl rfl (by
    intro i x y aa ai
    match i with
    | 0 => cases aa; cases ai; exact .refl _
    | 1 => cases aa; cases ai; exact nil_le 2
    | 2 => cases aa; cases ai; exact .refl _
    | i + 3 => simp at aa)
   have q1 : (l.length : Int) < 2 := by omega
   have e : jo (dS fx fy) l = l := by rw [jo, dif_pos (by omega)]
   rw [e];clear mm b9;refine bd (f := 100) Tryz.func100 rfl rfl rfl rfl ?_;(refine bS ?_)
   ((refine aW rfl (aY rfl aJ) ?_))
   exact ah.aK.refl _
  ·have q1 : ¬ (l.length : Int) < 2 := by omega
   have e : jo (dS fx fy) l = eX (dS fx fy) (jo (dS fx fy) (l.take (l.length / 2))) (jo (dS fx fy) (l.drop (l.length / 2))) := by rw [jo, dif_neg q]
   have aS := b9 (l.take (l.length / 2)) (by simp; omega) (by omega);have bD := b9 (l.drop (l.length / 2)) (by simp; omega) (by omega);have l1 := FH (dS fx fy) _ (l.take (l.length / 2)) (dI _);have l2 := FH (dS fx fy) _ (l.drop (l.length / 2)) (dI _);have dW := JV (fx := fx) (fy := fy) (a := jo (dS fx fy) (l.take (l.length / 2))) (b := jo (dS fx fy) (l.drop (l.length / 2))) (by rw [l1]; simp; omega) (by rw [l2]; simp; omega);have aR : ((l.length : Int) / 2).toNat = l.length / 2 := by omega
   have aG : ((l.length : Int) / 2).toNat - 0 = (l.take (l.length / 2)).length := by rw [aR]; simp; omega
   have aO := abQ l (l.length / 2);have cl : ((l.length : Int)).toNat - ((l.length : Int) / 2).toNat = (l.drop (l.length / 2)).length := by rw [aR]; simp
   have ey := abP l (l.length / 2) (by omega);have k2 : ((b3 l).drop (((l.length : Int) / 2).toNat * 2)).take ((l.drop (l.length / 2)).length * 2) = b3 (l.drop (l.length / 2)) := by rw [aR]; exact ey
   rw [e];clear b9 l1 l2 e ey aR;refine bd (f := 100) Tryz.func100 rfl rfl rfl rfl ?_;(repeat first | (with_reducible apply Cp); rfl | (with_reducible apply LX); (iterate 3 rfl) | (with_reducible apply GL); (iterate 4 rfl); (omega); (omega); (omega); (assumption); (assumption); rfl | (with_reducible apply GM); (iterate 5 rfl); (omega); (omega); (omega); (omega); (assumption); (assumption); rfl | (with_reducible apply WA); (iterate 3 rfl); omega; omega; omega; rfl | refine GH rfl rfl rfl rfl (by (first | exact aS | exact bD)) rfl ?_ | refine GI rfl rfl rfl rfl rfl (by (exact dW)) rfl ?_ | (with_reducible apply LY); kernel_rfl | (with_reducible apply Mg); kernel_rfl; kernel_rfl; rfl | (with_reducible first | apply Mi | apply L7 | apply Mf | apply fC | apply Mh | apply Mj) | (with_reducible apply Ma); rfl; (exact cA (by omega)))
   ((refine aW rfl (aY rfl aJ) ?_))
   exact ah.aK.refl _
section
variable {P : Program} {a8 : eL} {s : aC} {ops : Array Oper} {dr : Option (List Nat)} {ty d : Nat} {pos : String} {after : Array Edge} {guard : Option (Nat × Bool)} {K : aC → Prop} {rest : List Oper}
theorem GK {tt z n l lo hi : Nat} {v u : Value} {x y : Operand} [S : ib P tt z] (hw : want ops ⟨some d, .slice tt x (some y) none none, ty, pos, after, guard⟩ s = some true) (aa : s.look x = some (aQ u)) (ai : s.look y = some (ax (l : Int))) (hu : jx v z lo hi u) (hm : hi - lo = n) (h1 : l ≤ n) (hd : Nat.blt d s.n = true) (h : bg P ops K rest (s.put (some d) (aQ (hy u z l n)))) : bg P ops K (⟨some d, .slice tt x (some y) none none, ty, pos, after, guard⟩ :: rest) s := by
 subst hm;obtain ⟨⟨A, c, rfl⟩, _⟩ := hu;refine gi (av := aQ (hy (.slice A (hi - lo) c) z l (hi - lo))) hw ⟨fun _ _ h => (by cases h), fun q ak => ?_, fun U ad W env he => ?_, fun j ae => absurd ae (jf _ j)⟩ hd h
 ·simp [Op.operands] at ak;rcases ak with rfl | rfl
  ·exact ⟨_, aa⟩
  ·exact ⟨_, ai⟩
 ·have ex : env x = .slice A (hi - lo) c := (he x (by simp [Op.operands]) _ aa).1;have k4 : env y = .int .i64 (l : Int) := (he y (by simp [Op.operands]) _ ai).1;obtain ⟨bm, eH, hu, da, hs⟩ := nu S.h;have fc : P.underlying tt = some (.slice (P.elem tt)) := by rw [k3 hu]; exact hu
  refine ⟨hy (.slice A (hi - lo) c) z l (hi - lo), ?_, rfl, rfl⟩;simp only [execOp, ex, hr, ts, k4, Sem.run_bind, run_sliceAt_slice W tt _ _ _ _ fc, run_slice_l W tt A (hi - lo) c fc .i64 l (by omega) (by omega), k3 hu, h5 da, Result.andThen_ok, hs, Sem.run_pure, ld, hy]
theorem WB {tt z n l lo hi : Nat} {v u : Value} {x y : Operand} [S : ib P tt z] (hw : want ops ⟨some d, .slice tt x none (some y) none, ty, pos, after, guard⟩ s = some true) (aa : s.look x = some (aQ u)) (ai : s.look y = some (ax (l : Int))) (hu : jx v z lo hi u) (hm : hi - lo = n) (h1 : l ≤ n) (hd : Nat.blt d s.n = true) (h : bg P ops K rest (s.put (some d) (aQ (hy u z 0 l)))) : bg P ops K (⟨some d, .slice tt x none (some y) none, ty, pos, after, guard⟩ :: rest) s := by
 subst hm;obtain ⟨⟨A, c, rfl⟩, aj⟩ := hu
 have Ik : l ≤ c := by
  rcases tq l with e | e
  ·omega
  ·have aR := aj (show lo < hi by omega);obtain ⟨g, n', c', g1, g2, g3⟩ := aR;have ey : c = c' - lo := by injection g3
   clear g1 g3 aj;omega
 refine gi (av := aQ (hy (.slice A (hi - lo) c) z 0 l)) hw ⟨fun _ _ h => (by cases h), fun q ak => ?_, fun U ad W env he => ?_, fun j ae => absurd ae (jf _ j)⟩ hd h
 ·simp [Op.operands] at ak;rcases ak with rfl | rfl
  ·exact ⟨_, aa⟩
  ·exact ⟨_, ai⟩
 ·have ex : env x = .slice A (hi - lo) c := (he x (by simp [Op.operands]) _ aa).1;have k4 : env y = .int .i64 (l : Int) := (he y (by simp [Op.operands]) _ ai).1;obtain ⟨bm, eH, hu, da, hs⟩ := nu S.h;have fc : P.underlying tt = some (.slice (P.elem tt)) := by rw [k3 hu]; exact hu
  refine ⟨hy (.slice A (hi - lo) c) z 0 l, ?_, rfl, rfl⟩;simp only [execOp, ex, hr, ts, k4, Sem.run_bind, run_sliceAt_slice W tt _ _ _ _ fc, run_slice_h W tt A (hi - lo) c fc .i64 l (by omega) (by omega), k3 hu, h5 da, Result.andThen_ok, hs, Sem.run_pure, ld, hy]
end
theorem KC {A C LA : List AC} {n : Nat} (h : A.length = n) : eI (A ++ LA) n C = (A ++ C) ++ LA.drop C.length := by
 subst h;unfold eI;rw [List.take_left, List.drop_append, uZ (by omega), List.nil_append, Nat.add_sub_cancel_left]
theorem PK {l : List ao} {n : Nat} (h : l.length = n) : (b3 l).take (n * 2) = b3 l := h4 (by rw [oD]; omega)
theorem Pw {l : List Int} {n : Nat} (h : l.length = n) : (cV l).take (n * 1) = cV l := h4 (by simp [cV]; omega)
theorem Pv (l : List Int) : (cV l).all AC.aZ = true := cB.2 fun y ai => by
 obtain ⟨x, _, rfl⟩ := gV.1 ai;rfl
theorem DV (l : List Int) : (cV l).length = l.length * 1 := by simp [cV]
abbrev Fs (LL : List (List ao)) : List AC := LL.map fun l => AC.p (cM 2 l.length (b3 l))
abbrev FT (LL : List (List ao)) : ah := cK 1 LL.length (Fs LL)
theorem S9 {LL : List (List ao)} {j : Int} {i : Nat} {l : List ao} (ae : j = i) (h : LL[i]? = some l) : ((Fs LL).drop (j.toNat * 1)).take 1 = [.p (cM 2 l.length (b3 l))] := by
 subst ae;have hi := (bL.1 h).1;rw [ld, Nat.mul_one, nm (by simpa [Fs] using hi)];have : LL[i] = l := (bL.1 h).2;simp [Fs, this]
def iA (LL : List (List ao)) (i : Nat) : List ao := (LL.take i).flatten
theorem So {LL : List (List ao)} {i : Nat} {l : List ao} (h : LL[i]? = some l) : iA LL (i + 1) = iA LL i ++ l := by
 unfold iA;rw [mM (bL.1 h).1, (bL.1 h).2]; simp
theorem Sm {LL : List (List ao)} {i : Nat} (h : LL.length ≤ i) : iA LL i = LL.flatten := by unfold iA; rw [h4 h]
theorem Sn (LL : List (List ao)) (i : Nat) : (iA LL i).length ≤ LL.flatten.length := by
 have : LL.flatten = iA LL i ++ (LL.drop i).flatten := by unfold iA; rw [← List.flatten_append, kr]
 rw [this, cO]; omega
def UK (LL : List (List ao)) (n : Nat) (R : aI) (aL : List (Nat × ah)) (bh : List (Nat × List AC)) : Prop :=
 ∃ (i : Nat) (ii km : Int), i ≤ LL.length ∧ n = LL.length - i ∧ ii = i ∧ km = ((iA LL i).length : Nat) ∧ R = eU ∧ bh = [] ∧ aL = [(0, FT LL), (3, ax km), (10, FT LL), (11, ax LL.length), (12, ax ii)]
def UL (LL : List (List ao)) (N : Nat) (v : Value) (fB : List AC) (n : Nat) (R : aI) (aL : List (Nat × ah)) (bh : List (Nat × List AC)) : Prop :=
 ∃ (i : Nat) (ii : Int) (u : Value), i ≤ LL.length ∧ n = LL.length - i ∧ ii = i ∧ jx v 2 (iA LL i).length N u ∧ R = bC 0 ⟨36, 2, v, N, b3 (iA LL i) ++ fB.drop ((iA LL i).length * 2)⟩ ∧ bh = [] ∧ aL = [(6, aQ v), (7, aQ u), (24, FT LL), (25, ax LL.length), (26, ax ii)]
theorem RJ {LL : List (List ao)} (iq : LL.length ≤ 1100) (eO : LL.flatten.length ≤ 100000) : au ag 106 [FT LL] (h7 LL.flatten) := by
 refine bd (f := 106) Tryz.func106 rfl rfl rfl rfl ?_;refine tU ?_;(refine bc ?_);refine kw 37 (UK LL) LL.length eU _ [] ⟨0, 0, 0, dJ _, rfl, rfl, rfl, rfl, rfl, rfl⟩ (bx.refl _) rfl ⟨rfl, rfl, rfl, rfl, rfl, trivial⟩ trivial rfl ?_;rintro n R aL bh ⟨i, ii, km, hi, rfl, gS, zZ, rfl, rfl, rfl⟩ c9;clear c9
 by_cases ak : i < LL.length
 ·have q2 : ii < (LL.length : Int) := by omega
  have bB : 0 ≤ ii := by omega
  obtain ⟨l, g1⟩ : ∃ l, LL[i]? = some l := ⟨_, bN ak⟩;have k1 := S9 gS g1;have h1 := So g1;have h2 := Sn LL (i + 1);have h3 : (iA LL (i + 1)).length = (iA LL i).length + l.length := by rw [h1, cO]
  (refine bc ?_);exact ⟨LL.length - (i + 1), eU, _, [], by omega, ⟨i + 1, ii + 1, _, by omega, rfl, by omega, by omega, rfl, rfl, rfl⟩, bx.refl _, rfl, ⟨rfl, rfl, rfl, rfl, rfl, trivial⟩, trivial, rfl⟩
 ·have q2 : ¬ ii < (LL.length : Int) := by omega
  rw [Sm (by omega)] at zZ;subst zZ;generalize zB : LL.flatten.length = N at *;(refine bc ?_);refine Ai (l := N) (c' := N) 0 rfl rfl rfl rfl (dI _) rfl rfl ?h2 (lA (by omega)) rfl (fun v hv => ?_)
  case h2 => show 16 * N ≤ 281474976710656; omega
  generalize dY : h8 N 2 _ = fB;have Dk : fB.length = N * 2 := by rw [← dY]; simp [h8]
  clear dY;(refine bc ?_);refine Ko 0 (r := ⟨36, 2, v, N, fB⟩) rfl (fun e3 c hk ez jb dn hlen => ?_);have lz : v = .slice e3 N c := hk;have s3 : jx v 2 0 N v := by rw [lz]; exact jx.all 2 ez dn
  clear hk ez jb dn hlen;refine kw 37 (UL LL N v fB) LL.length (bC 0 ⟨36, 2, v, N, fB⟩) _ [] ⟨0, 0, v, dJ _, rfl, rfl, s3, rfl, rfl, rfl⟩ (nt _ _ _) rfl ⟨rfl, rfl, rfl, rfl, rfl, trivial⟩ trivial rfl ?_;clear ak q2 s3 gS lz;rintro n R aL bh ⟨i, ii, u, hi, rfl, gS, hu, rfl, rfl, rfl⟩ c9;clear c9
  by_cases ak : i < LL.length
  ·have q2 : ii < (LL.length : Int) := by omega
   have bB : 0 ≤ ii := by omega
   obtain ⟨l, g1⟩ : ∃ l, LL[i]? = some l := ⟨_, bN ak⟩;have k1 := S9 gS g1;have h1 := So g1;have h2 := Sn LL (i + 1);have h3 : (iA LL (i + 1)).length = (iA LL i).length + l.length := by rw [h1, cO]
   rw [zB] at h2;have c1 := wm l;have ba : Nat.min l.length (N - (iA LL i).length) = l.length := pP (by omega);obtain ⟨m, hm⟩ : ∃ m, N - (iA LL i).length = m := ⟨_, rfl⟩;have b1 : (iA LL i).length ≤ N := by omega
   have b2 : l.length ≤ m := by omega
   have s1 : eI (b3 (iA LL i) ++ fB.drop ((iA LL i).length * 2)) ((iA LL i).length * 2) ((b3 l).take (l.length * 2)) = b3 (iA LL (i + 1)) ++ fB.drop ((iA LL (i + 1)).length * 2) := by
    rw [PK rfl, KC (oD _), ← ta, ← h1, qT, oD];congr 2;omega
   have fc := hu.sl hm b2 b1;rw [← h3] at fc;(repeat first | refine cG ?_ | (with_reducible apply fX); rfl; (repeat first | refine gu ?_ | (with_reducible apply GK); (iterate 3 rfl); assumption; (assumption); (assumption); rfl); (with_reducible apply fC) | (with_reducible apply O7 0); (iterate 3 rfl); assumption; rfl; rfl; rfl; (assumption); (exact dI _); (assumption); rfl; assumption; assumption; rfl);exact ⟨LL.length - (i + 1), _, _, [], by omega, ⟨i + 1, ii + 1, _, by omega, rfl, by omega, fc, rfl, rfl, rfl⟩, nt _ _ _, rfl, ⟨rfl, rfl, rfl, rfl, rfl, trivial⟩, trivial, rfl⟩
  ·have q2 : ¬ ii < (LL.length : Int) := by omega
   have dh : b3 (iA LL i) ++ fB.drop ((iA LL i).length * 2) = b3 LL.flatten := by
    rw [Sm (by omega), uZ (by omega), me]
   rw [dh];refine Bn 0 6 ⟨36, 2, v, N, b3 LL.flatten⟩ rfl rfl ?_;rw [← zB];(refine bc ?_)
   ((refine aW rfl (aY rfl aJ) ?_))
   exact ah.aK.refl _
abbrev Ft (LL : List (List Int)) : List AC := LL.map fun l => AC.p (cM 1 l.length (cV l))
abbrev FQ (LL : List (List Int)) : ah := cK 1 LL.length (Ft LL)
theorem Ta {LL : List (List Int)} {j : Int} {i : Nat} {l : List Int} (ae : j = i) (h : LL[i]? = some l) : ((Ft LL).drop (j.toNat * 1)).take 1 = [.p (cM 1 l.length (cV l))] := by
 subst ae;have hi := (bL.1 h).1;rw [ld, Nat.mul_one, nm (by simpa [Ft] using hi)];have : LL[i] = l := (bL.1 h).2;simp [Ft, this]
def iz (LL : List (List Int)) (i : Nat) : List Int := (LL.take i).flatten
theorem Sl {LL : List (List Int)} {i : Nat} {l : List Int} (h : LL[i]? = some l) : iz LL (i + 1) = iz LL i ++ l := by
 unfold iz;rw [mM (bL.1 h).1, (bL.1 h).2]; simp
theorem Sj {LL : List (List Int)} {i : Nat} (h : LL.length ≤ i) : iz LL i = LL.flatten := by unfold iz; rw [h4 h]
theorem Sk (LL : List (List Int)) (i : Nat) : (iz LL i).length ≤ LL.flatten.length := by
 have : LL.flatten = iz LL i ++ (LL.drop i).flatten := by unfold iz; rw [← List.flatten_append, kr]
 rw [this, cO]; omega
def UI (LL : List (List Int)) (n : Nat) (R : aI) (aL : List (Nat × ah)) (bh : List (Nat × List AC)) : Prop :=
 ∃ (i : Nat) (ii km : Int), i ≤ LL.length ∧ n = LL.length - i ∧ ii = i ∧ km = ((iz LL i).length : Nat) ∧ R = eU ∧ bh = [] ∧ aL = [(0, FQ LL), (3, ax km), (10, FQ LL), (11, ax LL.length), (12, ax ii)]
def UJ (LL : List (List Int)) (N : Nat) (v : Value) (fB : List AC) (n : Nat) (R : aI) (aL : List (Nat × ah)) (bh : List (Nat × List AC)) : Prop :=
 ∃ (i : Nat) (ii : Int) (u : Value), i ≤ LL.length ∧ n = LL.length - i ∧ ii = i ∧ jx v 1 (iz LL i).length N u ∧ R = bC 0 ⟨3, 1, v, N, cV (iz LL i) ++ fB.drop ((iz LL i).length * 1)⟩ ∧ bh = [] ∧ aL = [(6, aQ v), (7, aQ u), (24, FQ LL), (25, ax LL.length), (26, ax ii)]
theorem RI {LL : List (List Int)} (iq : LL.length ≤ 1100) (eO : LL.flatten.length ≤ 100000) : au ag 107 [FQ LL] (oS LL.flatten) := by
 refine bd (f := 107) Tryz.func107 rfl rfl rfl rfl ?_;refine tU ?_;(refine bc ?_);refine kw 37 (UI LL) LL.length eU _ [] ⟨0, 0, 0, dJ _, rfl, rfl, rfl, rfl, rfl, rfl⟩ (bx.refl _) rfl ⟨rfl, rfl, rfl, rfl, rfl, trivial⟩ trivial rfl ?_;rintro n R aL bh ⟨i, ii, km, hi, rfl, gS, zZ, rfl, rfl, rfl⟩ c9;clear c9
 by_cases ak : i < LL.length
 ·have q2 : ii < (LL.length : Int) := by omega
  have bB : 0 ≤ ii := by omega
  obtain ⟨l, g1⟩ : ∃ l, LL[i]? = some l := ⟨_, bN ak⟩;have k1 := Ta gS g1;have h1 := Sl g1;have h2 := Sk LL (i + 1);have h3 : (iz LL (i + 1)).length = (iz LL i).length + l.length := by rw [h1, cO]
  (refine bc ?_);exact ⟨LL.length - (i + 1), eU, _, [], by omega, ⟨i + 1, ii + 1, _, by omega, rfl, by omega, by omega, rfl, rfl, rfl⟩, bx.refl _, rfl, ⟨rfl, rfl, rfl, rfl, rfl, trivial⟩, trivial, rfl⟩
 ·have q2 : ¬ ii < (LL.length : Int) := by omega
  rw [Sj (by omega)] at zZ;subst zZ;generalize zB : LL.flatten.length = N at *;(refine bc ?_);refine Ai (l := N) (c' := N) 0 rfl rfl rfl rfl (dI _) rfl rfl ?h2 (lA (by omega)) rfl (fun v hv => ?_)
  case h2 => show 8 * N ≤ 281474976710656; omega
  generalize dY : h8 N 1 _ = fB;have Dk : fB.length = N * 1 := by rw [← dY]; simp [h8]
  clear dY;(refine bc ?_);refine Ko 0 (r := ⟨3, 1, v, N, fB⟩) rfl (fun e3 c hk ez jb dn hlen => ?_);have lz : v = .slice e3 N c := hk;have s3 : jx v 1 0 N v := by rw [lz]; exact jx.all 1 ez dn
  clear hk ez jb dn hlen;refine kw 37 (UJ LL N v fB) LL.length (bC 0 ⟨3, 1, v, N, fB⟩) _ [] ⟨0, 0, v, dJ _, rfl, rfl, s3, rfl, rfl, rfl⟩ (nt _ _ _) rfl ⟨rfl, rfl, rfl, rfl, rfl, trivial⟩ trivial rfl ?_;clear ak q2 s3 gS lz;rintro n R aL bh ⟨i, ii, u, hi, rfl, gS, hu, rfl, rfl, rfl⟩ c9;clear c9
  by_cases ak : i < LL.length
  ·have q2 : ii < (LL.length : Int) := by omega
   have bB : 0 ≤ ii := by omega
   obtain ⟨l, g1⟩ : ∃ l, LL[i]? = some l := ⟨_, bN ak⟩;have k1 := Ta gS g1;have h1 := Sl g1;have h2 := Sk LL (i + 1);have h3 : (iz LL (i + 1)).length = (iz LL i).length + l.length := by rw [h1, cO]
   rw [zB] at h2;have c1 := Pv l;have ba : Nat.min l.length (N - (iz LL i).length) = l.length := pP (by omega);obtain ⟨m, hm⟩ : ∃ m, N - (iz LL i).length = m := ⟨_, rfl⟩;have b1 : (iz LL i).length ≤ N := by omega
   have b2 : l.length ≤ m := by omega
   have s1 : eI (cV (iz LL i) ++ fB.drop ((iz LL i).length * 1)) ((iz LL i).length * 1) ((cV l).take (l.length * 1)) = cV (iz LL (i + 1)) ++ fB.drop ((iz LL (i + 1)).length * 1) := by
    rw [Pw rfl, KC (DV _), ← DT, ← h1, qT, DV];congr 2;omega
   have fc := hu.sl hm b2 b1;rw [← h3] at fc;(repeat first | refine cG ?_ | (with_reducible apply fX); rfl; (repeat first | refine gu ?_ | (with_reducible apply GK); (iterate 3 rfl); assumption; (assumption); (assumption); rfl); (with_reducible apply fC) | (with_reducible apply O7 0); (iterate 3 rfl); assumption; rfl; rfl; rfl; (assumption); (exact dI _); (assumption); rfl; assumption; assumption; rfl);exact ⟨LL.length - (i + 1), _, _, [], by omega, ⟨i + 1, ii + 1, _, by omega, rfl, by omega, fc, rfl, rfl, rfl⟩, nt _ _ _, rfl, ⟨rfl, rfl, rfl, rfl, rfl, trivial⟩, trivial, rfl⟩
  ·have q2 : ¬ ii < (LL.length : Int) := by omega
   have dh : cV (iz LL i) ++ fB.drop ((iz LL i).length * 1) = cV LL.flatten := by
    rw [Sj (by omega), uZ (by omega), me]
   rw [dh];refine Bn 0 6 ⟨3, 1, v, N, cV LL.flatten⟩ rfl rfl ?_;rw [← zB];(refine bc ?_)
   ((refine aW rfl (aY rfl aJ) ?_))
   exact ah.aK.refl _
theorem aeU {x y : Nat} (aa : x < 9223372036854775808) (ai : y < 9223372036854775808) (h : x * y < 9223372036854775808) : au ag 179 [aQ (.int .u64 (x : Nat)), aQ (.int .u64 (y : Nat))] (.cz [.one (.c (.int .u64 0)), .one (.c (.int .u64 ((x * y : Nat) : Int)))]) := by
 refine hZ [.int .u64 (x : Nat), .int .u64 (y : Nat)] (.tuple #[.int .u64 0, .int .u64 ((x * y : Nat) : Int)]) rfl rfl rfl rfl rfl fun W => ?_;refine (Tryz.bits_Mul64 x y (by omega) (by omega) W).mono ?_;rintro e w' ⟨rfl, rfl⟩;have aG : x * y / 18446744073709551616 = 0 := Nat.div_eq_of_lt (by omega);have aO : x * y % 18446744073709551616 = x * y := Nat.mod_eq_of_lt (by omega);rw [aG, aO];exact ⟨rfl, Below.refl _ _⟩
theorem aeS {y : Nat} (ai : y < 9223372036854775808) : au ag 157 [aQ (.int .u64 1), aQ (.int .u64 (y : Nat))] (.cz [.one (.c (.int .u64 0)), .one (.c (.int .u64 (y : Nat)))]) := by
 have aS := aeU (x := 1) (y := y) (by decide) ai (by omega);rw [Nat.one_mul] at aS
 replace aS : au ag 179 [aQ (.int .u64 1), aQ (.int .u64 (y : Nat))] (.cz [.one (.c (.int .u64 0)), .one (.c (.int .u64 (y : Nat)))]) := aS
 refine bd (f := 157) Tryz.func157 rfl rfl rfl rfl ?_;(refine bS ?_)
 ((refine aW rfl (aY rfl (aY rfl aJ)) ?_))
 exact ah.aK.refl _
def Va (d : Int) (m : Nat) (v : Value) (fB : List AC) (n : Nat) (R : aI) (aL : List (Nat × ah)) (bh : List (Nat × List AC)) : Prop :=
 ∃ (k : Nat) (ft : Int), 1 ≤ k ∧ k ≤ m ∧ n = m - k ∧ ft = k ∧ R = bC 0 ⟨3, 1, v, m, cV (List.replicate k d) ++ fB.drop k⟩ ∧ bh = [] ∧ aL = [(7, aQ v), (8, ax ft)]
theorem aeX {d : Int} {m : Nat} (xU : 1 ≤ m) (hm : m ≤ 100000) : au ag 133 [oS [d], ax m] (oS (List.replicate m d)) := by
 have Le := aeS (y := m) (by omega);have w1 : IntKind.u64.wrap (m : Int) = m := by rw [IntKind.wrap_u64]; omega
 have w2 : IntKind.i64.wrap (m : Int) = m := k9 (by omega);have q0 : ¬ (m : Int) < 0 := by omega
 have q1 : ¬ (m : Int) > 9223372036854775807 := by omega
 have ba : Nat.min 1 m = 1 := pP xU;refine bd (f := 133) Tryz.func133 rfl rfl rfl rfl ?_;refine tU ?_;(refine oV ?_);refine Ai (l := m) (c' := m) 0 rfl rfl rfl rfl (dI _) rfl rfl ?h2 (lA (by omega)) rfl (fun v hv => ?_)
 case h2 => show 8 * m ≤ 281474976710656; omega
 generalize dY : h8 m 1 _ = fB;have Dk : fB.length = m := by rw [← dY]; simp [h8]
 have Zq : fB.all AC.aZ = true := by
  rw [← dY];refine cB.2 fun y ai => ?_;simp only [h8, gV] at ai;obtain ⟨j, _, rfl⟩ := ai;rfl
 clear dY
 have s1 : eI fB (0 * 1) ((cV [d]).take (1 * 1)) = cV (List.replicate 1 d) ++ fB.drop 1 := by
  unfold eI; simp [cV]
 (repeat first | refine cG ?_ | (with_reducible apply aaV 0); (iterate 6 rfl); (rfl); rfl; (assumption); (assumption); rfl);refine Ko 0 (r := ⟨3, 1, v, m, cV (List.replicate 1 d) ++ fB.drop 1⟩) rfl (fun e3 c hk ez jb dn hlen => ?_);have lz : v = .slice e3 m c := hk;have hu : jx v 1 0 m v := by rw [lz]; exact jx.all 1 ez dn
 clear hk ez jb dn hlen lz;refine kw 48 (Va d m v fB) (m - 1) (bC 0 ⟨3, 1, v, m, cV (List.replicate 1 d) ++ fB.drop 1⟩) _ [] ⟨1, 1, dI _, xU, rfl, rfl, rfl, rfl, rfl⟩ (nt _ _ _) rfl ⟨rfl, rfl, trivial⟩ trivial rfl ?_;clear Le w1 w2 q0 q1 ba s1;rintro n R aL bh ⟨k, ft, oz, af, rfl, rfl, rfl, rfl, rfl⟩ c9;clear c9
 by_cases ak : k < m
 ·have q2 : (k : Int) < (m : Int) := by omega
  obtain ⟨x, aa⟩ : ∃ x, Nat.min k (m - k) = x := ⟨_, rfl⟩;have akP : 1 ≤ x := by rw [← aa]; exact Nat.le_min.2 ⟨oz, by omega⟩
  have abj : x ≤ k := by rw [← aa]; exact Nat.min_le_left _ _
  have akQ : x ≤ m - k := by rw [← aa]; exact Nat.min_le_right _ _
  have m0 : m - 0 = m := Nat.sub_zero m;have bY := hu.sl m0 af (dJ _);have b0 := hu.aik (k := k) (by omega);rw [j3] at bY b0;have dh : 0 + k = k := j3 k
  have qh : (cV (List.replicate k d) ++ fB.drop k).all AC.aZ = true := by
   rw [List.all_append, Pv, oN];exact cB.2 fun y ai => cB.1 Zq y (nn ai)
  have s1 : eI (cV (List.replicate k d) ++ fB.drop k) (k * 1) ((((cV (List.replicate k d) ++ fB.drop k).drop (0 * 1)).take (k * 1)).take (x * 1)) = cV (List.replicate (k + x) d) ++ fB.drop (k + x) := by
   have lk : (cV (List.replicate k d)).length = k * 1 := by simp [cV]
   rw [Nat.zero_mul, List.drop_zero, ← lk, List.take_left, KC rfl]
   have cl : (cV (List.replicate k d)).take (x * 1) = cV (List.replicate x d) := by
    simp only [cV, List.map_replicate, Nat.mul_one, List.take_replicate];rw [pP abj]
   rw [cl, qT, ← DT, List.replicate_append_replicate, show (cV (List.replicate x d)).length = x by simp [cV]]
  have w1 : IntKind.i64.wrap ((k : Int) + (x : Int)) = (k : Int) + (x : Int) := k9 (by omega);(repeat first | (with_reducible apply dl (id := 9) [0,1,2,3,4,5,6,7,8,9]); kernel_rfl; kernel_rfl; rfl | refine cG ?_ | (with_reducible apply fX); rfl; (repeat first | refine gu ?_ | (with_reducible apply GK); (iterate 3 rfl); assumption; (assumption); (assumption); rfl | (with_reducible apply WB); (iterate 3 rfl); assumption; (assumption); (assumption); rfl); (with_reducible apply fC) | (with_reducible apply nR 0); (iterate 4 rfl); kernel_rfl; rfl | (with_reducible apply aaW 0); (iterate 3 rfl); assumption; rfl; assumption; assumption; assumption; rfl; rfl; (assumption); (exact dI _); (assumption); rfl; assumption; assumption; rfl);exact ⟨m - (k + x), _, _, [], by omega, ⟨k + x, (k : Int) + (x : Int), by omega, by omega, rfl, by omega, rfl, rfl, rfl⟩, nt _ _ _, rfl, ⟨rfl, rfl, trivial⟩, trivial, rfl⟩
 ·have q2 : ¬ (k : Int) < (m : Int) := by omega
  have dh : cV (List.replicate k d) ++ fB.drop k = cV (List.replicate m d) := by
   rw [show k = m by omega, uZ (by omega), me]
  rw [dh];refine Bn 0 7 ⟨3, 1, v, m, cV (List.replicate m d)⟩ rfl rfl ?_
  have el : cK 1 m (cV (List.replicate m d)) = oS (List.replicate m d) := by
   show cK 1 m _ = cK 1 (List.replicate m d).length _;rw [List.length_replicate]
  rw [← el];(refine bc ?_)
  ((refine aW rfl (aY rfl aJ) ?_))
  exact ah.aK.refl _
end Go.Proofs.YtbcecodakfejaaaGreat
namespace Go.Proofs.YtbcecodakfejaaaGreat
def wB (p q : ao) : List ao := if p = q then [p] else [p, q]
def wA (p q : ao) : List Int := if p = q then [] else [1]
end Go.Proofs.YtbcecodakfejaaaGreat
namespace Go.Proofs.YtbcecodakfejaaaGreat
open Go.RowKit
def ql (D : List Int) : Int := D.foldl max 0
def Ui : Prop := ∀ x y z w : Int, au ag 129 [aE x y, aE z w] (oR (wB (x, y) (z, w)) (wA (x, y) (z, w)))
def Un : Prop := ∀ (V : List ao) (D : List Int) (j : Nat) (l : List ao), V.length = D.length + 1 → V.length ≤ 1100 → l.length ≤ 1100 → j < D.length → (∀ d ∈ D, 1 ≤ d ∧ d ≤ 1048576) →
 au ag 99 [oR V D, ax j, h7 l] (.cz [.agg (wv (if l.isEmpty then [] else FG V j l) (if l.isEmpty then [] else Bu D j l.length)), .one (.c (.bool (!l.isEmpty)))])
def Uf : Prop := ∀ (V : List ao) (D : List Int), V.length ≤ 1100 → D.length ≤ 1100 → au ag 40 [oR V D] (ax (ql D))
def Um : Prop := ∀ (V W : List ao) (D E : List Int), V.length ≤ 1100 → D.length ≤ 1100 → W.length ≤ 1100 → E.length ≤ 1100 → au ag 61 [oR V D, oR W E] (a7 (decide (V = W) && decide (D = E)))
def Ue : Prop := ∀ (V : List ao) (D : List Int), V.length ≤ 1100 → D.length ≤ 1100 → au ag 64 [oR V D] (oR V D)
theorem Xl : ah.aK (.w (.agg [.c (.slice none 0 0), .c (.slice none 0 0)])) (oR [] []) := LH rfl fun j x y aa ai => by
 match j with
 | 0 => cases aa; cases ai; exact .inr ⟨rfl, 2, rfl⟩
 | 1 => cases aa; cases ai; exact .inr ⟨rfl, 1, rfl⟩
 | j + 2 => simp at aa
theorem afA {V l : List ao} {f t : Int} (ap : 0 ≤ f ∧ f ≤ V.length) (aB : 0 ≤ t ∧ t ≤ V.length) (nG : V.length ≤ 10000) (hl : l.length ≤ 10000) : au ag 134 [h7 V, ax f, ax t, h7 l] (h7 (V.take f.toNat ++ l ++ V.drop t.toNat)) := by
 have J := RJ (LL := [V.take f.toNat, l, V.drop t.toNat]) (by show 3 ≤ 1100; decide) (by simp [cO]; omega);have dh : [V.take f.toNat, l, V.drop t.toNat].flatten = V.take f.toNat ++ l ++ V.drop t.toNat := by simp
 rw [dh] at J
 replace J : au ag 106 [cK 1 3 [.p (cM 2 (V.take f.toNat).length (b3 (V.take f.toNat))), .p (cM 2 l.length (b3 l)), .p (cM 2 (V.drop t.toNat).length (b3 (V.drop t.toNat)))]] (h7 (V.take f.toNat ++ l ++ V.drop t.toNat)) := J
 have a1 : 0 ≤ f := ap.1;have a2 : f ≤ f := oI f;have a3 : f ≤ V.length := ap.2;have a4 : 0 ≤ t := aB.1;have a5 : t ≤ V.length := aB.2;have Vs : (V.length : Int) ≤ V.length := oI _;have m1 : f.toNat - 0 = (V.take f.toNat).length := by rw [ei]; omega
 have aG : ((b3 V).drop (0 * 2)).take ((V.take f.toNat).length * 2) = b3 (V.take f.toNat) := by
  have h : b3 V = b3 (V.take f.toNat) ++ b3 (V.drop f.toNat) := by rw [← ta, kr]
  rw [h, Nat.zero_mul, List.drop_zero, ← oD, List.take_left]
 have m2 : (V.length : Int).toNat - t.toNat = (V.drop t.toNat).length := by rw [iC]; omega
 have aO : ((b3 V).drop (t.toNat * 2)).take ((V.drop t.toNat).length * 2) = b3 (V.drop t.toNat) := by
  have h : b3 V = b3 (V.take t.toNat) ++ b3 (V.drop t.toNat) := by rw [← ta, kr]
  rw [h, show t.toNat * 2 = (b3 (V.take t.toNat)).length by rw [oD, ei]; omega, List.drop_left, PK rfl]
 refine bd (f := 134) Tryz.func134 rfl rfl rfl rfl ?_;(repeat first | refine dv ?_ | refine e7 ?_ | (with_reducible apply GL); (iterate 4 rfl); (assumption); (assumption); (assumption); (assumption); (assumption); rfl | (with_reducible apply GM); (iterate 5 rfl); (assumption); (assumption); (assumption); (assumption); (assumption); (assumption); rfl)
 ((refine aW rfl (aY rfl aJ) ?_))
 exact ah.aK.refl _
theorem afz {V l : List Int} {f t : Int} (ap : 0 ≤ f ∧ f ≤ V.length) (aB : 0 ≤ t ∧ t ≤ V.length) (nG : V.length ≤ 10000) (hl : l.length ≤ 10000) : au ag 135 [oS V, ax f, ax t, oS l] (oS (V.take f.toNat ++ l ++ V.drop t.toNat)) := by
 have J := RI (LL := [V.take f.toNat, l, V.drop t.toNat]) (by show 3 ≤ 1100; decide) (by simp [cO]; omega);have dh : [V.take f.toNat, l, V.drop t.toNat].flatten = V.take f.toNat ++ l ++ V.drop t.toNat := by simp
 rw [dh] at J
 replace J : au ag 107 [cK 1 3 [.p (cM 1 (V.take f.toNat).length (cV (V.take f.toNat))), .p (cM 1 l.length (cV l)), .p (cM 1 (V.drop t.toNat).length (cV (V.drop t.toNat)))]] (oS (V.take f.toNat ++ l ++ V.drop t.toNat)) := J
 have a1 : 0 ≤ f := ap.1;have a2 : f ≤ f := oI f;have a3 : f ≤ V.length := ap.2;have a4 : 0 ≤ t := aB.1;have a5 : t ≤ V.length := aB.2;have Vs : (V.length : Int) ≤ V.length := oI _;have m1 : f.toNat - 0 = (V.take f.toNat).length := by rw [ei]; omega
 have aG : ((cV V).drop (0 * 1)).take ((V.take f.toNat).length * 1) = cV (V.take f.toNat) := by
  have h : cV V = cV (V.take f.toNat) ++ cV (V.drop f.toNat) := by rw [← DT, kr]
  rw [h, Nat.zero_mul, List.drop_zero, ← DV, List.take_left]
 have m2 : (V.length : Int).toNat - t.toNat = (V.drop t.toNat).length := by rw [iC]; omega
 have aO : ((cV V).drop (t.toNat * 1)).take ((V.drop t.toNat).length * 1) = cV (V.drop t.toNat) := by
  have h : cV V = cV (V.take t.toNat) ++ cV (V.drop t.toNat) := by rw [← DT, kr]
  rw [h, show t.toNat * 1 = (cV (V.take t.toNat)).length by rw [DV, ei]; omega, List.drop_left, Pw rfl]
 refine bd (f := 135) Tryz.func135 rfl rfl rfl rfl ?_;(repeat first | refine dv ?_ | refine e7 ?_ | (with_reducible apply GL); (iterate 4 rfl); (assumption); (assumption); (assumption); (assumption); (assumption); rfl | (with_reducible apply GM); (iterate 5 rfl); (assumption); (assumption); (assumption); (assumption); (assumption); (assumption); rfl)
 ((refine aW rfl (aY rfl aJ) ?_))
 exact ah.aK.refl _
theorem abW : Ue := by
 intro V D ab hd;have Gf := RJ (LL := [V]) (by show 1 ≤ 1100; decide) (by simp; omega);have Gg := RI (LL := [D]) (by show 1 ≤ 1100; decide) (by simp; omega);rw [show [V].flatten = V by simp] at Gf;rw [show [D].flatten = D by simp] at Gg
 replace Gf : au ag 106 [cK 1 1 [.p (cM 2 V.length (b3 V))]] (h7 V) := Gf
 replace Gg : au ag 107 [cK 1 1 [.p (cM 1 D.length (cV D))]] (oS D) := Gg
 refine bd (f := 64) Tryz.func64 rfl rfl rfl rfl ?_;(refine bS ?_)
 ((refine aW rfl (cD rfl rfl rfl aJ) ?_))
 exact ah.aK.refl _
theorem aiW {xs aU : List bA} (hl : xs.length = aU.length) (h : ∀ (i : Nat) x y, xs[i]? = some x → aU[i]? = some y → ah.aK (.w x) (.w y)) : ah.aK (.cz xs) (.cz aU) := fun U ad W v hv => by
 obtain ⟨vs, e, aw, aR⟩ := hv
 exact ⟨vs, e, by rw [← hl]; exact aw, fun i y u ai hu => by
  have hi : i < xs.length := by rw [hl]; exact (bL.1 ai).1
  exact h i _ y (bN hi) ai U ad W u (aR i _ u (bN hi) hu)⟩
theorem YF : ah.aK (.cz [.agg [.c (.slice none 0 0), .c (.slice none 0 0)], .one (.c (.bool false))]) (.cz [.agg (wv [] []), .one (.c (.bool false))]) := aiW rfl fun i x y aa ai => by
 match i with
 | 0 => cases aa; cases ai; exact Xl
 | 1 => cases aa; cases ai; exact ah.aK.refl _
 | i + 2 => simp at aa
theorem aiv {V l : List ao} {D : List Int} {j : Nat} (ab : V.length ≤ 1100) (hd : D.length ≤ 1100) (ae : j ≤ 1100)
  (cs : (j : Int) ≥ D.length ∨ (¬ (j : Int) ≥ D.length ∧ (j : Int) ≥ (V.length : Int) - 1) ∨ (¬ (j : Int) ≥ D.length ∧ ¬ (j : Int) ≥ (V.length : Int) - 1 ∧ (l.length : Int) = 0)) : au ag 99 [oR V D, ax j, h7 l] (.cz [.agg (wv [] []), .one (.c (.bool false))]) := by
 have q0 : ¬ (j : Int) < 0 := by omega
 generalize (j : Int) = eC at *;rcases cs with q1 | ⟨q1, q2⟩ | ⟨q1, q2, bB⟩
 all_goals
  refine bd (f := 99) Tryz.func99 rfl rfl rfl rfl ?_;(repeat first | refine dv ?_ | (with_reducible apply bP (c := true)); rfl; rfl; (exact cd (by omega)) | (with_reducible apply bP (c := false)); rfl; rfl; (exact cA (by omega)))
  ((refine aW rfl (cD rfl rfl rfl (aY rfl aJ)) ?_))
  exact YF
theorem aiw {V l : List ao} {D : List Int} {j : Nat} {eC o9 : Int} (pg : eC = j) (rL : D[j]? = some o9) (OG : 1 ≤ o9 ∧ o9 ≤ 1048576) (hl : 0 < l.length) (eN : V.length = D.length + 1) (ab : V.length ≤ 1100) (xJ : l.length ≤ 1100) : au ag 99 [oR V D, ax eC, h7 l] (.cz [.agg (wv (FG V j l) (Bu D j l.length)), .one (.c (.bool true))]) := by
 have Dy : j < D.length := (bL.1 rL).1;have q0 : ¬ eC < 0 := by omega
 have q1 : ¬ eC ≥ D.length := by omega
 have q2 : ¬ eC ≥ (V.length : Int) - 1 := by omega
 have bB : ¬ (l.length : Int) = 0 := by omega
 have cS : eC < (D.length : Int) := by omega
 have k1 := DU pg rL;have j7 := aeX (d := o9 + 1) (m := l.length + 1) (by omega) (by omega);have jv := afA (V := V) (l := l) (f := eC + 1) (t := eC + 1) (by omega) (by omega) (by omega) (by omega);have Gi := afz (V := D) (l := List.replicate (l.length + 1) (o9 + 1)) (f := eC) (t := eC + 1) (by omega) (by omega) (by omega) (by rw [List.length_replicate]; omega);have aG : (eC + 1).toNat = j + 1 := by omega
 have aO : eC.toNat = j := by omega
 have cl : D.getD j 0 = o9 := by simp [List.getD, rL]
 have ey : D.take j ++ List.replicate (l.length + 1) (o9 + 1) ++ D.drop (j + 1) = Bu D j l.length := by unfold Bu; rw [cl]
 have k2 : V.take (j + 1) ++ l ++ V.drop (j + 1) = FG V j l := rfl;rw [aG, k2] at jv;rw [aG, aO, ey] at Gi;have nE : (((l.length + 1 : Nat) : Int)) = (l.length : Int) + 1 := by omega
 rw [nE] at j7;clear aG aO cl ey k2 nE;generalize FG V j l = Lw at *;generalize Bu D j l.length = w4 at *;generalize List.replicate (l.length + 1) (o9 + 1) = T at *;refine bd (f := 99) Tryz.func99 rfl rfl rfl rfl ?_;(repeat first | refine dv ?_ | refine e7 ?_ | refine ff jv ?_ | (with_reducible apply bP (c := false)); rfl; rfl; (exact cA (by omega)))
 ((refine aW rfl (cD rfl rfl rfl (aY rfl aJ)) ?_))
 exact ah.aK.refl _
theorem ab6 : Un := by
 intro V D j l nG ab xJ ae zK;cases hl : l with
 | nil => exact aiv (V := V) (D := D) (l := []) (j := j) (by omega) (by omega) (by omega) (.inr (.inr ⟨by omega, by omega, rfl⟩))
 | cons p m =>
  rw [← hl];have e : l.isEmpty = false := by rw [hl]; rfl
  rw [e];have Ii : 0 < l.length := by rw [hl]; exact j4 _
  obtain ⟨o9, rL⟩ : ∃ o9, D[j]? = some o9 := ⟨_, bN ae⟩;exact aiw (V := V) (l := l) (D := D) (j := j) rfl rL (zK o9 (dc rL)) Ii nG ab xJ
theorem Xm (V : List ao) : ah.aK (.w (.agg [.p (cM 2 V.length (b3 V)), .c (.slice none 0 0)])) (oR V []) := LH rfl fun j x y aa ai => by
 match j with
 | 0 => cases aa; cases ai; exact .inl rfl
 | 1 => cases aa; cases ai; exact .inr ⟨rfl, 1, rfl⟩
 | j + 2 => simp at aa
theorem ab1 : Ui := by
 intro x y z w;cases ak : bZ x y z w with
 | true =>
  obtain ⟨rfl, rfl⟩ := iJ.1 ak;rw [show wB (x, y) (x, y) = [(x, y)] from if_pos rfl, show wA (x, y) (x, y) = [] from if_pos rfl];refine bd (f := 129) Tryz.func129 rfl rfl rfl rfl ?_;(refine eF ?_)
  ((refine aW rfl (cD rfl rfl rfl aJ) ?_))
  exact Xm [(x, y)]
 | false =>
  have aw : ¬ ((x, y) : ao) = (z, w) := fun e => by
   have := iJ.2 (⟨congrArg Prod.fst e, congrArg Prod.snd e⟩ : x = z ∧ y = w);rw [ak] at this; cases this
  rw [show wB (x, y) (z, w) = [(x, y), (z, w)] from if_neg aw, show wA (x, y) (z, w) = [1] from if_neg aw];refine bd (f := 129) Tryz.func129 rfl rfl rfl rfl ?_;(refine eF ?_)
  ((refine aW rfl (cD rfl rfl rfl aJ) ?_))
  exact ah.aK.refl _
def Ur (V : List ao) (D : List Int) (n : Nat) (aL : List (Nat × ah)) (bh : List (Nat × List AC)) : Prop :=
 ∃ (k : Nat) (ft d : Int), k ≤ D.length ∧ n = D.length - k ∧ ft = k ∧ d = ql (D.take k) ∧ bh = [(1, wv V D)] ∧ aL = [(1, tE 1), (3, ax d), (7, cK 1 D.length (cV D)), (8, ax D.length), (9, ax ft)]
theorem XV {D : List Int} {k : Nat} {d : Int} (h : D[k]? = some d) : ql (D.take (k + 1)) = max (ql (D.take k)) d := by
 have af := (bL.1 h).1
 have e : D.take (k + 1) = D.take k ++ [d] := by
  rw [mM af, (bL.1 h).2]
 unfold ql;rw [e, List.foldl_append]; rfl
theorem abX : Uf := by
 intro V D ab hd;refine bd (f := 40) Tryz.func40 rfl rfl rfl rfl ?_;(refine eF ?_);refine sD 18 (Ur V D) D.length _ [(1, wv V D)] ⟨0, 0, 0, dJ _, rfl, rfl, rfl, rfl, rfl⟩ rfl ⟨rfl, rfl, rfl, rfl, rfl, trivial⟩ ⟨rfl, trivial⟩ rfl ?_;rintro n aL bh ⟨k, ft, d, af, rfl, k8, mw, rfl, rfl⟩ c9;clear c9
 by_cases ak : k < D.length
 ·have q2 : ft < (D.length : Int) := by omega
  have bB : 0 ≤ ft := by omega
  obtain ⟨e, g1⟩ : ∃ e, D[k]? = some e := ⟨_, bN ak⟩;have k1 := DU k8 g1;have aB := XV g1;rw [← mw, show max d e = if e > d then e else d by split <;> omega] at aB;(refine eF ?_);exact ⟨D.length - (k + 1), _, [(1, wv V D)], by omega, ⟨k + 1, ft + 1, _, by omega, rfl, by omega, aB.symm, rfl, rfl⟩, rfl, ⟨rfl, rfl, rfl, rfl, rfl, trivial⟩, ⟨rfl, trivial⟩, rfl⟩
 ·have q2 : ¬ ft < (D.length : Int) := by omega
  have dh : D.take k = D := h4 (by omega);rw [dh] at mw;rw [← mw];(refine eF ?_)
  ((refine aW rfl (aY rfl aJ) ?_))
  exact ah.aK.refl _
theorem TG {α : Type} {D E : List α} {k : Nat} {d e : α} (h : D.take k = E.take k) (g1 : D[k]? = some d) (g2 : E[k]? = some e) : (d = e → D.take (k + 1) = E.take (k + 1)) ∧ (d ≠ e → D ≠ E) := by
 refine ⟨fun hd => ?_, fun hd eN => hd ?_⟩
 ·rw [mM (bL.1 g1).1, mM (bL.1 g2).1, (bL.1 g1).2, (bL.1 g2).2, h, hd]
 ·rw [eN, g2] at g1; exact (lc g1).symm
def Uu (D E : List Int) (n : Nat) (aL : List (Nat × ah)) (bh : List (Nat × List AC)) : Prop :=
 ∃ (k : Nat) (ft : Int), k ≤ D.length ∧ n = D.length - k ∧ ft = k ∧ D.take k = E.take k ∧ bh = [] ∧ aL = [(0, oS D), (1, oS E), (12, ax D.length), (13, ax ft)]
theorem aeG {D E : List Int} (hd : D.length ≤ 1000000) : au ag 105 [oS D, oS E] (a7 (decide (D = E))) := by
 by_cases hl : (D.length : Int) = E.length
 ·have aas : D.length = E.length := by omega
  refine bd (f := 105) Tryz.func105 rfl rfl rfl rfl ?_;(refine eF ?_);refine sD 26 (Uu D E) D.length _ [] ⟨0, 0, dJ _, rfl, rfl, rfl, rfl, rfl⟩ rfl ⟨rfl, rfl, rfl, rfl, trivial⟩ trivial rfl ?_;rintro n aL bh ⟨k, ft, af, rfl, k8, mw, rfl, rfl⟩ c9;clear c9
  by_cases ak : k < D.length
  ·have q2 : ft < (D.length : Int) := by omega
   have bB : 0 ≤ ft := by omega
   have cS : ft < (E.length : Int) := by omega
   obtain ⟨d, g1⟩ : ∃ d, D[k]? = some d := ⟨_, bN ak⟩;obtain ⟨e, g2⟩ : ∃ e, E[k]? = some e := ⟨_, bN (by omega)⟩;have k1 := DU k8 g1;have yL := DU k8 g2;have st := TG mw g1 g2
   by_cases he : d = e
   ·have aB := st.1 he;(refine eF ?_);exact ⟨D.length - (k + 1), _, [], by omega, ⟨k + 1, ft + 1, by omega, rfl, by omega, aB, rfl, rfl⟩, rfl, ⟨rfl, rfl, rfl, rfl, trivial⟩, trivial, rfl⟩
   ·rw [cA (st.2 he)];(refine eF ?_)
    ((refine aW rfl (aY rfl aJ) ?_))
    exact ah.aK.refl _
  ·have q2 : ¬ ft < (D.length : Int) := by omega
   rw [h4 (by omega), h4 (by omega)] at mw;rw [cd mw];(refine eF ?_)
   ((refine aW rfl (aY rfl aJ) ?_))
   exact ah.aK.refl _
 ·rw [cA (show ¬ D = E from fun e => hl (by rw [e]))];refine bd (f := 105) Tryz.func105 rfl rfl rfl rfl ?_;(refine eF ?_)
  ((refine aW rfl (aY rfl aJ) ?_))
  exact ah.aK.refl _
def Uv (D E : List ao) (n : Nat) (aL : List (Nat × ah)) (bh : List (Nat × List AC)) : Prop :=
 ∃ (k : Nat) (ft : Int), k ≤ D.length ∧ n = D.length - k ∧ ft = k ∧ D.take k = E.take k ∧ bh = [] ∧ aL = [(0, h7 D), (1, h7 E), (12, ax D.length), (13, ax ft)]
theorem JQ {D E : List ao} (hd : D.length ≤ 1000000) : au ag 59 [h7 D, h7 E] (a7 (decide (D = E))) := by
 by_cases hl : (D.length : Int) = E.length
 ·have aas : D.length = E.length := by omega
  refine bd (f := 59) Tryz.func59 rfl rfl rfl rfl ?_;(refine eF ?_);refine sD 26 (Uv D E) D.length _ [] ⟨0, 0, dJ _, rfl, rfl, rfl, rfl, rfl⟩ rfl ⟨rfl, rfl, rfl, rfl, trivial⟩ trivial rfl ?_;rintro n aL bh ⟨k, ft, af, rfl, k8, mw, rfl, rfl⟩ c9;clear c9
  by_cases ak : k < D.length
  ·have q2 : ft < (D.length : Int) := by omega
   have bB : 0 ≤ ft := by omega
   have cS : ft < (E.length : Int) := by omega
   obtain ⟨x, y, g1⟩ : ∃ x y, D[k]? = some (x, y) := ⟨_, _, bN ak⟩;obtain ⟨z, w, g2⟩ : ∃ z w, E[k]? = some (z, w) := ⟨_, _, bN (by omega)⟩;have k1 := uE k8 g1;have yL := uE k8 g2;have st := TG mw g1 g2;cases he : bZ x y z w with
   | true =>
    have aB := st.1 (by obtain ⟨rfl, rfl⟩ := iJ.1 he; rfl);(refine eF ?_);exact ⟨D.length - (k + 1), _, [], by omega, ⟨k + 1, ft + 1, by omega, rfl, by omega, aB, rfl, rfl⟩, rfl, ⟨rfl, rfl, rfl, rfl, trivial⟩, trivial, rfl⟩
   | false =>
    rw [cA (st.2 fun e => by
     have := iJ.2 (⟨congrArg Prod.fst e, congrArg Prod.snd e⟩ : x = z ∧ y = w);rw [he] at this; cases this)]
    (refine eF ?_)
    ((refine aW rfl (aY rfl aJ) ?_))
    exact ah.aK.refl _
  ·have q2 : ¬ ft < (D.length : Int) := by omega
   rw [h4 (by omega), h4 (by omega)] at mw;rw [cd mw];(refine eF ?_)
   ((refine aW rfl (aY rfl aJ) ?_))
   exact ah.aK.refl _
 ·rw [cA (show ¬ D = E from fun e => hl (by rw [e]))];refine bd (f := 59) Tryz.func59 rfl rfl rfl rfl ?_;(refine eF ?_)
  ((refine aW rfl (aY rfl aJ) ?_))
  exact ah.aK.refl _
theorem ab5 : Um := by
 intro V W D E h1 h2 h3 aD;have aS := JQ (D := V) (E := W) (by omega);have bD := aeG (D := D) (E := E) (by omega);generalize decide (V = W) = p1 at *;generalize decide (D = E) = p2 at *;cases p1 with
 | false =>
  refine bd (f := 61) Tryz.func61 rfl rfl rfl rfl ?_;(refine bS ?_)
  ((refine aW rfl (aY rfl aJ) ?_))
  exact ah.aK.refl _
 | true =>
  refine bd (f := 61) Tryz.func61 rfl rfl rfl rfl ?_;(refine bS ?_)
  ((refine aW rfl (aY rfl aJ) ?_))
  exact ah.aK.refl _
def rk (r : Int) (L : List ao) (x y : Int) : List ao := if 0 ≤ lG L x y then L else if r ≤ (L.length : Int) then L else L ++ [(x, y)]
def oi (r : Int) (L : List ao) (x y : Int) : Bool := if 0 ≤ lG L x y then false else if r ≤ (L.length : Int) then false else true
def oj (r : Int) (L : List ao) (x y : Int) : Int := if 0 ≤ lG L x y then 0 else if r ≤ (L.length : Int) then 90 else 0
theorem uM {L : List ao} {x y : Int} : 0 ≤ lG L x y ↔ (x, y) ∈ L := by
 unfold lG;cases h : L.findIdx? fun e => decide (e.1 = x) && decide (e.2 = y) with
 | none =>
  rw [List.findIdx?_eq_none_iff] at h;refine ⟨fun aM => absurd aM (by decide), fun aM => ?_⟩;have := h _ aM;simp at this
 | some k =>
  obtain ⟨af, h1, _⟩ := List.findIdx?_eq_some_iff_getElem.1 h;simp only [c6, cg] at h1;refine ⟨fun _ => ?_, fun _ => Int.natCast_nonneg k⟩;have : L[k] = (x, y) := ku h1.1 h1.2;rw [← this]; exact List.getElem_mem af
abbrev Cg := Int → List ao → Value → e4 → Prop
def Uj (vv : Cg) : Prop := ∀ n : Int, Gv ag 50 [ax n] fun p S => ∃ b, p = eh b ∧ vv (mg n) [] p S
def Ud (vv : Cg) : Prop := ∀ (r : Int) L b S (x y : Int), vv r L (eh b) S → L.length ≤ 1100 → y5 ag 121 [aQ (eh b), aE x y] (eh b) S fun v dw => v = .cz [.one (.c (.bool (oi r L x y))), .one (.c (.int .i64 (oj r L x y)))] ∧ vv r (rk r L x y) (eh b) dw
def Ul (vv : Cg) : Prop := ∀ (r : Int) L b S, vv r L (eh b) S → L.length ≤ 1100 → y5 ag 52 [aQ (eh b)] (eh b) S fun v dw => v = ax r ∧ vv r L (eh b) dw
end Go.Proofs.YtbcecodakfejaaaGreat
namespace Go.Proofs.YtbcecodakfejaaaGreat
def fe (l : List dG) (x y : Int) : Nat := (uW l x y).length
theorem Sa (l : List dG) (x y : Int) : fe l x y ≤ l.length := agv l x y
theorem yl : ∀ {l : List dG} (h : kC l) (x y : Int) (k : Nat) (e : dG), l[k]? = some e → (k < fe l x y ↔ mH e.1 e.2.1 x y = true)
 | [], _, _, _, k, e, af => by simp at af
 | f :: l, h, x, y, k, e, af => by
  have aj := jK.1 h
  by_cases ap : mH f.1 f.2.1 x y = true
  ·have hp : fe (f :: l) x y = fe l x y + 1 := by
    unfold fe uW;rw [List.filter_cons, if_pos ap]; rfl
   rw [hp];cases k with
   | zero => simp at af; subst af; simp [ap]
   | succ k =>
    have := yl aj.2 x y k e (by simpa using af);rw [← this]; omega
  ·have dD : ∀ g ∈ f :: l, ¬ mH g.1 g.2.1 x y = true := by
    intro g an;rcases fl.1 an with rfl | an
    ·exact ap
    ·have h1 := aj.1 g an;rw [pD] at h1 ap ⊢;omega
   have hp : fe (f :: l) x y = 0 := by
    unfold fe uW;rw [List.filter_eq_nil_iff.2 dD]; rfl
   rw [hp];have := dD e (dc af);simp [this]
theorem KG {l : List dG} (h : kC l) {x y : Int} : ∀ e ∈ l.take (fe l x y), mH e.1 e.2.1 x y = true := by
 intro e he;obtain ⟨k, af⟩ := j1 he;have bb := (bL.1 af).1;rw [ei] at bb;rw [fJ (by omega)] at af;exact (yl h x y k e af).1 (by omega)
theorem Nj {l : List dG} (h : kC l) {x y : Int} : ∀ e ∈ l.drop (fe l x y), ¬ mH e.1 e.2.1 x y = true := by
 intro e he;obtain ⟨k, af⟩ := j1 he;rw [fY] at af;intro bb;have := (yl h x y _ e af).2 bb;omega
theorem Sy {l : List dG} (h : kC l) {x y : Int} : uW l x y = l.take (fe l x y) := by
 conv => lhs; rw [← kr (fe l x y) l]
 unfold uW;rw [List.filter_append, List.filter_eq_self.2 (KG h), List.filter_eq_nil_iff.2 (Nj h), me]
theorem Dl {l : List dG} (h : kC l) {x y : Int} : hQ l x y = true ↔ ∃ u, l[fe l x y]? = some (x, y, u) := by
 constructor
 ·intro aR;unfold hQ at aR;rw [uY] at aR;obtain ⟨e, he, ak⟩ := aR;simp only [c6, cg] at ak;obtain ⟨k, af⟩ := j1 he;have h1 := yl h x y k e af;have h2 : ¬ k < fe l x y := by rw [h1, pD]; omega
  have Ih := (bL.1 af).1;have rQ : fe l x y < l.length := by omega
  have hp := bN rQ;have h3 := yl h x y _ _ hp
  by_cases bm : k = fe l x y
  ·refine ⟨e.2.2, ?_⟩;rw [← bm, af];exact congrArg some (ku ak.1 (ku ak.2 rfl))
  ·exfalso;have aD := List.pairwise_iff_getElem.1 h (fe l x y) k rQ Ih (by omega);have ik : l[k] = e := (bL.1 af).2;rw [ik, pD] at aD;have cU : mH l[fe l x y].1 l[fe l x y].2.1 x y = true := by rw [pD]; omega
   have := h3.2 cU;omega
 ·rintro ⟨u, hu⟩;exact uY.2 ⟨_, dc hu, by simp⟩
theorem XW {l : List dG} (h : kC l) {x y : Int} (aw : hQ l x y = false) : ∀ e ∈ l.drop (fe l x y), mH x y e.1 e.2.1 = true := by
 intro e he;have h1 := Nj h e he
 have h2 : ¬ (e.1 = x ∧ e.2.1 = y) := by
  rintro ⟨h3, aD⟩;have : hQ l x y = true := uY.2 ⟨_, nn he, by simp [h3, aD]⟩;rw [aw] at this; cases this
 rw [pD] at *;omega
theorem Sz {l : List dG} (h : kC l) {x y v : Int} (aw : hQ l x y = false) : tn l x y v = l.take (fe l x y) ++ (x, y, v) :: l.drop (fe l x y) := by
 unfold tn;rw [Sy h];congr 2
 conv => lhs; rw [← kr (fe l x y) l]
 unfold E7;rw [List.filter_append, List.filter_eq_self.2 (XW h aw), List.filter_eq_nil_iff.2 fun e he => ?_, List.nil_append];have := KG h e he;rw [pD] at *;omega
theorem agw {l : List dG} (h : kC l) {x y v u : Int} (hp : l[fe l x y]? = some (x, y, u)) : tn l x y v = l.take (fe l x y) ++ (x, y, v) :: l.drop (fe l x y + 1) := by
 unfold tn;rw [Sy h];congr 2;have hl := (bL.1 hp).1;have he := (bL.1 hp).2
 conv => lhs; rw [← kr (fe l x y) l]
 unfold E7;rw [List.filter_append, List.filter_eq_nil_iff.2 (fun e he => by have := KG h e he; rw [pD] at *; omega), List.nil_append, nm hl, he, List.filter_cons_of_neg (by rw [pD]; simp)];refine List.filter_eq_self.2 fun e hm => ?_;obtain ⟨k, af⟩ := j1 hm;rw [fY] at af;have Ih := (bL.1 af).1;have aD := List.pairwise_iff_getElem.1 h (fe l x y) _ hl Ih (by omega);rw [he, (bL.1 af).2] at aD;exact aD
theorem ajb {l : List dG} (h : kC l) {x y u : Int} (hp : l[fe l x y]? = some (x, y, u)) : hQ l x y = true ∧ oU l x y = u := TR h (dc hp)
abbrev agj (e : dG) : ao := (e.1, e.2.1)
def pA : Nat → List ao → List dG
 | _, [] => []
 | k, p :: l => (p.1, p.2, (k : Int)) :: pA (k + 1) l
theorem Q6 : ∀ (k : Nat) (l : List ao) (p : ao), pA k (l ++ [p]) = pA k l ++ [(p.1, p.2, ((k + l.length : Nat) : Int))]
 | k, [], p => by simp [pA]
 | k, q :: l, p => by
  simp only [List.cons_append, pA, Q6 (k + 1) l p, jj];rw [show k + 1 + l.length = k + (l.length + 1) by omega]
theorem Q7 : ∀ (k : Nat) (l : List ao), (pA k l).map agj = l
 | _, [] => rfl
 | k, p :: l => by simp only [pA, jJ, Q7 (k + 1) l]
theorem ad2 (k : Nat) (l : List ao) : (pA k l).length = l.length := by
 have := congrArg List.length (Q7 k l);rwa [iD] at this
theorem JJ : ∀ (k : Nat) (l : List ao) (x y w : Int), (x, y, w) ∈ pA k l ↔ ∃ i : Nat, l[i]? = some (x, y) ∧ w = ((k + i : Nat) : Int)
 | k, [], x, y, w => by simp [pA]
 | k, p :: l, x, y, w => by
  rw [pA, fl, JJ (k + 1) l x y w]
  constructor
  ·rintro (h | ⟨i, h1, h2⟩)
   ·simp only [pR] at h;exact ⟨0, by rw [u2, h.1, h.2.1], by rw [h.2.2]; rfl⟩
   ·exact ⟨i + 1, by rw [List.getElem?_cons_succ]; exact h1, by rw [h2]; omega⟩
  ·rintro ⟨i, h1, h2⟩
   match i with
   | 0 => rw [u2] at h1; cases h1; exact .inl (by rw [h2]; rfl)
   | i + 1 => rw [List.getElem?_cons_succ] at h1; exact .inr ⟨i, h1, by rw [h2]; omega⟩
def og (L : List ao) (es : List dG) : Prop := kC es ∧ es.Perm (pA 0 L) ∧ L.Nodup
theorem og.len {L : List ao} {es : List dG} (h : og L es) : es.length = L.length := by rw [h.2.1.length_eq, ad2]
theorem ad3 {L : List ao} (aw : L.Nodup) {i : Nat} {x y : Int} (h : L[i]? = some (x, y)) : lG L x y = (i : Int) := by
 have aA : 0 ≤ lG L x y := uM.2 (dc h);unfold lG at aA ⊢;cases ap : L.findIdx? fun e => decide (e.1 = x) && decide (e.2 = y) with
 | none => rw [ap] at aA; exact absurd aA (by decide)
 | some k =>
  obtain ⟨af, h1, _⟩ := List.findIdx?_eq_some_iff_getElem.1 ap;simp only [c6, cg] at h1;have aG : L[k] = (x, y) := ku h1.1 h1.2;obtain ⟨hi, aO⟩ := bL.1 h;have := (List.getElem_inj (h₀ := af) (h₁ := hi) aw).1 (aG.trans aO.symm);rw [this]
theorem Zz {es : List dG} {a b : Int} : hQ es a b = true ↔ ∃ w, (a, b, w) ∈ es := by
 unfold hQ;rw [uY]
 constructor
 ·rintro ⟨⟨p, q, w⟩, h1, h2⟩;simp only [c6, cg] at h2;exact ⟨w, by rw [← h2.1, ← h2.2]; exact h1⟩
 ·rintro ⟨w, h⟩;exact ⟨_, h, by simp⟩
theorem og.num {L : List ao} {es : List dG} (h : og L es) (x y : Int) : hQ es x y = decide (0 ≤ lG L x y) ∧ (0 ≤ lG L x y → oU es x y = lG L x y) := by
 by_cases aR : 0 ≤ lG L x y
 ·obtain ⟨i, hi⟩ := j1 (uM.1 aR);have hm : (x, y, ((0 + i : Nat) : Int)) ∈ es := h.2.1.mem_iff.2 ((JJ 0 L x y _).2 ⟨i, hi, rfl⟩);have h1 := TR h.1 hm;exact ⟨by rw [h1.1, cd aR], fun _ => by rw [h1.2, ad3 h.2.2 hi, j3]⟩
 ·refine ⟨?_, fun aM => absurd aM aR⟩;rw [cA aR];cases he : hQ es x y with
  | false => rfl
  | true =>
   obtain ⟨w, hw⟩ := Zz.1 he;obtain ⟨i, hi, _⟩ := (JJ 0 L x y w).1 (h.2.1.mem_iff.1 hw);exact absurd (uM.2 (dc hi)) aR
theorem og.add {L : List ao} {es : List dG} (h : og L es) {x y : Int} (aw : ¬ 0 ≤ lG L x y) : og (L ++ [(x, y)]) (tn es x y L.length) := by
 have b7 : hQ es x y = false := by rw [(h.num x y).1]; exact cA aw
 refine ⟨agx h.1 x y L.length, ?_, ?_⟩
 ·rw [Sz h.1 b7, Q6, j3];refine List.perm_middle.trans ?_;rw [kr];refine (h.2.1.cons _).trans ?_;exact (List.perm_append_singleton _ _).symm
 ·rw [List.nodup_append];refine ⟨h.2.2, by simp, fun a aF b ab e => ?_⟩;rw [hx] at ab;subst ab; subst e;exact aw (uM.2 aF)
theorem og.nil : og [] [] := ⟨.nil, .refl _, .nil⟩
theorem VE {r : Int} {L : List ao} {x y : Int} (h : 0 ≤ lG L x y) : rk r L x y = L ∧ oi r L x y = false ∧ oj r L x y = 0 := by unfold rk oi oj; rw [if_pos h, if_pos h, if_pos h]; exact ⟨rfl, rfl, rfl⟩
theorem VD {r : Int} {L : List ao} {x y : Int} (h : ¬ 0 ≤ lG L x y) (h2 : r ≤ (L.length : Int)) : rk r L x y = L ∧ oi r L x y = false ∧ oj r L x y = 90 := by unfold rk oi oj; rw [if_neg h, if_neg h, if_neg h, if_pos h2, if_pos h2, if_pos h2]; exact ⟨rfl, rfl, rfl⟩
theorem VF {r : Int} {L : List ao} {x y : Int} (h : ¬ 0 ≤ lG L x y) (h2 : ¬ r ≤ (L.length : Int)) : rk r L x y = L ++ [(x, y)] ∧ oi r L x y = true ∧ oj r L x y = 0 := by unfold rk oi oj; rw [if_neg h, if_neg h, if_neg h, if_neg h2, if_neg h2, if_neg h2]; exact ⟨rfl, rfl, rfl⟩
end Go.Proofs.YtbcecodakfejaaaGreat
namespace Go.Proofs.YtbcecodakfejaaaGreat
open Go.RowKit
abbrev hq (v : Value) (l : List dG) : bG := ⟨214, 3, v, l.length, ek l⟩
def BR (x y : AC) : Prop := ∀ U ad W v, gx U ad W x v → gx U ad W y v
def yK : List AC → List AC → Prop
 | [], [] => True
 | x :: xs, y :: aU => BR x y ∧ yK xs aU
 | _, _ => False
theorem BR.refl (x : AC) : BR x x := fun _ _ _ _ h => h
theorem yK.lL {U : Nat → Prop} {ad : Nat → Nat} {W : World} : ∀ {xs aU : List AC} {vs : List Value}, yK xs aU → bM U ad W xs vs → bM U ad W aU vs
 | [], [], _, _, h => h
 | x :: xs, y :: aU, [], _, h => by simp [bM] at h
 | x :: xs, y :: aU, v :: vs, hl, h => by
  have aM : bM U ad W xs vs := ⟨by have := h.1; simpa using this, fun i a u aF hu => h.2 (i + 1) a u (by simpa using aF) (by simpa using hu)⟩;have r := yK.lL hl.2 aM;refine ⟨by have := r.1; simp [this], fun i a u aF hu => ?_⟩;cases i with
  | zero => simp at aF hu; subst aF; subst hu; exact hl.1 U ad W _ (h.2 0 x v rfl rfl)
  | succ i => exact r.2 i a u (by simpa using aF) (by simpa using hu)
 | [], _ :: _, _, hl, _ => hl.elim
 | _ :: _, [], _, hl, _ => hl.elim
theorem ah.aK.agg {xs aU : List AC} (h : yK xs aU) : ah.aK (.w (.agg xs)) (.w (.agg aU)) := fun U ad W v ⟨vs, e, hv⟩ => ⟨vs, e, h.lL hv⟩
theorem tV : BR (.c (.slice none 0 0)) (.p (jN 0)) := by
 rintro U ad W v ⟨rfl, _⟩;refine ⟨⟨none, 0, 0, rfl, ?_⟩, ?_⟩
 ·exact abK W
 ·rintro b ⟨A, l, c, a, e, hl, _⟩;cases e;omega
abbrev tD (k n d m e p1 p2 q1 q2 : Int) : ah := .w (.agg [.c (.int .i64 k), .c (.bool (decide (n < 0))), .p (jN n), .c (.bool (decide (d < 0))), .p (jN d), .c (.bool (decide (m < 0))), .p (jN m), .c (.bool (decide (e < 0))), .p (jN e), .c (.int .i64 p1), .c (.int .i64 p2), .c (.int .i64 q1), .c (.int .i64 q2)])
theorem T3 : ah.aK (.w (.agg [.c (.int .i64 0), .c (.bool false), .c (.slice none 0 0), .c (.bool false), .c (.slice none 0 0), .c (.bool false), .c (.slice none 0 0), .c (.bool false), .c (.slice none 0 0), .c (.int .i64 0), .c (.int .i64 0), .c (.int .i64 0), .c (.int .i64 0)])) (tD 0 0 0 0 0 0 0 0 0) :=
 ah.aK.agg ⟨.refl _, .refl _, tV, .refl _, tV, .refl _, tV, .refl _, tV, .refl _, .refl _, .refl _, .refl _, trivial⟩
theorem RQ {x y : Int} (h : bu x y = true) : au ag 84 [aE x y] (tD 1 x 1 y 1 0 0 0 0) := by
 unfold bu at h;simp only [c6, cg] at h;have aS := j0 (n := 1) (by omega) (by omega);have bD := j0 (n := x) (by omega) (by omega);have dW := j0 (n := y) (by omega) (by omega);clear h;refine bd (f := 84) Tryz.func84 rfl rfl rfl rfl ?_;(refine bS ?_)
 ((refine aW rfl (cD rfl rfl rfl aJ) ?_))
 exact ah.aK.refl _
theorem afR {a1 a2 b1 b2 c1 c2 d1 d2 : Int} (h : (bu a1 a2 && bu b1 b2 && bu c1 c2 && bu d1 d2) = false) : au ag 46 [aE a1 a2, aE b1 b2, aE c1 c2, aE d1 d2] (tD 0 0 0 0 0 0 0 0 0) := by
 have bf := kQ (x := a1) (y := a2) rfl;have ev := kQ (x := b1) (y := b2) rfl;have fR := kQ (x := c1) (y := c2) rfl;have lT := kQ (x := d1) (y := d2) rfl
 have cs : bu a1 a2 = false ∨ (bu a1 a2 = true ∧ bu b1 b2 = false) ∨ (bu a1 a2 = true ∧ bu b1 b2 = true ∧ bu c1 c2 = false) ∨ (bu a1 a2 = true ∧ bu b1 b2 = true ∧ bu c1 c2 = true ∧ bu d1 d2 = false) := by
  generalize bu a1 a2 = bV at *;generalize bu b1 b2 = cC at *;generalize bu c1 c2 = eY at *;generalize bu d1 d2 = iU at *;cases bV <;> cases cC <;> cases eY <;> cases iU <;> simp_all
 clear h;rcases cs with h1 | ⟨h1, h2⟩ | ⟨h1, h2, h3⟩ | ⟨h1, h2, h3, aD⟩ <;> simp only [*] at bf ev fR lT
 all_goals
  refine bd (f := 46) Tryz.func46 rfl rfl rfl rfl ?_;(refine bS ?_)
  ((refine aW rfl (cD rfl rfl rfl aJ) ?_))
  exact T3
abbrev se (M : fp) : ah := tD M.k M.n M.d M.m M.e M.p1 M.p2 M.q1 M.q2
theorem T4 : ah.aK (.w (.agg [.c (.int .i64 0), .c (.bool false), .c (.slice none 0 0), .c (.bool false), .c (.slice none 0 0), .c (.bool false), .c (.slice none 0 0), .c (.bool false), .c (.slice none 0 0), .c (.int .i64 0), .c (.int .i64 0), .c (.int .i64 0), .c (.int .i64 0)])) (se fH) := T3
theorem agH {a1 a2 b1 b2 c1 c2 d1 d2 p q r s t u w X Y x y d : Int} {e2 z2 z3 z4 : Bool} {M : fp}
  (bf : au ag 27 [aE a1 a2] (a7 true)) (ev : au ag 27 [aE b1 b2] (a7 true)) (fR : au ag 27 [aE c1 c2] (a7 true)) (lT : au ag 27 [aE d1 d2] (a7 true))
  (tK : au ag 78 [aE a1 a2, aE b1 b2] (.cz [.one (.c (.int .i64 p)), .one (.c (.int .i64 q)), km r])) (so : au ag 78 [aE c1 c2, aE d1 d2] (.cz [.one (.c (.int .i64 s)), .one (.c (.int .i64 t)), km u]))
  (vq : au ag 80 [ax 0] (cc 0)) (nA : au ag 80 [ax p] (cc p)) (sq : au ag 80 [ax q] (cc q)) (B9 : au ag 80 [ax s] (cc s)) (Ca : au ag 80 [ax t] (cc t))
  (sk : au ag 79 [cc p, cc q, cc s, cc t] (cc w)) (c : Int) (B4 : au ag 76 [cc w, cc 0] (ax c)) (aj : ¬ c = 0)
  (mn : au ag 79 [cc r, cc q, cc u, cc t] (cc X)) (k0 : au ag 79 [cc p, cc r, cc s, cc u] (cc Y))
  (re : au ag 81 [cc X, cc w] (gr x d)) (sr : au ag 81 [cc Y, cc w] (gr y d))
  (ri : au ag 82 [gr x d, ax a1, ax b1] (a7 e2)) (rj : au ag 82 [gr y d, ax a2, ax b2] (a7 z2)) (Vq : au ag 82 [gr x d, ax c1, ax d1] (a7 z3)) (Vr : au ag 82 [gr y d, ax c2, ax d2] (a7 z4))
  (fT : (if (e2 && z2 && z3 && z4) = true then hJ x d y d else fH) = M) : au ag 46 [aE a1 a2, aE b1 b2, aE c1 c2, aE d1 d2] (se M) := by
 have cs : (e2 = true ∧ z2 = true ∧ z3 = true ∧ z4 = true ∧ M = hJ x d y d) ∨ (e2 = true ∧ z2 = true ∧ z3 = true ∧ z4 = false ∧ M = fH) ∨ (e2 = true ∧ z2 = true ∧ z3 = false ∧ M = fH) ∨ (e2 = true ∧ z2 = false ∧ M = fH) ∨ (e2 = false ∧ M = fH) := by
  rw [← fT]; cases e2 <;> cases z2 <;> cases z3 <;> cases z4 <;> simp
 clear fT;refine bd (f := 46) Tryz.func46 rfl rfl rfl rfl ?_;(refine bS ?_);clear bf ev fR lT tK so vq nA sq B9 Ca sk mn k0 B4 re sr;rcases cs with ⟨rfl, rfl, rfl, rfl, rfl⟩ | ⟨rfl, rfl, rfl, rfl, rfl⟩ | ⟨rfl, rfl, rfl, rfl⟩ | ⟨rfl, rfl, rfl⟩ | ⟨rfl, rfl⟩
 all_goals
  (refine bS ?_)
  ((refine aW rfl (cD rfl rfl rfl aJ) ?_))
  first | exact T4 | exact ah.aK.refl _
def uV : List (Int × Int) → List AC
 | [] => []
 | p :: l => .c (.int .i64 p.1) :: .c (.int .i64 p.2) :: uV l
abbrev KO (l : List (Int × Int)) : ah := cK 2 l.length (uV l)
theorem Su : ∀ (l : List (Int × Int)) (i : Nat) (p : Int × Int), l[i]? = some p → ((uV l).drop (i * 2)).take 2 = [.c (.int .i64 p.1), .c (.int .i64 p.2)]
 | [], i, p, h => by simp at h
 | q :: l, 0, p, h => by simp at h; subst h; rfl
 | q :: l, i + 1, p, h => by
  rw [show (i + 1) * 2 = i * 2 + 1 + 1 by omega];simp only [uV, List.drop_succ_cons];exact Su l i p (by simpa using h)
theorem agu {l : List (Int × Int)} {j : Int} {i : Nat} {p : Int × Int} (ae : j = i) (h : l[i]? = some p) : ((uV l).drop (j.toNat * 2)).take 2 = [.c (.int .i64 p.1), .c (.int .i64 p.2)] := by
 subst ae;exact Su l i p h
theorem Sr {l : List (Int × Int)} {i : Nat} (h : i < l.length) : ∃ x y, l[i]? = some (x, y) := ⟨_, _, bN h⟩
theorem Sv {l : List (Int × Int)} {j : Int} {i : Nat} {x y : Int} (ae : j = i) (h : l[i]? = some (x, y)) : ((uV l).drop (j.toNat * 2)).take 2 = [.c (.int .i64 x), .c (.int .i64 y)] := agu ae h
theorem XA (a1 a2 b1 b2 c1 c2 : Int) : bW a1 a2 c1 c2 b1 b2 = -bW a1 a2 b1 b2 c1 c2 := by unfold bW; grind
theorem Xy (a1 a2 b1 b2 c1 c2 : Int) : ig a1 a2 c1 c2 b1 b2 = -ig a1 a2 b1 b2 c1 c2 := by
 unfold ig;rw [XA a1 a2];cases cp a1 a2 <;> cases cp b1 b2 <;> cases cp c1 c2 <;> simp
def qe (n a b : Int) : Bool := (decide (a ≤ n) && decide (n ≤ b)) || (decide (b ≤ n) && decide (n ≤ a))
theorem Rz {n a b : Int} {r : Bool} (al : qe n a b = r) : au ag 119 [ax n, ax a, ax b] (a7 r) := by
  have cs : (a ≤ n ∧ n ≤ b ∧ r = true) ∨ (a ≤ n ∧ ¬ n ≤ b ∧ b ≤ n ∧ n ≤ a ∧ r = true) ∨ (a ≤ n ∧ ¬ n ≤ b ∧ b ≤ n ∧ ¬ n ≤ a ∧ r = false) ∨ (a ≤ n ∧ ¬ n ≤ b ∧ ¬ b ≤ n ∧ r = false) ∨ (¬ a ≤ n ∧ b ≤ n ∧ n ≤ a ∧ r = true) ∨ (¬ a ≤ n ∧ b ≤ n ∧ ¬ n ≤ a ∧ r = false) ∨ (¬ a ≤ n ∧ ¬ b ≤ n ∧ r = false) := by
    rw [← al]; unfold qe
    by_cases q1 : a ≤ n <;> by_cases q2 : n ≤ b <;> by_cases bB : b ≤ n <;> by_cases cS : n ≤ a <;> simp [q1, q2, bB, cS]
  clear al;rcases cs with ⟨q1, q2, rfl⟩ | ⟨q1, q2, bB, cS, rfl⟩ | ⟨q1, q2, bB, cS, rfl⟩ | ⟨q1, q2, bB, rfl⟩ | ⟨q1, q2, bB, rfl⟩ | ⟨q1, q2, bB, rfl⟩ | ⟨q1, q2, rfl⟩
  all_goals first
    | (exfalso; omega)
    | (refine bd (f := 119) Tryz.func119 rfl rfl rfl rfl ?_
       (repeat first | refine dv ?_ | (with_reducible apply bP (c := true)); rfl; rfl; (exact cd (by omega)) | (with_reducible apply bP (c := false)); rfl; rfl; (exact cA (by omega)))
       ((refine aW rfl (aY rfl aJ) ?_))
       first | exact ah.aK.refl _ | exact ah.aK.of_eq (by rw [cd cS]; rfl) | exact ah.aK.of_eq (by rw [cA cS]; rfl) | exact ah.aK.of_eq (by rw [cd bB]; rfl) | exact ah.aK.of_eq (by rw [cA bB]; rfl))
theorem Xx {a1 a2 b1 b2 p1 p2 : Int} : ig a1 a2 p1 p2 b1 b2 = 0 ↔ ig a1 a2 b1 b2 p1 p2 = 0 := by rw [Xy]; omega
theorem Mu {n a b : Int} : qe n a b = (decide (fG a b ≤ n) && decide (n ≤ fF a b)) := by
  unfold qe fG fF;rw [kR];simp only [oJ, c6, cg]
  split <;> split <;> omega
theorem RP {p1 p2 a1 a2 b1 b2 : Int} : au ag 83 [aE p1 p2, aE a1 a2, aE b1 b2] (a7 (mF p1 p2 a1 a2 b1 b2)) := by
  have bf := yk (x := p1) (y := p2) rfl;have ev := yk (x := a1) (y := a2) rfl;have fR := yk (x := b1) (y := b2) rfl;have aS := afN (o1 := a1) (o2 := a2) (a1 := p1) (a2 := p2) (b1 := b1) (b2 := b2);have mP := Rz (n := p1) (a := a1) (b := b1) rfl;have sj := Rz (n := p2) (a := a2) (b := b2) rfl
  have cs : (cp p1 p2 = false ∧ mF p1 p2 a1 a2 b1 b2 = false) ∨ (cp p1 p2 = true ∧ cp a1 a2 = false ∧ mF p1 p2 a1 a2 b1 b2 = false) ∨ (cp p1 p2 = true ∧ cp a1 a2 = true ∧ cp b1 b2 = false ∧ mF p1 p2 a1 a2 b1 b2 = false)
      ∨ (cp p1 p2 = true ∧ cp a1 a2 = true ∧ cp b1 b2 = true ∧ ¬ ig a1 a2 p1 p2 b1 b2 = 0 ∧ mF p1 p2 a1 a2 b1 b2 = false)
      ∨ (cp p1 p2 = true ∧ cp a1 a2 = true ∧ cp b1 b2 = true ∧ ig a1 a2 p1 p2 b1 b2 = 0 ∧ qe p1 a1 b1 = false ∧ mF p1 p2 a1 a2 b1 b2 = false)
      ∨ (cp p1 p2 = true ∧ cp a1 a2 = true ∧ cp b1 b2 = true ∧ ig a1 a2 p1 p2 b1 b2 = 0 ∧ qe p1 a1 b1 = true ∧ mF p1 p2 a1 a2 b1 b2 = qe p2 a2 b2) := by
    rw [Xx];have e : ig a1 a2 b1 b2 p1 p2 = if (cp a1 a2 && cp b1 b2 && cp p1 p2) = true then bW a1 a2 b1 b2 p1 p2 else 0 := rfl
    have aO : eM (fG a1 b1) (fG a2 b2) (fF a1 b1) (fF a2 b2) p1 p2 = (qe p1 a1 b1 && qe p2 a2 b2) := by
      rw [Mu, Mu]; unfold eM; simp only [Bool.and_assoc]
    rw [e];unfold mF;rw [aO];generalize bW a1 a2 b1 b2 p1 p2 = c at *;generalize cp p1 p2 = b4 at *;generalize cp a1 a2 = ck at *;generalize cp b1 b2 = hM at *;generalize qe p1 a1 b1 = lO at *;generalize qe p2 a2 b2 = oW at *;cases b4 <;> cases ck <;> cases hM <;> cases lO <;> cases oW <;> by_cases aj : c = 0 <;> simp [aj]
  generalize ig a1 a2 p1 p2 b1 b2 = c at *;rcases cs with ⟨h1, h⟩ | ⟨h1, h2, h⟩ | ⟨h1, h2, h3, h⟩ | ⟨h1, h2, h3, aD, h⟩ | ⟨h1, h2, h3, aD, cU, h⟩ | ⟨h1, h2, h3, aD, cU, h⟩ <;> rw [h] <;> clear h <;> simp only [h1] at bf <;> (try simp only [h2] at ev) <;> (try simp only [h3] at fR) <;> (try simp only [cU] at mP)
  all_goals
    refine bd (f := 83) Tryz.func83 rfl rfl rfl rfl ?_;(repeat first | refine dv ?_ | refine e7 ?_ | (with_reducible apply bP (c := true)); rfl; rfl; (exact cd (by omega)) | (with_reducible apply bP (c := false)); rfl; rfl; (exact cA (by omega)))
    ((refine aW rfl (aY rfl aJ) ?_))
    exact ah.aK.refl _
instance ak2 : lm ag 129 38 2 16 := ⟨by kernel_rfl⟩
def tm : List (Int × Int) → List Value
 | [] => []
 | p :: l => .int .i64 p.1 :: .int .i64 p.2 :: tm l
theorem Sx : ∀ l, (tm l).map .c = uV l
 | [] => rfl
 | p :: l => by simp [tm, uV, Sx l]
theorem Sw : ∀ l m, tm (l ++ m) = tm l ++ tm m
 | [], m => rfl
 | p :: l, m => by simp [tm, Sw l m]
end Go.Proofs.YtbcecodakfejaaaGreat
