/-
  My own texts, without what this claim does not need. My own text.
-/
import Derived.Deep.SlicePairs
import Derived.Carry
import Derived.Test.YtpochbhajmbfdaaGreatSTurnedK9
set_option maxRecDepth 100000
set_option maxHeartbeats 64000000
set_option linter.unusedVariables false
set_option linter.unusedSimpArgs false
set_option linter.unusedSectionVars false
open Go.Proofs.Tryz renaming prog → aj
namespace Go.Proofs.YtpochbhajmbfdaaGreat
open Go.RowKit
theorem OS : b8 [] = [] := rfl
theorem OT (p : Int × Int) (l : List (Int × Int)) : ((b8 (p :: l)).drop ((1 : Int).toNat * 2)).take (l.length * 2) = b8 l := by
 show ((b8 (p :: l)).drop 2).take (l.length * 2) = b8 l;rw [← ot];simp [b8]
theorem IU (p : Int × Int) (l : List (Int × Int)) : b8 l ++ [.c (.int .i64 p.1), .c (.int .i64 p.2)] = b8 (l ++ [p]) := by rw [sZ]; rfl
theorem aaT (l : List (Int × Int)) (k : Nat) : ((b8 l).drop (0 * 2)).take ((l.take k).length * 2) = b8 (l.take k) := by
 have e : b8 l = b8 (l.take k) ++ b8 (l.drop k) := by rw [← sZ, k3]
 rw [e, Nat.zero_mul, List.drop_zero, ← ot];simp
theorem aaS (l : List (Int × Int)) (k : Nat) (ae : k ≤ l.length) : ((b8 l).drop (k * 2)).take ((l.drop k).length * 2) = b8 (l.drop k) := by
 have e : b8 l = b8 (l.take k) ++ b8 (l.drop k) := by rw [← sZ, k3]
 have aM : k * 2 = (b8 (l.take k)).length := by rw [ot, eu, qC ae]
 rw [e, aM, List.drop_left, ← ot, List.take_length]
abbrev hO (v : Value) (l : List (Int × Int)) : bS := ⟨59, 2, v, l.length, b8 l⟩
instance ajo : nu aj 42 59 2 16 := ⟨by kernel_rfl⟩
def TK (M : List (Int × Int)) (lt : Int × Int → Int × Int → Bool) (EF : ai) (K : Nat) (m : Nat) (R : aL) (aS : List (Nat × ai)) (bw : List (Nat × List AC)) : Prop :=
 ∃ (a b out : List (Int × Int)) (v : Value), m = a.length + b.length ∧ out ++ e5 lt a b = M ∧ out.length + m = K ∧ R = bH 0 (hO v out) ∧ aS = [(0, hR a), (1, hR b), (2, EF), (7, aU v)] ∧ bw = []
theorem JK {fx fy : Bool} {a b : List (Int × Int)} (aI : a.length ≤ 100000) (ab : b.length ≤ 100000) :
  aY aj 183 [hR a, hR b, w1 fx fy] (hR (e5 (dN fx fy) a b)) := by
 refine cq (f := 183) Tryz.func183 rfl rfl rfl rfl ?_;refine vD ?_;(repeat first | (with_reducible first | apply bb | apply aV | apply a8 | apply aX) | (with_reducible apply aO); exact rfl; (repeat first | (with_reducible apply az); exact rfl | (with_reducible apply fh); (iterate 3 exact rfl); (exact cZ (by omega)); exact rfl | (with_reducible apply c6); (iterate 3 exact rfl)); (with_reducible apply aA));refine As (l := 0) (c' := a.length + b.length) 0 rfl rfl rfl rfl (eF _) rfl rfl ?h2 (ka (by omega)) rfl (fun v hv => ?_)
 case h2 => omega
 (repeat first | (with_reducible first | apply bb | apply aV | apply aX | apply fu) | (with_reducible apply aO); exact rfl; (repeat first | (with_reducible apply az); exact rfl); (with_reducible apply aA));refine k7 52 (TK (e5 (dN fx fy) a b) (dN fx fy) (w1 fx fy) (a.length + b.length)) (a.length + b.length) (bH 0 (hO v [])) _ _ ⟨a, b, [], v, rfl, rfl, ju _, rfl, rfl, rfl⟩ (ni _ _ _) rfl ⟨rfl, rfl, rfl, rfl, trivial⟩ trivial rfl ?_;rintro m R aS bw ⟨a', bR, out, v, rfl, jE, ek, rfl, rfl, rfl⟩ dK;clear dK hv
 by_cases oy : 0 < a'.length
 ·by_cases oz : 0 < bR.length
  ·have Fj : (a'.length : Int) > 0 := by omega
   have JX : (bR.length : Int) > 0 := by omega
   obtain ⟨⟨x, n⟩, a2, rfl⟩ := List.exists_cons_of_length_pos oy;obtain ⟨⟨y, m⟩, b2, rfl⟩ := List.exists_cons_of_length_pos oz;have jz : ((b8 ((x, n) :: a2)).drop ((0 : Int).toNat * 2)).take 2 = [.c (.int .i64 x), .c (.int .i64 n)] := uI (j := 0) (i := 0) rfl rfl;have qU : ((b8 ((y, m) :: b2)).drop ((0 : Int).toNat * 2)).take 2 = [.c (.int .i64 y), .c (.int .i64 m)] := uI (j := 0) (i := 0) rfl rfl;have aP := ad6 (x := y) (y := m) (z := x) (w := n) (l := fx) (d := fy) rfl;rw [show zd y m x n fx fy = dN fx fy (y, m) (x, n) from rfl] at aP;cases bh : dN fx fy (y, m) (x, n) with
   | true =>
    rw [bh] at aP;have aG : ((y, m) :: b2).length - (1 : Int).toNat = b2.length := rfl;have aM := OT (y, m) b2
    have HJ : (out ++ [(y, m)]) ++ e5 (dN fx fy) ((x, n) :: a2) b2 = e5 (dN fx fy) a b := by
     rw [← jE, e5, if_pos bh, iV]; rfl
    have Zz : (out ++ [(y, m)]).length = out.length + 1 := cX;have mT : ((y, m) :: b2).length = b2.length + 1 := rfl;have ZA : ((x, n) :: a2).length = a2.length + 1 := rfl;(repeat first | (with_reducible apply eD); kernel_rfl | (with_reducible apply dU (id := 3) [0,1,2,3,4,5,6,7]); kernel_rfl; kernel_rfl; exact rfl | (with_reducible apply dU (id := 4) [0,1,2,3,6,7,4,5,8,9]); kernel_rfl; kernel_rfl; exact rfl | (with_reducible first | apply bb | apply aV | apply a8 | apply aX | apply dc | apply fu) | (with_reducible apply eo); exact rfl; (first | exact bF (by omega) | exact rfl) | (with_reducible apply aO); exact rfl; (repeat first | (with_reducible apply az); exact rfl | (with_reducible apply gN); (iterate 5 exact rfl) | (with_reducible apply fi); (iterate 3 exact rfl); (decide); (omega); (assumption); exact rfl | (with_reducible apply c6); (iterate 3 exact rfl) | (with_reducible apply LI); (iterate 3 exact rfl); (omega); (assumption); (assumption); (assumption); exact rfl | (with_reducible apply lM); (iterate 10 exact rfl) | refine LD (args := [_, _]) rfl rfl rfl (by (exact aP)) rfl ?_ | (with_reducible apply dO (c := true)); exact rfl; exact rfl; (exact bF (by omega))); (with_reducible apply aA));refine oi 0 rfl rfl rfl rfl ?q1 ?q2 rfl rfl (fun a7 cg => ?_)
    case q1 => exact ka (by show out.length + 1 ≤ 1000000; omega)
    case q2 => show (out.length + 1) * 16 ≤ 140737488355328; omega
    (repeat first | (with_reducible apply eD); kernel_rfl | (with_reducible first | apply aV | apply kg) | (with_reducible apply aO); exact rfl; (repeat first | (with_reducible apply az); exact rfl); (with_reducible apply aA))
    have cD : hO a7 (out ++ [(y, m)]) = ⟨59, 2, a7, out.length + 1, b8 out ++ [.c (.int .i64 y), .c (.int .i64 m)]⟩ := by
     unfold hO; rw [← IU, cX]; rfl
    refine ⟨_, bH 0 (hO a7 (out ++ [(y, m)])), _, _, ?_, ⟨(x, n) :: a2, b2, out ++ [(y, m)], a7, rfl, HJ, ?_, rfl, rfl, rfl⟩, by rw [cD]; exact ni _ _ _, rfl, ⟨rfl, rfl, rfl, rfl, trivial⟩, trivial, rfl⟩
    ·omega
    ·omega
   | false =>
    rw [bh] at aP;have aG : ((x, n) :: a2).length - (1 : Int).toNat = a2.length := rfl;have aM := OT (x, n) a2
    have HJ : (out ++ [(x, n)]) ++ e5 (dN fx fy) a2 ((y, m) :: b2) = e5 (dN fx fy) a b := by
     rw [← jE, e5, if_neg (by rw [bh]; decide), iV]; rfl
    have Zz : (out ++ [(x, n)]).length = out.length + 1 := cX;have mT : ((y, m) :: b2).length = b2.length + 1 := rfl;have ZA : ((x, n) :: a2).length = a2.length + 1 := rfl;(repeat first | (with_reducible apply eD); kernel_rfl | (with_reducible apply dU (id := 3) [0,1,2,3,4,5,6,7]); kernel_rfl; kernel_rfl; exact rfl | (with_reducible apply dU (id := 5) [0,1,2,3,6,7,4,5,8,9]); kernel_rfl; kernel_rfl; exact rfl | (with_reducible first | apply bb | apply aV | apply a8 | apply aX | apply dc | apply fu) | (with_reducible apply eo); exact rfl; (exact bF (by omega)) | (with_reducible apply c4); exact rfl; (exact rfl) | (with_reducible apply aO); exact rfl; (repeat first | (with_reducible apply az); exact rfl | (with_reducible apply gN); (iterate 5 exact rfl) | (with_reducible apply fi); (iterate 3 exact rfl); (decide); (omega); (assumption); exact rfl | (with_reducible apply c6); (iterate 3 exact rfl) | (with_reducible apply LI); (iterate 3 exact rfl); (omega); (assumption); (assumption); (assumption); exact rfl | (with_reducible apply lM); (iterate 10 exact rfl) | refine LD (args := [_, _]) rfl rfl rfl (by (exact aP)) rfl ?_ | (with_reducible apply dO (c := true)); exact rfl; exact rfl; (exact bF (by omega))); (with_reducible apply aA));refine oi 0 rfl rfl rfl rfl ?q1 ?q2 rfl rfl (fun a7 cg => ?_)
    case q1 => exact ka (by show out.length + 1 ≤ 1000000; omega)
    case q2 => show (out.length + 1) * 16 ≤ 140737488355328; omega
    (repeat first | (with_reducible apply eD); kernel_rfl | (with_reducible first | apply aV | apply kg) | (with_reducible apply aO); exact rfl; (repeat first | (with_reducible apply az); exact rfl); (with_reducible apply aA))
    have cD : hO a7 (out ++ [(x, n)]) = ⟨59, 2, a7, out.length + 1, b8 out ++ [.c (.int .i64 x), .c (.int .i64 n)]⟩ := by
     unfold hO; rw [← IU, cX]; rfl
    refine ⟨_, bH 0 (hO a7 (out ++ [(x, n)])), _, _, ?_, ⟨a2, (y, m) :: b2, out ++ [(x, n)], a7, rfl, HJ, ?_, rfl, rfl, rfl⟩, by rw [cD]; exact ni _ _ _, rfl, ⟨rfl, rfl, rfl, rfl, trivial⟩, trivial, rfl⟩
    ·omega
    ·omega
  ·have Fj : (a'.length : Int) > 0 := by omega
   have JX : ¬ (bR.length : Int) > 0 := by omega
   have mR : bR = [] := List.length_eq_zero_iff.1 (by omega);have a6 : (a'.length : Int) = a'.length := rfl;(repeat first | (with_reducible first | apply bb | apply aV | apply a8 | apply aX | apply jN | apply jS | apply jR) | (with_reducible apply c4); exact rfl; (exact b5 (by omega)) | (with_reducible apply aO); exact rfl; (repeat first | (with_reducible apply az); exact rfl | (with_reducible apply c6); (iterate 3 exact rfl) | (with_reducible apply dO (c := true)); exact rfl; exact rfl; (exact bF (by omega))); (with_reducible apply aA));refine oi 0 rfl rfl rfl rfl ?q1 ?q2 (wx _) rfl (fun a7 cg => ?_)
   case q1 => exact ka (by show out.length + a'.length ≤ 1000000; omega)
   case q2 => show (out.length + a'.length) * 16 ≤ 140737488355328; omega
   (repeat first | (with_reducible first | apply bb | apply aV | apply a8 | apply aX) | (with_reducible apply aO); exact rfl; (repeat first | (with_reducible apply az); exact rfl); (with_reducible apply aA));refine Og (k := (e5 (dN fx fy) a b).length) (zs := b8 (e5 (dN fx fy) a b)) 0 rfl rfl rfl rfl ?p1 ?p2 ?p3 ?p4 (wx _) rfl ?_
   case p1 => exact ka (by show (out.length + a'.length) + bR.length ≤ 1000000; omega)
   case p2 => show ((out.length + a'.length) + bR.length) * 16 ≤ 140737488355328; omega
   case p3 => show (out.length + a'.length) + bR.length = (e5 (dN fx fy) a b).length; rw [Js]; omega
   case p4 => show (b8 out ++ b8 a') ++ b8 bR = b8 (e5 (dN fx fy) a b); rw [← jE, mR, Jt, ← sZ, OS, qz]
   (repeat first | (with_reducible first | apply aV | apply aX | apply dM) | (with_reducible apply aO); exact rfl; (repeat first | (with_reducible apply az); exact rfl); (with_reducible apply aA))
   ((refine bY rfl (bD rfl bf) ?_))
   exact ai.bo.refl _
 ·have Fj : ¬ (a'.length : Int) > 0 := by omega
  have YK : a' = [] := List.length_eq_zero_iff.1 (by omega);(repeat first | (with_reducible first | apply bb | apply aV | apply a8 | apply aX | apply jN | apply jS | apply jR) | (with_reducible apply c4); exact rfl; (exact rfl) | (with_reducible apply aO); exact rfl; (repeat first | (with_reducible apply az); exact rfl | (with_reducible apply c6); (iterate 3 exact rfl) | (with_reducible apply dO (c := false)); exact rfl; exact rfl; (exact b5 (by omega))); (with_reducible apply aA));refine oi 0 rfl rfl rfl rfl ?q1 ?q2 (wx _) rfl (fun a7 cg => ?_)
  case q1 => exact ka (by show out.length + a'.length ≤ 1000000; omega)
  case q2 => show (out.length + a'.length) * 16 ≤ 140737488355328; omega
  (repeat first | (with_reducible first | apply bb | apply aV | apply a8 | apply aX) | (with_reducible apply aO); exact rfl; (repeat first | (with_reducible apply az); exact rfl); (with_reducible apply aA));refine Og (k := (e5 (dN fx fy) a b).length) (zs := b8 (e5 (dN fx fy) a b)) 0 rfl rfl rfl rfl ?p1 ?p2 ?p3 ?p4 (wx _) rfl ?_
  case p1 => exact ka (by show (out.length + a'.length) + bR.length ≤ 1000000; omega)
  case p2 => show ((out.length + a'.length) + bR.length) * 16 ≤ 140737488355328; omega
  case p3 => show (out.length + a'.length) + bR.length = (e5 (dN fx fy) a b).length; rw [Js]; omega
  case p4 => show (b8 out ++ b8 a') ++ b8 bR = b8 (e5 (dN fx fy) a b); rw [← jE, YK, acu, OS, qz, ← sZ]
  (repeat first | (with_reducible first | apply aV | apply aX | apply dM) | (with_reducible apply aO); exact rfl; (repeat first | (with_reducible apply az); exact rfl); (with_reducible apply aA))
  ((refine bY rfl (bD rfl bf) ?_))
  exact ai.bo.refl _
theorem ad2 {fx fy : Bool} :
  ∀ (N : Nat) (l : List (Int × Int)), l.length ≤ N → N ≤ 100000 → aY aj 126 [hR l, w1 fx fy] (hR (ja (dN fx fy) l)) := by
 intro N
 induction N with
 | zero =>
  intro l h1 h2;have h7 := JK (fx := fx) (fy := fy) (a := l) (b := []) (by omega) (by simp);rw [Jt] at h7
  have aP : aY aj 183 [hR l, Kz, w1 fx fy] (hR l) := Q7 h7 rfl rfl (by
   intro i x y aa ag
   match i with
   | 0 => cases aa; cases ag; exact .refl _
   | 1 => cases aa; cases ag; exact nil_le 2
   | 2 => cases aa; cases ag; exact .refl _
   | i + 3 => simp at aa)
  have q1 : (l.length : Int) < 2 := by omega
  have e : ja (dN fx fy) l = l := by rw [ja, dif_pos (by omega)]
  rw [e];clear h7;refine cq (f := 126) Tryz.func126 rfl rfl rfl rfl ?_;(repeat first | (with_reducible apply az); exact rfl | (with_reducible apply c6); (iterate 3 exact rfl) | refine kt rfl rfl rfl rfl rfl (by (exact aP)) rfl ?_ | (with_reducible first | apply bQ | apply bI | apply bO | apply aA | apply cf | apply fV) | (with_reducible apply gO); exact rfl; (exact bF (by omega)))
  ((refine bY rfl (bD rfl bf) ?_))
  exact ai.bo.refl _
 | succ N bW =>
  intro l h1 h2
  by_cases q : l.length < 2
  ·have h7 := JK (fx := fx) (fy := fy) (a := l) (b := []) (by omega) (by simp);rw [Jt] at h7
   have aP : aY aj 183 [hR l, Kz, w1 fx fy] (hR l) := Q7 h7 rfl rfl (by
    intro i x y aa ag
    match i with
    | 0 => cases aa; cases ag; exact .refl _
    | 1 => cases aa; cases ag; exact nil_le 2
    | 2 => cases aa; cases ag; exact .refl _
    | i + 3 => simp at aa)
   have q1 : (l.length : Int) < 2 := by omega
   have e : ja (dN fx fy) l = l := by rw [ja, dif_pos (by omega)]
   rw [e];clear h7 bW;refine cq (f := 126) Tryz.func126 rfl rfl rfl rfl ?_;(repeat first | (with_reducible apply az); exact rfl | (with_reducible apply c6); (iterate 3 exact rfl) | refine kt rfl rfl rfl rfl rfl (by (exact aP)) rfl ?_ | (with_reducible first | apply bQ | apply bI | apply bO | apply aA | apply cf | apply fV) | (with_reducible apply gO); exact rfl; (exact bF (by omega)))
   ((refine bY rfl (bD rfl bf) ?_))
   exact ai.bo.refl _
  ·have q1 : ¬ (l.length : Int) < 2 := by omega
   have e : ja (dN fx fy) l = e5 (dN fx fy) (ja (dN fx fy) (l.take (l.length / 2))) (ja (dN fx fy) (l.drop (l.length / 2))) := by rw [ja, dif_neg q]
   have aP := bW (l.take (l.length / 2)) (by simp; omega) (by omega);have b6 := bW (l.drop (l.length / 2)) (by simp; omega) (by omega);have l1 := FL (dN fx fy) _ (l.take (l.length / 2)) (eb _);have l2 := FL (dN fx fy) _ (l.drop (l.length / 2)) (eb _);have fo := JK (fx := fx) (fy := fy) (a := ja (dN fx fy) (l.take (l.length / 2))) (b := ja (dN fx fy) (l.drop (l.length / 2))) (by rw [l1]; simp; omega) (by rw [l2]; simp; omega);have aW : ((l.length : Int) / 2).toNat = l.length / 2 := by omega
   have aG : ((l.length : Int) / 2).toNat - 0 = (l.take (l.length / 2)).length := by rw [aW]; simp; omega
   have aM := aaT l (l.length / 2);have cD : ((l.length : Int)).toNat - ((l.length : Int) / 2).toNat = (l.drop (l.length / 2)).length := by rw [aW]; simp
   have eR := aaS l (l.length / 2) (by omega);have jC : ((b8 l).drop (((l.length : Int) / 2).toNat * 2)).take ((l.drop (l.length / 2)).length * 2) = b8 (l.drop (l.length / 2)) := by rw [aW]; exact eR
   rw [e];clear bW l1 l2 e eR aW;refine cq (f := 126) Tryz.func126 rfl rfl rfl rfl ?_;(repeat first | (with_reducible apply az); exact rfl | (with_reducible apply c6); (iterate 3 exact rfl) | (with_reducible apply GD); (iterate 4 exact rfl); (omega); (omega); (omega); (assumption); (assumption); exact rfl | (with_reducible apply GF); (iterate 5 exact rfl); (omega); (omega); (omega); (omega); (assumption); (assumption); exact rfl | (with_reducible apply Va); (iterate 3 exact rfl); omega; omega; omega; exact rfl | refine dP rfl rfl rfl rfl (by (first | exact aP | exact b6)) rfl ?_ | refine kt rfl rfl rfl rfl rfl (by (exact fo)) rfl ?_ | (with_reducible apply iJ); kernel_rfl | (with_reducible apply iL); kernel_rfl; kernel_rfl; exact rfl | (with_reducible first | apply bQ | apply bI | apply bO | apply aA | apply cf | apply e3) | (with_reducible apply ia); exact rfl; (exact b5 (by omega)))
   ((refine bY rfl (bD rfl bf) ?_))
   exact ai.bo.refl _
section
variable {P : Program} {bq : e8} {s : aE} {ops : Array Oper} {dr : Option (List Nat)} {ty d : Nat} {pos : String} {after : Array Edge} {guard : Option (Nat × Bool)} {K : aE → Prop} {rest : List Oper}
theorem GC {tt z n l lo hi : Nat} {v u : Value} {x y : Operand} [S : iI P tt z] (hw : want ops ⟨some d, .slice tt x (some y) none none, ty, pos, after, guard⟩ s = some true) (aa : s.look x = some (aU u)) (ag : s.look y = some (aR (l : Int))) (hu : jf v z lo hi u) (hm : hi - lo = n) (h1 : l ≤ n) (hd : Nat.blt d s.n = true) (h : bj P ops K rest (s.put (some d) (aU (hz u z l n)))) : bj P ops K (⟨some d, .slice tt x (some y) none none, ty, pos, after, guard⟩ :: rest) s := by
 subst hm;obtain ⟨⟨A, c, rfl⟩, _⟩ := hu;refine gp (av := aU (hz (.slice A (hi - lo) c) z l (hi - lo))) hw ⟨fun _ _ h => (by cases h), fun q an => ?_, fun U ad W env he => ?_, fun j af => absurd af (jq _ j)⟩ hd h
 ·simp [Op.operands] at an;rcases an with rfl | rfl
  ·exact ⟨_, aa⟩
  ·exact ⟨_, ag⟩
 ·have ex : env x = .slice A (hi - lo) c := (he x (by simp [Op.operands]) _ aa).1;have kQ : env y = .int .i64 (l : Int) := (he y (by simp [Op.operands]) _ ag).1;obtain ⟨bu, fS, hu, c3, hs⟩ := nj S.h;have fk : P.underlying tt = some (.slice (P.elem tt)) := by rw [kP hu]; exact hu
  refine ⟨hz (.slice A (hi - lo) c) z l (hi - lo), ?_, rfl, rfl⟩;simp only [execOp, ex, hy, tj, kQ, Sem.run_bind, run_sliceAt_slice W tt _ _ _ _ fk, run_slice_l W tt A (hi - lo) c fk .i64 l (by omega) (by omega), kP hu, h5 c3, Result.andThen_ok, hs, Sem.run_pure, k6, hz]
theorem Vb {tt z n l lo hi : Nat} {v u : Value} {x y : Operand} [S : iI P tt z] (hw : want ops ⟨some d, .slice tt x none (some y) none, ty, pos, after, guard⟩ s = some true) (aa : s.look x = some (aU u)) (ag : s.look y = some (aR (l : Int))) (hu : jf v z lo hi u) (hm : hi - lo = n) (h1 : l ≤ n) (hd : Nat.blt d s.n = true) (h : bj P ops K rest (s.put (some d) (aU (hz u z 0 l)))) : bj P ops K (⟨some d, .slice tt x none (some y) none, ty, pos, after, guard⟩ :: rest) s := by
 subst hm;obtain ⟨⟨A, c, rfl⟩, ak⟩ := hu
 have Ij : l ≤ c := by
  rcases u3 l with e | e
  ·omega
  ·have aW := ak (show lo < hi by omega);obtain ⟨g, n', c', g1, g2, g3⟩ := aW;have eR : c = c' - lo := by injection g3
   clear g1 g3 ak;omega
 refine gp (av := aU (hz (.slice A (hi - lo) c) z 0 l)) hw ⟨fun _ _ h => (by cases h), fun q an => ?_, fun U ad W env he => ?_, fun j af => absurd af (jq _ j)⟩ hd h
 ·simp [Op.operands] at an;rcases an with rfl | rfl
  ·exact ⟨_, aa⟩
  ·exact ⟨_, ag⟩
 ·have ex : env x = .slice A (hi - lo) c := (he x (by simp [Op.operands]) _ aa).1;have kQ : env y = .int .i64 (l : Int) := (he y (by simp [Op.operands]) _ ag).1;obtain ⟨bu, fS, hu, c3, hs⟩ := nj S.h;have fk : P.underlying tt = some (.slice (P.elem tt)) := by rw [kP hu]; exact hu
  refine ⟨hz (.slice A (hi - lo) c) z 0 l, ?_, rfl, rfl⟩;simp only [execOp, ex, hy, tj, kQ, Sem.run_bind, run_sliceAt_slice W tt _ _ _ _ fk, run_slice_h W tt A (hi - lo) c fk .i64 l (by omega) (by omega), kP hu, h5 c3, Result.andThen_ok, hs, Sem.run_pure, k6, hz]
end
theorem Kp {A C Ln : List AC} {n : Nat} (h : A.length = n) : eO (A ++ Ln) n C = (A ++ C) ++ Ln.drop C.length := by
 subst h;unfold eO;rw [List.take_left, List.drop_append, u4 (by omega), List.nil_append, Nat.add_sub_cancel_left]
theorem OU {l : List aq} {n : Nat} (h : l.length = n) : (b8 l).take (n * 2) = b8 l := hQ (by rw [ot]; omega)
theorem OH {l : List Int} {n : Nat} (h : l.length = n) : (cy l).take (n * 1) = cy l := hQ (by simp [cy]; omega)
theorem OG (l : List Int) : (cy l).all AC.bd = true := cB.2 fun y ag => by
 obtain ⟨x, _, rfl⟩ := iW.1 ag;rfl
theorem Ek (l : List Int) : (cy l).length = l.length * 1 := by simp [cy]
abbrev Fx (LL : List (List aq)) : List AC := LL.map fun l => AC.p (cx 2 l.length (b8 l))
abbrev FX (LL : List (List aq)) : ai := cT 1 LL.length (Fx LL)
theorem RR {LL : List (List aq)} {j : Int} {i : Nat} {l : List aq} (af : j = i) (h : LL[i]? = some l) : ((Fx LL).drop (j.toNat * 1)).take 1 = [.p (cx 2 l.length (b8 l))] := by
 subst af;have hi := (bP.1 h).1;rw [k6, Nat.mul_one, nL (by simpa [Fx] using hi)];have : LL[i] = l := (bP.1 h).2;simp [Fx, this]
def ij (LL : List (List aq)) (i : Nat) : List aq := (LL.take i).flatten
theorem Rk {LL : List (List aq)} {i : Nat} {l : List aq} (h : LL[i]? = some l) : ij LL (i + 1) = ij LL i ++ l := by
 unfold ij;rw [nO (bP.1 h).1, (bP.1 h).2]; simp
theorem Ri {LL : List (List aq)} {i : Nat} (h : LL.length ≤ i) : ij LL i = LL.flatten := by unfold ij; rw [hQ h]
theorem Rj (LL : List (List aq)) (i : Nat) : (ij LL i).length ≤ LL.flatten.length := by
 have : LL.flatten = ij LL i ++ (LL.drop i).flatten := by unfold ij; rw [← List.flatten_append, k3]
 rw [this, cX]; omega
def TC (LL : List (List aq)) (n : Nat) (R : aL) (aS : List (Nat × ai)) (bw : List (Nat × List AC)) : Prop :=
 ∃ (i : Nat) (ii pn : Int), i ≤ LL.length ∧ n = LL.length - i ∧ ii = i ∧ pn = ((ij LL i).length : Nat) ∧ R = gw ∧ bw = [] ∧ aS = [(0, FX LL), (3, aR pn), (10, FX LL), (11, aR LL.length), (12, aR ii)]
def TD (LL : List (List aq)) (N : Nat) (v : Value) (fg : List AC) (n : Nat) (R : aL) (aS : List (Nat × ai)) (bw : List (Nat × List AC)) : Prop :=
 ∃ (i : Nat) (ii : Int) (u : Value), i ≤ LL.length ∧ n = LL.length - i ∧ ii = i ∧ jf v 2 (ij LL i).length N u ∧ R = bH 0 ⟨59, 2, v, N, b8 (ij LL i) ++ fg.drop ((ij LL i).length * 2)⟩ ∧ bw = [] ∧ aS = [(6, aU v), (7, aU u), (24, FX LL), (25, aR LL.length), (26, aR ii)]
theorem QZ {LL : List (List aq)} (gY : LL.length ≤ 1100) (kS : LL.flatten.length ≤ 100000) : aY aj 186 [FX LL] (hR LL.flatten) := by
 refine cq (f := 186) Tryz.func186 rfl rfl rfl rfl ?_;refine vD ?_;(repeat first | (with_reducible first | apply bb | apply aV | apply a8 | apply aX | apply fu) | (with_reducible apply aO); exact rfl; (repeat first | (with_reducible apply az); exact rfl | (with_reducible apply c6); (iterate 3 exact rfl)); (with_reducible apply aA));refine k7 37 (TC LL) LL.length gw _ [] ⟨0, 0, 0, eF _, rfl, rfl, rfl, rfl, rfl, rfl⟩ (bL.refl _) rfl ⟨rfl, rfl, rfl, rfl, rfl, trivial⟩ trivial rfl ?_;rintro n R aS bw ⟨i, ii, pn, hi, rfl, gi, Ai, rfl, rfl, rfl⟩ dK;clear dK
 by_cases an : i < LL.length
 ·have q2 : ii < (LL.length : Int) := by omega
  have cr : 0 ≤ ii := by omega
  obtain ⟨l, g1⟩ : ∃ l, LL[i]? = some l := ⟨_, cj an⟩;have jz := RR gi g1;have h1 := Rk g1;have h2 := Rj LL (i + 1);have ao : (ij LL (i + 1)).length = (ij LL i).length + l.length := by rw [h1, cX]
  (repeat first | (with_reducible first | apply bb | apply aV | apply a8 | apply aX | apply dc | apply fu | apply kg) | (with_reducible apply eo); exact rfl; (exact bF (by omega)) | (with_reducible apply aO); exact rfl; (repeat first | (with_reducible apply az); exact rfl | (with_reducible apply mh); (iterate 5 exact rfl) | (with_reducible apply fi); (iterate 3 exact rfl); (omega); (omega); (assumption); exact rfl | (with_reducible apply fh); (iterate 3 exact rfl); (exact cZ (by omega)); exact rfl | (with_reducible apply c6); (iterate 3 exact rfl)); (with_reducible apply aA));exact ⟨LL.length - (i + 1), gw, _, [], by omega, ⟨i + 1, ii + 1, _, by omega, rfl, by omega, by omega, rfl, rfl, rfl⟩, bL.refl _, rfl, ⟨rfl, rfl, rfl, rfl, rfl, trivial⟩, trivial, rfl⟩
 ·have q2 : ¬ ii < (LL.length : Int) := by omega
  rw [Ri (by omega)] at Ai;subst Ai;generalize zR : LL.flatten.length = N at *;(repeat first | (with_reducible first | apply bb | apply aV | apply a8 | apply aX | apply jN | apply jS | apply jR) | (with_reducible apply c4); exact rfl; (exact b5 (by omega)) | (with_reducible apply aO); exact rfl; (repeat first | (with_reducible apply az); exact rfl); (with_reducible apply aA));refine As (l := N) (c' := N) 0 rfl rfl rfl rfl (eb _) rfl rfl ?h2 (ka (by omega)) rfl (fun v hv => ?_)
  case h2 => show 16 * N ≤ 281474976710656; omega
  generalize dR : ir N 2 _ = fg;have DG : fg.length = N * 2 := by rw [← dR]; simp [ir]
  clear dR;(repeat first | (with_reducible first | apply bb | apply aV | apply a8 | apply aX | apply fu) | (with_reducible apply aO); exact rfl; (repeat first | (with_reducible apply az); exact rfl | (with_reducible apply c6); (iterate 3 exact rfl)); (with_reducible apply aA));refine Kd 0 (r := ⟨59, 2, v, N, fg⟩) rfl (fun e7 c ic eX j3 ej hlen => ?_);have nC : v = .slice e7 N c := ic;have sP : jf v 2 0 N v := by rw [nC]; exact jf.all 2 eX ej
  clear ic eX j3 ej hlen;refine k7 37 (TD LL N v fg) LL.length (bH 0 ⟨59, 2, v, N, fg⟩) _ [] ⟨0, 0, v, eF _, rfl, rfl, sP, rfl, rfl, rfl⟩ (ni _ _ _) rfl ⟨rfl, rfl, rfl, rfl, rfl, trivial⟩ trivial rfl ?_;clear an q2 sP gi nC;rintro n R aS bw ⟨i, ii, u, hi, rfl, gi, hu, rfl, rfl, rfl⟩ dK;clear dK
  by_cases an : i < LL.length
  ·have q2 : ii < (LL.length : Int) := by omega
   have cr : 0 ≤ ii := by omega
   obtain ⟨l, g1⟩ : ∃ l, LL[i]? = some l := ⟨_, cj an⟩;have jz := RR gi g1;have h1 := Rk g1;have h2 := Rj LL (i + 1);have ao : (ij LL (i + 1)).length = (ij LL i).length + l.length := by rw [h1, cX]
   rw [zR] at h2;have c1 := wx l;have bC : Nat.min l.length (N - (ij LL i).length) = l.length := qC (by omega);obtain ⟨m, hm⟩ : ∃ m, N - (ij LL i).length = m := ⟨_, rfl⟩;have b1 : (ij LL i).length ≤ N := by omega
   have b2 : l.length ≤ m := by omega
   have s1 : eO (b8 (ij LL i) ++ fg.drop ((ij LL i).length * 2)) ((ij LL i).length * 2) ((b8 l).take (l.length * 2)) = b8 (ij LL (i + 1)) ++ fg.drop ((ij LL (i + 1)).length * 2) := by
    rw [OU rfl, Kp (ot _), ← sZ, ← h1, List.drop_drop, ot];congr 2;omega
   have fk := hu.sl hm b2 b1;rw [← ao] at fk;(repeat first | (with_reducible first | apply bb | apply aV | apply a8 | apply aX | apply dc | apply fu | apply kg) | (with_reducible apply eo); exact rfl; (exact bF (by omega)) | (with_reducible apply aO); exact rfl; (repeat first | (with_reducible apply az); exact rfl | (with_reducible apply mh); (iterate 5 exact rfl) | (with_reducible apply fi); (iterate 3 exact rfl); (omega); (omega); (assumption); exact rfl | (with_reducible apply fh); (iterate 3 exact rfl); (exact cZ (by omega)); exact rfl | (with_reducible apply GC); (iterate 3 exact rfl); assumption; (assumption); (assumption); exact rfl); (with_reducible apply aA) | (with_reducible apply Oh 0); (iterate 3 exact rfl); assumption; exact rfl; exact rfl; exact rfl; (assumption); (exact eb _); (assumption); exact rfl; assumption; assumption; exact rfl);exact ⟨LL.length - (i + 1), _, _, [], by omega, ⟨i + 1, ii + 1, _, by omega, rfl, by omega, fk, rfl, rfl, rfl⟩, ni _ _ _, rfl, ⟨rfl, rfl, rfl, rfl, rfl, trivial⟩, trivial, rfl⟩
  ·have q2 : ¬ ii < (LL.length : Int) := by omega
   have dl : b8 (ij LL i) ++ fg.drop ((ij LL i).length * 2) = b8 LL.flatten := by
    rw [Ri (by omega), u4 (by omega), qz]
   rw [dl];refine Bu 0 6 ⟨59, 2, v, N, b8 LL.flatten⟩ rfl rfl ?_;rw [← zR];(repeat first | (with_reducible first | apply bb | apply aV | apply a8 | apply aX | apply dM | apply jN | apply jS | apply jR) | (with_reducible apply c4); exact rfl; (exact b5 (by omega)) | (with_reducible apply aO); exact rfl; (repeat first | (with_reducible apply az); exact rfl); (with_reducible apply aA))
   ((refine bY rfl (bD rfl bf) ?_))
   exact ai.bo.refl _
abbrev Fy (LL : List (List Int)) : List AC := LL.map fun l => AC.p (cx 1 l.length (cy l))
abbrev FV (LL : List (List Int)) : ai := cT 1 LL.length (Fy LL)
theorem RS {LL : List (List Int)} {j : Int} {i : Nat} {l : List Int} (af : j = i) (h : LL[i]? = some l) : ((Fy LL).drop (j.toNat * 1)).take 1 = [.p (cx 1 l.length (cy l))] := by
 subst af;have hi := (bP.1 h).1;rw [k6, Nat.mul_one, nL (by simpa [Fy] using hi)];have : LL[i] = l := (bP.1 h).2;simp [Fy, this]
def ih (LL : List (List Int)) (i : Nat) : List Int := (LL.take i).flatten
theorem Rh {LL : List (List Int)} {i : Nat} {l : List Int} (h : LL[i]? = some l) : ih LL (i + 1) = ih LL i ++ l := by
 unfold ih;rw [nO (bP.1 h).1, (bP.1 h).2]; simp
theorem Rf {LL : List (List Int)} {i : Nat} (h : LL.length ≤ i) : ih LL i = LL.flatten := by unfold ih; rw [hQ h]
theorem Rg (LL : List (List Int)) (i : Nat) : (ih LL i).length ≤ LL.flatten.length := by
 have : LL.flatten = ih LL i ++ (LL.drop i).flatten := by unfold ih; rw [← List.flatten_append, k3]
 rw [this, cX]; omega
def TA (LL : List (List Int)) (n : Nat) (R : aL) (aS : List (Nat × ai)) (bw : List (Nat × List AC)) : Prop :=
 ∃ (i : Nat) (ii pn : Int), i ≤ LL.length ∧ n = LL.length - i ∧ ii = i ∧ pn = ((ih LL i).length : Nat) ∧ R = gw ∧ bw = [] ∧ aS = [(0, FV LL), (3, aR pn), (10, FV LL), (11, aR LL.length), (12, aR ii)]
def TB (LL : List (List Int)) (N : Nat) (v : Value) (fg : List AC) (n : Nat) (R : aL) (aS : List (Nat × ai)) (bw : List (Nat × List AC)) : Prop :=
 ∃ (i : Nat) (ii : Int) (u : Value), i ≤ LL.length ∧ n = LL.length - i ∧ ii = i ∧ jf v 1 (ih LL i).length N u ∧ R = bH 0 ⟨3, 1, v, N, cy (ih LL i) ++ fg.drop ((ih LL i).length * 1)⟩ ∧ bw = [] ∧ aS = [(6, aU v), (7, aU u), (24, FV LL), (25, aR LL.length), (26, aR ii)]
theorem QY {LL : List (List Int)} (gY : LL.length ≤ 1100) (kS : LL.flatten.length ≤ 100000) : aY aj 187 [FV LL] (nP LL.flatten) := by
 refine cq (f := 187) Tryz.func187 rfl rfl rfl rfl ?_;refine vD ?_;(repeat first | (with_reducible first | apply bb | apply aV | apply a8 | apply aX | apply fu) | (with_reducible apply aO); exact rfl; (repeat first | (with_reducible apply az); exact rfl | (with_reducible apply c6); (iterate 3 exact rfl)); (with_reducible apply aA));refine k7 37 (TA LL) LL.length gw _ [] ⟨0, 0, 0, eF _, rfl, rfl, rfl, rfl, rfl, rfl⟩ (bL.refl _) rfl ⟨rfl, rfl, rfl, rfl, rfl, trivial⟩ trivial rfl ?_;rintro n R aS bw ⟨i, ii, pn, hi, rfl, gi, Ai, rfl, rfl, rfl⟩ dK;clear dK
 by_cases an : i < LL.length
 ·have q2 : ii < (LL.length : Int) := by omega
  have cr : 0 ≤ ii := by omega
  obtain ⟨l, g1⟩ : ∃ l, LL[i]? = some l := ⟨_, cj an⟩;have jz := RS gi g1;have h1 := Rh g1;have h2 := Rg LL (i + 1);have ao : (ih LL (i + 1)).length = (ih LL i).length + l.length := by rw [h1, cX]
  (repeat first | (with_reducible first | apply bb | apply aV | apply a8 | apply aX | apply dc | apply fu | apply kg) | (with_reducible apply eo); exact rfl; (exact bF (by omega)) | (with_reducible apply aO); exact rfl; (repeat first | (with_reducible apply az); exact rfl | (with_reducible apply mh); (iterate 5 exact rfl) | (with_reducible apply fi); (iterate 3 exact rfl); (omega); (omega); (assumption); exact rfl | (with_reducible apply fh); (iterate 3 exact rfl); (exact cZ (by omega)); exact rfl | (with_reducible apply c6); (iterate 3 exact rfl)); (with_reducible apply aA));exact ⟨LL.length - (i + 1), gw, _, [], by omega, ⟨i + 1, ii + 1, _, by omega, rfl, by omega, by omega, rfl, rfl, rfl⟩, bL.refl _, rfl, ⟨rfl, rfl, rfl, rfl, rfl, trivial⟩, trivial, rfl⟩
 ·have q2 : ¬ ii < (LL.length : Int) := by omega
  rw [Rf (by omega)] at Ai;subst Ai;generalize zR : LL.flatten.length = N at *;(repeat first | (with_reducible first | apply bb | apply aV | apply a8 | apply aX | apply jN | apply jS | apply jR) | (with_reducible apply c4); exact rfl; (exact b5 (by omega)) | (with_reducible apply aO); exact rfl; (repeat first | (with_reducible apply az); exact rfl); (with_reducible apply aA));refine As (l := N) (c' := N) 0 rfl rfl rfl rfl (eb _) rfl rfl ?h2 (ka (by omega)) rfl (fun v hv => ?_)
  case h2 => show 8 * N ≤ 281474976710656; omega
  generalize dR : ir N 1 _ = fg;have DG : fg.length = N * 1 := by rw [← dR]; simp [ir]
  clear dR;(repeat first | (with_reducible first | apply bb | apply aV | apply a8 | apply aX | apply fu) | (with_reducible apply aO); exact rfl; (repeat first | (with_reducible apply az); exact rfl | (with_reducible apply c6); (iterate 3 exact rfl)); (with_reducible apply aA));refine Kd 0 (r := ⟨3, 1, v, N, fg⟩) rfl (fun e7 c ic eX j3 ej hlen => ?_);have nC : v = .slice e7 N c := ic;have sP : jf v 1 0 N v := by rw [nC]; exact jf.all 1 eX ej
  clear ic eX j3 ej hlen;refine k7 37 (TB LL N v fg) LL.length (bH 0 ⟨3, 1, v, N, fg⟩) _ [] ⟨0, 0, v, eF _, rfl, rfl, sP, rfl, rfl, rfl⟩ (ni _ _ _) rfl ⟨rfl, rfl, rfl, rfl, rfl, trivial⟩ trivial rfl ?_;clear an q2 sP gi nC;rintro n R aS bw ⟨i, ii, u, hi, rfl, gi, hu, rfl, rfl, rfl⟩ dK;clear dK
  by_cases an : i < LL.length
  ·have q2 : ii < (LL.length : Int) := by omega
   have cr : 0 ≤ ii := by omega
   obtain ⟨l, g1⟩ : ∃ l, LL[i]? = some l := ⟨_, cj an⟩;have jz := RS gi g1;have h1 := Rh g1;have h2 := Rg LL (i + 1);have ao : (ih LL (i + 1)).length = (ih LL i).length + l.length := by rw [h1, cX]
   rw [zR] at h2;have c1 := OG l;have bC : Nat.min l.length (N - (ih LL i).length) = l.length := qC (by omega);obtain ⟨m, hm⟩ : ∃ m, N - (ih LL i).length = m := ⟨_, rfl⟩;have b1 : (ih LL i).length ≤ N := by omega
   have b2 : l.length ≤ m := by omega
   have s1 : eO (cy (ih LL i) ++ fg.drop ((ih LL i).length * 1)) ((ih LL i).length * 1) ((cy l).take (l.length * 1)) = cy (ih LL (i + 1)) ++ fg.drop ((ih LL (i + 1)).length * 1) := by
    rw [OH rfl, Kp (Ek _), ← Ej, ← h1, List.drop_drop, Ek];congr 2;omega
   have fk := hu.sl hm b2 b1;rw [← ao] at fk;(repeat first | (with_reducible first | apply bb | apply aV | apply a8 | apply aX | apply dc | apply fu | apply kg) | (with_reducible apply eo); exact rfl; (exact bF (by omega)) | (with_reducible apply aO); exact rfl; (repeat first | (with_reducible apply az); exact rfl | (with_reducible apply mh); (iterate 5 exact rfl) | (with_reducible apply fi); (iterate 3 exact rfl); (omega); (omega); (assumption); exact rfl | (with_reducible apply fh); (iterate 3 exact rfl); (exact cZ (by omega)); exact rfl | (with_reducible apply GC); (iterate 3 exact rfl); assumption; (assumption); (assumption); exact rfl); (with_reducible apply aA) | (with_reducible apply Oh 0); (iterate 3 exact rfl); assumption; exact rfl; exact rfl; exact rfl; (assumption); (exact eb _); (assumption); exact rfl; assumption; assumption; exact rfl);exact ⟨LL.length - (i + 1), _, _, [], by omega, ⟨i + 1, ii + 1, _, by omega, rfl, by omega, fk, rfl, rfl, rfl⟩, ni _ _ _, rfl, ⟨rfl, rfl, rfl, rfl, rfl, trivial⟩, trivial, rfl⟩
  ·have q2 : ¬ ii < (LL.length : Int) := by omega
   have dl : cy (ih LL i) ++ fg.drop ((ih LL i).length * 1) = cy LL.flatten := by
    rw [Rf (by omega), u4 (by omega), qz]
   rw [dl];refine Bu 0 6 ⟨3, 1, v, N, cy LL.flatten⟩ rfl rfl ?_;rw [← zR];(repeat first | (with_reducible first | apply bb | apply aV | apply a8 | apply aX | apply dM | apply jN | apply jS | apply jR) | (with_reducible apply c4); exact rfl; (exact b5 (by omega)) | (with_reducible apply aO); exact rfl; (repeat first | (with_reducible apply az); exact rfl); (with_reducible apply aA))
   ((refine bY rfl (bD rfl bf) ?_))
   exact ai.bo.refl _
theorem adU {x y : Nat} (aa : x < 9223372036854775808) (ag : y < 9223372036854775808) (h : x * y < 9223372036854775808) : aY aj 258 [aU (.int .u64 (x : Nat)), aU (.int .u64 (y : Nat))] (.dd [.one (.c (.int .u64 0)), .one (.c (.int .u64 ((x * y : Nat) : Int)))]) := by
 refine nI [.int .u64 (x : Nat), .int .u64 (y : Nat)] (.tuple #[.int .u64 0, .int .u64 ((x * y : Nat) : Int)]) rfl rfl rfl rfl rfl fun W => ?_;refine (Tryz.bits_Mul64 x y (by omega) (by omega) W).mono ?_;rintro e w' ⟨rfl, rfl⟩;have aG : x * y / 18446744073709551616 = 0 := Nat.div_eq_of_lt (by omega);have aM : x * y % 18446744073709551616 = x * y := Nat.mod_eq_of_lt (by omega);rw [aG, aM];exact ⟨rfl, Below.refl _ _⟩
theorem adT {y : Nat} (ag : y < 9223372036854775808) : aY aj 227 [aU (.int .u64 1), aU (.int .u64 (y : Nat))] (.dd [.one (.c (.int .u64 0)), .one (.c (.int .u64 (y : Nat)))]) := by
 have aP := adU (x := 1) (y := y) (by decide) ag (by omega);rw [Nat.one_mul] at aP
 replace aP : aY aj 258 [aU (.int .u64 1), aU (.int .u64 (y : Nat))] (.dd [.one (.c (.int .u64 0)), .one (.c (.int .u64 (y : Nat)))]) := aP
 refine cq (f := 227) Tryz.func227 rfl rfl rfl rfl ?_;(repeat first | (with_reducible apply az); exact rfl | refine dP rfl rfl rfl rfl (by (exact aP)) rfl ?_ | (with_reducible first | apply bQ | apply bI | apply bO | apply aA | apply cf | apply e3) | (with_reducible apply ib); exact rfl)
 ((refine bY rfl (bD rfl (bD rfl bf)) ?_))
 exact ai.bo.refl _
def TZ (d : Int) (m : Nat) (v : Value) (fg : List AC) (n : Nat) (R : aL) (aS : List (Nat × ai)) (bw : List (Nat × List AC)) : Prop :=
 ∃ (k : Nat) (fB : Int), 1 ≤ k ∧ k ≤ m ∧ n = m - k ∧ fB = k ∧ R = bH 0 ⟨3, 1, v, m, cy (List.replicate k d) ++ fg.drop k⟩ ∧ bw = [] ∧ aS = [(7, aU v), (8, aR fB)]
theorem adX {d : Int} {m : Nat} (x2 : 1 ≤ m) (hm : m ≤ 100000) : aY aj 180 [nP [d], aR m] (nP (List.replicate m d)) := by
 have Co := adT (y := m) (by omega);have aT : IntKind.u64.wrap (m : Int) = m := by rw [IntKind.wrap_u64]; omega
 have w2 : IntKind.i64.wrap (m : Int) = m := cZ (by omega);have db : ¬ (m : Int) < 0 := by omega
 have q1 : ¬ (m : Int) > 9223372036854775807 := by omega
 have bC : Nat.min 1 m = 1 := qC x2;refine cq (f := 180) Tryz.func180 rfl rfl rfl rfl ?_;refine vD ?_;(repeat first | (with_reducible first | apply bb | apply aV | apply a8 | apply aX | apply dc) | (with_reducible apply c4); exact rfl; (exact b5 (by omega)) | (with_reducible apply aO); exact rfl; (repeat first | (with_reducible apply az); exact rfl | (with_reducible apply Gz); exact rfl; exact rfl; (first | exact cZ (by omega) | assumption | rfl); exact rfl | (with_reducible apply c6); (iterate 3 exact rfl) | refine dP rfl rfl rfl rfl (by (exact Co)) rfl ?_); (with_reducible apply aA));refine As (l := m) (c' := m) 0 rfl rfl rfl rfl (eb _) rfl rfl ?h2 (ka (by omega)) rfl (fun v hv => ?_)
 case h2 => show 8 * m ≤ 281474976710656; omega
 generalize dR : ir m 1 _ = fg;have DG : fg.length = m := by rw [← dR]; simp [ir]
 have YJ : fg.all AC.bd = true := by
  rw [← dR];refine cB.2 fun y ag => ?_;simp only [ir, iW] at ag;obtain ⟨j, _, rfl⟩ := ag;rfl
 clear dR
 have s1 : eO fg (0 * 1) ((cy [d]).take (1 * 1)) = cy (List.replicate 1 d) ++ fg.drop 1 := by
  unfold eO; simp [cy]
 (repeat first | (with_reducible first | apply bb | apply aV | apply a8 | apply aX | apply fu) | (with_reducible apply aO); exact rfl; (repeat first | (with_reducible apply az); exact rfl); (with_reducible apply aA) | (with_reducible apply Z2 0); (iterate 6 exact rfl); (exact rfl); exact rfl; (assumption); (assumption); exact rfl);refine Kd 0 (r := ⟨3, 1, v, m, cy (List.replicate 1 d) ++ fg.drop 1⟩) rfl (fun e7 c ic eX j3 ej hlen => ?_);have nC : v = .slice e7 m c := ic;have hu : jf v 1 0 m v := by rw [nC]; exact jf.all 1 eX ej
 clear ic eX j3 ej hlen nC;refine k7 48 (TZ d m v fg) (m - 1) (bH 0 ⟨3, 1, v, m, cy (List.replicate 1 d) ++ fg.drop 1⟩) _ [] ⟨1, 1, eb _, x2, rfl, rfl, rfl, rfl, rfl⟩ (ni _ _ _) rfl ⟨rfl, rfl, trivial⟩ trivial rfl ?_;clear Co aT w2 db q1 bC s1;rintro n R aS bw ⟨k, fB, rp, ae, rfl, rfl, rfl, rfl, rfl⟩ dK;clear dK
 by_cases an : k < m
 ·have q2 : (k : Int) < (m : Int) := by omega
  obtain ⟨x, aa⟩ : ∃ x, Nat.min k (m - k) = x := ⟨_, rfl⟩;have ajg : 1 ≤ x := by rw [← aa]; exact Nat.le_min.2 ⟨rp, by omega⟩
  have aam : x ≤ k := by rw [← aa]; exact Nat.min_le_left _ _
  have ajh : x ≤ m - k := by rw [← aa]; exact Nat.min_le_right _ _
  have m0 : m - 0 = m := Nat.sub_zero m;have cH := hu.sl m0 ae (eF _);have cC := hu.agu (k := k) (by omega);rw [ju] at cH cC;have dl : 0 + k = k := ju k
  have p5 : (cy (List.replicate k d) ++ fg.drop k).all AC.bd = true := by
   rw [List.all_append, OG, qH];exact cB.2 fun y ag => cB.1 YJ y (nN ag)
  have s1 : eO (cy (List.replicate k d) ++ fg.drop k) (k * 1) ((((cy (List.replicate k d) ++ fg.drop k).drop (0 * 1)).take (k * 1)).take (x * 1)) = cy (List.replicate (k + x) d) ++ fg.drop (k + x) := by
   have lk : (cy (List.replicate k d)).length = k * 1 := by simp [cy]
   rw [Nat.zero_mul, List.drop_zero, ← lk, List.take_left, Kp rfl]
   have cD : (cy (List.replicate k d)).take (x * 1) = cy (List.replicate x d) := by
    simp only [cy, List.map_replicate, Nat.mul_one, List.take_replicate];rw [qC aam]
   rw [cD, List.drop_drop, ← Ej, List.replicate_append_replicate, show (cy (List.replicate x d)).length = x by simp [cy]]
  have aT : IntKind.i64.wrap ((k : Int) + (x : Int)) = (k : Int) + (x : Int) := cZ (by omega);(repeat first | (with_reducible apply eD); kernel_rfl | (with_reducible apply dU (id := 9) [0,1,2,3,4,5,6,7,8,9]); kernel_rfl; kernel_rfl; exact rfl | (with_reducible first | apply bb | apply aV | apply a8 | apply aX | apply dc | apply fu | apply kg) | (with_reducible apply eo); exact rfl; (exact bF (by omega)) | (with_reducible apply aO); exact rfl; (repeat first | (with_reducible apply az); exact rfl | (with_reducible apply fh); (iterate 3 exact rfl); (exact cZ (by omega)); exact rfl | (with_reducible apply GC); (iterate 3 exact rfl); assumption; (assumption); (assumption); exact rfl | (with_reducible apply Vb); (iterate 3 exact rfl); assumption; (assumption); (assumption); exact rfl); (with_reducible apply aA) | (with_reducible apply oj 0); (iterate 4 exact rfl); kernel_rfl; exact rfl | (with_reducible apply Z3 0); (iterate 3 exact rfl); assumption; exact rfl; assumption; assumption; assumption; exact rfl; exact rfl; (assumption); (exact eb _); (assumption); exact rfl; assumption; assumption; exact rfl);exact ⟨m - (k + x), _, _, [], by omega, ⟨k + x, (k : Int) + (x : Int), by omega, by omega, rfl, by omega, rfl, rfl, rfl⟩, ni _ _ _, rfl, ⟨rfl, rfl, trivial⟩, trivial, rfl⟩
 ·have q2 : ¬ (k : Int) < (m : Int) := by omega
  have dl : cy (List.replicate k d) ++ fg.drop k = cy (List.replicate m d) := by
   rw [show k = m by omega, u4 (by omega), qz]
  rw [dl];refine Bu 0 7 ⟨3, 1, v, m, cy (List.replicate m d)⟩ rfl rfl ?_
  have el : cT 1 m (cy (List.replicate m d)) = nP (List.replicate m d) := by
   show cT 1 m _ = cT 1 (List.replicate m d).length _;rw [List.length_replicate]
  rw [← el];(repeat first | (with_reducible first | apply bb | apply aV | apply a8 | apply aX | apply dM | apply jN | apply jS | apply jR) | (with_reducible apply c4); exact rfl; (exact b5 (by omega)) | (with_reducible apply aO); exact rfl; (repeat first | (with_reducible apply az); exact rfl | (with_reducible apply c6); (iterate 3 exact rfl)); (with_reducible apply aA))
  ((refine bY rfl (bD rfl bf) ?_))
  exact ai.bo.refl _
end Go.Proofs.YtpochbhajmbfdaaGreat
namespace Go.Proofs.YtpochbhajmbfdaaGreat
def wG (p q : aq) : List aq := if p = q then [p] else [p, q]
def wF (p q : aq) : List Int := if p = q then [] else [1]
end Go.Proofs.YtpochbhajmbfdaaGreat
namespace Go.Proofs.YtpochbhajmbfdaaGreat
open Go.RowKit
def p9 (D : List Int) : Int := D.foldl max 0
def S8 : Prop := ∀ x y z w : Int, aY aj 42 [bi x y, bi z w] (oH (wG (x, y) (z, w)) (wF (x, y) (z, w)))
def Td : Prop := ∀ (V : List aq) (D : List Int) (j : Nat) (l : List aq), V.length = D.length + 1 → V.length ≤ 1100 → l.length ≤ 1100 → j < D.length → (∀ d ∈ D, 1 ≤ d ∧ d ≤ 1048576) →
 aY aj 125 [oH V D, aR j, hR l] (.dd [.agg (wA (if l.isEmpty then [] else FK V j l) (if l.isEmpty then [] else BE D j l.length)), .one (.c (.bool (!l.isEmpty)))])
def S5 : Prop := ∀ (V : List aq) (D : List Int), V.length ≤ 1100 → D.length ≤ 1100 → aY aj 69 [oH V D] (aR (p9 D))
def Tc : Prop := ∀ (V W : List aq) (D E : List Int), V.length ≤ 1100 → D.length ≤ 1100 → W.length ≤ 1100 → E.length ≤ 1100 → aY aj 50 [oH V D, oH W E] (bG (decide (V = W) && decide (D = E)))
def S4 : Prop := ∀ (V : List aq) (D : List Int), V.length ≤ 1100 → D.length ≤ 1100 → aY aj 133 [oH V D] (oH V D)
theorem VY : ai.bo (.w (.agg [.c (.slice none 0 0), .c (.slice none 0 0)])) (oH [] []) := Lu rfl fun j x y aa ag => by
 match j with
 | 0 => cases aa; cases ag; exact .inr ⟨rfl, 2, rfl⟩
 | 1 => cases aa; cases ag; exact .inr ⟨rfl, 1, rfl⟩
 | j + 2 => simp at aa
theorem aeu {V l : List aq} {f t : Int} (aw : 0 ≤ f ∧ f ≤ V.length) (aF : 0 ≤ t ∧ t ≤ V.length) (qh : V.length ≤ 10000) (ap : l.length ≤ 10000) : aY aj 181 [hR V, aR f, aR t, hR l] (hR (V.take f.toNat ++ l ++ V.drop t.toNat)) := by
 have J := QZ (LL := [V.take f.toNat, l, V.drop t.toNat]) (by show 3 ≤ 1100; decide) (by simp [cX]; omega);have dl : [V.take f.toNat, l, V.drop t.toNat].flatten = V.take f.toNat ++ l ++ V.drop t.toNat := by simp
 rw [dl] at J
 replace J : aY aj 186 [cT 1 3 [.p (cx 2 (V.take f.toNat).length (b8 (V.take f.toNat))), .p (cx 2 l.length (b8 l)), .p (cx 2 (V.drop t.toNat).length (b8 (V.drop t.toNat)))]] (hR (V.take f.toNat ++ l ++ V.drop t.toNat)) := J
 have a1 : 0 ≤ f := aw.1;have a2 : f ≤ f := nM f;have a3 : f ≤ V.length := aw.2;have a4 : 0 ≤ t := aF.1;have a5 : t ≤ V.length := aF.2;have Uj : (V.length : Int) ≤ V.length := nM _;have m1 : f.toNat - 0 = (V.take f.toNat).length := by rw [eu]; omega
 have aG : ((b8 V).drop (0 * 2)).take ((V.take f.toNat).length * 2) = b8 (V.take f.toNat) := by
  have h : b8 V = b8 (V.take f.toNat) ++ b8 (V.drop f.toNat) := by rw [← sZ, k3]
  rw [h, Nat.zero_mul, List.drop_zero, ← ot, List.take_left]
 have m2 : (V.length : Int).toNat - t.toNat = (V.drop t.toNat).length := by rw [iC]; omega
 have aM : ((b8 V).drop (t.toNat * 2)).take ((V.drop t.toNat).length * 2) = b8 (V.drop t.toNat) := by
  have h : b8 V = b8 (V.take t.toNat) ++ b8 (V.drop t.toNat) := by rw [← sZ, k3]
  rw [h, show t.toNat * 2 = (b8 (V.take t.toNat)).length by rw [ot, eu]; omega, List.drop_left, OU rfl]
 refine cq (f := 181) Tryz.func181 rfl rfl rfl rfl ?_;(repeat first | (with_reducible apply az); exact rfl | (with_reducible apply c6); (iterate 3 exact rfl) | (with_reducible apply GD); (iterate 4 exact rfl); (assumption); (assumption); (assumption); (assumption); (assumption); exact rfl | (with_reducible apply GF); (iterate 5 exact rfl); (assumption); (assumption); (assumption); (assumption); (assumption); (assumption); exact rfl | (with_reducible apply lM); (iterate 10 exact rfl) | refine e2 rfl rfl rfl (by (exact J)) rfl ?_ | (with_reducible apply iJ); kernel_rfl | (with_reducible apply iL); kernel_rfl; kernel_rfl; exact rfl | (with_reducible first | apply bQ | apply bI | apply bO | apply aA | apply cf))
 ((refine bY rfl (bD rfl bf) ?_))
 exact ai.bo.refl _
theorem aet {V l : List Int} {f t : Int} (aw : 0 ≤ f ∧ f ≤ V.length) (aF : 0 ≤ t ∧ t ≤ V.length) (qh : V.length ≤ 10000) (ap : l.length ≤ 10000) : aY aj 182 [nP V, aR f, aR t, nP l] (nP (V.take f.toNat ++ l ++ V.drop t.toNat)) := by
 have J := QY (LL := [V.take f.toNat, l, V.drop t.toNat]) (by show 3 ≤ 1100; decide) (by simp [cX]; omega);have dl : [V.take f.toNat, l, V.drop t.toNat].flatten = V.take f.toNat ++ l ++ V.drop t.toNat := by simp
 rw [dl] at J
 replace J : aY aj 187 [cT 1 3 [.p (cx 1 (V.take f.toNat).length (cy (V.take f.toNat))), .p (cx 1 l.length (cy l)), .p (cx 1 (V.drop t.toNat).length (cy (V.drop t.toNat)))]] (nP (V.take f.toNat ++ l ++ V.drop t.toNat)) := J
 have a1 : 0 ≤ f := aw.1;have a2 : f ≤ f := nM f;have a3 : f ≤ V.length := aw.2;have a4 : 0 ≤ t := aF.1;have a5 : t ≤ V.length := aF.2;have Uj : (V.length : Int) ≤ V.length := nM _;have m1 : f.toNat - 0 = (V.take f.toNat).length := by rw [eu]; omega
 have aG : ((cy V).drop (0 * 1)).take ((V.take f.toNat).length * 1) = cy (V.take f.toNat) := by
  have h : cy V = cy (V.take f.toNat) ++ cy (V.drop f.toNat) := by rw [← Ej, k3]
  rw [h, Nat.zero_mul, List.drop_zero, ← Ek, List.take_left]
 have m2 : (V.length : Int).toNat - t.toNat = (V.drop t.toNat).length := by rw [iC]; omega
 have aM : ((cy V).drop (t.toNat * 1)).take ((V.drop t.toNat).length * 1) = cy (V.drop t.toNat) := by
  have h : cy V = cy (V.take t.toNat) ++ cy (V.drop t.toNat) := by rw [← Ej, k3]
  rw [h, show t.toNat * 1 = (cy (V.take t.toNat)).length by rw [Ek, eu]; omega, List.drop_left, OH rfl]
 refine cq (f := 182) Tryz.func182 rfl rfl rfl rfl ?_;(repeat first | (with_reducible apply az); exact rfl | (with_reducible apply c6); (iterate 3 exact rfl) | (with_reducible apply GD); (iterate 4 exact rfl); (assumption); (assumption); (assumption); (assumption); (assumption); exact rfl | (with_reducible apply GF); (iterate 5 exact rfl); (assumption); (assumption); (assumption); (assumption); (assumption); (assumption); exact rfl | (with_reducible apply lM); (iterate 10 exact rfl) | refine e2 rfl rfl rfl (by (exact J)) rfl ?_ | (with_reducible apply iJ); kernel_rfl | (with_reducible apply iL); kernel_rfl; kernel_rfl; exact rfl | (with_reducible first | apply bQ | apply bI | apply bO | apply aA | apply cf))
 ((refine bY rfl (bD rfl bf) ?_))
 exact ai.bo.refl _
theorem aa0 : S4 := by
 intro V D ab hd;have Cm := QZ (LL := [V]) (by show 1 ≤ 1100; decide) (by simp; omega);have Cn := QY (LL := [D]) (by show 1 ≤ 1100; decide) (by simp; omega);rw [show [V].flatten = V by simp] at Cm;rw [show [D].flatten = D by simp] at Cn
 replace Cm : aY aj 186 [cT 1 1 [.p (cx 2 V.length (b8 V))]] (hR V) := Cm
 replace Cn : aY aj 187 [cT 1 1 [.p (cx 1 D.length (cy D))]] (nP D) := Cn
 refine cq (f := 133) Tryz.func133 rfl rfl rfl rfl ?_;(repeat first | (with_reducible apply az); exact rfl | (with_reducible apply lM); (iterate 10 exact rfl) | refine e2 rfl rfl rfl (by (first | exact Cm | exact Cn)) rfl ?_ | (with_reducible apply iJ); kernel_rfl | (with_reducible apply iL); kernel_rfl; kernel_rfl; exact rfl | (with_reducible first | apply bQ | apply bI | apply bO | apply aA | apply cf))
 ((refine bY rfl (fc rfl rfl rfl bf) ?_))
 exact ai.bo.refl _
theorem ag2 {xs aZ : List bK} (ap : xs.length = aZ.length) (h : ∀ (i : Nat) x y, xs[i]? = some x → aZ[i]? = some y → ai.bo (.w x) (.w y)) : ai.bo (.dd xs) (.dd aZ) := fun U ad W v hv => by
 obtain ⟨vs, e, aD, aW⟩ := hv
 exact ⟨vs, e, by rw [← ap]; exact aD, fun i y u ag hu => by
  have hi : i < xs.length := by rw [ap]; exact (bP.1 ag).1
  exact h i _ y (cj hi) ag U ad W u (aW i _ u (cj hi) hu)⟩
theorem XH : ai.bo (.dd [.agg [.c (.slice none 0 0), .c (.slice none 0 0)], .one (.c (.bool false))]) (.dd [.agg (wA [] []), .one (.c (.bool false))]) := ag2 rfl fun i x y aa ag => by
 match i with
 | 0 => cases aa; cases ag; exact VY
 | 1 => cases aa; cases ag; exact ai.bo.refl _
 | i + 2 => simp at aa
theorem agH {V l : List aq} {D : List Int} {j : Nat} (ab : V.length ≤ 1100) (hd : D.length ≤ 1100) (af : j ≤ 1100)
  (cs : (j : Int) ≥ D.length ∨ (¬ (j : Int) ≥ D.length ∧ (j : Int) ≥ (V.length : Int) - 1) ∨ (¬ (j : Int) ≥ D.length ∧ ¬ (j : Int) ≥ (V.length : Int) - 1 ∧ (l.length : Int) = 0)) : aY aj 125 [oH V D, aR j, hR l] (.dd [.agg (wA [] []), .one (.c (.bool false))]) := by
 have db : ¬ (j : Int) < 0 := by omega
 generalize (j : Int) = dS at *;rcases cs with q1 | ⟨q1, q2⟩ | ⟨q1, q2, cr⟩
 all_goals
  refine cq (f := 125) Tryz.func125 rfl rfl rfl rfl ?_;(repeat first | (with_reducible apply az); exact rfl | (with_reducible apply nx); (iterate 3 exact rfl); (exact cZ (by omega)); exact rfl | (with_reducible apply c6); (iterate 3 exact rfl) | (with_reducible apply dO (c := true)); exact rfl; exact rfl; (exact bF (by omega)) | (with_reducible apply dO (c := false)); exact rfl; exact rfl; (exact b5 (by omega)) | (with_reducible first | apply bQ | apply bI | apply bO | apply aA | apply cf | apply fV) | (with_reducible apply iK); exact rfl | (with_reducible apply gO); exact rfl; (exact bF (by omega)))
  ((refine bY rfl (fc rfl rfl rfl (bD rfl bf)) ?_))
  exact XH
theorem agI {V l : List aq} {D : List Int} {j : Nat} {dS oU : Int} (ob : dS = j) (rk : D[j]? = some oU) (NM : 1 ≤ oU ∧ oU ≤ 1048576) (ap : 0 < l.length) (kR : V.length = D.length + 1) (ab : V.length ≤ 1100) (oZ : l.length ≤ 1100) : aY aj 125 [oH V D, aR dS, hR l] (.dd [.agg (wA (FK V j l) (BE D j l.length)), .one (.c (.bool true))]) := by
 have DU : j < D.length := (bP.1 rk).1;have db : ¬ dS < 0 := by omega
 have q1 : ¬ dS ≥ D.length := by omega
 have q2 : ¬ dS ≥ (V.length : Int) - 1 := by omega
 have cr : ¬ (l.length : Int) = 0 := by omega
 have eE : dS < (D.length : Int) := by omega
 have jz := AG ob rk;have jA := adX (d := oU + 1) (m := l.length + 1) (by omega) (by omega);have h9 := aeu (V := V) (l := l) (f := dS + 1) (t := dS + 1) (by omega) (by omega) (by omega) (by omega);have Ct := aet (V := D) (l := List.replicate (l.length + 1) (oU + 1)) (f := dS) (t := dS + 1) (by omega) (by omega) (by omega) (by rw [List.length_replicate]; omega);have aG : (dS + 1).toNat = j + 1 := by omega
 have aM : dS.toNat = j := by omega
 have cD : D.getD j 0 = oU := by simp [List.getD, rk]
 have eR : D.take j ++ List.replicate (l.length + 1) (oU + 1) ++ D.drop (j + 1) = BE D j l.length := by unfold BE; rw [cD]
 have jC : V.take (j + 1) ++ l ++ V.drop (j + 1) = FK V j l := rfl;rw [aG, jC] at h9;rw [aG, aM, eR] at Ct;have qa : (((l.length + 1 : Nat) : Int)) = (l.length : Int) + 1 := by omega
 rw [qa] at jA;clear aG aM cD eR jC qa;generalize FK V j l = nY at *;generalize BE D j l.length = lK at *;generalize List.replicate (l.length + 1) (oU + 1) = T at *;refine cq (f := 125) Tryz.func125 rfl rfl rfl rfl ?_;(repeat first | (with_reducible apply az); exact rfl | (with_reducible apply mh); (iterate 5 exact rfl) | (with_reducible apply fi); (iterate 3 exact rfl); (omega); (omega); (assumption); exact rfl | (with_reducible apply fh); (iterate 3 exact rfl); (exact cZ (by omega)); exact rfl | (with_reducible apply nx); (iterate 3 exact rfl); (exact cZ (by omega)); exact rfl | (with_reducible apply c6); (iterate 3 exact rfl) | (with_reducible apply lM); (iterate 10 exact rfl) | refine dP rfl rfl rfl rfl (by (exact jA)) rfl ?_ | refine n2 rfl rfl rfl rfl rfl rfl (by (first | exact h9 | exact Ct)) rfl ?_ | (with_reducible apply dO (c := false)); exact rfl; exact rfl; (exact b5 (by omega)) | (with_reducible apply iJ); kernel_rfl | (with_reducible apply iL); kernel_rfl; kernel_rfl; exact rfl | (with_reducible first | apply bQ | apply bI | apply bO | apply aA | apply cf | apply e3) | (with_reducible apply ia); exact rfl; (exact b5 (by omega)))
 ((refine bY rfl (fc rfl rfl rfl (bD rfl bf)) ?_))
 exact ai.bo.refl _
theorem aa9 : Td := by
 intro V D j l qh ab oZ af rj;cases ap : l with
 | nil => exact agH (V := V) (D := D) (l := []) (j := j) (by omega) (by omega) (by omega) (.inr (.inr ⟨by omega, by omega, rfl⟩))
 | cons p m =>
  rw [← ap];have e : l.isEmpty = false := by rw [ap]; rfl
  rw [e];have Ih : 0 < l.length := by rw [ap]; exact jL _
  obtain ⟨oU, rk⟩ : ∃ oU, D[j]? = some oU := ⟨_, cj af⟩;exact agI (V := V) (l := l) (D := D) (j := j) rfl rk (rj oU (dL rk)) Ih qh ab oZ
theorem VZ (V : List aq) : ai.bo (.w (.agg [.p (cx 2 V.length (b8 V)), .c (.slice none 0 0)])) (oH V []) := Lu rfl fun j x y aa ag => by
 match j with
 | 0 => cases aa; cases ag; exact .inl rfl
 | 1 => cases aa; cases ag; exact .inr ⟨rfl, 1, rfl⟩
 | j + 2 => simp at aa
theorem aa5 : S8 := by
 intro x y z w;cases an : ed x y z w with
 | true =>
  obtain ⟨rfl, rfl⟩ := sx.1 an;rw [show wG (x, y) (x, y) = [(x, y)] from if_pos rfl, show wF (x, y) (x, y) = [] from if_pos rfl];refine cq (f := 42) Tryz.func42 rfl rfl rfl rfl ?_;(repeat first | (with_reducible apply az); exact rfl | (with_reducible apply xm); (iterate 4 exact rfl) | (with_reducible apply lM); (iterate 10 exact rfl) | (with_reducible first | apply bQ | apply bI | apply bO | apply aA | apply cf | apply fV) | (with_reducible apply gO); exact rfl; (assumption))
  ((refine bY rfl (fc rfl rfl rfl bf) ?_))
  exact VZ [(x, y)]
 | false =>
  have aD : ¬ ((x, y) : aq) = (z, w) := fun e => by
   have := sx.2 (⟨congrArg Prod.fst e, congrArg Prod.snd e⟩ : x = z ∧ y = w);rw [an] at this; cases this
  rw [show wG (x, y) (z, w) = [(x, y), (z, w)] from if_neg aD, show wF (x, y) (z, w) = [1] from if_neg aD];refine cq (f := 42) Tryz.func42 rfl rfl rfl rfl ?_;(repeat first | (with_reducible apply az); exact rfl | (with_reducible apply xm); (iterate 4 exact rfl) | (with_reducible apply lM); (iterate 10 exact rfl) | (with_reducible first | apply bQ | apply bI | apply bO | apply aA | apply cf | apply e3) | (with_reducible apply ia); exact rfl; (assumption))
  ((refine bY rfl (fc rfl rfl rfl bf) ?_))
  exact ai.bo.refl _
def Tk (V : List aq) (D : List Int) (n : Nat) (aS : List (Nat × ai)) (bw : List (Nat × List AC)) : Prop :=
 ∃ (k : Nat) (fB d : Int), k ≤ D.length ∧ n = D.length - k ∧ fB = k ∧ d = p9 (D.take k) ∧ bw = [(1, wA V D)] ∧ aS = [(1, pG 1), (3, aR d), (7, cT 1 D.length (cy D)), (8, aR D.length), (9, aR fB)]
theorem WQ {D : List Int} {k : Nat} {d : Int} (h : D[k]? = some d) : p9 (D.take (k + 1)) = max (p9 (D.take k)) d := by
 have ae := (bP.1 h).1
 have e : D.take (k + 1) = D.take k ++ [d] := by
  rw [nO ae, (bP.1 h).2]
 unfold p9;rw [e, List.foldl_append]; rfl
theorem aa1 : S5 := by
 intro V D ab hd;refine cq (f := 69) Tryz.func69 rfl rfl rfl rfl ?_;(repeat first | (with_reducible apply az); exact rfl | (with_reducible apply c6); (iterate 3 exact rfl) | (with_reducible first | apply bQ | apply bI | apply bO | apply aA | apply gW));refine xr 18 (Tk V D) D.length _ [(1, wA V D)] ⟨0, 0, 0, eF _, rfl, rfl, rfl, rfl, rfl⟩ rfl ⟨rfl, rfl, rfl, rfl, rfl, trivial⟩ ⟨rfl, trivial⟩ rfl ?_;rintro n aS bw ⟨k, fB, d, ae, rfl, kW, mo, rfl, rfl⟩ dK;clear dK
 by_cases an : k < D.length
 ·have q2 : fB < (D.length : Int) := by omega
  have cr : 0 ≤ fB := by omega
  obtain ⟨e, g1⟩ : ∃ e, D[k]? = some e := ⟨_, cj an⟩;have jz := AG kW g1;have aF := WQ g1;rw [← mo, show max d e = if e > d then e else d by split <;> omega] at aF;(repeat first | (with_reducible apply az); exact rfl | (with_reducible apply mh); (iterate 5 exact rfl) | (with_reducible apply fi); (iterate 3 exact rfl); (omega); (omega); (assumption); exact rfl | (with_reducible apply fh); (iterate 3 exact rfl); (exact cZ (by omega)); exact rfl | (with_reducible apply tN); (iterate 4 exact rfl) | (with_reducible first | apply bQ | apply bI | apply bO | apply aA | apply e3 | apply gW | apply nw) | (with_reducible apply gO); exact rfl; (exact bF (by omega)));exact ⟨D.length - (k + 1), _, [(1, wA V D)], by omega, ⟨k + 1, fB + 1, _, by omega, rfl, by omega, aF.symm, rfl, rfl⟩, rfl, ⟨rfl, rfl, rfl, rfl, rfl, trivial⟩, ⟨rfl, trivial⟩, rfl⟩
 ·have q2 : ¬ fB < (D.length : Int) := by omega
  have dl : D.take k = D := hQ (by omega);rw [dl] at mo;rw [← mo];(repeat first | (with_reducible apply az); exact rfl | (with_reducible first | apply bQ | apply bI | apply bO | apply aA | apply cf | apply vy | apply vC | apply vB) | (with_reducible apply ia); exact rfl; (exact b5 (by omega)))
  ((refine bY rfl (bD rfl bf) ?_))
  exact ai.bo.refl _
theorem Sm {α : Type} {D E : List α} {k : Nat} {d e : α} (h : D.take k = E.take k) (g1 : D[k]? = some d) (g2 : E[k]? = some e) : (d = e → D.take (k + 1) = E.take (k + 1)) ∧ (d ≠ e → D ≠ E) := by
 refine ⟨fun hd => ?_, fun hd kR => hd ?_⟩
 ·rw [nO (bP.1 g1).1, nO (bP.1 g2).1, (bP.1 g1).2, (bP.1 g2).2, h, hd]
 ·rw [kR, g2] at g1; exact (mD g1).symm
def Tm (D E : List Int) (n : Nat) (aS : List (Nat × ai)) (bw : List (Nat × List AC)) : Prop :=
 ∃ (k : Nat) (fB : Int), k ≤ D.length ∧ n = D.length - k ∧ fB = k ∧ D.take k = E.take k ∧ bw = [] ∧ aS = [(0, nP D), (1, nP E), (12, aR D.length), (13, aR fB)]
theorem adK {D E : List Int} (hd : D.length ≤ 1000000) : aY aj 98 [nP D, nP E] (bG (decide (D = E))) := by
 by_cases ap : (D.length : Int) = E.length
 ·have ZD : D.length = E.length := by omega
  refine cq (f := 98) Tryz.func98 rfl rfl rfl rfl ?_;(repeat first | (with_reducible apply az); exact rfl | (with_reducible apply c6); (iterate 3 exact rfl) | (with_reducible first | apply bQ | apply bI | apply bO | apply aA | apply e3 | apply gW) | (with_reducible apply ia); exact rfl; ((simp only [hG]; (omega))));refine xr 26 (Tm D E) D.length _ [] ⟨0, 0, eF _, rfl, rfl, rfl, rfl, rfl⟩ rfl ⟨rfl, rfl, rfl, rfl, trivial⟩ trivial rfl ?_;rintro n aS bw ⟨k, fB, ae, rfl, kW, mo, rfl, rfl⟩ dK;clear dK
  by_cases an : k < D.length
  ·have q2 : fB < (D.length : Int) := by omega
   have cr : 0 ≤ fB := by omega
   have eE : fB < (E.length : Int) := by omega
   obtain ⟨d, g1⟩ : ∃ d, D[k]? = some d := ⟨_, cj an⟩;obtain ⟨e, g2⟩ : ∃ e, E[k]? = some e := ⟨_, cj (by omega)⟩;have jz := AG kW g1;have qU := AG kW g2;have st := Sm mo g1 g2
   by_cases he : d = e
   ·have aF := st.1 he;(repeat first | (with_reducible apply az); exact rfl | (with_reducible apply mh); (iterate 5 exact rfl) | (with_reducible apply fi); (iterate 3 exact rfl); (omega); (omega); (assumption); exact rfl | (with_reducible apply fh); (iterate 3 exact rfl); (exact cZ (by omega)); exact rfl | (with_reducible apply iJ); kernel_rfl | (with_reducible apply iL); kernel_rfl; kernel_rfl; exact rfl | (with_reducible first | apply bQ | apply bI | apply bO | apply aA | apply e3 | apply gW | apply nw) | (with_reducible apply gO); exact rfl; (exact bF (by omega)) | (with_reducible apply ia); exact rfl; ((simp only [hG]; (omega))));exact ⟨D.length - (k + 1), _, [], by omega, ⟨k + 1, fB + 1, by omega, rfl, by omega, aF, rfl, rfl⟩, rfl, ⟨rfl, rfl, rfl, rfl, trivial⟩, trivial, rfl⟩
   ·rw [b5 (st.2 he)];(repeat first | (with_reducible apply az); exact rfl | (with_reducible apply mh); (iterate 5 exact rfl) | (with_reducible apply fi); (iterate 3 exact rfl); (omega); (omega); (assumption); exact rfl | (with_reducible apply iJ); kernel_rfl | (with_reducible apply iL); kernel_rfl; kernel_rfl; exact rfl | (with_reducible first | apply bQ | apply bI | apply bO | apply aA | apply cf | apply e3 | apply fV | apply gW | apply mM) | (with_reducible apply gO); exact rfl; (first | exact bF (by omega) | (simp only [hG]; (omega))))
    ((refine bY rfl (bD rfl bf) ?_))
    exact ai.bo.refl _
  ·have q2 : ¬ fB < (D.length : Int) := by omega
   rw [hQ (by omega), hQ (by omega)] at mo;rw [bF mo];(repeat first | (with_reducible apply az); exact rfl | (with_reducible first | apply bQ | apply bI | apply bO | apply aA | apply cf | apply vy | apply vC | apply vB) | (with_reducible apply ia); exact rfl; (exact b5 (by omega)))
   ((refine bY rfl (bD rfl bf) ?_))
   exact ai.bo.refl _
 ·rw [b5 (show ¬ D = E from fun e => ap (by rw [e]))];refine cq (f := 98) Tryz.func98 rfl rfl rfl rfl ?_;(repeat first | (with_reducible apply az); exact rfl | (with_reducible apply c6); (iterate 3 exact rfl) | (with_reducible first | apply bQ | apply bI | apply bO | apply aA | apply cf | apply fV) | (with_reducible apply gO); exact rfl; ((simp only [hG]; (omega))))
  ((refine bY rfl (bD rfl bf) ?_))
  exact ai.bo.refl _
def Tn (D E : List aq) (n : Nat) (aS : List (Nat × ai)) (bw : List (Nat × List AC)) : Prop :=
 ∃ (k : Nat) (fB : Int), k ≤ D.length ∧ n = D.length - k ∧ fB = k ∧ D.take k = E.take k ∧ bw = [] ∧ aS = [(0, hR D), (1, hR E), (12, aR D.length), (13, aR fB)]
theorem JH {D E : List aq} (hd : D.length ≤ 1000000) : aY aj 84 [hR D, hR E] (bG (decide (D = E))) := by
 by_cases ap : (D.length : Int) = E.length
 ·have ZD : D.length = E.length := by omega
  refine cq (f := 84) Tryz.func84 rfl rfl rfl rfl ?_;(repeat first | (with_reducible apply az); exact rfl | (with_reducible apply c6); (iterate 3 exact rfl) | (with_reducible first | apply bQ | apply bI | apply bO | apply aA | apply e3 | apply gW) | (with_reducible apply ia); exact rfl; ((simp only [hG]; (omega))));refine xr 26 (Tn D E) D.length _ [] ⟨0, 0, eF _, rfl, rfl, rfl, rfl, rfl⟩ rfl ⟨rfl, rfl, rfl, rfl, trivial⟩ trivial rfl ?_;rintro n aS bw ⟨k, fB, ae, rfl, kW, mo, rfl, rfl⟩ dK;clear dK
  by_cases an : k < D.length
  ·have q2 : fB < (D.length : Int) := by omega
   have cr : 0 ≤ fB := by omega
   have eE : fB < (E.length : Int) := by omega
   obtain ⟨x, y, g1⟩ : ∃ x y, D[k]? = some (x, y) := ⟨_, _, cj an⟩;obtain ⟨z, w, g2⟩ : ∃ z w, E[k]? = some (z, w) := ⟨_, _, cj (by omega)⟩;have jz := uI kW g1;have qU := uI kW g2;have st := Sm mo g1 g2;cases he : ed x y z w with
   | true =>
    have aF := st.1 (by obtain ⟨rfl, rfl⟩ := sx.1 he; rfl);(repeat first | (with_reducible apply az); exact rfl | (with_reducible apply gN); (iterate 5 exact rfl) | (with_reducible apply fi); (iterate 3 exact rfl); (omega); (omega); (assumption); exact rfl | (with_reducible apply zg); (iterate 4 exact rfl) | (with_reducible apply fh); (iterate 3 exact rfl); (exact cZ (by omega)); exact rfl | (with_reducible apply iJ); kernel_rfl | (with_reducible apply iL); kernel_rfl; kernel_rfl; exact rfl | (with_reducible first | apply bQ | apply bI | apply bO | apply aA | apply e3 | apply gW | apply nw) | (with_reducible apply gO); exact rfl; (exact bF (by omega)) | (with_reducible apply ia); exact rfl; ((simp only [hG]; (omega))));exact ⟨D.length - (k + 1), _, [], by omega, ⟨k + 1, fB + 1, by omega, rfl, by omega, aF, rfl, rfl⟩, rfl, ⟨rfl, rfl, rfl, rfl, trivial⟩, trivial, rfl⟩
   | false =>
    rw [b5 (st.2 fun e => by
     have := sx.2 (⟨congrArg Prod.fst e, congrArg Prod.snd e⟩ : x = z ∧ y = w);rw [he] at this; cases this)]
    (repeat first | (with_reducible apply az); exact rfl | (with_reducible apply gN); (iterate 5 exact rfl) | (with_reducible apply fi); (iterate 3 exact rfl); (omega); (omega); (assumption); exact rfl | (with_reducible apply zg); (iterate 4 exact rfl) | (with_reducible apply iJ); kernel_rfl | (with_reducible apply iL); kernel_rfl; kernel_rfl; exact rfl | (with_reducible first | apply bQ | apply bI | apply bO | apply aA | apply cf | apply e3 | apply fV | apply gW | apply mM) | (with_reducible apply gO); exact rfl; (first | exact bF (by omega) | (simp only [hG]; (omega))))
    ((refine bY rfl (bD rfl bf) ?_))
    exact ai.bo.refl _
  ·have q2 : ¬ fB < (D.length : Int) := by omega
   rw [hQ (by omega), hQ (by omega)] at mo;rw [bF mo];(repeat first | (with_reducible apply az); exact rfl | (with_reducible first | apply bQ | apply bI | apply bO | apply aA | apply cf | apply vy | apply vC | apply vB) | (with_reducible apply ia); exact rfl; (exact b5 (by omega)))
   ((refine bY rfl (bD rfl bf) ?_))
   exact ai.bo.refl _
 ·rw [b5 (show ¬ D = E from fun e => ap (by rw [e]))];refine cq (f := 84) Tryz.func84 rfl rfl rfl rfl ?_;(repeat first | (with_reducible apply az); exact rfl | (with_reducible apply c6); (iterate 3 exact rfl) | (with_reducible first | apply bQ | apply bI | apply bO | apply aA | apply cf | apply fV) | (with_reducible apply gO); exact rfl; ((simp only [hG]; (omega))))
  ((refine bY rfl (bD rfl bf) ?_))
  exact ai.bo.refl _
theorem OZ : Tc := by
 intro V W D E h1 h2 ao aH;have aP := JH (D := V) (E := W) (by omega);have b6 := adK (D := D) (E := E) (by omega);generalize decide (V = W) = p1 at *;generalize decide (D = E) = p2 at *;cases p1 with
 | false =>
  refine cq (f := 50) Tryz.func50 rfl rfl rfl rfl ?_;(repeat first | (with_reducible apply az); exact rfl | refine dP rfl rfl rfl rfl (by (exact aP)) rfl ?_ | (with_reducible first | apply bQ | apply bI | apply bO | apply aA | apply cf))
  ((refine bY rfl (bD rfl bf) ?_))
  exact ai.bo.refl _
 | true =>
  refine cq (f := 50) Tryz.func50 rfl rfl rfl rfl ?_;(repeat first | (with_reducible apply az); exact rfl | refine dP rfl rfl rfl rfl (by (first | exact aP | exact b6)) rfl ?_ | (with_reducible first | apply bQ | apply bI | apply bO | apply aA | apply cf))
  ((refine bY rfl (bD rfl bf) ?_))
  exact ai.bo.refl _
def q0 (r : Int) (L : List aq) (x y : Int) : List aq := if 0 ≤ lz L x y then L else if r ≤ (L.length : Int) then L else L ++ [(x, y)]
def nZ (r : Int) (L : List aq) (x y : Int) : Bool := if 0 ≤ lz L x y then false else if r ≤ (L.length : Int) then false else true
def n0 (r : Int) (L : List aq) (x y : Int) : Int := if 0 ≤ lz L x y then 0 else if r ≤ (L.length : Int) then 90 else 0
theorem uS {L : List aq} {x y : Int} : 0 ≤ lz L x y ↔ (x, y) ∈ L := by
 unfold lz;cases h : L.findIdx? fun e => decide (e.1 = x) && decide (e.2 = y) with
 | none =>
  rw [List.findIdx?_eq_none_iff] at h;refine ⟨fun ar => absurd ar (by decide), fun ar => ?_⟩;have := h _ ar;simp at this
 | some k =>
  obtain ⟨ae, h1, _⟩ := List.findIdx?_eq_some_iff_getElem.1 h;simp only [eh, cL] at h1;refine ⟨fun _ => ?_, fun _ => Int.natCast_nonneg k⟩;have : L[k] = (x, y) := Prod.ext h1.1 h1.2;rw [← this]; exact List.getElem_mem ae
abbrev Cx := Int → List aq → Value → ff → Prop
def S9 (vt : Cx) : Prop := ∀ n : Int, Gt aj 54 [aR n] fun p S => ∃ b, p = eg b ∧ vt (l4 n) [] p S
def S3 (vt : Cx) : Prop := ∀ (r : Int) L b S (x y : Int), vt r L (eg b) S → L.length ≤ 1100 → y8 aj 154 [aU (eg b), bi x y] (eg b) S fun v dp => v = .dd [.one (.c (.bool (nZ r L x y))), .one (.c (.int .i64 (n0 r L x y)))] ∧ vt r (q0 r L x y) (eg b) dp
def Tb (vt : Cx) : Prop := ∀ (r : Int) L b S, vt r L (eg b) S → L.length ≤ 1100 → y8 aj 56 [aU (eg b)] (eg b) S fun v dp => v = aR r ∧ vt r L (eg b) dp
end Go.Proofs.YtpochbhajmbfdaaGreat
namespace Go.Proofs.YtpochbhajmbfdaaGreat
def fm (l : List dw) (x y : Int) : Nat := (u0 l x y).length
theorem Rb (l : List dw) (x y : Int) : fm l x y ≤ l.length := aeX l x y
theorem yu : ∀ {l : List dw} (h : kr l) (x y : Int) (k : Nat) (e : dw), l[k]? = some e → (k < fm l x y ↔ my e.1 e.2.1 x y = true)
 | [], _, _, _, k, e, ae => by simp at ae
 | f :: l, h, x, y, k, e, ae => by
  have ak := jv.1 h
  by_cases aw : my f.1 f.2.1 x y = true
  ·have hp : fm (f :: l) x y = fm l x y + 1 := by
    unfold fm u0;rw [List.filter_cons, if_pos aw]; rfl
   rw [hp];cases k with
   | zero => simp at ae; subst ae; simp [aw]
   | succ k =>
    have := yu ak.2 x y k e (by simpa using ae);rw [← this]; omega
  ·have di : ∀ g ∈ f :: l, ¬ my g.1 g.2.1 x y = true := by
    intro g ax;rcases gS.1 ax with rfl | ax
    ·exact aw
    ·have h1 := ak.1 g ax;rw [pr] at h1 aw ⊢;omega
   have hp : fm (f :: l) x y = 0 := by
    unfold fm u0;rw [List.filter_eq_nil_iff.2 di]; rfl
   rw [hp];have := di e (dL ae);simp [this]
theorem Ks {l : List dw} (h : kr l) {x y : Int} : ∀ e ∈ l.take (fm l x y), my e.1 e.2.1 x y = true := by
 intro e he;obtain ⟨k, ae⟩ := kA he;have bh := (bP.1 ae).1;rw [eu] at bh;rw [gl (by omega)] at ae;exact (yu h x y k e ae).1 (by omega)
theorem ME {l : List dw} (h : kr l) {x y : Int} : ∀ e ∈ l.drop (fm l x y), ¬ my e.1 e.2.1 x y = true := by
 intro e he;obtain ⟨k, ae⟩ := kA he;rw [gF] at ae;intro bh;have := (yu h x y _ e ae).2 bh;omega
theorem Rp {l : List dw} (h : kr l) {x y : Int} : u0 l x y = l.take (fm l x y) := by
 conv => lhs; rw [← k3 (fm l x y) l]
 unfold u0;rw [List.filter_append, List.filter_eq_self.2 (Ks h), List.filter_eq_nil_iff.2 (ME h), qz]
theorem DH {l : List dw} (h : kr l) {x y : Int} : hW l x y = true ↔ ∃ u, l[fm l x y]? = some (x, y, u) := by
 constructor
 ·intro aW;unfold hW at aW;rw [List.any_eq_true] at aW;obtain ⟨e, he, an⟩ := aW;simp only [eh, cL] at an;obtain ⟨k, ae⟩ := kA he;have h1 := yu h x y k e ae;have h2 : ¬ k < fm l x y := by rw [h1, pr]; omega
  have Ig := (bP.1 ae).1;have o6 : fm l x y < l.length := by omega
  have hp := cj o6;have ao := yu h x y _ _ hp
  by_cases bu : k = fm l x y
  ·refine ⟨e.2.2, ?_⟩;rw [← bu, ae];exact congrArg some (Prod.ext an.1 (Prod.ext an.2 rfl))
  ·exfalso;have aH := List.pairwise_iff_getElem.1 h (fm l x y) k o6 Ig (by omega);have hU : l[k] = e := (bP.1 ae).2;rw [hU, pr] at aH;have cM : my l[fm l x y].1 l[fm l x y].2.1 x y = true := by rw [pr]; omega
   have := ao.2 cM;omega
 ·rintro ⟨u, hu⟩;exact List.any_eq_true.2 ⟨_, dL hu, by simp⟩
theorem WR {l : List dw} (h : kr l) {x y : Int} (aD : hW l x y = false) : ∀ e ∈ l.drop (fm l x y), my x y e.1 e.2.1 = true := by
 intro e he;have h1 := ME h e he
 have h2 : ¬ (e.1 = x ∧ e.2.1 = y) := by
  rintro ⟨ao, aH⟩;have : hW l x y = true := List.any_eq_true.2 ⟨_, nN he, by simp [ao, aH]⟩;rw [aD] at this; cases this
 rw [pr] at *;omega
theorem Rq {l : List dw} (h : kr l) {x y v : Int} (aD : hW l x y = false) : te l x y v = l.take (fm l x y) ++ (x, y, v) :: l.drop (fm l x y) := by
 unfold te;rw [Rp h];congr 2
 conv => lhs; rw [← k3 (fm l x y) l]
 unfold Fc;rw [List.filter_append, List.filter_eq_self.2 (WR h aD), List.filter_eq_nil_iff.2 fun e he => ?_, List.nil_append];have := Ks h e he;rw [pr] at *;omega
theorem aeY {l : List dw} (h : kr l) {x y v u : Int} (hp : l[fm l x y]? = some (x, y, u)) : te l x y v = l.take (fm l x y) ++ (x, y, v) :: l.drop (fm l x y + 1) := by
 unfold te;rw [Rp h];congr 2;have ap := (bP.1 hp).1;have he := (bP.1 hp).2
 conv => lhs; rw [← k3 (fm l x y) l]
 unfold Fc;rw [List.filter_append, List.filter_eq_nil_iff.2 (fun e he => by have := Ks h e he; rw [pr] at *; omega), List.nil_append, nL ap, he, List.filter_cons_of_neg (by rw [pr]; simp)];refine List.filter_eq_self.2 fun e hm => ?_;obtain ⟨k, ae⟩ := kA hm;rw [gF] at ae;have Ig := (bP.1 ae).1;have aH := List.pairwise_iff_getElem.1 h (fm l x y) _ ap Ig (by omega);rw [he, (bP.1 ae).2] at aH;exact aH
theorem ahi {l : List dw} (h : kr l) {x y u : Int} (hp : l[fm l x y]? = some (x, y, u)) : hW l x y = true ∧ oJ l x y = u := SA h (dL hp)
abbrev aeS (e : dw) : aq := (e.1, e.2.1)
def pp : Nat → List aq → List dw
 | _, [] => []
 | k, p :: l => (p.1, p.2, (k : Int)) :: pp (k + 1) l
theorem Qn : ∀ (k : Nat) (l : List aq) (p : aq), pp k (l ++ [p]) = pp k l ++ [(p.1, p.2, ((k + l.length : Nat) : Int))]
 | k, [], p => by simp [pp]
 | k, q :: l, p => by
  simp only [List.cons_append, pp, Qn (k + 1) l p, lB];rw [show k + 1 + l.length = k + (l.length + 1) by omega]
theorem Qo : ∀ (k : Nat) (l : List aq), (pp k l).map aeS = l
 | _, [] => rfl
 | k, p :: l => by simp only [pp, k5, Qo (k + 1) l]
theorem ac7 (k : Nat) (l : List aq) : (pp k l).length = l.length := by
 have := congrArg List.length (Qo k l);rwa [jK] at this
theorem JD : ∀ (k : Nat) (l : List aq) (x y w : Int), (x, y, w) ∈ pp k l ↔ ∃ i : Nat, l[i]? = some (x, y) ∧ w = ((k + i : Nat) : Int)
 | k, [], x, y, w => by simp [pp]
 | k, p :: l, x, y, w => by
  rw [pp, gS, JD (k + 1) l x y w]
  constructor
  ·rintro (h | ⟨i, h1, h2⟩)
   ·simp only [Prod.mk.injEq] at h;exact ⟨0, by rw [oB, h.1, h.2.1], by rw [h.2.2]; rfl⟩
   ·exact ⟨i + 1, by rw [rI]; exact h1, by rw [h2]; omega⟩
  ·rintro ⟨i, h1, h2⟩
   match i with
   | 0 => rw [oB] at h1; cases h1; exact .inl (by rw [h2]; rfl)
   | i + 1 => rw [rI] at h1; exact .inr ⟨i, h1, by rw [h2]; omega⟩
def nV (L : List aq) (es : List dw) : Prop := kr es ∧ es.Perm (pp 0 L) ∧ L.Nodup
theorem nV.len {L : List aq} {es : List dw} (h : nV L es) : es.length = L.length := by rw [h.2.1.length_eq, ac7]
theorem ac8 {L : List aq} (aD : L.Nodup) {i : Nat} {x y : Int} (h : L[i]? = some (x, y)) : lz L x y = (i : Int) := by
 have aJ : 0 ≤ lz L x y := uS.2 (dL h);unfold lz at aJ ⊢;cases aw : L.findIdx? fun e => decide (e.1 = x) && decide (e.2 = y) with
 | none => rw [aw] at aJ; exact absurd aJ (by decide)
 | some k =>
  obtain ⟨ae, h1, _⟩ := List.findIdx?_eq_some_iff_getElem.1 aw;simp only [eh, cL] at h1;have aG : L[k] = (x, y) := Prod.ext h1.1 h1.2;obtain ⟨hi, aM⟩ := bP.1 h;have := (List.getElem_inj (h₀ := ae) (h₁ := hi) aD).1 (aG.trans aM.symm);rw [this]
theorem YP {es : List dw} {a b : Int} : hW es a b = true ↔ ∃ w, (a, b, w) ∈ es := by
 unfold hW;rw [List.any_eq_true]
 constructor
 ·rintro ⟨⟨p, q, w⟩, h1, h2⟩;simp only [eh, cL] at h2;exact ⟨w, by rw [← h2.1, ← h2.2]; exact h1⟩
 ·rintro ⟨w, h⟩;exact ⟨_, h, by simp⟩
theorem nV.num {L : List aq} {es : List dw} (h : nV L es) (x y : Int) : hW es x y = decide (0 ≤ lz L x y) ∧ (0 ≤ lz L x y → oJ es x y = lz L x y) := by
 by_cases aW : 0 ≤ lz L x y
 ·obtain ⟨i, hi⟩ := kA (uS.1 aW);have hm : (x, y, ((0 + i : Nat) : Int)) ∈ es := h.2.1.mem_iff.2 ((JD 0 L x y _).2 ⟨i, hi, rfl⟩);have h1 := SA h.1 hm;exact ⟨by rw [h1.1, bF aW], fun _ => by rw [h1.2, ac8 h.2.2 hi, ju]⟩
 ·refine ⟨?_, fun ar => absurd ar aW⟩;rw [b5 aW];cases he : hW es x y with
  | false => rfl
  | true =>
   obtain ⟨w, hw⟩ := YP.1 he;obtain ⟨i, hi, _⟩ := (JD 0 L x y w).1 (h.2.1.mem_iff.1 hw);exact absurd (uS.2 (dL hi)) aW
theorem nV.add {L : List aq} {es : List dw} (h : nV L es) {x y : Int} (aD : ¬ 0 ≤ lz L x y) : nV (L ++ [(x, y)]) (te es x y L.length) := by
 have ca : hW es x y = false := by rw [(h.num x y).1]; exact b5 aD
 refine ⟨aeZ h.1 x y L.length, ?_, ?_⟩
 ·rw [Rq h.1 ca, Qn, ju];refine List.perm_middle.trans ?_;rw [k3];refine (h.2.1.cons _).trans ?_;exact (List.perm_append_singleton _ _).symm
 ·rw [List.nodup_append];refine ⟨h.2.2, by simp, fun a aI b ab e => ?_⟩;rw [js] at ab;subst ab; subst e;exact aD (uS.2 aI)
theorem nV.nil : nV [] [] := ⟨.nil, .refl _, .nil⟩
theorem Us {r : Int} {L : List aq} {x y : Int} (h : 0 ≤ lz L x y) : q0 r L x y = L ∧ nZ r L x y = false ∧ n0 r L x y = 0 := by unfold q0 nZ n0; rw [if_pos h, if_pos h, if_pos h]; exact ⟨rfl, rfl, rfl⟩
theorem Ur {r : Int} {L : List aq} {x y : Int} (h : ¬ 0 ≤ lz L x y) (h2 : r ≤ (L.length : Int)) : q0 r L x y = L ∧ nZ r L x y = false ∧ n0 r L x y = 90 := by unfold q0 nZ n0; rw [if_neg h, if_neg h, if_neg h, if_pos h2, if_pos h2, if_pos h2]; exact ⟨rfl, rfl, rfl⟩
theorem Ut {r : Int} {L : List aq} {x y : Int} (h : ¬ 0 ≤ lz L x y) (h2 : ¬ r ≤ (L.length : Int)) : q0 r L x y = L ++ [(x, y)] ∧ nZ r L x y = true ∧ n0 r L x y = 0 := by unfold q0 nZ n0; rw [if_neg h, if_neg h, if_neg h, if_neg h2, if_neg h2, if_neg h2]; exact ⟨rfl, rfl, rfl⟩
end Go.Proofs.YtpochbhajmbfdaaGreat
namespace Go.Proofs.YtpochbhajmbfdaaGreat
open Go.RowKit
abbrev hx (v : Value) (l : List dw) : bS := ⟨261, 3, v, l.length, er l⟩
end Go.Proofs.YtpochbhajmbfdaaGreat
namespace Go.Proofs.YtpochbhajmbfdaaGreat
theorem QF {a1 a2 b1 b2 p1 p2 : Int} (h : ct a1 a2 b1 b2 p1 p2 = 0) : (b2 - a2) * a1 + (a1 - b1) * a2 = (b2 - a2) * p1 + (a1 - b1) * p2 := by unfold ct at h; grind
theorem QH {a1 a2 b1 b2 c1 c2 d1 d2 p1 p2 : Int} (h : ct a1 a2 b1 b2 p1 p2 = 0) (k : ct c1 c2 d1 d2 p1 p2 = 0) :
  kb a1 a2 b1 b2 c1 c2 d1 d2 = p1 * c5 a1 a2 b1 b2 c1 c2 d1 d2 ∧ kc a1 a2 b1 b2 c1 c2 d1 d2 = p2 * c5 a1 a2 b1 b2 c1 c2 d1 d2 := by
 have e := QF h;have f := QF k;unfold kb kc c5;rw [e, f]
 constructor <;> grind
theorem EW (p w : Int) : jJ (p * w) w = p * iR w := by
 unfold jJ iR
 split
 ·rw [Int.mul_neg]
 ·rfl
theorem CP {p d a b : Int} (aJ : hr a b ≤ p) (h1 : p ≤ hq a b) (hd : 0 < d) : lf (p * d) d a b :=
 ⟨qB aJ (by omega), qB h1 (by omega)⟩
theorem Nc {a1 a2 b1 b2 c1 c2 d1 d2 p1 p2 d : Int} (h : dx p1 p2 a1 a2 b1 b2) (k : dx p1 p2 c1 c2 d1 d2) (hd : 0 < d) : four a1 a2 b1 b2 c1 c2 d1 d2 (p1 * d) (p2 * d) d :=
 ⟨CP h.2.1 h.2.2.1 hd, CP h.2.2.2.1 h.2.2.2.2 hd, CP k.2.1 k.2.2.1 hd, CP k.2.2.2.1 k.2.2.2.2 hd⟩
theorem acB {a1 a2 b1 b2 c1 c2 d1 d2 : Int} (h : c5 a1 a2 b1 b2 c1 c2 d1 d2 = 0) :
  (hL a1 a2 b1 b2 c1 c2 d1 d2 = ig ∧ ∀ p1 p2, dx p1 p2 a1 a2 b1 b2 → ¬ dx p1 p2 c1 c2 d1 d2) ∨
  ∃ f1 f2 g1 g2, hL a1 a2 b1 b2 c1 c2 d1 d2 = wu f1 f2 g1 g2 ∧ dy f1 f2 g1 g2 ∧ dx f1 f2 a1 a2 b1 b2 ∧ dx f1 f2 c1 c2 d1 d2 ∧ dx g1 g2 a1 a2 b1 b2 ∧ dx g1 g2 c1 c2 d1 d2
   ∧ f1 = eC (eS a1 a2 b1 b2) (eA a1 a2 b1 b2) (eS c1 c2 d1 d2) (eA c1 c2 d1 d2) ∧ f2 = ef (eS a1 a2 b1 b2) (eA a1 a2 b1 b2) (eS c1 c2 d1 d2) (eA c1 c2 d1 d2)
   ∧ g1 = eS (eC a1 a2 b1 b2) (ef a1 a2 b1 b2) (eC c1 c2 d1 d2) (ef c1 c2 d1 d2) ∧ g2 = eA (eC a1 a2 b1 b2) (ef a1 a2 b1 b2) (eC c1 c2 d1 d2) (ef c1 c2 d1 d2)
   ∧ ∀ p1 p2, dx p1 p2 a1 a2 b1 b2 → dx p1 p2 c1 c2 d1 d2 → dy f1 f2 p1 p2 ∧ dy p1 p2 g1 g2 := by
 have hs := yd a1 a2 b1 b2;have aF := yd c1 c2 d1 d2
 have hw : pu (eS a1 a2 b1 b2) (eA a1 a2 b1 b2) (eC a1 a2 b1 b2) (ef a1 a2 b1 b2) (eS c1 c2 d1 d2) (eA c1 c2 d1 d2) (eC c1 c2 d1 d2) (ef c1 c2 d1 d2) = 0 := by
  have h1 := FZ a1 a2 b1 b2 c1 c2 d1 d2;have h2 := BN a1 a2 b1 b2 c1 c2 d1 d2;have ao := BN b1 b2 a1 a2 c1 c2 d1 d2;rw [← SD];rcases nF a1 a2 b1 b2 with ⟨h1, h2, ao, aH, _⟩ | ⟨h1, h2, ao, aH, _⟩ <;> rcases nF c1 c2 d1 d2 with ⟨bC, cd, ie, jI, _⟩ | ⟨bC, cd, ie, jI, _⟩ <;> rw [h1, h2, ao, aH, bC, cd, ie, jI] <;> omega
 have yI : ∀ p1 p2, dx p1 p2 (eS a1 a2 b1 b2) (eA a1 a2 b1 b2) (eC a1 a2 b1 b2) (ef a1 a2 b1 b2) ↔ dx p1 p2 a1 a2 b1 b2 := fun _ _ => Bb;have tO9 : ∀ p1 p2, dx p1 p2 (eS c1 c2 d1 d2) (eA c1 c2 d1 d2) (eC c1 c2 d1 d2) (ef c1 c2 d1 d2) ↔ dx p1 p2 c1 c2 d1 d2 := fun _ _ => Bb;unfold hL;rw [if_pos h];unfold uH inl;generalize eS a1 a2 b1 b2 = s1 at *;generalize eA a1 a2 b1 b2 = s2 at *;generalize eC a1 a2 b1 b2 = bU at *;generalize ef a1 a2 b1 b2 = bX at *;generalize eS c1 c2 d1 d2 = t1 at *;generalize eA c1 c2 d1 d2 = t2 at *;generalize eC c1 c2 d1 d2 = t3 at *;generalize ef c1 c2 d1 d2 = t4 at *;have key := fun p1 p2 => @Pk s1 s2 bU bX t1 t2 t3 t4 p1 p2 hs aF hw
 by_cases q : dx (eC s1 s2 t1 t2) (ef s1 s2 t1 t2) s1 s2 bU bX ∧ dx (eC s1 s2 t1 t2) (ef s1 s2 t1 t2) t1 t2 t3 t4
 ·right;rw [if_pos q];obtain ⟨cH, cC, im, kh, akH, ahb⟩ := key _ _ q.1 q.2;exact ⟨_, _, _, _, rfl, ahb, (yI _ _).1 cH, (tO9 _ _).1 cC, (yI _ _).1 im, (tO9 _ _).1 kh, rfl, rfl, rfl, rfl, fun p1 p2 hp an => ⟨(key p1 p2 ((yI _ _).2 hp) ((tO9 _ _).2 an)).2.2.2.2.1, (key p1 p2 ((yI _ _).2 hp) ((tO9 _ _).2 an)).2.2.2.2.2⟩⟩
 ·left;rw [if_neg q];exact ⟨rfl, fun p1 p2 hp an => q ⟨(key p1 p2 ((yI _ _).2 hp) ((tO9 _ _).2 an)).1, (key p1 p2 ((yI _ _).2 hp) ((tO9 _ _).2 an)).2.1⟩⟩
theorem ads {a1 a2 b1 b2 f1 f2 g1 g2 p1 p2 : Int} (aw : dx f1 f2 a1 a2 b1 b2) (ax : dx g1 g2 a1 a2 b1 b2) (hp : dx p1 p2 a1 a2 b1 b2) (aJ : dy f1 f2 p1 p2) (h1 : dy p1 p2 g1 g2) : dx p1 p2 f1 f2 g1 g2 := by
 refine (wI (aJ.trans h1)).2 ⟨?_, aJ, h1⟩
 by_cases e : a1 = b1 ∧ a2 = b2
 ·obtain ⟨rfl, rfl⟩ := e;obtain ⟨rfl, rfl⟩ := Ba aw;obtain ⟨rfl, rfl⟩ := Ba ax;obtain ⟨rfl, rfl⟩ := Ba hp;exact G0 ..
 ·have a := aw.1;have b := ax.1;have c := hp.1;unfold ct at *;have d1 : (b1 - a1) * ((g1 - f1) * (p2 - f2) - (g2 - f2) * (p1 - f1)) = 0 := by grind
  have d2 : (b2 - a2) * ((g1 - f1) * (p2 - f2) - (g2 - f2) * (p1 - f1)) = 0 := by grind
  rcases th.1 d1 with bu | bu
  ·rcases th.1 d2 with f | f
   ·omega
   ·exact f
  ·exact bu
theorem acA (a1 a2 b1 b2 c1 c2 d1 d2 : Int) :
  (hL a1 a2 b1 b2 c1 c2 d1 d2 = ig ∧ ∀ p1 p2, dx p1 p2 a1 a2 b1 b2 → ¬ dx p1 p2 c1 c2 d1 d2) ∨
  (∃ x y d, hL a1 a2 b1 b2 c1 c2 d1 d2 = jr x d y d ∧ 0 < d ∧ (d = 1 ∨ d = iR (c5 a1 a2 b1 b2 c1 c2 d1 d2)) ∧ four a1 a2 b1 b2 c1 c2 d1 d2 x y d ∧ ∀ p1 p2, dx p1 p2 a1 a2 b1 b2 → dx p1 p2 c1 c2 d1 d2 → x = p1 * d ∧ y = p2 * d) ∨
  (∃ f1 f2 g1 g2, hL a1 a2 b1 b2 c1 c2 d1 d2 = tJ f1 f2 g1 g2 ∧ ¬ (f1 = g1 ∧ f2 = g2) ∧ dy f1 f2 g1 g2 ∧ dx f1 f2 a1 a2 b1 b2 ∧ dx f1 f2 c1 c2 d1 d2 ∧ dx g1 g2 a1 a2 b1 b2 ∧ dx g1 g2 c1 c2 d1 d2
   ∧ f1 = eC (eS a1 a2 b1 b2) (eA a1 a2 b1 b2) (eS c1 c2 d1 d2) (eA c1 c2 d1 d2) ∧ f2 = ef (eS a1 a2 b1 b2) (eA a1 a2 b1 b2) (eS c1 c2 d1 d2) (eA c1 c2 d1 d2)
   ∧ g1 = eS (eC a1 a2 b1 b2) (ef a1 a2 b1 b2) (eC c1 c2 d1 d2) (ef c1 c2 d1 d2) ∧ g2 = eA (eC a1 a2 b1 b2) (ef a1 a2 b1 b2) (eC c1 c2 d1 d2) (ef c1 c2 d1 d2)
   ∧ ∀ p1 p2, dx p1 p2 a1 a2 b1 b2 → dx p1 p2 c1 c2 d1 d2 → dx p1 p2 f1 f2 g1 g2) := by
 by_cases h : c5 a1 a2 b1 b2 c1 c2 d1 d2 = 0
 ·rcases acB h with ⟨e, aD⟩ | ⟨f1, f2, g1, g2, e, ap, cH, cC, im, kh, v1, v2, v3, v4, hp⟩
  ·exact .inl ⟨e, aD⟩
  ·right;rw [e];unfold wu
   by_cases q : f1 = g1 ∧ f2 = g2
   ·left;rw [if_pos q];refine ⟨f1, f2, 1, rfl, by omega, .inl rfl, ?_, fun p1 p2 aI ab => ?_⟩
    ·have := Nc cH cC (d := 1) (by omega);rwa [Int.mul_one, Int.mul_one] at this
    ·obtain ⟨bC, cd⟩ := hp p1 p2 aI ab;obtain ⟨rfl, rfl⟩ := q;have := dy.CH bC cd;omega
   ·right;rw [if_neg q];exact ⟨f1, f2, g1, g2, rfl, q, ap, cH, cC, im, kh, v1, v2, v3, v4, fun p1 p2 aI ab => ads cH im aI (hp p1 p2 aI ab).1 (hp p1 p2 aI ab).2⟩
 ·have hd := Qk h;unfold hL;rw [if_neg h];unfold nb uN
  by_cases q : four a1 a2 b1 b2 c1 c2 d1 d2 (jJ (kb a1 a2 b1 b2 c1 c2 d1 d2) (c5 a1 a2 b1 b2 c1 c2 d1 d2)) (jJ (kc a1 a2 b1 b2 c1 c2 d1 d2) (c5 a1 a2 b1 b2 c1 c2 d1 d2)) (iR (c5 a1 a2 b1 b2 c1 c2 d1 d2))
  ·right; left;rw [if_pos q];refine ⟨_, _, _, rfl, hd, .inr rfl, q, fun p1 p2 aI ab => ?_⟩;obtain ⟨aG, aM⟩ := QH aI.1 ab.1;rw [aG, aM, EW, EW];exact ⟨rfl, rfl⟩
  ·left;rw [if_neg q];refine ⟨rfl, fun p1 p2 aI ab => q ?_⟩;obtain ⟨aG, aM⟩ := QH aI.1 ab.1;rw [aG, aM, EW, EW];exact Nc aI ab hd
end Go.Proofs.YtpochbhajmbfdaaGreat
namespace Go.Proofs.YtpochbhajmbfdaaGreat
open Go.RowKit
theorem ahm {a1 a2 b1 b2 c1 c2 d1 d2 : Int} (aI : cG a1 a2 = true) (ab : cG b1 b2 = true) (ak : cG c1 c2 = true) (hd : cG d1 d2 = true) : -144115188075855872 ≤ c5 a1 a2 b1 b2 c1 c2 d1 d2 ∧ c5 a1 a2 b1 b2 c1 c2 d1 d2 ≤ 144115188075855872 := by
 rw [tm] at aI ab ak hd;have m1 := EM (x := b2 - a2) (y := c1 - d1) (by omega) (by omega) (by omega) (by omega);have m2 := EM (x := a1 - b1) (y := d2 - c2) (by omega) (by omega) (by omega) (by omega);unfold c5;omega
theorem L3 {n d a b : Int} (h : lf n d a b) (a0 : -134217728 ≤ a) (a1 : a ≤ 134217728) (oS : -134217728 ≤ b) (b1 : b ≤ 134217728) (d0 : 0 ≤ d) (d1 : d ≤ 144115188075855872) : -19342813113834066795298816 ≤ n ∧ n ≤ 19342813113834066795298816 := by
 obtain ⟨aJ, h1⟩ := h;have i0 : -134217728 ≤ hr a b ∧ hr a b ≤ 134217728 := by unfold hr; split <;> omega
 have i1 : -134217728 ≤ hq a b ∧ hq a b ≤ 134217728 := by unfold hq; split <;> omega
 have m0 := CM i0.1 i0.2 (show -144115188075855872 ≤ d by omega) d1;have m1 := CM i1.1 i1.2 (show -144115188075855872 ≤ d by omega) d1;omega
def Cc (M : fU) : Prop := (M = ig) ∨ (∃ x y d, M = jr x d y d ∧ 0 < d ∧ d ≤ 144115188075855872 ∧ (-19342813113834066795298816 ≤ x ∧ x ≤ 19342813113834066795298816) ∧ (-19342813113834066795298816 ≤ y ∧ y ≤ 19342813113834066795298816)) ∨ (∃ f1 f2 g1 g2, M = tJ f1 f2 g1 g2)
theorem Yb {a1 a2 b1 b2 c1 c2 d1 d2 x y d : Int} (aI : cG a1 a2 = true) (ab : cG b1 b2 = true) (ak : cG c1 c2 = true) (hd : cG d1 d2 = true) (aJ : 0 < d) (h1 : d = 1 ∨ d = iR (c5 a1 a2 b1 b2 c1 c2 d1 d2)) (aw : four a1 a2 b1 b2 c1 c2 d1 d2 x y d) :
  d ≤ 144115188075855872 ∧ (-19342813113834066795298816 ≤ x ∧ x ≤ 19342813113834066795298816) ∧ (-19342813113834066795298816 ≤ y ∧ y ≤ 19342813113834066795298816) := by
 have cV := ahm aI ab ak hd;rw [tm] at aI ab
 have sI : d ≤ 144115188075855872 := by
  rcases h1 with rfl | rfl
  ·omega
  ·unfold iR; split <;> omega
 exact ⟨sI, L3 aw.1 aI.1.1 aI.1.2 ab.1.1 ab.1.2 (by omega) sI, L3 aw.2.1 aI.2.1 aI.2.2 ab.2.1 ab.2.2 (by omega) sI⟩
theorem ab7 (a1 a2 b1 b2 c1 c2 d1 d2 : Int) : Cc (rz a1 a2 b1 b2 c1 c2 d1 d2) := by
 unfold rz
 by_cases h : (cG a1 a2 && cG b1 b2 && cG c1 c2 && cG d1 d2) = true
 ·rw [if_pos h];simp only [eh] at h;rcases acA a1 a2 b1 b2 c1 c2 d1 d2 with ⟨e, _⟩ | ⟨x, y, d, e, aJ, h1, aw, _⟩ | ⟨f1, f2, g1, g2, e, _⟩
  ·exact .inl e
  ·exact .inr (.inl ⟨x, y, d, e, aJ, Yb h.1.1.1 h.1.1.2 h.1.2 h.2 aJ h1 aw⟩)
  ·exact .inr (.inr ⟨f1, f2, g1, g2, e⟩)
 ·rw [if_neg h]; exact .inl rfl
section
variable {P : Program} {R : aL} {s : aE} {ops : Array Oper} {dr : Option (List Nat)} {ty : Nat} {pos : String} {after : Array Edge} {guard : Option (Nat × Bool)} {K : aL → aE → Prop} {rest : List Oper} {c : Code} {Q : Exit → aL → aE → Prop}
theorem wR (aC : aL) (abv : bL aC R) (h : fO P c Q aC s) : fO P c Q R s := fun ok bq b0 a w ⟨A, ad, ay⟩ => h ok bq b0 a w ⟨A, ad, ay.le abv⟩
theorem SB {f : FuncId} {r : bS} {i j : Nat} {post : ai → bS → Prop} (hp : pI P f [cT r.sz r.n r.aZ] post) (b4 : 0 < r.sz) (cW : ∀ y ∈ r.aZ, y.bd = true) (hF : ∀ v q, post v q → v = aU q.v ∧ ve q.aZ) :
  dk P f [aU r.v] cm (bH i r) fun v aK aC => ∃ q, aK = cm ∧ aC = b9 (bH j q) (bH i r) ∧ 0 < q.sz ∧ post v q := by
 have h := YZ (R0 := bH i r) (args := [aU r.v]) (hp j) rfl (fun U ad W vs cA dX => ⟨dX.1, fun n x v aa hv => ?_⟩) (fun v aK bl an => ?_)
 ·refine ⟨fun U ad W vs cA ez dX => (h.call U ad W vs cA ez dX).mono ?_⟩;rintro e bn ⟨v, cN, aK, aC, bg, cK, db, ⟨bl, ⟨q, _, rfl, a6, an⟩, rfl, rfl⟩, mB⟩;exact ⟨v, cN, cm, _, bg, cK, db, ⟨q, rfl, rfl, a6, an⟩, mB⟩
 ·match n with
  | 0 =>
   cases aa;have sR := (dX.2 0 _ v rfl hv).1;subst sR;exact (cA.rows i r (by unfold bH; exact cw _ _ _)).1.So b4 r.aZ (fun xs ap => ap.map (fun b ab _ => ⟨.inl ab, rfl⟩) fun _ _ _ _ => rfl) cW fun b ab => .inr (.inr ⟨i, r, by unfold bH; exact cw _ _ _, ab⟩)
  | n + 1 => simp at aa
 ·obtain ⟨q, rfl, rfl, a6, an⟩ := an;obtain ⟨rfl, aw⟩ := hF v q an;refine ⟨rfl, Cb.one, rfl, fun k bT ae => ?_⟩;obtain ⟨rfl, rfl⟩ := gg ae;exact ⟨a6, aw⟩
theorem Oo (i j : Nat) (fI : i ≠ j) {d : Nat} {f : FuncId} {g : Operand} {aS : Array TypeId} {x : Operand} {r : bS} {post : ai → bS → Prop} [E : Enters P f] (hw : want ops ⟨some d, .call ⟨.value g, #[x], aS⟩, ty, pos, after, guard⟩ s = some true) (hm : dE dr ⟨some d, .call ⟨.value g, #[x], aS⟩, ty, pos, after, guard⟩ = true)
  (ax : s.look g = some (aU (.func (.func f) #[] #[]))) (aI : s.look x = some (aU r.v)) (hp : pI P f [cT r.sz r.n r.aZ] post) (hi : R i = some r) (b4 : 0 < r.sz) (cW : ∀ y ∈ r.aZ, y.bd = true) (af : R j = none) (hd : Nat.blt d s.n = true) (hF : ∀ v q, post v q → v = aU q.v ∧ ve q.aZ)
  (h : ∀ q, post (aU q.v) q → cQ P ops dr K rest R (s.put (some d) (cT q.sz q.n q.aZ))) : cQ P ops dr K (⟨some d, .call ⟨.value g, #[x], aS⟩, ty, pos, after, guard⟩ :: rest) R s := by
 refine ⟨true, hw, lj hd, .inr (.inr (.inr (.inr (.inr ⟨rfl, hm, f, [aU r.v], cm, bH i r, _, ⟨⟨_, g, rfl, rfl, .inl ⟨[], ax, by simp [aI], rfl⟩⟩, E.h⟩, SB (j := j) hp b4 cW hF, fun x aa j af => ?_, fun k' au ar => (by cases ar), fun fS ba ar => ?_, fun k' au x j ar => (by cases ar), ?_⟩))))⟩
 ·simp at aa; subst aa; exact absurd af (jq _ j)
 ·obtain ⟨rfl, rfl⟩ := gg ar; exact hi
 rintro v aK aC ⟨q, rfl, rfl, Am, an⟩ _ _ _;refine ⟨fun k' c ar => (by cases ar), ?_⟩;obtain ⟨rfl, _⟩ := hF v q an;have lQ : b9 (b9 (bH j q) (bH i r)) R j = some q := h4 (h4 (by unfold bH; exact cw _ _ _));refine ⟨j, d, q, rfl, lQ, Am, cw _ _ _, (show d < s.n by simpa [Nat.blt_eq] using hd), ?_⟩
 have aG : (fun x => if x = j then none else b9 (b9 (bH j q) (bH i r)) R x) = R := by
  funext x
  by_cases e : x = j
  ·rw [if_pos e, e, af]
  ·rw [if_neg e]
   by_cases bu : x = i
   ·subst bu;rw [hi];exact h4 (by rw [hN (by unfold bH; rw [cl _ _ e]; rfl)]; unfold bH; exact cw _ _ _)
   ·exact hN (by rw [hN (by unfold bH; rw [cl _ _ e]; rfl)]; unfold bH; rw [cl _ _ bu]; rfl)
 rw [aG, uY, Bg];exact h q an
end
section
variable {P : Program} {R : aL} {s : aE} {ops : Array Oper} {dr : Option (List Nat)} {ty : Nat} {pos : String} {after : Array Edge} {guard : Option (Nat × Bool)} {K : aL → aE → Prop} {rest : List Oper} {c : Code} {Q : Exit → aL → aE → Prop}
theorem gV.one {U : Nat → Prop} {ad : Nat → Nat} {W : World} {y : AC} {v : Value} (h : gV U ad W y v) (ak : y.bd = true) : v.oneCell' = true := by
 cases y with
 | c u => rw [h.1]; exact h.2
 | own k o => cases ak
 | p S => exact S.cell _ _ h.1
theorem b3.exact {U cK : Nat → Prop} {ad bg : Nat → Nat} {W bn : World} {aZ : List AC} {xs : List Value} (h : b3 U ad W aZ xs) (ak : ∀ y ∈ aZ, y.bd = true) : b3 cK bg bn (xs.map AC.c) xs := by
 refine ⟨by rw [jK], fun i x v aa hv => ?_⟩;rw [eG, hv] at aa;cases aa;have hi : i < aZ.length := by rw [h.1]; exact (bP.1 hv).1
 have ag := cj hi;exact ⟨rfl, (h.2 i _ v ag hv).one (ak _ (dL ag))⟩
theorem b3.Xk {U : Nat → Prop} {ad : Nat → Nat} {W : World} {xs yQ : List Value} (h : b3 U ad W (xs.map AC.c) yQ) : yQ = xs := by
 refine List.ext_getElem? fun i => ?_;cases aa : yQ[i]? with
 | none =>
  have : xs.length ≤ i := by have := h.1; rw [jK] at this; rw [this]; exact List.getElem?_eq_none_iff.1 aa
  exact (List.getElem?_eq_none_iff.2 this).symm
 | some v =>
  have hi : i < (xs.map AC.c).length := by rw [h.1]; exact (bP.1 aa).1
  have ag := cj hi;have := (h.2 i _ v ag aa);rw [List.getElem_map] at this;rw [this.1, cj (by rwa [jK] at hi)]
theorem E3 {e sz n : Nat} {v : Value} {aZ zs : List AC} {g : Nat} (hs : 0 < sz) (h : (⟨e, sz, v, n, aZ⟩ : bS).own g) : (⟨e, sz, v, n, zs⟩ : bS).own g := by
 have := bS.pq h hs;exact .inl this
theorem ahk {f : FuncId} {r : bS} {i j : Nat} (fI : i ≠ j) (hp : ∀ aZ : List AC, aZ.length = r.aZ.length → aZ.all AC.bd = true → pI P f [cT r.sz r.n aZ] fun v q => ∃ a7, v = aU a7 ∧ q = ⟨r.e, r.sz, a7, r.n, aZ⟩) (b4 : 0 < r.sz) (cW : ∀ y ∈ r.aZ, y.bd = true) :
  dk P f [aU r.v] cm (bH i r) fun v aK aC => ∃ a7, v = aU a7 ∧ aK = cm ∧ aC = b9 (bH j ⟨r.e, r.sz, a7, r.n, r.aZ⟩) (bH i r) := by
 refine ⟨fun U ad W vs cA ez dX => ?_⟩;have kX : ∀ q, bH i q i = some q := fun q => by unfold bH; exact cw _ _ _
 obtain ⟨jl, oh, x6⟩ := cA.rows i r (kX r);obtain ⟨xs, aB, ap⟩ := jl.row b4;have hex : ∀ (U : Nat → Prop) (ad : Nat → Nat) (W : World), b3 U ad W (xs.map AC.c) xs := fun U ad W => ap.exact cW;have Az : ∀ y ∈ xs.map AC.c, AC.bd y = true := fun y ag => by obtain ⟨v, _, rfl⟩ := iW.1 ag; rfl
 have N5 : ∀ g, (⟨r.e, r.sz, r.v, r.n, xs.map AC.c⟩ : bS).own g → r.own g := fun g h => by
  have := bS.pq h b4;exact .inl this
 have x3 : ∀ g, r.own g → (⟨r.e, r.sz, r.v, r.n, xs.map AC.c⟩ : bS).own g := fun g h => by
  have := bS.pq h b4;exact .inl this
 have mQ : fe U ad W cm (bH i ⟨r.e, r.sz, r.v, r.n, xs.map AC.c⟩) := by
  refine ⟨fun k cs ae => (by cases ae), fun k cs x j ae => (by cases ae), fun k k' cs au ae => (by cases ae), fun k q ae => ?_, fun a b q bT aI ab ln => ?_⟩
  ·obtain ⟨rfl, rfl⟩ := gg ae;exact ⟨.inl ⟨b4, xs, aB, hex _ _ _⟩, Az, fun g ax => ⟨(x6 g (N5 g ax)).1, fun k cs ae => (by cases ae)⟩⟩
  ·obtain ⟨rfl, rfl⟩ := gg aI;obtain ⟨rfl, rfl⟩ := gg ab;exact absurd rfl ln
 have hF := SB (i := i) (j := j) (r := ⟨r.e, r.sz, r.v, r.n, xs.map AC.c⟩) (hp (xs.map AC.c) (by rw [jK]; exact ap.1.symm) (cB.2 Az)) b4 Az (fun v q ⟨a7, hv, an⟩ => by
  subst an; exact ⟨hv, ve.of fun y ag => by obtain ⟨v, _, rfl⟩ := iW.1 ag; exact ⟨v, rfl⟩⟩)
 refine (hF.call U ad W vs mQ ez dX).mono ?_;rintro e bn ⟨v, cN, aK, aC, bg, cK, db, ⟨q, rfl, rfl, a6, a7, rfl, rfl⟩, h2, ao, aH, cM, fQ, j0, qg, jh⟩
 have Ak : ∀ b, ew ad cm (bH i ⟨r.e, r.sz, r.v, r.n, xs.map AC.c⟩) b → r.own b := fun b ab => by
  rcases ab with ⟨k, cs, ae, _⟩ | ⟨k, q, ae, ax⟩
  ·cases ae
  ·obtain ⟨rfl, rfl⟩ := gg ae; exact N5 b ax
 have Ax : ∀ b, U b → b < W.heap.size → bn.heap[b]? = W.heap[b]? := fun b ab bh => jh.block b ⟨bh, fun aW => (x6 b (Ak b aW)).1 ab⟩
 have nB : ∀ k q, b9 (bH j ⟨r.e, r.sz, a7, r.n, r.aZ⟩) (bH i r) k = some q → ∃ u, q = ⟨r.e, r.sz, u, r.n, r.aZ⟩ ∧ b9 (bH j ⟨r.e, r.sz, a7, r.n, xs.map AC.c⟩) (bH i ⟨r.e, r.sz, r.v, r.n, xs.map AC.c⟩) k = some ⟨r.e, r.sz, u, r.n, xs.map AC.c⟩ := fun k q ae => by
  rcases kd ae with ae | ⟨aD, ae⟩
  ·obtain ⟨rfl, rfl⟩ := gg ae;exact ⟨a7, rfl, h4 (by unfold bH; exact cw _ _ _)⟩
  ·obtain ⟨rfl, rfl⟩ := gg ae;refine ⟨q.v, rfl, ?_⟩;rw [hN (by unfold bH; rw [cl _ _ fI]; rfl)];exact kX _
 refine ⟨v, aU a7, cm, b9 (bH j ⟨r.e, r.sz, a7, r.n, r.aZ⟩) (bH i r), bg, fun b => cK b ∨ (U b ∧ b < W.heap.size), db, ⟨a7, rfl, rfl, rfl⟩, ⟨fun k cs ae => (by cases ae), fun k cs x j ae => (by cases ae), fun k k' cs au ae => (by cases ae), fun k q ae => ?_, fun a b q bT aI ab ln g ax eM => ?_⟩, ao, fun j af => absurd af (jq _ j), fun k cs ae => (by cases ae), fun k q ae => ?_, fun b ab => ?_, fun b ab => ?_, ⟨jh.os, jh.tape, jh.output, jh.size, fun b ab => jh.block b ⟨ab.1, fun aW => ab.2 (.inr ⟨i, r, kX r, Ak b aW⟩)⟩⟩⟩
 ·obtain ⟨u, rfl, en⟩ := nB k q ae;obtain ⟨kk, z2, z3⟩ := h2.rows k _ en;obtain ⟨yQ, hn, fb⟩ := kk.row b4;have := b3.Xk fb;subst this;refine ⟨.inl ⟨b4, yQ, hn, ap.map (fun b ab bh => ⟨.inr ⟨ab, bh⟩, Ax b ab bh⟩) fun k x aa af => absurd af (AC.dI (cW x aa) k)⟩, cW, fun g ax => ⟨?_, fun k cs ae => (by cases ae)⟩⟩;have eM := E3 (zs := yQ.map AC.c) b4 ax;rintro (dJ | ⟨dJ, bh⟩)
  ·exact (z3 g eM).1 dJ
  ·rcases qg g (.inr ⟨k, _, en, eM⟩) with aW | aW
   ·exact (x6 g (Ak g aW)).1 dJ
   ·omega
 ·obtain ⟨u, rfl, hV⟩ := nB a q aI;obtain ⟨k8, rfl, cV⟩ := nB b bT ab;exact h2.apart a b _ _ hV cV ln g (E3 b4 ax) (E3 b4 eM)
 ·obtain ⟨rfl, rfl⟩ := gg ae;exact ⟨q, by rw [hN (by unfold bH; rw [cl _ _ fI]; rfl)]; exact kX q⟩
 ·rcases ab with ab | ab
  ·rcases j0 b ab with h | h | h
   ·exact .inl h
   ·exact .inr (.inl h)
   ·exact .inr (.inr (.inr ⟨i, r, kX r, Ak b h⟩))
  ·exact .inl ab.1
 ·rcases ab with ⟨k, cs, ae, _⟩ | ⟨k, q, ae, ax⟩
  ·cases ae
  ·obtain ⟨u, rfl, en⟩ := nB k q ae;rcases qg b (.inr ⟨k, _, en, E3 b4 ax⟩) with h | h
   ·exact .inl (.inr ⟨i, r, kX r, Ak b h⟩)
   ·exact .inr h
theorem Iz (i j : Nat) (fI : i ≠ j) {dst : Option Nat} {f : FuncId} {g : Operand} {aS : Array TypeId} {x : Operand} {r : bS} [E : Enters P f] (hw : want ops ⟨dst, .call ⟨.value g, #[x], aS⟩, ty, pos, after, guard⟩ s = some true) (hm : dE dr ⟨dst, .call ⟨.value g, #[x], aS⟩, ty, pos, after, guard⟩ = true)
  (ax : s.look g = some (aU (.func (.func f) #[] #[]))) (aI : s.look x = some (aU r.v)) (hp : ∀ aZ : List AC, aZ.length = r.aZ.length → aZ.all AC.bd = true → pI P f [cT r.sz r.n aZ] fun v q => ∃ a7, v = aU a7 ∧ q = ⟨r.e, r.sz, a7, r.n, aZ⟩) (hi : R i = some r) (b4 : 0 < r.sz) (cW : ∀ y ∈ r.aZ, y.bd = true) (hd : li dst s.n = true)
  (h : ∀ a7, cQ P ops dr K rest (bJ R j ⟨r.e, r.sz, a7, r.n, r.aZ⟩) (s.put dst (aU a7))) : cQ P ops dr K (⟨dst, .call ⟨.value g, #[x], aS⟩, ty, pos, after, guard⟩ :: rest) R s := by
 refine Oi (l := [x]) (args := [aU r.v]) hw hm ax (by simp [aI]) (ahk (j := j) fI hp b4 cW) (fun k q ae => ?_) rfl hd ?_
 ·obtain ⟨rfl, rfl⟩ := gg ae; exact hi
 rintro v aK aC ⟨a7, rfl, rfl, rfl⟩;refine ⟨rfl, ?_⟩
 have aG : b9 (b9 (bH j ⟨r.e, r.sz, a7, r.n, r.aZ⟩) (bH i r)) R = bJ R j ⟨r.e, r.sz, a7, r.n, r.aZ⟩ := by
  funext k
  by_cases hU : k = j
  ·subst hU;rw [cw];exact h4 (h4 (by unfold bH; exact cw _ _ _))
  ·rw [cl _ _ hU]
   by_cases ra : k = i
   ·subst ra;rw [hi];exact h4 (by rw [hN (by unfold bH; rw [cl _ _ hU]; rfl)]; unfold bH; exact cw _ _ _)
   ·exact hN (by rw [hN (by unfold bH; rw [cl _ _ hU]; rfl)]; unfold bH; rw [cl _ _ ra]; rfl)
 rw [aG];exact h a7
end
section
variable {P : Program} {s : aE} {ops : Array Oper} {K : aE → Prop} {rest : List Oper} {ty : Nat} {pos : String} {after : Array Edge} {guard : Option (Nat × Bool)} {d : Nat}
theorem CG {t dY k off : Nat} {x : Operand} (hw : want ops ⟨some d, .binOp .eql t x (.const (.pointer none)) dY, ty, pos, after, guard⟩ s = some true) (aa : s.look x = some (.w (.one (.own k off)))) (hu : ON P t = true) (hd : Nat.blt d s.n = true) (h : bj P ops K rest (s.put (some d) (bG false))) : bj P ops K (⟨some d, .binOp .eql t x (.const (.pointer none)) dY, ty, pos, after, guard⟩ :: rest) s := by
 obtain ⟨e, he⟩ : ∃ e, P.underlying t = some (.pointer e) := by
  unfold ON at hu
  split at hu
  ·rename_i e he; exact ⟨e, he⟩
  ·cases hu
 refine gp (av := bG false) hw ⟨fun _ _ h => (by cases h), fun z a6 => ?_, fun U ad W env NP => ?_, fun j af => absurd af (jq _ j)⟩ hd h
 ·simp [Op.operands] at a6;rcases a6 with rfl | rfl
  ·exact ⟨_, aa⟩
  ·exact ⟨_, rfl⟩
 ·have aG := NP x (by simp [Op.operands]) _ aa;have aG : env x = .pointer (some ⟨ad k, off, none⟩) := aG;have aM : env (.const (.pointer none)) = .pointer none := (NP (.const (.pointer none)) (by simp [Op.operands]) _ rfl).1;refine ⟨.bool false, ?_, rfl, rfl⟩;simp only [execOp, aG, aM, Yf, Sem.run_bind, Sem.run_pure, Result.andThen_ok, afV he]
end
section
variable {P : Program} {f : FuncId} {args : List ai} {m0 : Mem} {R0 : aL} {Post Post2 : ai → Mem → aL → Prop}
def oV (i : Nat) (R : aL) : aL := fun j => if j = i then none else R j
theorem dk.vH (i : Nat) (h : dk P f args m0 R0 Post) (aJ : R0 i = none)
  (hp : ∀ ck aK aC, Post ck aK aC → ∃ q Bt, aC i = some q ∧ 0 < q.sz ∧ (∀ U ad W v, dn U ad W ck v → gV U ad W (.p (cx q.sz q.n q.aZ)) q.v → dn U ad W Bt v) ∧ (∀ j, Bt.owns j → ck.owns j) ∧ Post2 Bt aK (oV i aC)) : dk P f args m0 R0 Post2 := by
 refine ⟨fun U ad W vs cA ez dX => (h.call U ad W vs cA ez dX).mono ?_⟩;rintro e bn ⟨v, r, aK, aC, bg, cK, db, h1, h2, ao, aH, cM, fQ, j0, qg, jh⟩;obtain ⟨q, Bt, hi, a6, hv, hw, Ym⟩ := hp r aK aC h1;obtain ⟨kk, z2, z3⟩ := h2.rows i q hi;have D0 : ∀ b, cK b → b < bn.heap.size → (fun b => cK b ∨ q.own b) b ∧ bn.heap[b]? = bn.heap[b]? := fun b ab _ => ⟨.inl ab, rfl⟩;have aad : gV (fun b => cK b ∨ q.own b) bg bn (.p (cx q.sz q.n q.aZ)) q.v := kk.So a6 q.aZ (fun xs ap => ap.map D0 fun _ _ _ _ => rfl) z2 fun b ab => .inr ab;have al : dn (fun b => cK b ∨ q.own b) bg bn r v := ao.map D0 fun _ _ => rfl
 have DL : ∀ k x, oV i aC k = some x → k ≠ i ∧ aC k = some x := fun k x ae => by
  unfold oV at ae
  split at ae
  ·cases ae
  ·rename_i ca; exact ⟨ca, ae⟩
 refine ⟨v, Bt, aK, oV i aC, bg, fun b => cK b ∨ q.own b, db, Ym, ⟨fun k cs ae => ?_, h2.gb, h2.inj, fun k x ae => ?_, fun a b x y aI ab ln g ax eM => ?_⟩, hv _ _ _ _ al aad, fun j af => aH j (hw j af), cM, fun k x ae => ?_, fun b ab => ?_, fun b ab => ?_, jh⟩
 ·obtain ⟨xs, ty, a1, a2, a3⟩ := h2.dG k cs ae;exact ⟨xs, ty, a1, a2.map D0 fun _ _ _ _ => rfl, fun aW => aW.elim a3 fun ax => (z3 _ ax).2 k cs ae rfl⟩
 ·obtain ⟨ca, en⟩ := DL k x ae;obtain ⟨a1, a2, a3⟩ := h2.rows k x en;exact ⟨a1.kept a2 (fun _ _ => rfl) (eb _) D0, a2, fun g ax => ⟨fun aW => aW.elim (a3 g ax).1 fun eM => h2.apart k i x q en hi ca g ax eM, (a3 g ax).2⟩⟩
 ·obtain ⟨_, hV⟩ := DL a x aI;obtain ⟨_, cV⟩ := DL b y ab;exact h2.apart a b x y hV cV ln g ax eM
 ·obtain ⟨x', kY⟩ := fQ k x ae;refine ⟨x', ?_⟩;unfold oV;rw [if_neg (fun e => by subst e; rw [aJ] at ae; cases ae)];exact kY
 ·rcases ab with ab | ab
  ·exact j0 b ab
  ·rcases qg b (.inr ⟨i, q, hi, ab⟩) with aW | aW
   ·exact .inr (.inr aW)
   ·exact .inr (.inl aW)
 ·refine qg b ?_;rcases ab with ⟨k, cs, ae, e⟩ | ⟨k, x, ae, ax⟩
  ·exact .inl ⟨k, cs, ae, e⟩
  ·exact .inr ⟨k, x, (DL k x ae).2, ax⟩
theorem AC.qK (x : AC) : x.bc (fun j => j) = x := by cases x <;> rfl
theorem AC.RB (xs : List AC) : xs.map (AC.bc fun j => j) = xs := by
 conv => rhs; rw [← List.map_id xs]
 exact oD fun x _ => AC.qK x
theorem bK.qK (x : bK) : x.bc (fun j => j) = x := by
 cases x with
 | one x => show bK.one (x.bc _) = _; rw [AC.qK]
 | agg xs => show bK.agg (xs.map _) = _; rw [AC.RB]
theorem ai.qK (x : ai) : x.bc (fun j => j) = x := by
 cases x with
 | w x => show ai.w (x.bc _) = _; rw [bK.qK]
 | dd xs =>
  show ai.dd (xs.map _) = _;congr 1
  conv => rhs; rw [← List.map_id xs]
  exact oD fun x _ => bK.qK x
theorem Mem.qK (m : Mem) : Mem.bc (fun j => j) m = m := by
 funext k;show (m k).map _ = m k;cases m k with
 | none => rfl
 | some cs => show some (cs.map _) = _; rw [AC.RB]
theorem dk.rn {cb : Nat → Nat} (ga : ∀ j, cb (cb j) = j) (h : dk P f args m0 R0 Post) : dk P f args m0 (R0.bc cb) fun ck aK aC => ∃ bl, Post ck aK bl ∧ aC = bl.bc cb := by
 have h1 := h.bc (bM := fun j => j) (fun _ => rfl) (cb := cb) (iE := cb) ga ga
 rw [show args.map (ai.bc fun j => j) = args from by
  conv => rhs; rw [← List.map_id args]
  exact oD fun x _ => ai.qK x, Mem.qK] at h1
 refine ⟨fun U ad W vs cA ez dX => (h1.call U ad W vs cA ez dX).mono ?_⟩;rintro dl bn ⟨v, r, aK, aC, bg, cK, db, ⟨cN, m1, bl, an, rfl, rfl, rfl⟩, mB⟩;rw [ai.qK, Mem.qK] at mB;exact ⟨v, cN, m1, bl.bc cb, bg, cK, db, ⟨bl, an, rfl⟩, mB⟩
theorem dk.imp (h : dk P f args m0 R0 Post) (hp : ∀ ck aK aC, Post ck aK aC → Post2 ck aK aC) : dk P f args m0 R0 Post2 :=
 ⟨fun U ad W vs cA ez dX => (h.call U ad W vs cA ez dX).mono (by
  rintro dl bn ⟨v, r, aK, aC, bg, cK, db, h1, mB⟩;exact ⟨v, r, aK, aC, bg, cK, db, hp _ _ _ h1, mB⟩)⟩
end
end Go.Proofs.YtpochbhajmbfdaaGreat
namespace Go.Proofs.YtpochbhajmbfdaaGreat
open Go.ChangeShapes Go.WideShapes Go.ChangeAt Go.RowKit Go.Joins
def sB (L : List (List Int)) : List AC := L.flatten.map fun x => .c (.int .i64 x)
theorem VW {W : World} {b : Addr} {v : Value} (h : W.cell? b = some v) : b.block < W.heap.size := by
 unfold World.cell? at h
 split at h
 ·rename_i aW; exact (k4.1 aW).1
 ·cases h
theorem M9 {W : World} {a : Addr} {z : Nat} : ∀ (L : List (List Int)) (k : Nat), (∀ (i : Nat) (x : List Int), L[i]? = some x → x.length = z ∧ ∀ (o : Nat) (y : Int), x[o]? = some y → W.cell? (a.add ((k + i) * z + o)) = some (.int .i64 y)) →
  ∀ (j : Nat) (u : Int), L.flatten[j]? = some u → W.cell? (a.add (k * z + j)) = some (.int .i64 u)
 | [], k, h, j, u, hu => by simp at hu
 | x :: L, k, h, j, u, hu => by
  obtain ⟨ap, aa⟩ := h 0 x rfl;rw [List.flatten_cons] at hu;rcases jt j x.length with af | af
  ·rw [gG af] at hu;have := aa j u hu;rwa [Nat.add_zero] at this
  ·rw [gf af] at hu
   have := M9 L (k + 1) (fun i y ag => by
    have := h (i + 1) y (by simpa using ag);rw [show k + (i + 1) = k + 1 + i by omega] at this;exact this) (j - x.length) u hu
   rw [show (k + 1) * z + (j - x.length) = k * z + j by rw [kB, Nat.one_mul]; omega] at this;exact this
theorem adu {H : Type} {enc : TypeId × Value → H} {P : Program} {W : World} {t e : TypeId} (z : Nat) (aF : P.underlying t = some (.slice e)) (ce : P.cellsOf e = z)
  (zY : ∀ (n : Nat) (cs : List Value) d, DataW.trod enc P W 0 (fun _ => true) true n e cs = some d → ∃ xs : List Int, cs = xs.map (Value.int .i64))
  {v : Value} {d : DataW H} {p : List MemPlace} (hv : ∃ a len cap, v = .slice a len cap) (aJ : DataW.Trod enc P W 0 (fun _ => true) true t v d p) (a6 : 0 < z) :
  ∃ L : List (List Int), (L.length : Int) ≤ 9223372036854775807 ∧ (∀ x ∈ L, x.length = z) ∧ dn (fun _ => True) id W (cT z L.length (sB L)) v := by
 obtain ⟨a0, s0, ahU, rfl⟩ := hv;obtain ⟨fz, aw⟩ := aJ;rcases Go.Deep.open_slice aF aw with ⟨eL, aa⟩ | ⟨a, len, cap, m, n, D, ahB, eL, ab, ap, hm, uz, aa, hi⟩
 ·simp [Value.cells] at eL;obtain ⟨rfl, rfl, rfl⟩ := eL;exact ⟨[], by decide, fun x aa => (by cases aa), ⟨none, 0, rfl, eb _, by simp [sB], fun h => absurd h (Nat.lt_irrefl _)⟩, fun _ _ => trivial⟩
 ·simp [Value.cells] at eL;obtain ⟨rfl, rfl, rfl⟩ := eL;simp only [if_true] at uz;subst uz;rw [ce] at hi
  have each : ∀ i, i < m → ∃ q : List Int, q.length = z ∧ ∀ (o : Nat) (y : Int), q[o]? = some y → W.cell? (a.add (i * z + o)) = some (.int .i64 y) := fun i h => by
   obtain ⟨au, h1, h2⟩ := hi i h;obtain ⟨_, hlen, oa⟩ := World.cells?_some h1;obtain ⟨xs, rfl⟩ := zY _ _ _ h2;refine ⟨xs, by simpa using hlen, fun o y ag => ?_⟩
   have aB : o < z := by
    have := (bP.1 ag).1;simp at hlen; omega
   have := oa o aB;rw [Go.Deep.add_add, eG, ag] at this;exact this
  obtain ⟨q, an⟩ := Go.Deep.choose_lt each
  have di : ∀ (i : Nat) (x : List Int), ((List.range s0).map q)[i]? = some x → x.length = z ∧ ∀ (o : Nat) (y : Int), x[o]? = some y → W.cell? (a.add ((0 + i) * z + o)) = some (.int .i64 y) := by
   intro i x aa;rw [eG] at aa;cases al : (List.range s0)[i]? with
   | none => rw [al] at aa; cases aa
   | some j =>
    rw [al] at aa;cases aa;obtain ⟨ao, aH⟩ := bP.1 al;simp at ao aH;subst aH;rw [ju];exact an i (by omega)
  have fq := M9 ((List.range s0).map q) 0 di
  have Ab : ∀ x ∈ (List.range s0).map q, x.length = z := fun x aa => by
   obtain ⟨i, c3⟩ := kA aa;exact (di i x c3).1
  have xY : ∀ L : List (List Int), (∀ x ∈ L, x.length = z) → L.flatten.length = L.length * z := by
   intro L
   induction L with
   | nil => intro _; simp
   | cons x L bW =>
    intro h;rw [List.flatten_cons, cX, bW (fun y ag => h y (by simp [ag])), h x (by simp), lB, kB];omega
  refine ⟨(List.range s0).map q, by simp; unfold maxLen at hm; omega, Ab, ?_⟩;refine ⟨⟨some a, m, by simp, by simpa using ap, by rw [sB, jK, xY _ Ab], fun aD => ⟨a, ((List.range s0).map q).flatten.map fun x => Value.int .i64 x, rfl, ?_, ⟨by rw [sB, jK, jK], fun i x u aa hu => ?_⟩, fun j u hu => ?_, fun y ag => ?_⟩⟩, fun _ _ => trivial⟩
  ·have qn : 0 < s0 := by simpa using aD
   obtain ⟨h1, h2⟩ := an 0 (by omega);have := VW (h2 0 _ (cj (by omega)));rwa [block_add] at this
  ·unfold sB at aa;rw [eG] at aa hu;cases al : ((List.range s0).map q).flatten[i]? with
   | none => rw [al] at aa; cases aa
   | some y =>
    rw [al] at aa hu;cases aa; cases hu;exact ⟨rfl, rfl⟩
  ·rw [eG] at hu;cases al : ((List.range s0).map q).flatten[j]? with
   | none => rw [al] at hu; cases hu
   | some y =>
    rw [al] at hu;cases hu;have := fq j y al;rwa [Nat.zero_mul, ju] at this
  ·unfold sB at ag;obtain ⟨x, _, rfl⟩ := iW.1 ag;rfl
theorem Hb {H : Type} {enc : TypeId × Value → H} {P : Program} {W : World} {e : TypeId} (hK : P.underlying e = some (.int .i64)) {n : Nat} {cs : List Value} {d : DataW H × List MemPlace} (h : DataW.trod enc P W 0 (fun _ => true) true n e cs = some d) (ap : cs.length = 1) : ∃ x : Int, cs = [.int .i64 x] := by
 match cs, ap with
 | [v], _ =>
  obtain ⟨x, aa, _⟩ := DataW.trod_int hK h;simp at aa;exact ⟨x, by rw [aa]⟩
theorem ML {H : Type} {enc : TypeId × Value → H} {P : Program} {W : World} {e : TypeId} {f0 f1 : Field} (he : P.underlying e = some (.struct #[f0, f1])) (ce : P.cellsOf e = 2) (EZ : f0.offset = 0) (o1 : f1.offset = 1) (lO : P.cellsOf f0.type = 1) (c1 : P.cellsOf f1.type = 1) (hK : P.underlying f0.type = some (.int .i64)) (bC : P.underlying f1.type = some (.int .i64))
  {n : Nat} {cs : List Value} {d : DataW H × List MemPlace} (h : DataW.trod enc P W 0 (fun _ => true) true n e cs = some d) : ∃ x y : Int, cs = [.int .i64 x, .int .i64 y] := by
 obtain ⟨xs, k, _, _, cW, o8, aw⟩ := DataW.trod_struct he h;rw [ce] at cW
 match cs, cW, xs, o8 with
 | [u, v], _, [d0, d1], _ =>
  have g0 := aw 0 f0 rfl;have g1 := aw 1 f1 rfl;simp [EZ, o1, lO, c1] at g0 g1;obtain ⟨x, aa⟩ := Hb hK g0 rfl;obtain ⟨y, ag⟩ := Hb bC g1 rfl;cases aa; cases ag;exact ⟨x, y, rfl⟩
end Go.Proofs.YtpochbhajmbfdaaGreat
