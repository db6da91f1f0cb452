/-
  My own texts, without what this claim does not need. My own text.
-/
import Derived.Test.YtlfkllmnekdghaaProg
import Derived.ProofKit
import Derived.OpenShut
import Derived.Deep.DeepHandedRow
import Derived.Lib.LaidTab
import Derived.Lib.SmallJoins
import Derived.Test.YtlfkllmnekdghaaInpSamK3
namespace Go.Proofs.Ytlfkllmnekdghaa
set_option linter.unusedVariables false
set_option linter.unusedSimpArgs false
/-! of one edge: its two points as seen from the place -/
def dtR (u1 u2 v1 v2 : Int) : Int := u1 * v2 - u2 * v1
def onR (u1 u2 v1 v2 : Int) : Bool := decide (dtR u1 u2 v1 v2 = 0) && (decide (u1 ≤ 0) && decide (0 ≤ v1) || decide (v1 ≤ 0) && decide (0 ≤ u1)) && (decide (u2 ≤ 0) && decide (0 ≤ v2) || decide (v2 ≤ 0) && decide (0 ≤ u2))
/-- by a ray upwards. -/
def cuR (u1 u2 v1 v2 : Int) : Int := if 0 < u1 ∧ v1 ≤ 0 ∧ 0 < dtR u1 u2 v1 v2 then 1 else if 0 < v1 ∧ u1 ≤ 0 ∧ dtR u1 u2 v1 v2 < 0 then -1 else 0
/-- by a ray to the right. -/
def crR (u1 u2 v1 v2 : Int) : Int := if u2 ≤ 0 ∧ 0 < v2 ∧ 0 < dtR u1 u2 v1 v2 then 1 else if v2 ≤ 0 ∧ 0 < u2 ∧ dtR u1 u2 v1 v2 < 0 then -1 else 0
/-- the same, that takes the other end. -/
def crR' (u1 u2 v1 v2 : Int) : Int := if u2 < 0 ∧ 0 ≤ v2 ∧ 0 < dtR u1 u2 v1 v2 then 1 else if v2 < 0 ∧ 0 ≤ u2 ∧ dtR u1 u2 v1 v2 < 0 then -1 else 0
def q1R (w1 w2 : Int) : Int := if 0 < w1 ∧ 0 < w2 then 1 else 0
def q1R' (w1 w2 : Int) : Int := if 0 < w1 ∧ 0 ≤ w2 then 1 else 0
theorem mul_sg (a b : Int) : ((0 < a ∧ 0 < b → 0 < a * b) ∧ (a < 0 ∧ b < 0 → 0 < a * b) ∧ (0 < a ∧ b < 0 → a * b < 0) ∧ (a < 0 ∧ 0 < b → a * b < 0) ∧ (a = 0 ∨ b = 0 → a * b = 0)) :=
  ⟨fun h => Int.mul_pos h.1 h.2, fun h => Int.mul_pos_of_neg_of_neg h.1 h.2, fun h => Int.mul_neg_of_pos_of_neg h.1 h.2, fun h => Int.mul_neg_of_neg_of_pos h.1 h.2, fun h => by rcases h with rfl | rfl <;> simp⟩
theorem crR_cuR {u1 u2 v1 v2 : Int} (h : onR u1 u2 v1 v2 = false) : crR u1 u2 v1 v2 - cuR u1 u2 v1 v2 = q1R v1 v2 - q1R u1 u2 := by
  unfold onR at h
  unfold crR cuR q1R
  unfold dtR at *
  obtain ⟨a1, a2, a3, a4, a5⟩ := mul_sg u1 v2
  obtain ⟨b1, b2, b3, b4, b5⟩ := mul_sg u2 v1
  generalize u1 * v2 = p at *
  generalize u2 * v1 = q at *
  simp only [Bool.and_eq_false_iff, Bool.or_eq_false_iff, decide_eq_false_iff_not] at h
  repeat' split
  all_goals omega
/-! of a ring's edges -/
abbrev Pt := Int × Int
def edgM (l : List Pt) : List (Pt × Pt) := l.zip (l.drop 1 ++ l.take 1)
def relR (f : Int → Int → Int → Int → Int) (x y : Int) (e : Pt × Pt) : Int := f (2 * e.1.1 - x) (2 * e.1.2 - y) (2 * e.2.1 - x) (2 * e.2.2 - y)
def relB (f : Int → Int → Int → Int → Bool) (x y : Int) (e : Pt × Pt) : Bool := f (2 * e.1.1 - x) (2 * e.1.2 - y) (2 * e.2.1 - x) (2 * e.2.2 - y)
def wndE (f : Int → Int → Int → Int → Int) (x y : Int) (E : List (Pt × Pt)) : Int := (E.map (relR f x y)).sum
def anyE (x y : Int) (E : List (Pt × Pt)) : Bool := E.any (relB onR x y)
theorem wndE_app {f : Int → Int → Int → Int → Int} {x y : Int} {E F : List (Pt × Pt)} : wndE f x y (E ++ F) = wndE f x y E + wndE f x y F := by simp [wndE]
theorem anyE_app {x y : Int} {E F : List (Pt × Pt)} : anyE x y (E ++ F) = (anyE x y E || anyE x y F) := by simp [anyE]
theorem sum_sub (g h : Pt × Pt → Int) : ∀ (E : List (Pt × Pt)), (E.map fun e => g e - h e).sum = (E.map g).sum - (E.map h).sum
  | [] => rfl
  | e :: E => by simp only [List.map_cons, List.sum_cons, sum_sub g h E]; omega
theorem sum_perm {l l' : List Int} (h : l.Perm l') : l.sum = l'.sum := by
  induction h with
  | nil => rfl
  | cons x _ ih => simp only [List.sum_cons, ih]
  | swap x y l => simp only [List.sum_cons]; omega
  | trans _ _ h1 h2 => exact h1.trans h2
/-- what turns by a difference of the points' own numbers turns to nothing along a ring. -/
theorem tele (g : Pt → Int) (l : List Pt) : ((edgM l).map fun e => g e.2 - g e.1).sum = 0 := by
  rw [sum_sub]
  have hl : l.length = (l.drop 1 ++ l.take 1).length := by simp only [List.length_append, List.length_drop, List.length_take]; omega
  have h1 : (edgM l).map (fun e => g e.1) = l.map g := by
    unfold edgM
    rw [show (fun e : Pt × Pt => g e.1) = g ∘ Prod.fst from rfl, ← List.map_map, List.map_fst_zip (by omega)]
  have h2 : (edgM l).map (fun e => g e.2) = (l.drop 1 ++ l.take 1).map g := by
    unfold edgM
    rw [show (fun e : Pt × Pt => g e.2) = g ∘ Prod.snd from rfl, ← List.map_map, List.map_snd_zip (by omega)]
  have h3 : ((l.drop 1 ++ l.take 1).map g).sum = (l.map g).sum := by
    have : (l.drop 1 ++ l.take 1).Perm l := (List.perm_append_comm).trans (by rw [List.take_append_drop])
    exact sum_perm (this.map g)
  rw [h1, h2, h3]; omega
theorem wnd_same {f f' : Int → Int → Int → Int → Int} {g : Int → Int → Int} (hf : ∀ u1 u2 v1 v2, onR u1 u2 v1 v2 = false → f u1 u2 v1 v2 - f' u1 u2 v1 v2 = g v1 v2 - g u1 u2) {x y : Int} {l : List Pt} (h : anyE x y (edgM l) = false) : wndE f x y (edgM l) = wndE f' x y (edgM l) := by
  have h1 := tele (fun p => g (2 * p.1 - x) (2 * p.2 - y)) l
  have h2 : (edgM l).map (fun e => relR f x y e - relR f' x y e) = (edgM l).map fun e => g (2 * e.2.1 - x) (2 * e.2.2 - y) - g (2 * e.1.1 - x) (2 * e.1.2 - y) := by
    refine List.map_congr_left fun e he => hf _ _ _ _ ?_
    have := List.any_eq_false.1 h e he
    cases hb : onR (2 * e.1.1 - x) (2 * e.1.2 - y) (2 * e.2.1 - x) (2 * e.2.2 - y) with
    | false => rfl
    | true => exact absurd hb this
  have h3 := sum_sub (relR f x y) (relR f' x y) (edgM l)
  rw [h2] at h3
  unfold wndE
  omega
theorem wnd_rings {f f' : Int → Int → Int → Int → Int} {g : Int → Int → Int} (hf : ∀ u1 u2 v1 v2, onR u1 u2 v1 v2 = false → f u1 u2 v1 v2 - f' u1 u2 v1 v2 = g v1 v2 - g u1 u2) {x y : Int} : ∀ {L : List (List Pt)}, anyE x y (L.flatMap edgM) = false → wndE f x y (L.flatMap edgM) = wndE f' x y (L.flatMap edgM)
  | [], _ => rfl
  | l :: L, h => by
    rw [List.flatMap_cons, anyE_app, Bool.or_eq_false_iff] at h
    rw [List.flatMap_cons, wndE_app, wndE_app, wnd_same hf h.1, wnd_rings hf h.2]
/-! begun elsewhere; the other way round; moved -/
def peM : List Pt → List (Pt × Pt)
  | a :: b :: r => (a, b) :: peM (b :: r)
  | _ => []
def mvP (d : Pt) (p : Pt) : Pt := (p.1 + d.1, p.2 + d.2)
/-! the place goes round, on it or not -/
def wndV (x y : Int) (E : List (Pt × Pt)) : Int × Bool := if anyE x y E = true then (0, true) else (wndE cuR x y E, false)
end Go.Proofs.Ytlfkllmnekdghaa

namespace Go.Proofs.Ytlfkllmnekdghaa
open Go.RowKit
set_option linter.unusedVariables false
set_option linter.unusedSimpArgs false
/-- a ring's points, as cells. -/
def ptC (p : Int × Int) : List AC := [.c (.int .i64 p.1), .c (.int .i64 p.2)]
def ringC (l : List (Int × Int)) : List AC := l.flatMap ptC
def ringA (l : List (Int × Int)) : AC := .p (SlP 2 l.length (ringC l))
def ringsA (L : List (List (Int × Int))) : AC := .p (SlP 1 L.length (L.map ringA))
def edgsM (L : List (List (Int × Int))) : List ((Int × Int) × (Int × Int)) := L.flatMap edgM
def vEd (e : (Int × Int) × (Int × Int)) : List AV := [.w (.agg (ptC e.1)), .w (.agg (ptC e.2))]
def preN (L : List (List (Int × Int))) (k : Nat) : Nat := (edgsM (L.take k)).length
theorem edgM_len (l : List (Int × Int)) : (edgM l).length = l.length := by
  simp only [edgM, List.length_zip, List.length_append, List.length_drop, List.length_take]; omega
theorem edgM_at {l : List (Int × Int)} {i : Nat} {p q : Int × Int} (hp : l[i]? = some p) (hq : (if i + 1 < l.length then l[i + 1]? else l[0]?) = some q) : (edgM l)[i]? = some (p, q) := by
  have hi := (List.getElem?_eq_some_iff.1 hp).1
  simp only [edgM, List.getElem?_zip_eq_some]
  refine ⟨hp, ?_⟩
  by_cases h : i + 1 < l.length
  · rw [if_pos h] at hq
    rw [List.getElem?_append_left (by simp; omega), List.getElem?_drop, Nat.add_comm 1 i]; exact hq
  · rw [if_neg h] at hq
    rw [List.getElem?_append_right (by simp; omega), List.length_drop, show i - (l.length - 1) = 0 by omega, List.getElem?_take_of_lt (by omega)]; exact hq
theorem preN_succ {L : List (List (Int × Int))} {k : Nat} {r : List (Int × Int)} (h : L[k]? = some r) : preN L (k + 1) = preN L k + r.length := by
  have hk := (List.getElem?_eq_some_iff.1 h).1
  have : L.take (k + 1) = L.take k ++ [r] := by rw [List.take_succ_eq_append_getElem hk, (List.getElem?_eq_some_iff.1 h).2]
  simp only [preN, edgsM, this, List.flatMap_append, List.length_append, List.flatMap_cons, List.flatMap_nil, List.append_nil, edgM_len]
theorem edgsM_at {L : List (List (Int × Int))} {k i : Nat} {r : List (Int × Int)} (h : L[k]? = some r) (hi : i < r.length) : (edgsM L)[preN L k + i]? = (edgM r)[i]? := by
  have hk := (List.getElem?_eq_some_iff.1 h).1
  have e : edgsM L = edgsM (L.take k) ++ (edgM r ++ edgsM (L.drop (k + 1))) := by
    conv => lhs; rw [← List.take_append_drop k L, List.drop_eq_getElem_cons hk, (List.getElem?_eq_some_iff.1 h).2]
    simp only [edgsM, List.flatMap_append, List.flatMap_cons]
  rw [e, List.getElem?_append_right (by unfold preN; omega), show preN L k + i - (edgsM (L.take k)).length = i by unfold preN; omega, List.getElem?_append_left (by rw [edgM_len]; exact hi)]
theorem ringC_at {l : List (Int × Int)} {i : Nat} {ii : Int} {x y : Int} (hi : ii = i) (h : l[i]? = some (x, y)) : ((ringC l).drop (ii.toNat * 2)).take 2 = [.c (.int .i64 x), .c (.int .i64 y)] := by
  subst hi
  rw [Int.toNat_natCast]
  induction l generalizing i with
  | nil => simp at h
  | cons p l ih =>
    cases i with
    | zero => simp at h; subst h; rfl
    | succ i =>
      have := ih (i := i) (by simpa using h)
      rw [← this, Nat.succ_mul]
      show ((ptC p ++ ringC l).drop (i * 2 + 2)).take 2 = _
      rw [show ptC p ++ ringC l = AC.c (.int .i64 p.1) :: AC.c (.int .i64 p.2) :: ringC l from rfl]
      rfl
theorem ringsC_at {L : List (List (Int × Int))} {i : Nat} {ii : Int} {r : List (Int × Int)} (hi : ii = i) (h : L[i]? = some r) : ((L.map ringA).drop (ii.toNat * 1)).take 1 = [ringA r] := by
  subst hi
  rw [Int.toNat_natCast, Nat.mul_one]
  have hk := (List.getElem?_eq_some_iff.1 h).1
  rw [List.drop_eq_getElem_cons (by simpa using hk)]
  simp [(List.getElem?_eq_some_iff.1 h).2]
abbrev vOw11 (k : Nat) : AV := .w (.one (.own k 0))
def edC (x : Int × ((Int × Int) × (Int × Int))) : List AC := [.c (.int .i64 x.2.1.1), .c (.int .i64 x.2.1.2), .c (.int .i64 x.2.2.1), .c (.int .i64 x.2.2.2), .c (.int .i64 x.1)]
def edsC (l : List (Int × ((Int × Int) × (Int × Int)))) : List AC := l.flatMap edC
theorem take_one {α : Type} {l : List α} {i : Nat} {x : α} (h : l[i]? = some x) : l.take (i + 1) = l.take i ++ [x] := by
  rw [List.take_succ_eq_append_getElem (List.getElem?_eq_some_iff.1 h).1, (List.getElem?_eq_some_iff.1 h).2]
def jobC (A B : List (List (Int × Int))) (op fill rung cap : Int) : List AC := [ringsA A, ringsA B, .c (.int .i64 op), .c (.int .i64 fill), .c (.int .i64 rung), .c (.int .i64 cap)]
theorem plainR1 {i : Nat} {r : HRow} (h : 0 < r.sz) : PlainR (row1 i r) := fun j q hj => by
  by_cases e : j = i
  · subst e; rw [row1, upd_same] at hj; cases hj; exact h
  · rw [row1, upd_ne _ _ e] at hj; cases hj
end Go.Proofs.Ytlfkllmnekdghaa

namespace Go.Proofs.Ytlfkllmnekdghaa
open Go.RowKit
set_option linter.unusedVariables false
set_option linter.unusedSimpArgs false
/-- is a number not too far? -/
def fB (n : Int) : Bool := decide (-536870912 ≤ n) && decide (n ≤ 536870912)
theorem fB_iff {n : Int} : fB n = true ↔ -536870912 ≤ n ∧ n ≤ 536870912 := by unfold fB; rw [Bool.and_eq_true, decide_eq_true_eq, decide_eq_true_eq]
def rB (x y : Int) : Bool := fB x && fB y
theorem rB_iff {x y : Int} : rB x y = true ↔ (-536870912 ≤ x ∧ x ≤ 536870912) ∧ -536870912 ≤ y ∧ y ≤ 536870912 := by unfold rB; rw [Bool.and_eq_true, fB_iff, fB_iff]
set_option maxRecDepth 100000 in
set_option maxHeartbeats 4000000 in
theorem p_far {n : Int} {b : Bool} (hb : fB n = b) : PCall Try.prog 54 [vI n] (vB b) := by
  have cs : (-536870912 ≤ n ∧ n ≤ 536870912 ∧ b = true) ∨ (-536870912 ≤ n ∧ ¬ n ≤ 536870912 ∧ b = false) ∨ (¬ -536870912 ≤ n ∧ b = false) := by
    rw [← hb]; unfold fB
    by_cases h1 : -536870912 ≤ n <;> by_cases h2 : n ≤ 536870912 <;> simp [h1, h2]
  clear hb
  rcases cs with ⟨h1, h2, rfl⟩ | ⟨h1, h2, rfl⟩ | ⟨h1, rfl⟩
  all_goals
    refine pcall_body (f := 54) Try.func54 rfl rfl rfl rfl ?_
    (repeat (first | ((with_reducible apply al_q); exact rfl) | ((with_reducible apply al_guard_b (c := true)); exact rfl; exact rfl; (first | assumption | exact decide_eq_true (by omega) | (simp only [Bool.not_eq_true', decide_eq_false_iff_not, decide_eq_true_eq, Bool.not_eq_false']; (first | done | omega)))) | ((with_reducible apply al_guard_b (c := false)); exact rfl; exact rfl; (first | assumption | exact decide_eq_false (by omega) | (simp only [Bool.not_eq_true', decide_eq_false_iff_not, decide_eq_true_eq, Bool.not_eq_false']; (first | done | omega)))) | ((with_reducible apply awp_seq)) | ((with_reducible apply athen_normal)) | ((with_reducible apply awp_region)) | ((with_reducible apply al_nil)) | ((with_reducible apply awp_ret))))
    (first | (refine apost_ret rfl (resl_tmp rfl resl_nil) ?_))
    first | exact AV.Le.refl _ | exact AV.Le.of_eq (by rw [decide_eq_true h2]; rfl) | exact AV.Le.of_eq (by rw [decide_eq_false h2]; rfl)
set_option maxRecDepth 100000 in
set_option maxHeartbeats 4000000 in
theorem p_pRight {x y : Int} {b : Bool} (hb : rB x y = b) : PCall Try.prog 36 [vP x y] (vB b) := by
  have C1 := p_far (n := x) rfl
  have C2 := p_far (n := y) rfl
  unfold rB at hb
  cases q1 : fB x <;> cases q2 : fB y <;> rw [q1] at C1 <;> rw [q2] at C2 <;> rw [q1, q2] at hb <;> subst hb <;> clear q1 q2
  all_goals
    refine pcall_body (f := 36) Try.func36 rfl rfl rfl rfl ?_
    (repeat (first | ((with_reducible apply al_q); exact rfl) | (refine al_call1 rfl rfl rfl (by (first | exact C1 | exact C2)) rfl ?_) | ((with_reducible apply awp_seq)) | ((with_reducible apply athen_normal)) | ((with_reducible apply awp_region)) | ((with_reducible apply al_nil)) | ((with_reducible apply awp_ret))))
    (first | (refine apost_ret rfl (resl_tmp rfl resl_nil) ?_))
    exact AV.Le.refl _
/-- the product of three points. -/
def cr (o1 o2 a1 a2 b1 b2 : Int) : Int := (a1 - o1) * (b2 - o2) - (a2 - o2) * (b1 - o1)
theorem mul_bd {x y A B : Int} (h1 : -A ≤ x) (h2 : x ≤ A) (h3 : -B ≤ y) (h4 : y ≤ B) : -(A * B) ≤ x * y ∧ x * y ≤ A * B := by
  have hx : x.natAbs ≤ A.natAbs := by omega
  have hy : y.natAbs ≤ B.natAbs := by omega
  have h := Nat.mul_le_mul hx hy
  rw [← Int.natAbs_mul, ← Int.natAbs_mul] at h
  have hA : 0 ≤ A * B := Int.mul_nonneg (by omega) (by omega)
  omega
theorem mul60 {x y : Int} (h1 : -1073741824 ≤ x) (h2 : x ≤ 1073741824) (h3 : -1073741824 ≤ y) (h4 : y ≤ 1073741824) : -1152921504606846976 ≤ x * y ∧ x * y ≤ 1152921504606846976 := by
  have := mul_bd h1 h2 h3 h4
  omega
set_option maxRecDepth 100000 in
set_option maxHeartbeats 4000000 in
theorem p_Cross_yes {o1 o2 a1 a2 b1 b2 : Int} (ho : rB o1 o2 = true) (ha : rB a1 a2 = true) (hb : rB b1 b2 = true) : PCall Try.prog 62 [vP o1 o2, vP a1 a2, vP b1 b2] (vI (cr o1 o2 a1 a2 b1 b2)) := by
  have R1 := p_pRight ho
  have R2 := p_pRight ha
  have R3 := p_pRight hb
  rw [rB_iff] at ho ha hb
  have m1 := mul60 (x := a1 - o1) (y := b2 - o2) (by omega) (by omega) (by omega) (by omega)
  have m2 := mul60 (x := a2 - o2) (y := b1 - o1) (by omega) (by omega) (by omega) (by omega)
  refine pcall_body (f := 62) Try.func62 rfl rfl rfl rfl ?_
  (repeat (first | ((with_reducible apply al_q); exact rfl) | ((with_reducible apply al_sub); (iterate 3 exact rfl); (first | exact i64_wrap (by omega) | assumption | rfl); exact rfl) | ((with_reducible apply al_mul); (iterate 3 exact rfl); (first | exact i64_wrap (by omega) | assumption | rfl); exact rfl) | (refine al_call1 rfl rfl rfl (by (first | exact R1 | exact R2 | exact R3)) rfl ?_) | ((with_reducible apply awp_seq)) | ((with_reducible apply athen_normal)) | ((with_reducible apply awp_region)) | ((with_reducible apply al_nil)) | ((with_reducible apply awp_ret)) | ((with_reducible apply awp_skip)) | ((with_reducible apply awp_cond_f); exact rfl)))
  (first | (refine apost_ret rfl (resl_tmp rfl resl_nil) ?_))
  exact AV.Le.refl _
set_option maxRecDepth 100000 in
set_option maxHeartbeats 4000000 in
theorem p_Cross_no {o1 o2 a1 a2 b1 b2 : Int} (h : (rB o1 o2 && rB a1 a2 && rB b1 b2) = false) : PCall Try.prog 62 [vP o1 o2, vP a1 a2, vP b1 b2] (vI 0) := by
  have R1 := p_pRight (x := o1) (y := o2) rfl
  have R2 := p_pRight (x := a1) (y := a2) rfl
  have R3 := p_pRight (x := b1) (y := b2) rfl
  have cs : rB o1 o2 = false ∨ (rB o1 o2 = true ∧ rB a1 a2 = false) ∨ (rB o1 o2 = true ∧ rB a1 a2 = true ∧ rB b1 b2 = false) := by
    generalize rB o1 o2 = p at *
    generalize rB a1 a2 = q at *
    generalize rB b1 b2 = r at *
    cases p <;> cases q <;> cases r <;> simp_all
  clear h
  rcases cs with h1 | ⟨h1, h2⟩ | ⟨h1, h2, h3⟩ <;> simp only [*] at R1 R2 R3
  all_goals
    refine pcall_body (f := 62) Try.func62 rfl rfl rfl rfl ?_
    (repeat (first | ((with_reducible apply al_q); exact rfl) | (refine al_call1 rfl rfl rfl (by (first | exact R1 | exact R2 | exact R3)) rfl ?_) | ((with_reducible apply awp_seq)) | ((with_reducible apply athen_normal)) | ((with_reducible apply awp_region)) | ((with_reducible apply al_nil)) | ((with_reducible apply awp_ret)) | ((with_reducible apply athen_ret)) | ((with_reducible apply awp_cond_t); exact rfl)))
    (first | (refine apost_ret rfl (resl_tmp rfl resl_nil) ?_))
    exact AV.Le.refl _
/-- the product, or 0, if a point is not right. -/
def crV (o1 o2 a1 a2 b1 b2 : Int) : Int := if (rB o1 o2 && rB a1 a2 && rB b1 b2) = true then cr o1 o2 a1 a2 b1 b2 else 0
theorem p_Cross {o1 o2 a1 a2 b1 b2 : Int} : PCall Try.prog 62 [vP o1 o2, vP a1 a2, vP b1 b2] (vI (crV o1 o2 a1 a2 b1 b2)) := by
  unfold crV
  by_cases h : (rB o1 o2 && rB a1 a2 && rB b1 b2) = true
  · rw [if_pos h]
    simp only [Bool.and_eq_true] at h
    exact p_Cross_yes h.1.1 h.1.2 h.2
  · rw [if_neg h]
    exact p_Cross_no (by simpa using h)
/-- the sign of a number. -/
def sgn4 (n : Int) : Int := if n < 0 then -1 else if 0 < n then 1 else 0
set_option maxRecDepth 100000 in
set_option maxHeartbeats 4000000 in
theorem p_Turn {o1 o2 a1 a2 b1 b2 : Int} : PCall Try.prog 57 [vP o1 o2, vP a1 a2, vP b1 b2] (vI (sgn4 (crV o1 o2 a1 a2 b1 b2))) := by
  have C1 := p_Cross (o1 := o1) (o2 := o2) (a1 := a1) (a2 := a2) (b1 := b1) (b2 := b2)
  generalize crV o1 o2 a1 a2 b1 b2 = c at *
  have cs : (c < 0 ∧ sgn4 c = -1) ∨ (¬ c < 0 ∧ 0 < c ∧ sgn4 c = 1) ∨ (¬ c < 0 ∧ ¬ 0 < c ∧ sgn4 c = 0) := by unfold sgn4; repeat' split <;> omega
  rcases cs with ⟨h1, h⟩ | ⟨h1, h2, h⟩ | ⟨h1, h2, h⟩ <;> rw [h] <;> clear h
  all_goals
    refine pcall_body (f := 57) Try.func57 rfl rfl rfl rfl ?_
    (repeat (first | ((with_reducible apply al_q); exact rfl) | (refine al_call3 rfl rfl rfl rfl rfl (by (first | exact C1)) rfl ?_) | ((with_reducible apply awp_seq)) | ((with_reducible apply athen_normal)) | ((with_reducible apply awp_region)) | ((with_reducible apply al_nil)) | ((with_reducible apply awp_ret)) | ((with_reducible apply awp_skip)) | ((with_reducible apply athen_ret)) | ((with_reducible apply awp_block)) | ((with_reducible apply ablock_normal)) | ((with_reducible apply ablock_ret)) | ((with_reducible apply awp_cond_1); exact rfl; (first | assumption | exact decide_eq_true (by omega) | (simp only [Bool.not_eq_true', decide_eq_false_iff_not, decide_eq_true_eq, Bool.not_eq_false']; (first | done | omega)))) | ((with_reducible apply awp_cond_0); exact rfl; (first | assumption | exact decide_eq_false (by omega) | (simp only [Bool.not_eq_true', decide_eq_false_iff_not, decide_eq_true_eq, Bool.not_eq_false']; (first | done | omega))))))
    (first | (refine apost_ret rfl (resl_tmp rfl resl_nil) ?_))
    exact AV.Le.refl _
/-! boxes -/
abbrev imin (a b : Int) : Int := if b < a then b else a
abbrev imax (a b : Int) : Int := if b > a then b else a
set_option maxRecDepth 100000 in
set_option maxHeartbeats 4000000 in
theorem p_Around {a1 a2 b1 b2 : Int} : PCall Try.prog 56 [vP a1 a2, vP b1 b2] (vBx (imin a1 b1) (imin a2 b2) (imax a1 b1) (imax a2 b2)) := by
  refine pcall_body (f := 56) Try.func56 rfl rfl rfl rfl ?_
  (repeat (first | ((with_reducible apply al_q); exact rfl) | ((with_reducible apply al_min); (iterate 4 exact rfl)) | ((with_reducible apply al_max); (iterate 4 exact rfl)) | ((with_reducible apply awp_seq)) | ((with_reducible apply athen_normal)) | ((with_reducible apply awp_region)) | ((with_reducible apply al_nil)) | ((with_reducible apply awp_ret))))
  (first | (refine apost_ret rfl (resl_agg rfl rfl rfl resl_nil) ?_) | (refine apost_ret rfl (resl_one rfl rfl rfl resl_nil) ?_))
  exact AV.Le.refl _
def hB (l1 l2 h1 h2 p1 p2 : Int) : Bool := decide (l1 ≤ p1) && decide (p1 ≤ h1) && decide (l2 ≤ p2) && decide (p2 ≤ h2)
set_option maxRecDepth 100000 in
set_option maxHeartbeats 4000000 in
theorem p_Holds {l1 l2 h1 h2 p1 p2 : Int} {b : Bool} (hb : hB l1 l2 h1 h2 p1 p2 = b) : PCall Try.prog 55 [vBx l1 l2 h1 h2, vP p1 p2] (vB b) := by
  have cs : (l1 ≤ p1 ∧ p1 ≤ h1 ∧ l2 ≤ p2 ∧ p2 ≤ h2 ∧ b = true) ∨ (l1 ≤ p1 ∧ p1 ≤ h1 ∧ l2 ≤ p2 ∧ ¬ p2 ≤ h2 ∧ b = false) ∨ (l1 ≤ p1 ∧ p1 ≤ h1 ∧ ¬ l2 ≤ p2 ∧ b = false) ∨ (l1 ≤ p1 ∧ ¬ p1 ≤ h1 ∧ b = false) ∨ (¬ l1 ≤ p1 ∧ b = false) := by
    rw [← hb]; unfold hB
    by_cases q1 : l1 ≤ p1 <;> by_cases q2 : p1 ≤ h1 <;> by_cases q3 : l2 ≤ p2 <;> by_cases q4 : p2 ≤ h2 <;> simp [q1, q2, q3, q4]
  clear hb
  rcases cs with ⟨q1, q2, q3, q4, rfl⟩ | ⟨q1, q2, q3, q4, rfl⟩ | ⟨q1, q2, q3, rfl⟩ | ⟨q1, q2, rfl⟩ | ⟨q1, rfl⟩
  all_goals
    refine pcall_body (f := 55) Try.func55 rfl rfl rfl rfl ?_
    (repeat (first | ((with_reducible apply al_q); exact rfl) | ((with_reducible apply al_guard_b (c := true)); exact rfl; exact rfl; (first | assumption | exact decide_eq_true (by omega) | (simp only [Bool.not_eq_true', decide_eq_false_iff_not, decide_eq_true_eq, Bool.not_eq_false']; (first | done | omega)))) | ((with_reducible apply al_guard_b (c := false)); exact rfl; exact rfl; (first | assumption | exact decide_eq_false (by omega) | (simp only [Bool.not_eq_true', decide_eq_false_iff_not, decide_eq_true_eq, Bool.not_eq_false']; (first | done | omega)))) | ((with_reducible apply awp_seq)) | ((with_reducible apply athen_normal)) | ((with_reducible apply awp_region)) | ((with_reducible apply al_nil)) | ((with_reducible apply awp_ret))))
    (first | (refine apost_ret rfl (resl_tmp rfl resl_nil) ?_))
    first | exact AV.Le.refl _ | exact AV.Le.of_eq (by rw [decide_eq_true q4]; rfl) | exact AV.Le.of_eq (by rw [decide_eq_false q4]; rfl)
/-- is p on the segment from a to b? -/
def onB (p1 p2 a1 a2 b1 b2 : Int) : Bool := rB p1 p2 && rB a1 a2 && rB b1 b2 && hB (imin a1 b1) (imin a2 b2) (imax a1 b1) (imax a2 b2) p1 p2 && decide (cr a1 a2 b1 b2 p1 p2 = 0)
theorem sgn4_zero {n : Int} : sgn4 n = 0 ↔ n = 0 := by unfold sgn4; repeat' split <;> omega
set_option maxRecDepth 100000 in
set_option maxHeartbeats 4000000 in
theorem p_On {p1 p2 a1 a2 b1 b2 : Int} {b : Bool} (hb : onB p1 p2 a1 a2 b1 b2 = b) : PCall Try.prog 39 [vP p1 p2, vP a1 a2, vP b1 b2] (vB b) := by
  have R1 := p_pRight (x := p1) (y := p2) rfl
  have R2 := p_pRight (x := a1) (y := a2) rfl
  have R3 := p_pRight (x := b1) (y := b2) rfl
  have H1 := p_Around (a1 := a1) (a2 := a2) (b1 := b1) (b2 := b2)
  have H2 := p_Holds (l1 := imin a1 b1) (l2 := imin a2 b2) (h1 := imax a1 b1) (h2 := imax a2 b2) (p1 := p1) (p2 := p2) rfl
  have T1 := p_Turn (o1 := a1) (o2 := a2) (a1 := b1) (a2 := b2) (b1 := p1) (b2 := p2)
  unfold onB at hb
  have cs : (rB p1 p2 = false ∧ b = false) ∨ (rB p1 p2 = true ∧ rB a1 a2 = false ∧ b = false) ∨ (rB p1 p2 = true ∧ rB a1 a2 = true ∧ rB b1 b2 = false ∧ b = false)
      ∨ (rB p1 p2 = true ∧ rB a1 a2 = true ∧ rB b1 b2 = true ∧ hB (imin a1 b1) (imin a2 b2) (imax a1 b1) (imax a2 b2) p1 p2 = false ∧ b = false)
      ∨ (rB p1 p2 = true ∧ rB a1 a2 = true ∧ rB b1 b2 = true ∧ hB (imin a1 b1) (imin a2 b2) (imax a1 b1) (imax a2 b2) p1 p2 = true ∧ b = decide (sgn4 (crV a1 a2 b1 b2 p1 p2) = 0)) := by
    have e : decide (sgn4 (crV a1 a2 b1 b2 p1 p2) = 0) = decide (crV a1 a2 b1 b2 p1 p2 = 0) := by rw [Bool.eq_iff_iff, decide_eq_true_eq, decide_eq_true_eq, sgn4_zero]
    rw [e]
    unfold crV
    generalize cr a1 a2 b1 b2 p1 p2 = c at *
    generalize rB p1 p2 = x1 at *
    generalize rB a1 a2 = x2 at *
    generalize rB b1 b2 = x3 at *
    generalize hB _ _ _ _ p1 p2 = x4 at *
    cases x1 <;> cases x2 <;> cases x3 <;> cases x4 <;> simp_all
  clear hb
  generalize hB _ _ _ _ p1 p2 = x4 at *
  generalize imin a1 b1 = i1 at *
  generalize imin a2 b2 = i2 at *
  generalize imax a1 b1 = i3 at *
  generalize imax a2 b2 = i4 at *
  generalize sgn4 (crV a1 a2 b1 b2 p1 p2) = t at *
  rcases cs with ⟨h1, rfl⟩ | ⟨h1, h2, rfl⟩ | ⟨h1, h2, h3, rfl⟩ | ⟨h1, h2, h3, rfl, rfl⟩ | ⟨h1, h2, h3, rfl, rfl⟩ <;> simp only [*] at R1 R2 R3
  all_goals
    refine pcall_body (f := 39) Try.func39 rfl rfl rfl rfl ?_
    (repeat (first | ((with_reducible apply al_q); exact rfl) | (refine al_call1 rfl rfl rfl (by (first | exact R1 | exact R2 | exact R3 | exact H1 | exact H2 | exact T1)) rfl ?_) | (refine al_call2 rfl rfl rfl rfl (by (first | exact R1 | exact R2 | exact R3 | exact H1 | exact H2 | exact T1)) rfl ?_) | (refine al_call3 rfl rfl rfl rfl rfl (by (first | exact R1 | exact R2 | exact R3 | exact H1 | exact H2 | exact T1)) rfl ?_) | ((with_reducible apply al_nilS); kernel_rfl) | ((with_reducible apply awp_region_draw); kernel_rfl; kernel_rfl; exact rfl) | ((with_reducible apply awp_seq)) | ((with_reducible apply athen_normal)) | ((with_reducible apply awp_region)) | ((with_reducible apply al_nil)) | ((with_reducible apply awp_ret))))
    (first | (refine apost_ret rfl (resl_tmp rfl resl_nil) ?_))
    exact AV.Le.refl _
end Go.Proofs.Ytlfkllmnekdghaa

namespace Go.Proofs.Ytlfkllmnekdghaa
open Go.RowKit
set_option linter.unusedVariables false
set_option linter.unusedSimpArgs false
theorem p_around11 (L : List (List (Int × Int))) : PCall Try.prog 32 [.w (.one (ringsA L))] (.w (.one (.p (FunP (.func 48) [.p (PtrP [ringsA L])])))) := by
  refine pcall_bodyT (f := 32) Try.func32 rfl rfl rfl rfl ?_
  refine awt_seq (awt_awp ?_)
  (repeat (first | ((with_reducible apply al_q); exact rfl) | ((with_reducible apply athen_normal)) | ((with_reducible apply awp_region)) | ((with_reducible apply al_nil))))
  refine awt_freeze 1 _ rfl rfl ?_
  refine awt_awp ?_
  (repeat (first | ((with_reducible apply al_q); exact rfl) | (refine al_mkfnP (xs := [_]) (cs := [_]) rfl rfl rfl rfl ?_) | ((with_reducible apply awp_seq)) | ((with_reducible apply athen_normal)) | ((with_reducible apply awp_region)) | ((with_reducible apply al_nil)) | ((with_reducible apply awp_ret))))
  (first | (refine apost_ret rfl (resl_tmp rfl resl_nil) ?_))
  exact AV.Le.refl _
abbrev vYd (l : Nat) : AV := vC (.func (.yield l) #[] #[])
def SdI (X : Yx) (L : List (List (Int × Int))) (k : Nat) (g : Option Nat) (ts : List (Nat × AV)) (ms : List (Nat × List AC)) : Prop :=
  ∃ (i : Nat) (ii : Int), i ≤ L.length ∧ k = L.length - i ∧ ii = i ∧ g = some (preN L i) ∧ ms = [] ∧ ts = [(0, vYd X.l), (7, .w (.one (ringsA L))), (8, vI L.length), (9, vI ii)]
def ScI (X : Yx) (L : List (List (Int × Int))) (r : List (Int × Int)) (b : Nat) (oo : Int) (k : Nat) (g : Option Nat) (ts : List (Nat × AV)) (ms : List (Nat × List AC)) : Prop :=
  ∃ (i : Nat) (ii : Int), i ≤ r.length ∧ k = r.length - i ∧ ii = i ∧ g = some (b + i) ∧ ms = [] ∧ ts = [(0, vYd X.l), (4, .w (.one (ringA r))), (7, .w (.one (ringsA L))), (8, vI L.length), (9, vI oo), (13, .w (.one (ringA r))), (14, vI r.length), (15, vI ii)]
theorem next_at {r : List (Int × Int)} {j : Nat} {jj : Int} (hp : j < r.length) (hjj : jj = j) : ∃ x y, (0 ≤ (jj + 1) % (r.length : Int) ∧ (jj + 1) % (r.length : Int) < r.length) ∧ (if j + 1 < r.length then r[j + 1]? else r[0]?) = some (x, y) ∧ ((ringC r).drop (((jj + 1) % (r.length : Int)).toNat * 2)).take 2 = [.c (.int .i64 x), .c (.int .i64 y)] := by
  subst hjj
  by_cases hn : j + 1 < r.length
  · have e : ((j : Int) + 1) % (r.length : Int) = ((j + 1 : Nat) : Int) := by rw [Int.emod_eq_of_lt (by omega) (by omega)]; omega
    obtain ⟨x, y, g⟩ : ∃ x y, r[j + 1]? = some (x, y) := ⟨_, _, List.getElem?_eq_getElem hn⟩
    refine ⟨x, y, by rw [e]; omega, by rw [if_pos hn]; exact g, ringC_at e g⟩
  · have e : ((j : Int) + 1) % (r.length : Int) = ((0 : Nat) : Int) := by
      rw [show (j : Int) + 1 = (r.length : Int) by omega, Int.emod_self]; rfl
    obtain ⟨x, y, g⟩ : ∃ x y, r[0]? = some (x, y) := ⟨_, _, List.getElem?_eq_getElem (by omega)⟩
    refine ⟨x, y, by rw [e]; omega, by rw [if_neg hn]; exact g, ringC_at e g⟩
set_option maxRecDepth 100000 in
set_option maxHeartbeats 8000000 in
theorem iseq_around {L : List (List (Int × Int))} (hL : L.length ≤ 4611686018427387904) (hr : ∀ r ∈ L, r.length ≤ 4611686018427387904) : ISeq Try.prog (FunP (.func 48) [.p (PtrP [ringsA L])]) ((edgsM L).map vEd) := by
  refine iseq_of (gf := 48) Try.func48 rfl (fun args w => enters_run (by kernel_rfl)) (Nat.le_of_ble_eq_true rfl) rfl rfl ?_
  intro X hX hxs
  refine ⟨_, ECs.cons (EC.refl _) ECs.nil, ?_⟩
  (repeat (first | ((with_reducible apply al_q); exact rfl) | ((with_reducible apply al_loadP1); (iterate 5 exact rfl)) | ((with_reducible apply al_len); (iterate 3 exact rfl)) | ((with_reducible apply ywp_seq)) | ((with_reducible apply ythen_normal)) | ((with_reducible apply al_nil)) | ((with_reducible apply ywp_block)) | ((with_reducible apply ywp_region); assumption)))
  refine ywp_loopL 34 (SdI X L) L.length _ [] ⟨0, 0, Nat.zero_le _, rfl, rfl, rfl, rfl, rfl⟩ rfl ⟨rfl, rfl, rfl, rfl, trivial⟩ trivial rfl ?_
  rintro n g ts ms ⟨i, ii, hi, rfl, hii, rfl, rfl, rfl⟩ hok
  clear hok
  by_cases hq : i < L.length
  · have q2 : ii < (L.length : Int) := by omega
    have q3 : 0 ≤ ii := by omega
    obtain ⟨r, hri⟩ : ∃ r, L[i]? = some r := ⟨_, List.getElem?_eq_getElem hq⟩
    have E1 := ringsC_at hii hri
    have hrl := hr r (List.mem_of_getElem? hri)
    (repeat (first | ((with_reducible apply al_q); exact rfl) | ((with_reducible apply al_loadP1); (iterate 5 exact rfl)) | ((with_reducible apply al_idxS); (iterate 3 exact rfl); (first | decide | omega); (first | decide | omega); (first | assumption | rfl); exact rfl) | ((with_reducible apply al_len); (iterate 3 exact rfl)) | ((with_reducible apply ywp_seq)) | ((with_reducible apply ythen_normal)) | ((with_reducible apply al_nil)) | ((with_reducible apply ywp_skip); assumption) | ((with_reducible apply ywp_block)) | ((with_reducible apply ywp_cond_1); exact rfl; (first | assumption | exact decide_eq_true (by omega) | (simp only [Bool.not_eq_true', decide_eq_false_iff_not, decide_eq_true_eq, Bool.not_eq_false']; (first | done | omega)) | exact rfl)) | ((with_reducible apply ywp_region); assumption)))
    refine ywp_loopL 34 (ScI X L r (preN L i) ii) r.length _ [] ⟨0, 0, Nat.zero_le _, rfl, rfl, rfl, rfl, rfl⟩ rfl ⟨rfl, rfl, rfl, rfl, rfl, rfl, rfl, rfl, trivial⟩ trivial rfl ?_
    rintro n g ts ms ⟨j, jj, hj, rfl, hjj, rfl, rfl, rfl⟩ hok
    clear hok
    by_cases hp : j < r.length
    · have p2 : jj < (r.length : Int) := by omega
      have p3 : 0 ≤ jj := by omega
      obtain ⟨x, y, g1⟩ : ∃ x y, r[j]? = some (x, y) := ⟨_, _, List.getElem?_eq_getElem hp⟩
      have F1 := ringC_at hjj g1
      obtain ⟨x2, y2, ⟨n0, n1⟩, g2, F2⟩ := next_at hp hjj
      have hx : X.xs[preN L i + j]? = some (vEd ((x, y), (x2, y2))) := by
        rw [hxs, List.getElem?_map, edgsM_at hri hp, edgM_at g1 g2]; rfl
      (repeat (first | ((with_reducible apply al_q); exact rfl) | ((with_reducible apply al_loadPN); (iterate 5 exact rfl)) | ((with_reducible apply al_idxS); (iterate 3 exact rfl); (first | decide | omega); (first | decide | omega); (first | assumption | rfl); exact rfl) | ((with_reducible apply al_add); (iterate 3 exact rfl); (first | exact i64_wrap (by omega) | assumption | rfl); exact rfl) | ((with_reducible apply al_rem); (iterate 3 exact rfl); (first | assumption | omega); (first | assumption | omega); exact rfl) | ((with_reducible apply al_len); (iterate 3 exact rfl)) | ((with_reducible apply ywp_seq)) | ((with_reducible apply ythen_normal)) | ((with_reducible apply al_nil)) | ((with_reducible apply ywp_skip); assumption) | ((with_reducible apply ywp_block)) | ((with_reducible apply ywp_cond_1); exact rfl; (first | assumption | exact decide_eq_true (by omega) | (simp only [Bool.not_eq_true', decide_eq_false_iff_not, decide_eq_true_eq, Bool.not_eq_false']; (first | done | omega)) | exact rfl)) | (refine ywp_yieldD (ri := 6) (kc := 10) (by assumption) (by kernel_rfl) rfl (by kernel_rfl) rfl ?_) | ((with_reducible apply ywp_region); assumption)))
      refine ⟨Nat.lt_of_lt_of_le (Nat.lt_succ_self _) (Nat.le_of_ble_eq_true rfl), rfl, _, [.w (.agg [.c (.int .i64 x), .c (.int .i64 y)]), .w (.agg [.c (.int .i64 x2), .c (.int .i64 y2)])], hx, rfl, Elds.cons (Eld.w rfl rfl) (Elds.cons (Eld.w rfl rfl) Elds.nil), ?_, ?_⟩
      · (repeat (first | ((with_reducible apply al_q); exact rfl) | ((with_reducible apply al_add); (iterate 3 exact rfl); (first | exact i64_wrap (by omega) | assumption | rfl); exact rfl) | ((with_reducible apply ythen_normal)) | ((with_reducible apply al_nil)) | ((with_reducible apply ywp_skip); assumption) | ((with_reducible apply yblock_normal)) | ((with_reducible apply ywp_cond_0); exact rfl; (first | assumption | exact decide_eq_false (by omega) | (simp only [Bool.not_eq_true', decide_eq_false_iff_not, decide_eq_true_eq, Bool.not_eq_false']; (first | done | omega)) | exact rfl)) | ((with_reducible apply ywp_region); assumption)))
        exact ⟨r.length - (j + 1), _, [], by omega, ⟨j + 1, jj + 1, hp, rfl, by omega, rfl, rfl, rfl⟩, rfl, ⟨rfl, rfl, rfl, rfl, rfl, rfl, rfl, rfl, trivial⟩, trivial, rfl⟩
      · (repeat (first | ((with_reducible apply al_q); exact rfl) | ((with_reducible apply ythen_normal)) | ((with_reducible apply al_nil)) | ((with_reducible apply ythen_ret)) | ((with_reducible apply ywp_ret); assumption) | ((with_reducible apply yblock_ret)) | ((with_reducible apply ywp_cond_1); exact rfl; (first | assumption | exact decide_eq_true (by omega) | (simp only [Bool.not_eq_true', decide_eq_false_iff_not, decide_eq_true_eq, Bool.not_eq_false']; (first | done | omega)) | exact rfl))))
        exact ⟨.inr rfl, .inl rfl⟩
    · have e : j = r.length := by omega
      have hps := preN_succ hri
      subst e
      (repeat (first | ((with_reducible apply al_q); exact rfl) | ((with_reducible apply al_add); (iterate 3 exact rfl); (first | exact i64_wrap (by omega) | assumption | rfl); exact rfl) | ((with_reducible apply ywp_seq)) | ((with_reducible apply ythen_normal)) | ((with_reducible apply al_nil)) | ((with_reducible apply yblock_normal)) | ((with_reducible apply yblock_same)) | ((with_reducible apply ywp_exit); assumption) | ((with_reducible apply ythen_exit)) | ((with_reducible apply ywp_cond_0); exact rfl; (first | assumption | exact decide_eq_false (by omega) | (simp only [Bool.not_eq_true', decide_eq_false_iff_not, decide_eq_true_eq, Bool.not_eq_false']; (first | done | omega)) | exact rfl)) | ((with_reducible apply ywp_region); assumption)))
      exact ⟨L.length - (i + 1), _, [], by omega, ⟨i + 1, ii + 1, hq, rfl, by omega, by rw [hps], rfl, rfl⟩, rfl, ⟨rfl, rfl, rfl, rfl, trivial⟩, trivial, rfl⟩
  · have e : i = L.length := by omega
    subst e
    (repeat (first | ((with_reducible apply al_q); exact rfl) | ((with_reducible apply ywp_seq)) | ((with_reducible apply ythen_normal)) | ((with_reducible apply al_nil)) | ((with_reducible apply yblock_same)) | ((with_reducible apply ywp_exit); assumption) | ((with_reducible apply ythen_exit)) | ((with_reducible apply ywp_cond_0); exact rfl; (first | assumption | exact decide_eq_false (by omega) | (simp only [Bool.not_eq_true', decide_eq_false_iff_not, decide_eq_true_eq, Bool.not_eq_false']; (first | done | omega)) | exact rfl)) | ((with_reducible apply ywp_region); assumption)))
    exact ⟨.inl rfl, .inr (by unfold preN; rw [List.take_length, List.length_map])⟩
end Go.Proofs.Ytlfkllmnekdghaa

namespace Go.Proofs.Ytlfkllmnekdghaa
open Go.RowKit
set_option linter.unusedVariables false
set_option linter.unusedSimpArgs false
instance iInpU_1 : RowTy Try.prog 22 45 1 24 := ⟨by kernel_rfl⟩
/-- the same numbers, and rings? -/
def smB (A B : List (List Pt)) (op fill rung cap : Int) (A' B' : List (List Pt)) (op' fill' rung' cap' : Int) : Bool := decide (op = op' ∧ fill = fill' ∧ rung = rung' ∧ cap = cap' ∧ A = A' ∧ B = B')
def SmI (X Y : List (List Pt)) (n : Nat) (ts : List (Nat × AV)) (ms : List (Nat × List AC)) : Prop :=
  ∃ (k : Nat) (ki : Int), k ≤ X.length ∧ n = X.length - k ∧ ki = k ∧ X.take k = Y.take k ∧ ms = [] ∧ ts = [(5, .w (.one (ringsA X))), (6, .w (.one (ringsA Y))), (7, vI ki)]
def SnI (X Y : List (List Pt)) (r s : List Pt) (ki : Int) (n : Nat) (ts : List (Nat × AV)) (ms : List (Nat × List AC)) : Prop :=
  ∃ (i : Nat) (ii : Int), i ≤ r.length ∧ n = r.length - i ∧ ii = i ∧ r.take i = s.take i ∧ ms = [] ∧ ts = [(5, .w (.one (ringsA X))), (6, .w (.one (ringsA Y))), (7, vI ki), (8, vI ii)]
theorem ringsC_cl (L : List (List Pt)) : (L.map ringA).all AC.closedB = true := by
  rw [List.all_eq_true]
  intro x hx
  obtain ⟨r, _, rfl⟩ := List.mem_map.1 hx
  rfl
set_option maxRecDepth 100000 in
set_option maxHeartbeats 8000000 in
theorem p_rSame11 {A B A' B' : List (List Pt)} {op fill rung cap op' fill' rung' cap' : Int} (hA : A.length ≤ 400000) (hB : B.length ≤ 400000) (hr : ∀ r ∈ A ++ B, r.length ≤ 900000) :
    PCall Try.prog 18 [.w (.agg (jobC A B op fill rung cap)), .w (.agg (jobC A' B' op' fill' rung' cap'))] (vB (smB A B op fill rung cap A' B' op' fill' rung' cap')) := by
  have no : ∀ {p : Prop}, ¬ p → ((op = op' ∧ fill = fill' ∧ rung = rung' ∧ cap = cap' ∧ A = A' ∧ B = B') → p) → smB A B op fill rung cap A' B' op' fill' rung' cap' = false := fun h g => decide_eq_false fun q => h (g q)
  have cs : (op ≠ op' ∧ smB A B op fill rung cap A' B' op' fill' rung' cap' = false) ∨ (op = op' ∧ fill ≠ fill' ∧ smB A B op fill rung cap A' B' op' fill' rung' cap' = false) ∨ (op = op' ∧ fill = fill' ∧ rung ≠ rung' ∧ smB A B op fill rung cap A' B' op' fill' rung' cap' = false) ∨ (op = op' ∧ fill = fill' ∧ rung = rung' ∧ cap ≠ cap' ∧ smB A B op fill rung cap A' B' op' fill' rung' cap' = false) ∨
      (op = op' ∧ fill = fill' ∧ rung = rung' ∧ cap = cap' ∧ (A.length : Int) ≠ A'.length ∧ smB A B op fill rung cap A' B' op' fill' rung' cap' = false) ∨ (op = op' ∧ fill = fill' ∧ rung = rung' ∧ cap = cap' ∧ (A.length : Int) = A'.length ∧ (B.length : Int) ≠ B'.length ∧ smB A B op fill rung cap A' B' op' fill' rung' cap' = false) ∨
      (op = op' ∧ fill = fill' ∧ rung = rung' ∧ cap = cap' ∧ (A.length : Int) = A'.length ∧ (B.length : Int) = B'.length) := by
    by_cases h1 : op = op'
    · by_cases h2 : fill = fill'
      · by_cases h3 : rung = rung'
        · by_cases h4 : cap = cap'
          · by_cases h5 : (A.length : Int) = A'.length
            · by_cases h6 : (B.length : Int) = B'.length
              · exact .inr (.inr (.inr (.inr (.inr (.inr ⟨h1, h2, h3, h4, h5, h6⟩)))))
              · exact .inr (.inr (.inr (.inr (.inr (.inl ⟨h1, h2, h3, h4, h5, h6, no h6 fun q => by rw [q.2.2.2.2.2]⟩)))))
            · exact .inr (.inr (.inr (.inr (.inl ⟨h1, h2, h3, h4, h5, no h5 fun q => by rw [q.2.2.2.2.1]⟩))))
          · exact .inr (.inr (.inr (.inl ⟨h1, h2, h3, h4, no h4 fun q => q.2.2.2.1⟩)))
        · exact .inr (.inr (.inl ⟨h1, h2, h3, no h3 fun q => q.2.2.1⟩))
      · exact .inr (.inl ⟨h1, h2, no h2 fun q => q.2.1⟩)
    · exact .inl ⟨h1, no h1 fun q => q.1⟩
  rcases cs with ⟨h1, h⟩ | ⟨h1, h2, h⟩ | ⟨h1, h2, h3, h⟩ | ⟨h1, h2, h3, h4, h⟩ | ⟨h1, h2, h3, h4, h5, h⟩ | ⟨h1, h2, h3, h4, h5, h6, h⟩ | ⟨h1, h2, h3, h4, h5, h6⟩
  iterate 6
    · rw [h]
      clear h no
      refine pcall_body (f := 18) Try.func18 rfl rfl rfl rfl ?_
      refine awp_rows ?_
      (repeat (first | ((with_reducible apply rwp_seq)) | ((with_reducible apply rthen_normal)) | ((with_reducible apply rwp_region)) | ((with_reducible apply hs_nil)) | ((with_reducible apply rwp_ret)) | ((with_reducible apply rthen_ret)) | ((with_reducible apply rwp_cond_1); exact rfl; (first | assumption | exact decide_eq_true (by omega) | (simp only [Bool.not_eq_true', decide_eq_false_iff_not, decide_eq_true_eq, Bool.not_eq_false']; (first | done | omega)) | exact rfl)) | ((with_reducible apply hs_c); exact rfl; (repeat (first | ((with_reducible apply al_q); exact rfl) | ((with_reducible apply al_len); (iterate 3 exact rfl)) | ((with_reducible apply al_guard_b (c := true)); exact rfl; exact rfl; (first | assumption | exact decide_eq_true (by omega) | (simp only [Bool.not_eq_true', decide_eq_false_iff_not, decide_eq_true_eq, Bool.not_eq_false']; (first | done | omega)))) | ((with_reducible apply al_guard_b (c := false)); exact rfl; exact rfl; (first | assumption | exact decide_eq_false (by omega) | (simp only [Bool.not_eq_true', decide_eq_false_iff_not, decide_eq_true_eq, Bool.not_eq_false']; (first | done | omega)))))); (with_reducible apply al_nil))))
      (first | (refine apost_ret rfl (resl_tmp rfl resl_nil) ?_))
      exact AV.Le.refl _
  · have hX : (A.map ringA ++ B.map ringA) = (A ++ B).map ringA := List.map_append.symm
    have hY : (A'.map ringA ++ B'.map ringA) = (A' ++ B').map ringA := List.map_append.symm
    have hval : smB A B op fill rung cap A' B' op' fill' rung' cap' = decide (A ++ B = A' ++ B') := by
      unfold smB
      rw [Bool.eq_iff_iff, decide_eq_true_eq, decide_eq_true_eq]
      refine ⟨fun q => by rw [q.2.2.2.2.1, q.2.2.2.2.2], fun q => ?_⟩
      obtain ⟨e1, e2⟩ := List.append_inj q (by omega)
      exact ⟨h1, h2, h3, h4, e1, e2⟩
    have hSX : (vS 1 (0 + A.length + B.length) ([] ++ A.map ringA ++ B.map ringA)) = .w (.one (ringsA (A ++ B))) := by
      rw [List.nil_append, hX, Nat.zero_add, ← List.length_append]; rfl
    have hSY : (vS 1 (0 + A'.length + B'.length) ([] ++ A'.map ringA ++ B'.map ringA)) = .w (.one (ringsA (A' ++ B'))) := by
      rw [List.nil_append, hY, Nat.zero_add, ← List.length_append]; rfl
    rw [hval]
    clear no hval
    refine pcall_body (f := 18) Try.func18 rfl rfl rfl rfl ?_
    refine awp_rows ?_
    (repeat (first | ((with_reducible apply rwp_draw (id := 3) [1,2,4,5,0,3,6,7]); kernel_rfl; kernel_rfl; exact rfl) | ((with_reducible apply rwp_seq)) | ((with_reducible apply rthen_normal)) | ((with_reducible apply rwp_region)) | ((with_reducible apply hs_nil)) | ((with_reducible apply rwp_skip)) | ((with_reducible apply rwp_cond_0); exact rfl; (first | assumption | exact decide_eq_false (by omega) | (simp only [Bool.not_eq_true', decide_eq_false_iff_not, decide_eq_true_eq, Bool.not_eq_false']; (first | done | omega)) | exact rfl)) | ((with_reducible apply hs_c); exact rfl; (repeat (first | ((with_reducible apply al_q); exact rfl) | ((with_reducible apply al_len); (iterate 3 exact rfl)) | ((with_reducible apply al_guard_b (c := false)); exact rfl; exact rfl; (first | assumption | exact decide_eq_false (by omega) | (simp only [Bool.not_eq_true', decide_eq_false_iff_not, decide_eq_true_eq, Bool.not_eq_false']; (first | done | omega)))))); (with_reducible apply al_nil))))
    refine hs_new0 0 rfl rfl rfl rfl rfl (fun va1 hv => ?_)
    clear hv
    skip
    refine hs_app0 0 rfl rfl rfl rfl ?qa1 ?qa2 (ringsC_cl _) rfl (fun va2 hv => ?_)
    case qa1 => exact le_maxLen (by show 0 + A.length ≤ 1000000; omega)
    case qa2 => show (0 + A.length) * 24 ≤ 140737488355328; omega
    clear hv
    skip
    refine hs_app0 0 rfl rfl rfl rfl ?qa3 ?qa4 (ringsC_cl _) rfl (fun va3 hv => ?_)
    case qa3 => exact le_maxLen (by show 0 + A.length + B.length ≤ 1000000; omega)
    case qa4 => show (0 + A.length + B.length) * 24 ≤ 140737488355328; omega
    clear hv
    (repeat (first | ((with_reducible apply hs_nilS); kernel_rfl) | ((with_reducible apply rthen_normal)) | ((with_reducible apply hs_c); exact rfl; (repeat (first | ((with_reducible apply al_q); exact rfl))); (with_reducible apply al_nil))))
    refine rwp_cool 0 5 _ rfl rfl ?_
    (repeat (first | ((with_reducible apply rwp_draw (id := 4) [1,2,4,5,0,3,6,7]); kernel_rfl; kernel_rfl; exact rfl) | ((with_reducible apply rwp_seq)) | ((with_reducible apply hs_c); exact rfl; (repeat (first | ((with_reducible apply al_q); exact rfl))); (with_reducible apply al_nil))))
    refine hs_new0 0 rfl rfl rfl rfl rfl (fun vb1 hv => ?_)
    clear hv
    skip
    refine hs_app0 0 rfl rfl rfl rfl ?qb1 ?qb2 (ringsC_cl _) rfl (fun vb2 hv => ?_)
    case qb1 => exact le_maxLen (by show 0 + A'.length ≤ 1000000; omega)
    case qb2 => show (0 + A'.length) * 24 ≤ 140737488355328; omega
    clear hv
    skip
    refine hs_app0 0 rfl rfl rfl rfl ?qb3 ?qb4 (ringsC_cl _) rfl (fun vb3 hv => ?_)
    case qb3 => exact le_maxLen (by show 0 + A'.length + B'.length ≤ 1000000; omega)
    case qb4 => show (0 + A'.length + B'.length) * 24 ≤ 140737488355328; omega
    clear hv
    (repeat (first | ((with_reducible apply hs_nilS); kernel_rfl) | ((with_reducible apply rthen_normal)) | ((with_reducible apply hs_c); exact rfl; (repeat (first | ((with_reducible apply al_q); exact rfl))); (with_reducible apply al_nil))))
    refine rwp_cool 0 6 _ rfl rfl ?_
    refine rwp_tell 5 rfl (AV.Le.of_eq hSX) rfl ?_
    refine rwp_tell 6 rfl (AV.Le.of_eq hSY) rfl ?_
    refine rwp_awp ?_
    have hlen : (A ++ B).length = (A' ++ B').length := by rw [List.length_append, List.length_append]; omega
    have hXl : (A ++ B).length ≤ 900000 := by rw [List.length_append]; omega
    clear hSX hSY hX hY h1 h2 h3 h4 h5 h6
    generalize A ++ B = X at *
    generalize A' ++ B' = Y at *
    (repeat (first | ((with_reducible apply al_q); exact rfl) | ((with_reducible apply awp_seq)) | ((with_reducible apply athen_normal)) | ((with_reducible apply awp_region)) | ((with_reducible apply al_nil)) | ((with_reducible apply awp_block))))
    refine awp_loopL 108 (SmI X Y) X.length _ [] ⟨0, 0, Nat.zero_le _, rfl, rfl, rfl, rfl, rfl⟩ rfl ⟨rfl, rfl, rfl, trivial⟩ trivial rfl ?_
    rintro n ts ms ⟨k, ki, hk, rfl, hki, hv, rfl, rfl⟩ hok
    clear hok
    by_cases hq : k < X.length
    · have q2 : ki < (X.length : Int) := by omega
      have q2' : ki < (Y.length : Int) := by omega
      have q3 : 0 ≤ ki := by omega
      obtain ⟨r, hri⟩ : ∃ r, X[k]? = some r := ⟨_, List.getElem?_eq_getElem hq⟩
      obtain ⟨s, hsi⟩ : ∃ r, Y[k]? = some r := ⟨_, List.getElem?_eq_getElem (by omega)⟩
      have E1 := ringsC_at hki hri
      have E2 := ringsC_at hki hsi
      have hrl := hr r (List.mem_of_getElem? hri)
      have hno : r ≠ s → decide (X = Y) = false := fun h => decide_eq_false fun e => h (by rw [e, hsi] at hri; exact (Option.some.inj hri).symm)
      have ht1 := take_one hri
      have ht2 := take_one hsi
      by_cases hl : (r.length : Int) = s.length
      · (repeat (first | ((with_reducible apply al_q); exact rfl) | ((with_reducible apply al_loadP1); (iterate 5 exact rfl)) | ((with_reducible apply al_idxS); (iterate 3 exact rfl); (first | decide | omega); (first | decide | omega); (first | assumption | rfl); exact rfl) | ((with_reducible apply al_len); (iterate 3 exact rfl)) | ((with_reducible apply al_nilS); kernel_rfl) | ((with_reducible apply awp_region_draw); kernel_rfl; kernel_rfl; exact rfl) | ((with_reducible apply awp_seq)) | ((with_reducible apply athen_normal)) | ((with_reducible apply awp_region)) | ((with_reducible apply al_nil)) | ((with_reducible apply awp_skip)) | ((with_reducible apply awp_block)) | ((with_reducible apply awp_cond_1); exact rfl; (first | assumption | exact decide_eq_true (by omega) | (simp only [Bool.not_eq_true', decide_eq_false_iff_not, decide_eq_true_eq, Bool.not_eq_false']; (first | done | omega)))) | ((with_reducible apply awp_cond_0); exact rfl; (first | assumption | exact decide_eq_false (by omega) | (simp only [Bool.not_eq_true', decide_eq_false_iff_not, decide_eq_true_eq, Bool.not_eq_false']; (first | done | omega))))))
        refine awp_loopL 108 (SnI X Y r s ki) r.length _ [] ⟨0, 0, Nat.zero_le _, rfl, rfl, rfl, rfl, rfl⟩ rfl ⟨rfl, rfl, rfl, rfl, trivial⟩ trivial rfl ?_
        rintro n ts ms ⟨i, ii, hi, rfl, hii, hw, rfl, rfl⟩ hok
        clear hok
        by_cases hp : i < r.length
        · have p2 : ii < (r.length : Int) := by omega
          have p2' : ii < (s.length : Int) := by omega
          have p3 : 0 ≤ ii := by omega
          obtain ⟨x, y, g1⟩ : ∃ x y, r[i]? = some (x, y) := ⟨_, _, List.getElem?_eq_getElem hp⟩
          obtain ⟨z, w, g2⟩ : ∃ x y, s[i]? = some (x, y) := ⟨_, _, List.getElem?_eq_getElem (by omega)⟩
          have F1 := ringC_at hii g1
          have F2 := ringC_at hii g2
          have hu1 := take_one g1
          have hu2 := take_one g2
          cases he : eqP x y z w with
          | true =>
            obtain ⟨rfl, rfl⟩ := eqP_iff.1 he
            (repeat (first | ((with_reducible apply al_q); exact rfl) | ((with_reducible apply al_loadP1); (iterate 5 exact rfl)) | ((with_reducible apply al_loadPN); (iterate 5 exact rfl)) | ((with_reducible apply al_idxS); (iterate 3 exact rfl); (first | decide | omega); (first | decide | omega); (first | assumption | rfl); exact rfl) | ((with_reducible apply al_neqP); (iterate 4 exact rfl)) | ((with_reducible apply al_add); (iterate 3 exact rfl); (first | exact i64_wrap (by omega) | assumption | rfl); exact rfl) | ((with_reducible apply al_len); (iterate 3 exact rfl)) | ((with_reducible apply al_nilS); kernel_rfl) | ((with_reducible apply awp_region_draw); kernel_rfl; kernel_rfl; exact rfl) | ((with_reducible apply awp_seq)) | ((with_reducible apply athen_normal)) | ((with_reducible apply awp_region)) | ((with_reducible apply al_nil)) | ((with_reducible apply awp_skip)) | ((with_reducible apply awp_block)) | ((with_reducible apply ablock_normal)) | ((with_reducible apply awp_cond_1); exact rfl; (first | assumption | exact decide_eq_true (by omega) | (simp only [Bool.not_eq_true', decide_eq_false_iff_not, decide_eq_true_eq, Bool.not_eq_false']; (first | done | omega)))) | ((with_reducible apply awp_cond_0); exact rfl; (first | assumption | exact decide_eq_false (by omega) | (simp only [Bool.not_eq_true', decide_eq_false_iff_not, decide_eq_true_eq, Bool.not_eq_false']; (first | done | omega))))))
            exact ⟨r.length - (i + 1), _, [], by omega, ⟨i + 1, ii + 1, hp, rfl, by omega, by rw [hu1, hu2, hw], rfl, rfl⟩, rfl, ⟨rfl, rfl, rfl, rfl, trivial⟩, trivial, rfl⟩
          | false =>
            rw [hno fun e => by rw [e, g2] at g1; cases g1; rw [eqP_iff.2 ⟨rfl, rfl⟩] at he; cases he]
            (repeat (first | ((with_reducible apply al_q); exact rfl) | ((with_reducible apply al_loadP1); (iterate 5 exact rfl)) | ((with_reducible apply al_loadPN); (iterate 5 exact rfl)) | ((with_reducible apply al_idxS); (iterate 3 exact rfl); (first | decide | omega); (first | decide | omega); (first | assumption | rfl); exact rfl) | ((with_reducible apply al_neqP); (iterate 4 exact rfl)) | ((with_reducible apply al_len); (iterate 3 exact rfl)) | ((with_reducible apply al_nilS); kernel_rfl) | ((with_reducible apply awp_region_draw); kernel_rfl; kernel_rfl; exact rfl) | ((with_reducible apply awp_seq)) | ((with_reducible apply athen_normal)) | ((with_reducible apply awp_region)) | ((with_reducible apply al_nil)) | ((with_reducible apply awp_ret)) | ((with_reducible apply awp_skip)) | ((with_reducible apply athen_ret)) | ((with_reducible apply awp_block)) | ((with_reducible apply ablock_ret)) | ((with_reducible apply awp_cond_1); exact rfl; (first | assumption | exact decide_eq_true (by omega) | (simp only [Bool.not_eq_true', decide_eq_false_iff_not, decide_eq_true_eq, Bool.not_eq_false']; (first | done | omega))))))
            (first | (refine apost_ret rfl (resl_tmp rfl resl_nil) ?_))
            exact AV.Le.refl _
        · have p2 : ¬ ii < (r.length : Int) := by omega
          have e1 : r = s := by rw [List.take_of_length_le (by omega), List.take_of_length_le (by omega)] at hw; exact hw
          (repeat (first | ((with_reducible apply al_q); exact rfl) | ((with_reducible apply al_loadP1); (iterate 5 exact rfl)) | ((with_reducible apply al_idxS); (iterate 3 exact rfl); (first | decide | omega); (first | decide | omega); (first | assumption | rfl); exact rfl) | ((with_reducible apply al_add); (iterate 3 exact rfl); (first | exact i64_wrap (by omega) | assumption | rfl); exact rfl) | ((with_reducible apply al_len); (iterate 3 exact rfl)) | ((with_reducible apply awp_seq)) | ((with_reducible apply athen_normal)) | ((with_reducible apply awp_region)) | ((with_reducible apply al_nil)) | ((with_reducible apply ablock_normal)) | ((with_reducible apply ablock_same)) | ((with_reducible apply awp_exit)) | ((with_reducible apply athen_exit)) | ((with_reducible apply awp_cond_0); exact rfl; (first | assumption | exact decide_eq_false (by omega) | (simp only [Bool.not_eq_true', decide_eq_false_iff_not, decide_eq_true_eq, Bool.not_eq_false']; (first | done | omega))))))
          exact ⟨X.length - (k + 1), _, [], by omega, ⟨k + 1, ki + 1, hq, rfl, by omega, by rw [ht1, ht2, hv, e1], rfl, rfl⟩, rfl, ⟨rfl, rfl, rfl, trivial⟩, trivial, rfl⟩
      · rw [hno fun e => hl (by rw [e])]
        (repeat (first | ((with_reducible apply al_q); exact rfl) | ((with_reducible apply al_loadP1); (iterate 5 exact rfl)) | ((with_reducible apply al_idxS); (iterate 3 exact rfl); (first | decide | omega); (first | decide | omega); (first | assumption | rfl); exact rfl) | ((with_reducible apply al_len); (iterate 3 exact rfl)) | ((with_reducible apply al_nilS); kernel_rfl) | ((with_reducible apply awp_region_draw); kernel_rfl; kernel_rfl; exact rfl) | ((with_reducible apply awp_seq)) | ((with_reducible apply athen_normal)) | ((with_reducible apply awp_region)) | ((with_reducible apply al_nil)) | ((with_reducible apply awp_ret)) | ((with_reducible apply awp_skip)) | ((with_reducible apply athen_ret)) | ((with_reducible apply awp_block)) | ((with_reducible apply ablock_ret)) | ((with_reducible apply awp_cond_1); exact rfl; (first | assumption | exact decide_eq_true (by omega) | (simp only [Bool.not_eq_true', decide_eq_false_iff_not, decide_eq_true_eq, Bool.not_eq_false']; (first | done | omega))))))
        (first | (refine apost_ret rfl (resl_tmp rfl resl_nil) ?_))
        exact AV.Le.refl _
    · have q2 : ¬ ki < (X.length : Int) := by omega
      have e1 : X = Y := by rw [List.take_of_length_le (by omega), List.take_of_length_le (by omega)] at hv; exact hv
      rw [decide_eq_true e1]
      (repeat (first | ((with_reducible apply al_q); exact rfl) | ((with_reducible apply al_len); (iterate 3 exact rfl)) | ((with_reducible apply awp_seq)) | ((with_reducible apply athen_normal)) | ((with_reducible apply awp_region)) | ((with_reducible apply al_nil)) | ((with_reducible apply awp_ret)) | ((with_reducible apply ablock_same)) | ((with_reducible apply awp_exit)) | ((with_reducible apply athen_exit)) | ((with_reducible apply awp_cond_0); exact rfl; (first | assumption | exact decide_eq_false (by omega) | (simp only [Bool.not_eq_true', decide_eq_false_iff_not, decide_eq_true_eq, Bool.not_eq_false']; (first | done | omega))))))
      (first | (refine apost_ret rfl (resl_tmp rfl resl_nil) ?_))
      exact AV.Le.refl _
end Go.Proofs.Ytlfkllmnekdghaa

namespace Go.Proofs.Ytlfkllmnekdghaa
open Go.RowKit
set_option linter.unusedVariables false
set_option linter.unusedSimpArgs false
/-- the cells of a row of points. -/
def ptsC : List (Int × Int) → List AC
  | [] => []
  | p :: l => .c (.int .i64 p.1) :: .c (.int .i64 p.2) :: ptsC l
abbrev vPs (l : List (Int × Int)) : AV := vS 2 l.length (ptsC l)
theorem ptsC_at : ∀ (l : List (Int × Int)) (i : Nat) (p : Int × Int), l[i]? = some p → ((ptsC l).drop (i * 2)).take 2 = [.c (.int .i64 p.1), .c (.int .i64 p.2)]
  | [], i, p, h => by simp at h
  | q :: l, 0, p, h => by simp at h; subst h; rfl
  | q :: l, i + 1, p, h => by
    rw [show (i + 1) * 2 = i * 2 + 1 + 1 by omega]
    simp only [ptsC, List.drop_succ_cons]
    exact ptsC_at l i p (by simpa using h)
theorem ptsC_int {l : List (Int × Int)} {j : Int} {i : Nat} {p : Int × Int} (hj : j = i) (h : l[i]? = some p) : ((ptsC l).drop (j.toNat * 2)).take 2 = [.c (.int .i64 p.1), .c (.int .i64 p.2)] := by
  subst hj
  exact ptsC_at l i p h
/-- what holds ahead of each round of Equal's loop. -/
def EqI (l m : List (Int × Int)) (k : Nat) (ts : List (Nat × AV)) (ms : List (Nat × List AC)) : Prop :=
  ∃ i : Nat, i ≤ l.length ∧ k = l.length - i ∧ (∀ j, j < i → l[j]? = m[j]?) ∧ ms = [] ∧ ts = [(0, vPs l), (1, vPs m), (12, vI l.length), (13, vI i)]
set_option maxRecDepth 100000 in
set_option maxHeartbeats 4000000 in
theorem equal_ne {l m : List (Int × Int)} (hl : ¬ l.length = m.length) : PCall Try.prog 53 [vPs l, vPs m] (vB false) := by
  have h1 : ¬ (l.length : Int) = m.length := by omega
  clear hl
  refine pcall_body (f := 53) Try.func53 rfl rfl rfl rfl ?_
  (repeat (first | ((with_reducible apply al_q); exact rfl) | ((with_reducible apply al_len); (iterate 3 exact rfl)) | ((with_reducible apply awp_seq)) | ((with_reducible apply athen_normal)) | ((with_reducible apply awp_region)) | ((with_reducible apply al_nil)) | ((with_reducible apply awp_ret)) | ((with_reducible apply athen_ret)) | ((with_reducible apply awp_cond_1); exact rfl; (first | assumption | exact decide_eq_true (by omega) | (simp only [Bool.not_eq_true', decide_eq_false_iff_not, decide_eq_true_eq, Bool.not_eq_false']; (first | done | omega))))))
  (first | (refine apost_ret rfl (resl_tmp rfl resl_nil) ?_))
  exact AV.Le.refl _
set_option maxRecDepth 100000 in
set_option maxHeartbeats 4000000 in
theorem p_Equal {l m : List (Int × Int)} (b2 : (l.length : Int) < 9223372036854775807) : PCall Try.prog 53 [vPs l, vPs m] (vB (decide (l = m))) := by
  by_cases hl : l.length = m.length
  · have hl' : (l.length : Int) = m.length := by omega
    refine pcall_body (f := 53) Try.func53 rfl rfl rfl rfl ?_
    (repeat (first | ((with_reducible apply al_q); exact rfl) | ((with_reducible apply al_len); (iterate 3 exact rfl)) | ((with_reducible apply awp_seq)) | ((with_reducible apply athen_normal)) | ((with_reducible apply awp_region)) | ((with_reducible apply al_nil)) | ((with_reducible apply awp_skip)) | ((with_reducible apply awp_block)) | ((with_reducible apply awp_cond_0); exact rfl; (first | assumption | exact decide_eq_false (by omega) | (simp only [Bool.not_eq_true', decide_eq_false_iff_not, decide_eq_true_eq, Bool.not_eq_false']; (first | done | omega))))))
    refine awp_loopL 26 (EqI l m) l.length _ [] ⟨0, Nat.zero_le _, rfl, fun j hj => absurd hj (Nat.not_lt_zero _), rfl, rfl⟩ rfl ⟨rfl, rfl, rfl, rfl, trivial⟩ trivial rfl ?_
    rintro k ts ms ⟨i, hi, rfl, hp, rfl, rfl⟩ hok
    clear hok
    by_cases q : i < l.length
    · have q' : (i : Int) < l.length := by omega
      have q2 : (i : Int) < m.length := by omega
      obtain ⟨⟨px, py⟩, g1⟩ : ∃ p, l[i]? = some p := ⟨_, List.getElem?_eq_getElem q⟩
      obtain ⟨⟨rx, ry⟩, g2⟩ : ∃ p, m[i]? = some p := ⟨_, List.getElem?_eq_getElem (show i < m.length by omega)⟩
      have E1 := ptsC_int (j := (i : Int)) rfl g1
      have E2 := ptsC_int (j := (i : Int)) rfl g2
      cases hq : eqP px py rx ry with
      | true =>
        have he := eqP_iff.1 hq
        have heq : l[i]? = m[i]? := by rw [g1, g2, he.1, he.2]
        have hp' : ∀ j, j < i + 1 → l[j]? = m[j]? := fun j hj => by
          by_cases e : j = i
          · rw [e]; exact heq
          · exact hp j (by omega)
        clear hl hl' hp g1 g2 he heq hi
        (repeat (first | ((with_reducible apply al_q); exact rfl) | ((with_reducible apply al_loadPN); (iterate 5 exact rfl)) | ((with_reducible apply al_idxS); (iterate 3 exact rfl); (first | decide | omega); (first | decide | omega); (first | assumption | rfl); exact rfl) | ((with_reducible apply al_neqP); (iterate 4 exact rfl)) | ((with_reducible apply al_add); (iterate 3 exact rfl); (first | exact i64_wrap (by omega) | assumption | rfl); exact rfl) | ((with_reducible apply al_nilS); kernel_rfl) | ((with_reducible apply awp_region_draw); kernel_rfl; kernel_rfl; exact rfl) | ((with_reducible apply awp_seq)) | ((with_reducible apply athen_normal)) | ((with_reducible apply awp_region)) | ((with_reducible apply al_nil)) | ((with_reducible apply awp_skip)) | ((with_reducible apply awp_block)) | ((with_reducible apply ablock_normal)) | ((with_reducible apply awp_cond_1); exact rfl; (first | assumption | exact decide_eq_true (by omega) | (simp only [Bool.not_eq_true', decide_eq_false_iff_not, decide_eq_true_eq, Bool.not_eq_false']; (first | done | omega)))) | ((with_reducible apply awp_cond_0); exact rfl; (first | assumption | exact decide_eq_false (by omega) | (simp only [Bool.not_eq_true', decide_eq_false_iff_not, decide_eq_true_eq, Bool.not_eq_false']; (first | done | omega))))))
        exact ⟨l.length - (i + 1), _, [], by omega, ⟨i + 1, by omega, rfl, hp', rfl, rfl⟩, rfl, ⟨rfl, rfl, rfl, rfl, trivial⟩, trivial, rfl⟩
      | false =>
        have hne : ¬ l = m := fun e => by
          subst e
          rw [g1] at g2
          cases g2
          have := eqP_iff.2 (⟨rfl, rfl⟩ : px = px ∧ py = py)
          rw [this] at hq
          cases hq
        clear hl hl' hp g1 g2 hi
        (repeat (first | ((with_reducible apply al_q); exact rfl) | ((with_reducible apply al_loadPN); (iterate 5 exact rfl)) | ((with_reducible apply al_idxS); (iterate 3 exact rfl); (first | decide | omega); (first | decide | omega); (first | assumption | rfl); exact rfl) | ((with_reducible apply al_neqP); (iterate 4 exact rfl)) | ((with_reducible apply al_nilS); kernel_rfl) | ((with_reducible apply awp_region_draw); kernel_rfl; kernel_rfl; exact rfl) | ((with_reducible apply awp_seq)) | ((with_reducible apply athen_normal)) | ((with_reducible apply awp_region)) | ((with_reducible apply al_nil)) | ((with_reducible apply awp_ret)) | ((with_reducible apply awp_skip)) | ((with_reducible apply athen_ret)) | ((with_reducible apply awp_block)) | ((with_reducible apply ablock_ret)) | ((with_reducible apply awp_cond_1); exact rfl; (first | assumption | exact decide_eq_true (by omega) | (simp only [Bool.not_eq_true', decide_eq_false_iff_not, decide_eq_true_eq, Bool.not_eq_false']; (first | done | omega))))))
        (first | (refine apost_ret rfl (resl_tmp rfl resl_nil) ?_))
        exact AV.Le.of_eq (by rw [decide_eq_false hne]; rfl)
    · have q' : ¬ (i : Int) < l.length := by omega
      have e : l = m := List.ext_getElem? fun j => by
        by_cases hj : j < i
        · exact hp j hj
        · rw [List.getElem?_eq_none (by omega), List.getElem?_eq_none (by omega)]
      clear hl hl' hp hi
      (repeat (first | ((with_reducible apply al_q); exact rfl) | ((with_reducible apply awp_seq)) | ((with_reducible apply athen_normal)) | ((with_reducible apply awp_region)) | ((with_reducible apply al_nil)) | ((with_reducible apply awp_ret)) | ((with_reducible apply ablock_same)) | ((with_reducible apply awp_exit)) | ((with_reducible apply athen_exit)) | ((with_reducible apply awp_cond_0); exact rfl; (first | assumption | exact decide_eq_false (by omega) | (simp only [Bool.not_eq_true', decide_eq_false_iff_not, decide_eq_true_eq, Bool.not_eq_false']; (first | done | omega))))))
      (first | (refine apost_ret rfl (resl_tmp rfl resl_nil) ?_))
      exact AV.Le.of_eq (by rw [decide_eq_true e]; rfl)
  · rw [decide_eq_false (fun e => hl (by rw [e]))]
    exact equal_ne hl
end Go.Proofs.Ytlfkllmnekdghaa

namespace Go.Proofs.Ytlfkllmnekdghaa
open Go.RowKit
set_option linter.unusedVariables false
set_option linter.unusedSimpArgs false
instance iInpI_1 : RowTy Try.prog 45 37 2 16 := ⟨by kernel_rfl⟩
instance iInpI_2 : RowTy Try.prog 22 45 1 24 := ⟨by kernel_rfl⟩
theorem ringC_len (l : List Pt) : (ringC l).length = l.length * 2 := by
  induction l with
  | nil => rfl
  | cons p l ih => rw [show ringC (p :: l) = ptC p ++ ringC l from rfl, List.length_append, ih]; simp [ptC]; omega
set_option maxRecDepth 100000 in
set_option maxHeartbeats 8000000 in
/-- a copy of a ring. -/
theorem p_cloneP {r : List Pt} (hr : r.length ≤ 900000) : PCall Try.prog 50 [.w (.one (ringA r))] (.w (.one (ringA r))) := by
  refine pcall_body (f := 50) Try.func50 rfl rfl rfl rfl ?_
  (repeat (first | ((with_reducible apply al_q); exact rfl) | ((with_reducible apply al_eqnilS); (iterate 3 exact rfl)) | ((with_reducible apply awp_seq)) | ((with_reducible apply athen_normal)) | ((with_reducible apply awp_region)) | ((with_reducible apply al_nil))))
  refine awp_tellB 4 rfl ?_
  intro b hb
  cases b with
  | true =>
    have h0 := List.eq_nil_of_length_eq_zero (hb rfl)
    subst h0
    clear hb
    (repeat (first | ((with_reducible apply al_q); exact rfl) | ((with_reducible apply awp_seq)) | ((with_reducible apply athen_normal)) | ((with_reducible apply awp_region)) | ((with_reducible apply al_nil)) | ((with_reducible apply awp_ret)) | ((with_reducible apply athen_ret)) | ((with_reducible apply awp_cond_t); exact rfl)))
    (first | (refine apost_ret rfl (resl_tmp rfl resl_nil) ?_))
    exact nilS_le 2
  | false =>
    clear hb
    have z0 : 0 + r.length = r.length := Nat.zero_add _
    (repeat (first | ((with_reducible apply al_q); exact rfl) | ((with_reducible apply al_new0F); exact rfl; exact rfl) | ((with_reducible apply al_appF); (iterate 3 exact rfl); (first | exact le_maxLen (by omega) | assumption); (first | assumption | omega); (first | assumption | rfl); (first | assumption | rfl); exact rfl) | ((with_reducible apply awp_seq)) | ((with_reducible apply athen_normal)) | ((with_reducible apply awp_region)) | ((with_reducible apply al_nil)) | ((with_reducible apply awp_ret)) | ((with_reducible apply awp_skip)) | ((with_reducible apply awp_cond_f); exact rfl)))
    (first | (refine apost_ret rfl (resl_tmp rfl resl_nil) ?_))
    exact AV.Le.refl _
set_option maxRecDepth 100000 in
set_option maxHeartbeats 8000000 in
theorem a_cloneR {n : Nat} {xs : List AC} (hn : n ≤ 900000) (hc : xs.all AC.closedB = true) (hx : xs.length = n) : ACall Try.prog 49 [vS 1 n xs] fun v q => ∃ v', v = vC v' ∧ q = ⟨45, 1, v', n, xs⟩ := by
  refine acall_of rfl (fun v q h => by obtain ⟨v', rfl, _⟩ := h; rfl) ?_
  refine hcall_of_body (f := 49) Try.func49 rfl (Nat.le_of_ble_eq_true rfl) (by first | exact big0 | exact big1 rfl) ?_
  (repeat (first | ((with_reducible apply rwp_seq)) | ((with_reducible apply rthen_normal)) | ((with_reducible apply rwp_region)) | ((with_reducible apply hs_nil)) | ((with_reducible apply hs_c); exact rfl; (repeat (first | ((with_reducible apply al_q); exact rfl) | ((with_reducible apply al_eqnilS); (iterate 3 exact rfl)))); (with_reducible apply al_nil))))
  refine rwp_tellB 4 rfl ?_
  intro b hb
  cases b with
  | true =>
    have h0 := hb rfl
    subst h0
    have h1 := List.eq_nil_of_length_eq_zero hx
    subst h1
    clear hb
    refine rwp_nil 0 45 1 rfl ?_
    (repeat (first | ((with_reducible apply rwp_seq)) | ((with_reducible apply rthen_normal)) | ((with_reducible apply rwp_region)) | ((with_reducible apply hs_nil)) | ((with_reducible apply rwp_ret)) | ((with_reducible apply rthen_ret)) | ((with_reducible apply rwp_cond_1); exact rfl; (first | assumption | exact decide_eq_true (by omega) | (simp only [Bool.not_eq_true', decide_eq_false_iff_not, decide_eq_true_eq, Bool.not_eq_false']; (first | done | omega)) | exact rfl)) | ((with_reducible apply hs_c); exact rfl; (repeat (first | ((with_reducible apply al_q); exact rfl))); (with_reducible apply al_nil))))
    (first | (refine hfin_a rfl (resl_tmp rfl resl_nil) rfl rfl (Nat.zero_lt_succ _) ?_))
    exact ⟨.slice none 0 0, rfl, rfl⟩
  | false =>
    clear hb
    (repeat (first | ((with_reducible apply rwp_seq)) | ((with_reducible apply rthen_normal)) | ((with_reducible apply rwp_region)) | ((with_reducible apply rwp_skip)) | ((with_reducible apply rwp_cond_0); exact rfl; (first | assumption | exact decide_eq_false (by omega) | (simp only [Bool.not_eq_true', decide_eq_false_iff_not, decide_eq_true_eq, Bool.not_eq_false']; (first | done | omega)) | exact rfl))))
    refine hs_new0 0 rfl rfl rfl rfl rfl (fun v0 hv0 => ?_)
    (repeat (first | ((with_reducible apply hs_c); exact rfl; (repeat (first | ((with_reducible apply al_q); exact rfl))); (with_reducible apply al_nil))))
    refine hs_app0 0 rfl rfl rfl rfl ?q1 ?q2 hc rfl (fun v1 hv1 => ?_)
    case q1 => exact le_maxLen (by show 0 + n ≤ 1000000; omega)
    case q2 => show (0 + n) * 24 ≤ 140737488355328; omega
    (repeat (first | ((with_reducible apply rthen_normal)) | ((with_reducible apply hs_nil)) | ((with_reducible apply rwp_ret)) | ((with_reducible apply hs_c); exact rfl; (repeat (first | ((with_reducible apply al_q); exact rfl))); (with_reducible apply al_nil))))
    (first | (refine hfin_a rfl (resl_tmp rfl resl_nil) rfl rfl (Nat.zero_lt_succ _) ?_))
    exact ⟨v1, rfl, by rw [List.nil_append, Nat.zero_add]⟩
theorem ringC_cl (l : List Pt) : (ringC l).all AC.closedB = true := by
  rw [List.all_eq_true]
  intro x hx
  obtain ⟨p, _, h⟩ := List.mem_flatMap.1 hx
  simp only [ptC, List.mem_cons, List.not_mem_nil, or_false] at h
  rcases h with rfl | rfl <;> rfl
theorem a_cloneP {r : List Pt} (hr : r.length ≤ 900000) : ACall Try.prog 50 [.w (.one (ringA r))] fun v q => ∃ v', v = vC v' ∧ q = ⟨37, 2, v', r.length, ringC r⟩ := by
  refine acall_of rfl (fun v q h => by obtain ⟨v', rfl, _⟩ := h; rfl) ?_
  refine hcall_of_body (f := 50) Try.func50 rfl (Nat.le_of_ble_eq_true rfl) (by first | exact big0 | exact big1 rfl) ?_
  (repeat (first | ((with_reducible apply rwp_seq)) | ((with_reducible apply rthen_normal)) | ((with_reducible apply rwp_region)) | ((with_reducible apply hs_nil)) | ((with_reducible apply hs_c); exact rfl; (repeat (first | ((with_reducible apply al_q); exact rfl) | ((with_reducible apply al_eqnilS); (iterate 3 exact rfl)))); (with_reducible apply al_nil))))
  refine rwp_tellB 4 rfl ?_
  intro b hb
  cases b with
  | true =>
    have h0 := List.eq_nil_of_length_eq_zero (hb rfl)
    subst h0
    clear hb
    refine rwp_nil 0 37 2 rfl ?_
    (repeat (first | ((with_reducible apply rwp_seq)) | ((with_reducible apply rthen_normal)) | ((with_reducible apply rwp_region)) | ((with_reducible apply hs_nil)) | ((with_reducible apply rwp_ret)) | ((with_reducible apply rthen_ret)) | ((with_reducible apply rwp_cond_1); exact rfl; (first | assumption | exact decide_eq_true (by omega) | (simp only [Bool.not_eq_true', decide_eq_false_iff_not, decide_eq_true_eq, Bool.not_eq_false']; (first | done | omega)) | exact rfl)) | ((with_reducible apply hs_c); exact rfl; (repeat (first | ((with_reducible apply al_q); exact rfl))); (with_reducible apply al_nil))))
    (first | (refine hfin_a rfl (resl_tmp rfl resl_nil) rfl rfl (Nat.zero_lt_succ _) ?_))
    exact ⟨.slice none 0 0, rfl, rfl⟩
  | false =>
    clear hb
    (repeat (first | ((with_reducible apply rwp_seq)) | ((with_reducible apply rthen_normal)) | ((with_reducible apply rwp_region)) | ((with_reducible apply rwp_skip)) | ((with_reducible apply rwp_cond_0); exact rfl; (first | assumption | exact decide_eq_false (by omega) | (simp only [Bool.not_eq_true', decide_eq_false_iff_not, decide_eq_true_eq, Bool.not_eq_false']; (first | done | omega)) | exact rfl))))
    refine hs_new0 0 rfl rfl rfl rfl rfl (fun v0 hv0 => ?_)
    (repeat (first | ((with_reducible apply hs_c); exact rfl; (repeat (first | ((with_reducible apply al_q); exact rfl))); (with_reducible apply al_nil))))
    refine hs_app0 0 rfl rfl rfl rfl ?q1 ?q2 (ringC_cl r) rfl (fun v1 hv1 => ?_)
    case q1 => exact le_maxLen (by show 0 + r.length ≤ 1000000; omega)
    case q2 => show (0 + r.length) * 16 ≤ 140737488355328; omega
    (repeat (first | ((with_reducible apply rthen_normal)) | ((with_reducible apply hs_nil)) | ((with_reducible apply rwp_ret)) | ((with_reducible apply hs_c); exact rfl; (repeat (first | ((with_reducible apply al_q); exact rfl))); (with_reducible apply al_nil))))
    (first | (refine hfin_a rfl (resl_tmp rfl resl_nil) rfl rfl (Nat.zero_lt_succ _) ?_))
    exact ⟨v1, rfl, by rw [List.nil_append, Nat.zero_add]⟩
theorem splice_same {xs : List AC} {i : Nat} {x : AC} (h : xs[i]? = some x) : splice xs i [x] = xs := by
  have hi := (List.getElem?_eq_some_iff.1 h).1
  have e := (List.getElem?_eq_some_iff.1 h).2
  unfold splice
  conv => rhs; rw [← List.take_append_drop i xs, List.drop_eq_getElem_cons hi, e]
  simp
def ClI (L : List (List Pt)) (v : Value) (k : Nat) (R : Rws) (ts : List (Nat × AV)) (ms : List (Nat × List AC)) : Prop :=
  ∃ (i : Nat) (ii : Int), i ≤ L.length ∧ k = L.length - i ∧ ii = i ∧ R = row1 0 ⟨45, 1, v, L.length, L.map ringA⟩ ∧ ms = [] ∧ ts = [(3, vC v), (8, vC v), (9, vI L.length), (10, vI ii)]
set_option maxRecDepth 100000 in
set_option maxHeartbeats 8000000 in
theorem p_cloneRings {L : List (List Pt)} (hL : L.length ≤ 900000) (hr : ∀ r ∈ L, r.length ≤ 900000) : PCall Try.prog 34 [.w (.one (ringsA L))] (.w (.one (ringsA L))) := by
  have A1 := a_cloneR (n := L.length) (xs := L.map ringA) hL (ringsC_cl L) (by simp)
  refine pcall_body (f := 34) Try.func34 rfl rfl rfl rfl ?_
  refine awp_rows ?_
  (repeat (first | ((with_reducible apply rwp_seq)) | ((with_reducible apply rthen_normal)) | ((with_reducible apply rwp_region)) | ((with_reducible apply hs_nil)) | ((with_reducible apply hs_c); exact rfl; (repeat (first | ((with_reducible apply al_q); exact rfl))); (with_reducible apply al_nil))))
  refine hs_a 0 rfl rfl rfl rfl A1 rfl rfl (fun rv q h => ?_)
  obtain ⟨v, rfl, rfl⟩ := h
  (repeat (first | ((with_reducible apply rwp_seq)) | ((with_reducible apply rthen_normal)) | ((with_reducible apply rwp_region)) | ((with_reducible apply hs_nil)) | ((with_reducible apply rwp_block)) | ((with_reducible apply hs_c); exact rfl; (repeat (first | ((with_reducible apply al_q); exact rfl))); (with_reducible apply al_nil)) | ((with_reducible apply hs_len 0); (iterate 4 exact rfl); kernel_rfl; exact rfl)))
  refine rwp_loopL 22 (ClI L v) L.length _ _ _ ⟨0, 0, Nat.zero_le _, rfl, rfl, rfl, rfl, rfl⟩ (RLe.refl _) rfl ⟨rfl, rfl, rfl, rfl, trivial⟩ trivial rfl ?_
  rintro n R ts ms ⟨j, jj, hj, rfl, hjj, rfl, rfl, rfl⟩ hok
  clear hok
  by_cases hp : j < L.length
  · have p2 : jj < (L.length : Int) := by omega
    have p3 : 0 ≤ jj := by omega
    have p4 : 0 < L.length := by omega
    obtain ⟨r, g1⟩ : ∃ r, L[j]? = some r := ⟨_, List.getElem?_eq_getElem hp⟩
    have C1 := p_cloneP (hr r (List.mem_of_getElem? g1))
    have e1 : jj.toNat * 1 = j := by omega
    have F1 : (L.map ringA)[jj.toNat * 1]? = some (ringA r) := by rw [e1, List.getElem?_map, g1]; rfl
    have hoff : jj.toNat * 1 + 1 ≤ (L.map ringA).length := by rw [e1, List.length_map]; omega
    (repeat (first | ((with_reducible apply rwp_seq)) | ((with_reducible apply rthen_normal)) | ((with_reducible apply rwp_region)) | ((with_reducible apply hs_nil)) | ((with_reducible apply rwp_skip)) | ((with_reducible apply rwp_block)) | ((with_reducible apply rwp_cond_1); exact rfl; (first | assumption | exact decide_eq_true (by omega) | (simp only [Bool.not_eq_true', decide_eq_false_iff_not, decide_eq_true_eq, Bool.not_eq_false']; (first | done | omega)) | exact rfl)) | ((with_reducible apply hs_c); exact rfl; (repeat (first | ((with_reducible apply al_q); exact rfl) | (refine al_call1 rfl rfl rfl (by (first | exact C1)) rfl ?_))); (with_reducible apply al_nil)) | ((with_reducible apply hs_idx 0); (iterate 4 exact rfl); (first | omega); (first | assumption | omega); exact rfl; kernel_rfl; exact rfl) | ((with_reducible apply hs_load1 0); (iterate 3 exact rfl); (first | assumption | omega); assumption; exact rfl; kernel_rfl; exact rfl)))
    refine hs_store 0 rfl rfl rfl rfl p4 rfl rfl hoff rfl ?_
    have e2 : splice (L.map ringA) (jj.toNat * 1) [ringA r] = L.map ringA := splice_same F1
    (repeat (first | ((with_reducible apply rthen_normal)) | ((with_reducible apply rwp_region)) | ((with_reducible apply hs_nil)) | ((with_reducible apply rblock_normal)) | ((with_reducible apply hs_c); exact rfl; (repeat (first | ((with_reducible apply al_q); exact rfl) | ((with_reducible apply al_add); (iterate 3 exact rfl); (first | exact i64_wrap (by omega) | assumption | rfl); exact rfl))); (with_reducible apply al_nil))))
    exact ⟨L.length - (j + 1), _, _, [], by omega, ⟨j + 1, jj + 1, hp, rfl, by omega, rfl, rfl, rfl⟩, fun k q hk => by obtain ⟨rfl, rfl⟩ := row1_iff hk; show some (⟨_, _, _, _, splice (L.map ringA) (jj.toNat * 1) [ringA r]⟩ : HRow) = some _; rw [e2], rfl, ⟨rfl, rfl, rfl, rfl, trivial⟩, trivial, rfl⟩
  · have e : j = L.length := by omega
    subst e
    refine rwp_cool 0 3 _ rfl rfl ?_
    (repeat (first | ((with_reducible apply rwp_seq)) | ((with_reducible apply rthen_normal)) | ((with_reducible apply rwp_region)) | ((with_reducible apply hs_nil)) | ((with_reducible apply rwp_ret)) | ((with_reducible apply rblock_same)) | ((with_reducible apply rwp_exit)) | ((with_reducible apply rthen_exit)) | ((with_reducible apply rwp_cond_0); exact rfl; (first | assumption | exact decide_eq_false (by omega) | (simp only [Bool.not_eq_true', decide_eq_false_iff_not, decide_eq_true_eq, Bool.not_eq_false']; (first | done | omega)) | exact rfl)) | ((with_reducible apply hs_c); exact rfl; (repeat (first | ((with_reducible apply al_q); exact rfl))); (with_reducible apply al_nil))))
    (first | (refine apost_ret rfl (resl_tmp rfl resl_nil) ?_))
    exact AV.Le.refl _
set_option maxRecDepth 100000 in
set_option maxHeartbeats 8000000 in
theorem p_Clone11 {A B : List (List Pt)} {op fill rung cap : Int} (hA : A.length ≤ 900000) (hB : B.length ≤ 900000) (hr : ∀ r ∈ A ++ B, r.length ≤ 900000) : PCall Try.prog 16 [.w (.agg (jobC A B op fill rung cap))] (.w (.agg (jobC A B op fill rung cap))) := by
  have C1 := p_cloneRings hA (fun r h => hr r (List.mem_append_left _ h))
  have C2 := p_cloneRings hB (fun r h => hr r (List.mem_append_right _ h))
  refine pcall_body (f := 16) Try.func16 rfl rfl rfl rfl ?_
  (repeat (first | ((with_reducible apply al_q); exact rfl) | (refine al_call1 rfl rfl rfl (by (first | exact C1 | exact C2)) rfl ?_) | ((with_reducible apply al_nilS); kernel_rfl) | ((with_reducible apply awp_region_draw); kernel_rfl; kernel_rfl; exact rfl) | ((with_reducible apply awp_seq)) | ((with_reducible apply athen_normal)) | ((with_reducible apply awp_region)) | ((with_reducible apply al_nil)) | ((with_reducible apply awp_ret))))
  (first | (refine apost_ret rfl (resl_agg rfl rfl rfl resl_nil) ?_) | (refine apost_ret rfl (resl_one rfl rfl rfl resl_nil) ?_))
  exact AV.Le.refl _
theorem ptsC_ringC : ∀ (l : List Pt), ptsC l = ringC l
  | [] => rfl
  | p :: l => by rw [show ringC (p :: l) = .c (.int .i64 p.1) :: .c (.int .i64 p.2) :: ringC l from rfl, ← ptsC_ringC l]; rfl
theorem p_Equal11 {r s : List Pt} (b2 : r.length ≤ 4611686018427387904) : PCall Try.prog 53 [.w (.one (ringA r)), .w (.one (ringA s))] (vB (decide (r = s))) := by
  have h := p_Equal (l := r) (m := s) (by omega)
  rw [show vPs r = .w (.one (ringA r)) from by unfold vPs ringA; rw [ptsC_ringC], show vPs s = .w (.one (ringA s)) from by unfold vPs ringA; rw [ptsC_ringC]] at h
  exact h
set_option maxRecDepth 100000 in
set_option maxHeartbeats 8000000 in
theorem p_sameRings1 {r s : List Pt} (b2 : r.length ≤ 4611686018427387904) : PCall Try.prog 52 [.w (.one (ringA r)), .w (.one (ringA s))] (vB (decide (r = s))) := by
  have C1 := p_Equal11 (s := s) b2
  refine pcall_body (f := 52) Try.func52 rfl rfl rfl rfl ?_
  (repeat (first | ((with_reducible apply al_q); exact rfl) | (refine al_call2 rfl rfl rfl rfl (by (first | exact C1)) rfl ?_) | ((with_reducible apply awp_seq)) | ((with_reducible apply athen_normal)) | ((with_reducible apply awp_region)) | ((with_reducible apply al_nil)) | ((with_reducible apply awp_ret))))
  (first | (refine apost_ret rfl (resl_tmp rfl resl_nil) ?_))
  exact AV.Le.refl _
def EfI (L M : List (List Pt)) (k : Nat) (ts : List (Nat × AV)) (ms : List (Nat × List AC)) : Prop :=
  ∃ (i : Nat) (ii : Int), i ≤ L.length ∧ k = L.length - i ∧ ii = i ∧ L.take i = M.take i ∧ ms = [] ∧ ts = [(1, .w (.one (ringsA M))), (2, vC (.func (.func 52) #[] #[])), (15, .w (.one (ringsA L))), (16, vI L.length), (17, vI ii)]
set_option maxRecDepth 100000 in
set_option maxHeartbeats 8000000 in
theorem p_EqualFunc {L M : List (List Pt)} (hL : L.length ≤ 4611686018427387904) (hM : M.length ≤ 4611686018427387904) (hr : ∀ r ∈ L, r.length ≤ 4611686018427387904) : PCall Try.prog 51 [.w (.one (ringsA L)), .w (.one (ringsA M)), vC (.func (.func 52) #[] #[])] (vB (decide (L = M))) := by
  by_cases hl : L.length = M.length
  · have hl' : (L.length : Int) = M.length := by omega
    refine pcall_body (f := 51) Try.func51 rfl rfl rfl rfl ?_
    (repeat (first | ((with_reducible apply al_q); exact rfl) | ((with_reducible apply al_len); (iterate 3 exact rfl)) | ((with_reducible apply awp_seq)) | ((with_reducible apply athen_normal)) | ((with_reducible apply awp_region)) | ((with_reducible apply al_nil)) | ((with_reducible apply awp_skip)) | ((with_reducible apply awp_block)) | ((with_reducible apply awp_cond_0); exact rfl; (first | assumption | exact decide_eq_false (by omega) | (simp only [Bool.not_eq_true', decide_eq_false_iff_not, decide_eq_true_eq, Bool.not_eq_false']; (first | done | omega))))))
    refine awp_loopL 32 (EfI L M) L.length _ [] ⟨0, 0, Nat.zero_le _, rfl, rfl, rfl, rfl, rfl⟩ rfl ⟨rfl, rfl, rfl, rfl, rfl, trivial⟩ trivial rfl ?_
    rintro n ts ms ⟨j, jj, hj, rfl, hjj, htk, rfl, rfl⟩ hok
    clear hok
    by_cases hp : j < L.length
    · have p2 : jj < (L.length : Int) := by omega
      have p3 : 0 ≤ jj := by omega
      have p4 : jj < (M.length : Int) := by omega
      obtain ⟨r, g1⟩ : ∃ r, L[j]? = some r := ⟨_, List.getElem?_eq_getElem hp⟩
      obtain ⟨s, g2⟩ : ∃ s, M[j]? = some s := ⟨_, List.getElem?_eq_getElem (by omega)⟩
      have F1 := ringsC_at hjj g1
      have F2 := ringsC_at hjj g2
      have C1 := p_sameRings1 (s := s) (hr r (List.mem_of_getElem? g1))
      by_cases he : r = s
      · have ht : L.take (j + 1) = M.take (j + 1) := by rw [take_one g1, take_one g2, htk, he]
        rw [decide_eq_true he] at C1
        (repeat (first | ((with_reducible apply al_q); exact rfl) | ((with_reducible apply al_loadP1); (iterate 5 exact rfl)) | ((with_reducible apply al_idxS); (iterate 3 exact rfl); (first | decide | omega); (first | decide | omega); (first | assumption | rfl); exact rfl) | ((with_reducible apply al_add); (iterate 3 exact rfl); (first | exact i64_wrap (by omega) | assumption | rfl); exact rfl) | (refine al_call2 rfl rfl rfl rfl (by (first | exact C1)) rfl ?_) | ((with_reducible apply awp_seq)) | ((with_reducible apply athen_normal)) | ((with_reducible apply awp_region)) | ((with_reducible apply al_nil)) | ((with_reducible apply awp_skip)) | ((with_reducible apply awp_block)) | ((with_reducible apply ablock_normal)) | ((with_reducible apply awp_cond_f); exact rfl) | ((with_reducible apply awp_cond_1); exact rfl; (first | assumption | exact decide_eq_true (by omega) | (simp only [Bool.not_eq_true', decide_eq_false_iff_not, decide_eq_true_eq, Bool.not_eq_false']; (first | done | omega))))))
        exact ⟨L.length - (j + 1), _, [], by omega, ⟨j + 1, jj + 1, hp, rfl, by omega, ht, rfl, rfl⟩, rfl, ⟨rfl, rfl, rfl, rfl, rfl, trivial⟩, trivial, rfl⟩
      · have hne : L ≠ M := fun e => by subst e; rw [g1] at g2; cases g2; exact he rfl
        rw [decide_eq_false he] at C1
        rw [decide_eq_false hne]
        (repeat (first | ((with_reducible apply al_q); exact rfl) | ((with_reducible apply al_loadP1); (iterate 5 exact rfl)) | ((with_reducible apply al_idxS); (iterate 3 exact rfl); (first | decide | omega); (first | decide | omega); (first | assumption | rfl); exact rfl) | (refine al_call2 rfl rfl rfl rfl (by (first | exact C1)) rfl ?_) | ((with_reducible apply awp_seq)) | ((with_reducible apply athen_normal)) | ((with_reducible apply awp_region)) | ((with_reducible apply al_nil)) | ((with_reducible apply awp_ret)) | ((with_reducible apply awp_skip)) | ((with_reducible apply athen_ret)) | ((with_reducible apply awp_block)) | ((with_reducible apply ablock_ret)) | ((with_reducible apply awp_cond_t); exact rfl) | ((with_reducible apply awp_cond_1); exact rfl; (first | assumption | exact decide_eq_true (by omega) | (simp only [Bool.not_eq_true', decide_eq_false_iff_not, decide_eq_true_eq, Bool.not_eq_false']; (first | done | omega))))))
        (first | (refine apost_ret rfl (resl_tmp rfl resl_nil) ?_))
        exact AV.Le.refl _
    · have e : j = L.length := by omega
      subst e
      have hEq : L = M := by rw [List.take_length, hl, List.take_length] at htk; exact htk
      rw [decide_eq_true hEq]
      (repeat (first | ((with_reducible apply al_q); exact rfl) | ((with_reducible apply awp_seq)) | ((with_reducible apply athen_normal)) | ((with_reducible apply awp_region)) | ((with_reducible apply al_nil)) | ((with_reducible apply awp_ret)) | ((with_reducible apply ablock_same)) | ((with_reducible apply awp_exit)) | ((with_reducible apply athen_exit)) | ((with_reducible apply awp_cond_0); exact rfl; (first | assumption | exact decide_eq_false (by omega) | (simp only [Bool.not_eq_true', decide_eq_false_iff_not, decide_eq_true_eq, Bool.not_eq_false']; (first | done | omega))))))
      (first | (refine apost_ret rfl (resl_tmp rfl resl_nil) ?_))
      exact AV.Le.refl _
  · have hl' : ¬ (L.length : Int) = M.length := by omega
    have hne : L ≠ M := fun e => hl (by rw [e])
    rw [decide_eq_false hne]
    refine pcall_body (f := 51) Try.func51 rfl rfl rfl rfl ?_
    (repeat (first | ((with_reducible apply al_q); exact rfl) | ((with_reducible apply al_len); (iterate 3 exact rfl)) | ((with_reducible apply awp_seq)) | ((with_reducible apply athen_normal)) | ((with_reducible apply awp_region)) | ((with_reducible apply al_nil)) | ((with_reducible apply awp_ret)) | ((with_reducible apply athen_ret)) | ((with_reducible apply awp_cond_1); exact rfl; (first | assumption | exact decide_eq_true (by omega) | (simp only [Bool.not_eq_true', decide_eq_false_iff_not, decide_eq_true_eq, Bool.not_eq_false']; (first | done | omega))))))
    (first | (refine apost_ret rfl (resl_tmp rfl resl_nil) ?_))
    exact AV.Le.refl _
set_option maxRecDepth 100000 in
set_option maxHeartbeats 8000000 in
theorem p_sameRings {L M : List (List Pt)} (hL : L.length ≤ 4611686018427387904) (hM : M.length ≤ 4611686018427387904) (hr : ∀ r ∈ L, r.length ≤ 4611686018427387904) : PCall Try.prog 35 [.w (.one (ringsA L)), .w (.one (ringsA M))] (vB (decide (L = M))) := by
  have C1 := p_EqualFunc hL hM hr
  refine pcall_body (f := 35) Try.func35 rfl rfl rfl rfl ?_
  (repeat (first | ((with_reducible apply al_q); exact rfl) | (refine al_call3 rfl rfl rfl rfl rfl (by (first | exact C1)) rfl ?_) | ((with_reducible apply awp_seq)) | ((with_reducible apply athen_normal)) | ((with_reducible apply awp_region)) | ((with_reducible apply al_nil)) | ((with_reducible apply awp_ret))))
  (first | (refine apost_ret rfl (resl_tmp rfl resl_nil) ?_))
  exact AV.Le.refl _
set_option maxRecDepth 100000 in
set_option maxHeartbeats 8000000 in
theorem p_Same11 {A B A' B' : List (List Pt)} {op fill rung cap op' fill' rung' cap' : Int} (hA : A.length ≤ 4611686018427387904) (hB : B.length ≤ 4611686018427387904) (hA' : A'.length ≤ 4611686018427387904) (hB' : B'.length ≤ 4611686018427387904) (hr : ∀ r ∈ A ++ B, r.length ≤ 4611686018427387904) :
    PCall Try.prog 17 [.w (.agg (jobC A B op fill rung cap)), .w (.agg (jobC A' B' op' fill' rung' cap'))] (vB (smB A B op fill rung cap A' B' op' fill' rung' cap')) := by
  have C1 := p_sameRings (M := A') hA hA' (fun r h => hr r (List.mem_append_left _ h))
  have C2 := p_sameRings (M := B') hB hB' (fun r h => hr r (List.mem_append_right _ h))
  have cs : ∃ c, smB A B op fill rung cap A' B' op' fill' rung' cap' = c ∧ ((op ≠ op' ∧ c = false) ∨ (op = op' ∧ fill ≠ fill' ∧ c = false) ∨ (op = op' ∧ fill = fill' ∧ rung ≠ rung' ∧ c = false) ∨ (op = op' ∧ fill = fill' ∧ rung = rung' ∧ cap ≠ cap' ∧ c = false) ∨ (op = op' ∧ fill = fill' ∧ rung = rung' ∧ cap = cap' ∧ A ≠ A' ∧ c = false) ∨ (op = op' ∧ fill = fill' ∧ rung = rung' ∧ cap = cap' ∧ A = A' ∧ c = decide (B = B'))) := by
    refine ⟨_, rfl, ?_⟩
    unfold smB
    by_cases h1 : op = op'
    · by_cases h2 : fill = fill'
      · by_cases h3 : rung = rung'
        · by_cases h4 : cap = cap'
          · by_cases h5 : A = A'
            · exact .inr (.inr (.inr (.inr (.inr ⟨h1, h2, h3, h4, h5, by rw [decide_eq_decide]; exact ⟨fun h => h.2.2.2.2.2, fun h => ⟨h1, h2, h3, h4, h5, h⟩⟩⟩))))
            · exact .inr (.inr (.inr (.inr (.inl ⟨h1, h2, h3, h4, h5, decide_eq_false fun h => h5 h.2.2.2.2.1⟩))))
          · exact .inr (.inr (.inr (.inl ⟨h1, h2, h3, h4, decide_eq_false fun h => h4 h.2.2.2.1⟩)))
        · exact .inr (.inr (.inl ⟨h1, h2, h3, decide_eq_false fun h => h3 h.2.2.1⟩))
      · exact .inr (.inl ⟨h1, h2, decide_eq_false fun h => h2 h.2.1⟩)
    · exact .inl ⟨h1, decide_eq_false fun h => h1 h.1⟩
  obtain ⟨c, e, cs⟩ := cs
  rw [e]
  clear e hA hB hA' hB' hr
  rcases cs with ⟨h1, rfl⟩ | ⟨h1, h2, rfl⟩ | ⟨h1, h2, h3, rfl⟩ | ⟨h1, h2, h3, h4, rfl⟩ | ⟨h1, h2, h3, h4, h5, rfl⟩ | ⟨h1, h2, h3, h4, h5, rfl⟩
  · refine pcall_body (f := 17) Try.func17 rfl rfl rfl rfl ?_
    (repeat (first | ((with_reducible apply al_q); exact rfl) | ((with_reducible apply al_guard_b (c := false)); exact rfl; exact rfl; (first | assumption | exact decide_eq_false (by omega) | (simp only [Bool.not_eq_true', decide_eq_false_iff_not, decide_eq_true_eq, Bool.not_eq_false']; (first | done | omega)))) | ((with_reducible apply awp_seq)) | ((with_reducible apply athen_normal)) | ((with_reducible apply awp_region)) | ((with_reducible apply al_nil)) | ((with_reducible apply awp_ret))))
    (first | (refine apost_ret rfl (resl_tmp rfl resl_nil) ?_))
    exact AV.Le.refl _
  · refine pcall_body (f := 17) Try.func17 rfl rfl rfl rfl ?_
    (repeat (first | ((with_reducible apply al_q); exact rfl) | ((with_reducible apply al_guard_b (c := true)); exact rfl; exact rfl; (first | assumption | exact decide_eq_true (by omega) | (simp only [Bool.not_eq_true', decide_eq_false_iff_not, decide_eq_true_eq, Bool.not_eq_false']; (first | done | omega)))) | ((with_reducible apply al_guard_b (c := false)); exact rfl; exact rfl; (first | assumption | exact decide_eq_false (by omega) | (simp only [Bool.not_eq_true', decide_eq_false_iff_not, decide_eq_true_eq, Bool.not_eq_false']; (first | done | omega)))) | ((with_reducible apply awp_seq)) | ((with_reducible apply athen_normal)) | ((with_reducible apply awp_region)) | ((with_reducible apply al_nil)) | ((with_reducible apply awp_ret))))
    (first | (refine apost_ret rfl (resl_tmp rfl resl_nil) ?_))
    exact AV.Le.refl _
  · refine pcall_body (f := 17) Try.func17 rfl rfl rfl rfl ?_
    (repeat (first | ((with_reducible apply al_q); exact rfl) | ((with_reducible apply al_guard_b (c := true)); exact rfl; exact rfl; (first | assumption | exact decide_eq_true (by omega) | (simp only [Bool.not_eq_true', decide_eq_false_iff_not, decide_eq_true_eq, Bool.not_eq_false']; (first | done | omega)))) | ((with_reducible apply al_guard_b (c := false)); exact rfl; exact rfl; (first | assumption | exact decide_eq_false (by omega) | (simp only [Bool.not_eq_true', decide_eq_false_iff_not, decide_eq_true_eq, Bool.not_eq_false']; (first | done | omega)))) | ((with_reducible apply awp_seq)) | ((with_reducible apply athen_normal)) | ((with_reducible apply awp_region)) | ((with_reducible apply al_nil)) | ((with_reducible apply awp_ret))))
    (first | (refine apost_ret rfl (resl_tmp rfl resl_nil) ?_))
    exact AV.Le.refl _
  · refine pcall_body (f := 17) Try.func17 rfl rfl rfl rfl ?_
    (repeat (first | ((with_reducible apply al_q); exact rfl) | ((with_reducible apply al_guard_b (c := true)); exact rfl; exact rfl; (first | assumption | exact decide_eq_true (by omega) | (simp only [Bool.not_eq_true', decide_eq_false_iff_not, decide_eq_true_eq, Bool.not_eq_false']; (first | done | omega)))) | ((with_reducible apply al_guard_b (c := false)); exact rfl; exact rfl; (first | assumption | exact decide_eq_false (by omega) | (simp only [Bool.not_eq_true', decide_eq_false_iff_not, decide_eq_true_eq, Bool.not_eq_false']; (first | done | omega)))) | ((with_reducible apply awp_seq)) | ((with_reducible apply athen_normal)) | ((with_reducible apply awp_region)) | ((with_reducible apply al_nil)) | ((with_reducible apply awp_ret))))
    (first | (refine apost_ret rfl (resl_tmp rfl resl_nil) ?_))
    exact AV.Le.refl _
  · rw [decide_eq_false h5] at C1
    refine pcall_body (f := 17) Try.func17 rfl rfl rfl rfl ?_
    (repeat (first | ((with_reducible apply al_q); exact rfl) | (refine al_call2 rfl rfl rfl rfl (by (first | exact C1)) rfl ?_) | ((with_reducible apply al_guard_b (c := true)); exact rfl; exact rfl; (first | assumption | exact decide_eq_true (by omega) | (simp only [Bool.not_eq_true', decide_eq_false_iff_not, decide_eq_true_eq, Bool.not_eq_false']; (first | done | omega)))) | ((with_reducible apply awp_seq)) | ((with_reducible apply athen_normal)) | ((with_reducible apply awp_region)) | ((with_reducible apply al_nil)) | ((with_reducible apply awp_ret))))
    (first | (refine apost_ret rfl (resl_tmp rfl resl_nil) ?_))
    exact AV.Le.refl _
  · rw [decide_eq_true h5] at C1
    refine pcall_body (f := 17) Try.func17 rfl rfl rfl rfl ?_
    (repeat (first | ((with_reducible apply al_q); exact rfl) | (refine al_call2 rfl rfl rfl rfl (by (first | exact C1 | exact C2)) rfl ?_) | ((with_reducible apply al_guard_b (c := true)); exact rfl; exact rfl; (first | assumption | exact decide_eq_true (by omega) | (simp only [Bool.not_eq_true', decide_eq_false_iff_not, decide_eq_true_eq, Bool.not_eq_false']; (first | done | omega)))) | ((with_reducible apply awp_seq)) | ((with_reducible apply athen_normal)) | ((with_reducible apply awp_region)) | ((with_reducible apply al_nil)) | ((with_reducible apply awp_ret))))
    (first | (refine apost_ret rfl (resl_tmp rfl resl_nil) ?_))
    exact AV.Le.refl _
end Go.Proofs.Ytlfkllmnekdghaa

namespace Go.Proofs.Ytlfkllmnekdghaa
open Go.RowKit
set_option linter.unusedVariables false
set_option linter.unusedSimpArgs false
theorem hfin_all {P : Program} {fn : Func} {l : List ResultVar} {xs : List AW} {R : Rws} {s : AS} {Post : AV → Mem → Rws → Prop} (hr : fn.results = l.toArray) (h : l.map (resOf P s) = xs.map some) (hx : (packed xs).closedB = true) (hp : Post (packed xs) noMem R) : hfin P fn noMem noRows Post R s :=
  ⟨xs, packed xs, noMem, R, by rw [hr]; exact h, .refl _, hp, fun k c h => (by cases h), RLe.refl _, fun j hj => absurd hj (AV.closed_of hx j), fun k c x j h => (by cases h), fun k c h => (by cases h), fun i r h => (by cases h)⟩
/-- rings in rows of their own: their heads in row o, the ring of number j in row 4 (j + 1) + o. -/
structure FamP (o : Nat) (hv : Value) (vs : List Value) (L : List (List Pt)) (R : Rws) : Prop where
  len : vs.length = L.length
  hdr : R o = some ⟨45, 1, hv, L.length, vs.map AC.c⟩
  rings : ∀ (j : Nat) r v, L[j]? = some r → vs[j]? = some v → R (4 * (j + 1) + o) = some ⟨37, 2, v, r.length, ringC r⟩
def HfI (L : List (List Pt)) (hv : Value) (o : Nat) (k : Nat) (R : Rws) (ts : List (Nat × AV)) (ms : List (Nat × List AC)) : Prop :=
  ∃ (i : Nat) (ii : Int) (vs : List Value), i ≤ L.length ∧ k = L.length - i ∧ ii = i ∧ vs.length = i ∧ R o = some ⟨45, 1, hv, L.length, vs.map AC.c ++ (L.drop i).map ringA⟩ ∧
    (∀ (j : Nat) r v, L[j]? = some r → vs[j]? = some v → R (4 * (j + 1) + o) = some ⟨37, 2, v, r.length, ringC r⟩) ∧ (∀ k, k % 4 ≠ o → R k = none) ∧ (∀ k q, k ≠ o → R k = some q → 0 < q.sz ∧ ∀ y ∈ q.ys, ∃ v, y = AC.c v) ∧ ms = [] ∧ ts = [(3, vC hv), (8, vC hv), (9, vI L.length), (10, vI ii)]
theorem ringC_ex (r : List Pt) : ∀ y ∈ ringC r, ∃ v, y = AC.c v := fun y hy => by
  obtain ⟨p, _, h⟩ := List.mem_flatMap.1 hy
  simp only [ptC, List.mem_cons, List.not_mem_nil, or_false] at h
  rcases h with rfl | rfl <;> exact ⟨_, rfl⟩
theorem splice_next {vs : List Value} {L : List (List Pt)} {i : Nat} {u : Value} (hl : vs.length = i) (hi : i < L.length) : splice (vs.map AC.c ++ (L.drop i).map ringA) i [.c u] = (vs ++ [u]).map AC.c ++ (L.drop (i + 1)).map ringA := by
  unfold splice
  have h1 : (vs.map AC.c ++ (L.drop i).map ringA).take i = vs.map AC.c := by rw [List.take_append_of_le_length (by simp [hl]), List.take_of_length_le (by simp [hl])]
  have h2 : (vs.map AC.c ++ (L.drop i).map ringA).drop (i + 1) = (L.drop (i + 1)).map ringA := by
    rw [List.drop_append, List.drop_of_length_le (by simp [hl])]
    simp [hl, ← List.map_drop, List.drop_drop]
  rw [h1, show [AC.c u].length = 1 from rfl, h2]
  simp
set_option maxRecDepth 100000 in
set_option maxHeartbeats 8000000 in
theorem h_cloneRings {L : List (List Pt)} {o : Nat} (ho : o < 4) (hL : L.length ≤ 900000) (hr : ∀ r ∈ L, r.length ≤ 900000) :
    HCall Try.prog 34 [.w (.one (ringsA L))] noMem noRows fun r m' R' => ∃ hv vs, r = vC hv ∧ m' = noMem ∧ FamP o hv vs L R' ∧ (∀ k, k % 4 ≠ o → R' k = none) ∧ ∀ k q, R' k = some q → 0 < q.sz ∧ ∀ y ∈ q.ys, ∃ v, y = AC.c v := by
  have A1 := a_cloneR (n := L.length) (xs := L.map ringA) hL (ringsC_cl L) (by simp)
  refine hcall_of_body (f := 34) Try.func34 rfl (Nat.le_of_ble_eq_true rfl) (by first | exact big0 | exact big1 rfl) ?_
  (repeat (first | ((with_reducible apply rwp_seq)) | ((with_reducible apply rthen_normal)) | ((with_reducible apply rwp_region)) | ((with_reducible apply hs_nil)) | ((with_reducible apply hs_c); exact rfl; (repeat (first | ((with_reducible apply al_q); exact rfl))); (with_reducible apply al_nil))))
  refine hs_a o rfl rfl rfl rfl A1 rfl rfl (fun rv q h => ?_)
  obtain ⟨v, rfl, rfl⟩ := h
  (repeat (first | ((with_reducible apply rwp_seq)) | ((with_reducible apply rthen_normal)) | ((with_reducible apply rwp_region)) | ((with_reducible apply hs_nil)) | ((with_reducible apply hs_c); exact rfl; (repeat (first | ((with_reducible apply al_q); exact rfl))); (with_reducible apply al_nil))))
  refine hs_len o (upd_same _ _ _) rfl rfl rfl (by kernel_rfl) rfl ?_
  (repeat (first | ((with_reducible apply rthen_normal)) | ((with_reducible apply hs_nil)) | ((with_reducible apply rwp_block)) | ((with_reducible apply hs_c); exact rfl; (repeat (first | ((with_reducible apply al_q); exact rfl))); (with_reducible apply al_nil))))
  refine rwp_loopL 22 (HfI L v o) L.length _ _ _ ⟨0, 0, [], Nat.zero_le _, rfl, rfl, rfl, upd_same _ _ _, fun j r u _ h => (by simp at h), fun k hk => (by rw [upd_ne _ _ (by intro e; subst e; omega)]; rfl), fun k q hk hq => (by rw [upd_ne _ _ hk] at hq; cases hq), rfl, rfl⟩ (RLe.refl _) rfl ⟨rfl, rfl, rfl, rfl, trivial⟩ trivial rfl ?_
  rintro n R ts ms ⟨j, jj, vs, hj, rfl, hjj, hvl, hR0, hRj, hRn, hRx, rfl, rfl⟩ hok
  clear hok
  by_cases hp : j < L.length
  · have p2 : jj < (L.length : Int) := by omega
    have p3 : 0 ≤ jj := by omega
    have p4 : 0 < L.length := by omega
    obtain ⟨r, g1⟩ : ∃ r, L[j]? = some r := ⟨_, List.getElem?_eq_getElem hp⟩
    have C1 := a_cloneP (hr r (List.mem_of_getElem? g1))
    have e1 : jj.toNat * 1 = j := by omega
    have F1 : (vs.map AC.c ++ (L.drop j).map ringA)[jj.toNat * 1]? = some (ringA r) := by
      rw [e1, List.getElem?_append_right (by simp [hvl]), List.length_map, hvl, Nat.sub_self, List.getElem?_map, List.getElem?_drop, Nat.add_zero, g1]; rfl
    have hoff : jj.toNat * 1 + 1 ≤ (vs.map AC.c ++ (L.drop j).map ringA).length := by simp [hvl]; omega
    (repeat (first | ((with_reducible apply rwp_seq)) | ((with_reducible apply rthen_normal)) | ((with_reducible apply rwp_region)) | ((with_reducible apply hs_nil)) | ((with_reducible apply rwp_skip)) | ((with_reducible apply rwp_block)) | ((with_reducible apply rwp_cond_1); exact rfl; (first | assumption | exact decide_eq_true (by omega) | (simp only [Bool.not_eq_true', decide_eq_false_iff_not, decide_eq_true_eq, Bool.not_eq_false']; (first | done | omega)) | exact rfl)) | ((with_reducible apply hs_c); exact rfl; (repeat (first | ((with_reducible apply al_q); exact rfl))); (with_reducible apply al_nil))))
    refine hs_idx o hR0 rfl rfl rfl p3 p2 rfl (by kernel_rfl) rfl ?_
    refine hs_load1 o hR0 rfl rfl p4 F1 rfl (by kernel_rfl) rfl ?_
    (repeat (first | ((with_reducible apply rthen_normal)) | ((with_reducible apply rwp_region)) | ((with_reducible apply hs_nil)) | ((with_reducible apply hs_c); exact rfl; (repeat (first | ((with_reducible apply al_q); exact rfl))); (with_reducible apply al_nil))))
    refine hs_a (4 * (j + 1) + o) rfl rfl rfl rfl C1 rfl rfl (fun rv q h => ?_)
    obtain ⟨u, rfl, rfl⟩ := h
    have hR1 : upd R (4 * (j + 1) + o) ⟨37, 2, u, r.length, ringC r⟩ o = some ⟨45, 1, v, L.length, vs.map AC.c ++ (L.drop j).map ringA⟩ := by rw [upd_ne _ _ (by omega)]; exact hR0
    skip
    refine hs_idx o hR1 rfl rfl rfl p3 p2 rfl (by kernel_rfl) rfl ?_
    skip
    refine hs_store o hR1 rfl rfl rfl p4 rfl rfl hoff rfl ?_
    (repeat (first | ((with_reducible apply rthen_normal)) | ((with_reducible apply rwp_region)) | ((with_reducible apply hs_nil)) | ((with_reducible apply rblock_normal)) | ((with_reducible apply hs_c); exact rfl; (repeat (first | ((with_reducible apply al_q); exact rfl) | ((with_reducible apply al_add); (iterate 3 exact rfl); (first | exact i64_wrap (by omega) | assumption | rfl); exact rfl))); (with_reducible apply al_nil))))
    refine ⟨L.length - (j + 1), _, _, [], by omega, ⟨j + 1, jj + 1, vs ++ [u], hp, rfl, by omega, by simp [hvl], ?_, fun k r' v' hk hv' => ?_, fun k hk => ?_, fun k q hk hq => ?_, rfl, rfl⟩, RLe.refl _, rfl, ⟨rfl, rfl, rfl, rfl, trivial⟩, trivial, rfl⟩
    · rw [upd_same]
      show some (⟨45, 1, v, L.length, splice (vs.map AC.c ++ (L.drop j).map ringA) (jj.toNat * 1) [AC.c u]⟩ : HRow) = _
      rw [e1, splice_next hvl hp]
    · rw [upd_ne _ _ (by omega)]
      by_cases e : k = j
      · subst e
        rw [g1] at hk
        cases hk
        rw [List.getElem?_append_right (by omega), hvl, Nat.sub_self] at hv'
        cases hv'
        rw [upd_same]
      · have hkl : k < vs.length := by
          have := (List.getElem?_eq_some_iff.1 hv').1
          rw [List.length_append, List.length_singleton] at this
          omega
        rw [List.getElem?_append_left hkl] at hv'
        rw [upd_ne _ _ (by omega)]
        exact hRj k r' v' hk hv'
    · rw [upd_ne _ _ (by intro e; subst e; omega), upd_ne _ _ (by intro e; subst e; omega)]
      exact hRn k hk
    · rw [upd_ne _ _ hk] at hq
      by_cases e : k = 4 * (j + 1) + o
      · subst e
        rw [upd_same] at hq
        cases hq
        exact ⟨Nat.zero_lt_succ _, ringC_ex r⟩
      · rw [upd_ne _ _ e] at hq
        exact hRx k q hk hq
  · have e : j = L.length := by omega
    subst e
    rw [List.drop_length, List.map_nil, List.append_nil] at hR0
    have p2 : ¬ jj < (L.length : Int) := by omega
    (repeat (first | ((with_reducible apply rwp_seq)) | ((with_reducible apply rthen_normal)) | ((with_reducible apply rwp_region)) | ((with_reducible apply hs_nil)) | ((with_reducible apply rwp_ret)) | ((with_reducible apply rblock_same)) | ((with_reducible apply rwp_exit)) | ((with_reducible apply rthen_exit)) | ((with_reducible apply rwp_cond_0); exact rfl; (first | assumption | exact decide_eq_false (by omega) | (simp only [Bool.not_eq_true', decide_eq_false_iff_not, decide_eq_true_eq, Bool.not_eq_false']; (first | done | omega)) | exact rfl)) | ((with_reducible apply hs_c); exact rfl; (repeat (first | ((with_reducible apply al_q); exact rfl))); (with_reducible apply al_nil))))
    (first | (refine hfin_all rfl (resl_tmp rfl resl_nil) rfl ?_))
    refine ⟨v, vs, rfl, rfl, ⟨hvl, hR0, hRj⟩, hRn, fun k q hq => ?_⟩
    by_cases e : k = o
    · subst e
      rw [hR0] at hq
      cases hq
      exact ⟨Nat.zero_lt_succ _, fun y hy => by obtain ⟨v, _, rfl⟩ := List.mem_map.1 hy; exact ⟨v, rfl⟩⟩
    · exact hRx k q e hq
theorem FamP.top {o : Nat} {hv : Value} {vs : List Value} {L : List (List Pt)} {R R' : Rws} (h : FamP o hv vs L R) : FamP o hv vs L (ovr R R') := ⟨h.len, ovr_l h.hdr, fun j r v h1 h2 => ovr_l (h.rings j r v h1 h2)⟩
theorem FamP.under {o : Nat} {hv : Value} {vs : List Value} {L : List (List Pt)} {R R' : Rws} (h : FamP o hv vs L R) (h0 : R' o = none) (hn : ∀ j, R' (4 * (j + 1) + o) = none) : FamP o hv vs L (ovr R' R) := ⟨h.len, by rw [ovr_r h0]; exact h.hdr, fun j r v h1 h2 => by rw [ovr_r (hn j)]; exact h.rings j r v h1 h2⟩
set_option maxRecDepth 100000 in
set_option maxHeartbeats 8000000 in
/-- a job's copy, in rows of numbers 0 and 1, or 2 and 3, modulo 4. -/
theorem h_Clone11 {A B : List (List Pt)} {op fill rung cap : Int} {o : Nat} (ho : o = 0 ∨ o = 2) (hA : A.length ≤ 900000) (hB : B.length ≤ 900000) (hr : ∀ r ∈ A ++ B, r.length ≤ 900000) :
    HCall Try.prog 16 [.w (.agg (jobC A B op fill rung cap))] noMem noRows fun r m' R' => ∃ va vb vas vbs, r = .w (.agg [.c va, .c vb, .c (.int .i64 op), .c (.int .i64 fill), .c (.int .i64 rung), .c (.int .i64 cap)]) ∧ m' = noMem ∧ FamP o va vas A R' ∧ FamP (o + 1) vb vbs B R' ∧ (∀ k, k % 4 ≠ o → k % 4 ≠ o + 1 → R' k = none) ∧ ∀ k q, R' k = some q → 0 < q.sz ∧ ∀ y ∈ q.ys, ∃ v, y = AC.c v := by
  have C1 := h_cloneRings (L := A) (o := o) (by omega) hA (fun r h => hr r (List.mem_append_left _ h))
  have C2 := h_cloneRings (L := B) (o := o + 1) (by omega) hB (fun r h => hr r (List.mem_append_right _ h))
  refine hcall_of_body (f := 16) Try.func16 rfl (Nat.le_of_ble_eq_true rfl) (by first | exact big0 | exact big1 rfl) ?_
  (repeat (first | ((with_reducible apply rwp_drawH (id := 1) [0,1,3,4,2,6,5,7,8,9] [5,8]); kernel_rfl; kernel_rfl; exact rfl) | ((with_reducible apply rwp_seq)) | ((with_reducible apply rthen_normal)) | ((with_reducible apply rwp_region)) | ((with_reducible apply hs_nil)) | ((with_reducible apply hs_c); exact rfl; (repeat (first | ((with_reducible apply al_q); exact rfl))); (with_reducible apply al_nil))))
  refine hs_f rfl rfl rfl rfl C1 (fun i r h => by cases h) rfl rfl (fun r m' R' h => ?_)
  obtain ⟨va, vas, rfl, rfl, fa, na, xa⟩ := h
  refine ⟨rfl, ?_⟩
  (repeat (first | ((with_reducible apply hs_c); exact rfl; (repeat (first | ((with_reducible apply al_q); exact rfl))); (with_reducible apply al_nil))))
  refine hs_f rfl rfl rfl rfl C2 (fun i r h => by cases h) rfl rfl (fun r m' R2 h => ?_)
  obtain ⟨vb, vbs, rfl, rfl, fb, nb, xb⟩ := h
  refine ⟨rfl, ?_⟩
  (repeat (first | ((with_reducible apply hs_nilS); kernel_rfl) | ((with_reducible apply rwp_seq)) | ((with_reducible apply rthen_normal)) | ((with_reducible apply rwp_region)) | ((with_reducible apply hs_nil)) | ((with_reducible apply rwp_ret)) | ((with_reducible apply hs_c); exact rfl; (repeat (first | ((with_reducible apply al_q); exact rfl))); (with_reducible apply al_nil))))
  (first | (refine hfin_all rfl (resl_agg rfl rfl rfl resl_nil) rfl ?_) | (refine hfin_all rfl (resl_one rfl rfl rfl resl_nil) rfl ?_))
  refine ⟨va, vb, vas, vbs, rfl, rfl, fa.top.under (nb o (by omega)) (fun j => nb _ (by omega)), fb.top, fun k h1 h2 => ?_, fun k q hq => ?_⟩
  · rw [ovr_r (nb k h2), ovr_r (na k h1)]; rfl
  · rcases ovr_some hq with hq | ⟨_, hq⟩
    · exact xb k q hq
    · rcases ovr_some hq with hq | ⟨_, hq⟩
      · exact xa k q hq
      · cases hq
theorem FamP.upd {o : Nat} {hv : Value} {vs : List Value} {L : List (List Pt)} {R : Rws} {k : Nat} {q : HRow} (h : FamP o hv vs L R) (ho : o < 4) (hk : k % 4 ≠ o) : FamP o hv vs L (upd R k q) := ⟨h.len, by rw [upd_ne _ _ (by intro e; subst e; omega)]; exact h.hdr, fun j r v h1 h2 => by rw [upd_ne _ _ (by intro e; subst e; omega)]; exact h.rings j r v h1 h2⟩
/-- rings in rows, told. -/
theorem fam_tells {U : Nat → Prop} {ρ : Nat → Nat} {W : World} {R : Rws} {o : Nat} {hv : Value} {vs : List Value} {L : List (List Pt)} (hH : HHeap U ρ W noMem R) (hF : FamP o hv vs L R) : RpC (fun b => U b ∨ HotAt ρ noMem R b) ρ W (ringsA L) hv := by
  refine (hH.rows o _ hF.hdr).1.tells (Nat.zero_lt_succ _) (L.map ringA) (fun xs hx => ⟨by rw [← hx.1]; simp [hF.len], fun i x v hi hv' => ?_⟩) (List.all_eq_true.1 (ringsC_cl L)) (fun b hb => .inr (.inr ⟨o, _, hF.hdr, hb⟩))
  rw [List.getElem?_map] at hi
  obtain ⟨r, hr, rfl⟩ := Option.map_eq_some_iff.1 hi
  have hil := (List.getElem?_eq_some_iff.1 hr).1
  obtain ⟨u, hu⟩ : ∃ u, vs[i]? = some u := ⟨_, List.getElem?_eq_getElem (by rw [hF.len]; exact hil)⟩
  have h1 := hx.2 i (.c u) v (by show (vs.map AC.c)[i]? = _; rw [List.getElem?_map, hu]; rfl) hv'
  obtain ⟨rfl, _⟩ := h1
  have hq := hF.rings i r v hr hu
  exact (hH.rows _ _ hq).1.tells (Nat.zero_lt_succ _) (ringC r) (fun xs hx => hx.map (fun b hb _ => ⟨.inl hb, rfl⟩) fun j y hy hj => absurd hj (AC.closed_of (List.all_eq_true.1 (ringC_cl r) y hy) j)) (List.all_eq_true.1 (ringC_cl r)) (fun b hb => .inr (.inr ⟨_, _, hq, hb⟩))
/-- a job whose rings are in rows, told. -/
theorem job_tells {U : Nat → Prop} {ρ : Nat → Nat} {W : World} {R : Rws} {o o' : Nat} {va vb : Value} {vas vbs : List Value} {A B : List (List Pt)} {op fill rung cap : Int} {v : Value} (hH : HHeap U ρ W noMem R) (fa : FamP o va vas A R) (fb : FamP o' vb vbs B R) (h : RpV U ρ W (.w (.agg [.c va, .c vb, .c (.int .i64 op), .c (.int .i64 fill), .c (.int .i64 rung), .c (.int .i64 cap)])) v) : RpV (fun b => U b ∨ HotAt ρ noMem R b) ρ W (.w (.agg (jobC A B op fill rung cap))) v := by
  obtain ⟨xs, rfl, hl, hx⟩ := h
  refine ⟨xs, rfl, by rw [← hl]; rfl, fun i x u hi hu => ?_⟩
  match i with
  | 0 =>
    have h1 := hx 0 (.c va) u rfl hu
    obtain ⟨rfl, _⟩ := h1
    cases hi
    exact fam_tells hH fa
  | 1 =>
    have h1 := hx 1 (.c vb) u rfl hu
    obtain ⟨rfl, _⟩ := h1
    cases hi
    exact fam_tells hH fb
  | 2 => cases hi; exact hx 2 _ u rfl hu
  | 3 => cases hi; exact hx 3 _ u rfl hu
  | 4 => cases hi; exact hx 4 _ u rfl hu
  | 5 => cases hi; exact hx 5 _ u rfl hu
  | i + 6 => simp [jobC] at hi
/-- the reference's Same reads a job that is in rows. -/
theorem v_rSame {R : Rws} {o o' : Nat} {va vb : Value} {vas vbs : List Value} {A B A' B' : List (List Pt)} {op fill rung cap op' fill' rung' cap' : Int} (fa : FamP o va vas A R) (fb : FamP o' vb vbs B R) (hA : A.length ≤ 400000) (hB : B.length ≤ 400000) (hr : ∀ r ∈ A ++ B, r.length ≤ 900000) :
    HCall Try.prog 18 [.w (.agg [.c va, .c vb, .c (.int .i64 op), .c (.int .i64 fill), .c (.int .i64 rung), .c (.int .i64 cap)]), .w (.agg (jobC A' B' op' fill' rung' cap'))] noMem R fun r m' R' => ∃ R1, (r = vB (smB A B op fill rung cap A' B' op' fill' rung' cap') ∧ noMem = noMem ∧ R1 = noRows) ∧ m' = noMem ∧ R' = ovr R1 R := by
  refine hcall_view (hcall_pcall (p_rSame11 (A := A) (B := B) (A' := A') (B' := B') (op := op) (fill := fill) (rung := rung) (cap := cap) (op' := op') (fill' := fill') (rung' := rung') (cap' := cap') hA hB hr) rfl rfl) rfl (fun U ρ W vs hH hvs => ⟨hvs.1, fun i x v hx hv => ?_⟩) (fun r m' R1 h => ?_)
  · match i with
    | 0 => cases hx; exact job_tells hH fa fb (hvs.2 0 _ v rfl hv)
    | 1 => cases hx; exact (hvs.2 1 _ v rfl hv).map (fun b hb _ => ⟨.inl hb, rfl⟩) fun j hj => absurd hj (AV.closed_of (x := .w (.agg (jobC A' B' op' fill' rung' cap'))) rfl j)
    | i + 2 => simp at hx
  · obtain ⟨rfl, rfl, rfl⟩ := h
    exact ⟨rfl, Free.one, rfl, fun i q hi => by cases hi⟩
/-- Clone reads a job that is in rows. -/
theorem v_Clone {R : Rws} {va vb : Value} {vas vbs : List Value} {A B : List (List Pt)} {op fill rung cap : Int} (fa : FamP 0 va vas A R) (fb : FamP 1 vb vbs B R) (hA : A.length ≤ 900000) (hB : B.length ≤ 900000) (hr : ∀ r ∈ A ++ B, r.length ≤ 900000) :
    HCall Try.prog 16 [.w (.agg [.c va, .c vb, .c (.int .i64 op), .c (.int .i64 fill), .c (.int .i64 rung), .c (.int .i64 cap)])] noMem R fun r m' R' => ∃ R1, (∃ va vb vas vbs, r = .w (.agg [.c va, .c vb, .c (.int .i64 op), .c (.int .i64 fill), .c (.int .i64 rung), .c (.int .i64 cap)]) ∧ noMem = noMem ∧ FamP 2 va vas A R1 ∧ FamP (2 + 1) vb vbs B R1 ∧ (∀ k, k % 4 ≠ 2 → k % 4 ≠ 2 + 1 → R1 k = none) ∧ ∀ k q, R1 k = some q → 0 < q.sz ∧ ∀ y ∈ q.ys, ∃ v, y = AC.c v) ∧ m' = noMem ∧ R' = ovr R1 R := by
  refine hcall_view (h_Clone11 (A := A) (B := B) (op := op) (fill := fill) (rung := rung) (cap := cap) (o := 2) (.inr rfl) hA hB hr) rfl (fun U ρ W vs hH hvs => ⟨hvs.1, fun i x v hx hv => ?_⟩) (fun r m' R1 h => ?_)
  · match i with
    | 0 => cases hx; exact job_tells hH fa fb (hvs.2 0 _ v rfl hv)
    | i + 1 => simp at hx
  · obtain ⟨xa, xb, xas, xbs, rfl, rfl, _, _, _, hx⟩ := h
    refine ⟨rfl, Free.agg (FreeL.of fun y hy => ?_), rfl, fun i q hi => ⟨(hx i q hi).1, FreeL.of (hx i q hi).2⟩⟩
    simp only [List.mem_cons, List.not_mem_nil, or_false] at hy
    rcases hy with rfl | rfl | rfl | rfl | rfl | rfl <;> exact ⟨_, rfl⟩
end Go.Proofs.Ytlfkllmnekdghaa

namespace Go.Proofs.Ytlfkllmnekdghaa
open Go.RowKit
set_option linter.unusedVariables false
set_option linter.unusedSimpArgs false
instance iInpD_1 : IPart Try.prog 60 2 false 1 := ⟨by kernel_rfl⟩
theorem p_areas11 {n m : Nat} {xs ys : List AC} {op fill rung cap : Int} : PCall Try.prog 31 [.w (.agg [.p (SlP 1 n xs), .p (SlP 1 m ys), .c (.int .i64 op), .c (.int .i64 fill), .c (.int .i64 rung), .c (.int .i64 cap)])] (.w (.agg [.p (SlP 1 n xs), .p (SlP 1 m ys)])) := by
  refine pcall_body (f := 31) Try.func31 rfl rfl rfl rfl ?_
  (repeat (first | ((with_reducible apply al_q); exact rfl) | ((with_reducible apply awp_seq)) | ((with_reducible apply athen_normal)) | ((with_reducible apply awp_region)) | ((with_reducible apply al_nil)) | ((with_reducible apply awp_ret))))
  (first | (refine apost_ret rfl (resl_agg rfl rfl rfl resl_nil) ?_) | (refine apost_ret rfl (resl_one rfl rfl rfl resl_nil) ?_))
  exact AV.Le.refl _
theorem p_jrings11 (A B : List (List (Int × Int))) (op fill rung cap : Int) : PCall Try.prog 45 [.w (.agg (jobC A B op fill rung cap))] (.w (.one (.p (FunP (.func 60) [.p (PtrP (jobC A B op fill rung cap))])))) := by
  refine pcall_bodyT (f := 45) Try.func45 rfl rfl rfl rfl ?_
  refine awt_seq (awt_awp ?_)
  (repeat (first | ((with_reducible apply al_q); exact rfl) | ((with_reducible apply athen_normal)) | ((with_reducible apply awp_region)) | ((with_reducible apply al_nil))))
  refine awt_freeze 1 _ rfl rfl ?_
  refine awt_awp ?_
  (repeat (first | ((with_reducible apply al_q); exact rfl) | (refine al_mkfnP (xs := [_]) (cs := [_]) rfl rfl rfl rfl ?_) | ((with_reducible apply awp_seq)) | ((with_reducible apply athen_normal)) | ((with_reducible apply awp_region)) | ((with_reducible apply al_nil)) | ((with_reducible apply awp_ret))))
  (first | (refine apost_ret rfl (resl_tmp rfl resl_nil) ?_))
  exact AV.Le.refl _
def eldR (U : Nat → Prop) (W : World) (r : List (Int × Int)) : AC := .p (eldS U W (SlP 2 r.length (ringC r)))
theorem ecs_eldR (U : Nat → Prop) (W : World) (L : List (List (Int × Int))) : ECs U W (L.map ringA) (L.map (eldR U W)) := ⟨by simp, fun j x y hx hy => by
  rw [List.getElem?_map] at hx hy
  cases h : L[j]? with
  | none => rw [h] at hx; cases hx
  | some r => rw [h] at hx hy; cases hx; cases hy; exact EC.eld _⟩
theorem mapC_at {f : List (Int × Int) → AC} {L : List (List (Int × Int))} {i : Nat} {ii : Int} {r : List (Int × Int)} (hi : ii = i) (h : L[i]? = some r) : ((L.map f).drop (ii.toNat * 1)).take 1 = [f r] := by
  subst hi
  rw [Int.toNat_natCast, Nat.mul_one]
  have hk := (List.getElem?_eq_some_iff.1 h).1
  rw [List.drop_eq_getElem_cons (by simpa using hk)]
  simp [(List.getElem?_eq_some_iff.1 h).2]
def rgsM (A B : List (List (Int × Int))) : List (List AV) := (A ++ B).map fun r => [.w (.one (ringA r))]
def preR (A B : List (List (Int × Int))) (i : Nat) : Nat := if i = 0 then 0 else if i = 1 then A.length else A.length + B.length
abbrev eldL (X : Yx) (L : List (List (Int × Int))) : AC := .p (SlP 1 L.length (L.map (eldR X.U X.W1)))
def RuI (X : Yx) (A B : List (List (Int × Int))) (k : Nat) (g : Option Nat) (ts : List (Nat × AV)) (ms : List (Nat × List AC)) : Prop :=
  ∃ (i : Nat) (ii : Int), i ≤ 2 ∧ k = 2 - i ∧ ii = i ∧ g = some (preR A B i) ∧ ms = [] ∧ ts = [(0, vYd X.l), (8, .w (.agg [eldL X A, eldL X B])), (9, vI ii)]
def RvI (X : Yx) (A B L : List (List (Int × Int))) (b : Nat) (oo : Int) (k : Nat) (g : Option Nat) (ts : List (Nat × AV)) (ms : List (Nat × List AC)) : Prop :=
  ∃ (i : Nat) (ii : Int), i ≤ L.length ∧ k = L.length - i ∧ ii = i ∧ g = some (b + i) ∧ ms = [] ∧ ts = [(0, vYd X.l), (8, .w (.agg [eldL X A, eldL X B])), (9, vI oo), (12, .w (.one (eldL X L))), (13, vI L.length), (14, vI ii)]
set_option maxRecDepth 100000 in
set_option maxHeartbeats 8000000 in
theorem iseq_rings {A B : List (List (Int × Int))} {op fill rung cap : Int} (hA : A.length ≤ 4611686018427387904) (hB : B.length ≤ 4611686018427387904) : ISeq Try.prog (FunP (.func 60) [.p (PtrP (jobC A B op fill rung cap))]) (rgsM A B) := by
  refine iseq_of (gf := 60) Try.func60 rfl (fun args w => enters_run (by kernel_rfl)) (Nat.le_of_ble_eq_true rfl) rfl rfl ?_
  intro X hX hxs
  refine ⟨[.p (PtrP [eldL X A, eldL X B, .c (.int .i64 op), .c (.int .i64 fill), .c (.int .i64 rung), .c (.int .i64 cap)])], ECs.cons (EC.ptr (ECs.cons (EC.sl (ecs_eldR _ _ A)) (ECs.cons (EC.sl (ecs_eldR _ _ B)) (ECs.cons (EC.refl _) (ECs.cons (EC.refl _) (ECs.cons (EC.refl _) (ECs.cons (EC.refl _) ECs.nil))))))) ECs.nil, ?_⟩
  have C0 := p_areas11 (n := A.length) (m := B.length) (xs := A.map (eldR X.U X.W1)) (ys := B.map (eldR X.U X.W1)) (op := op) (fill := fill) (rung := rung) (cap := cap)
  (repeat (first | ((with_reducible apply al_q); exact rfl) | ((with_reducible apply al_loadPN); (iterate 5 exact rfl)) | (refine al_call1 rfl rfl rfl (by (first | exact C0)) rfl ?_) | ((with_reducible apply ywp_seq)) | ((with_reducible apply ythen_normal)) | ((with_reducible apply al_nil)) | ((with_reducible apply ywp_block)) | ((with_reducible apply ywp_region); assumption)))
  refine ywp_loopL 24 (RuI X A B) 2 _ [] ⟨0, 0, Nat.zero_le _, rfl, rfl, rfl, rfl, rfl⟩ rfl ⟨rfl, rfl, rfl, trivial⟩ trivial rfl ?_
  rintro n g ts ms ⟨i, ii, hi, rfl, hii, rfl, rfl, rfl⟩ hok
  clear hok
  by_cases hq : i < 2
  · have q2 : ii < 2 := by omega
    have q3 : 0 ≤ ii := by omega
    obtain ⟨L, hcell, hLl, hxL, hpre⟩ : ∃ L : List (List (Int × Int)), [eldL X A, eldL X B][ii.toNat * 1]? = some (eldL X L) ∧ L.length ≤ 4611686018427387904 ∧ (∀ j r, L[j]? = some r → X.xs[preR A B i + j]? = some [.w (.one (ringA r))]) ∧ preR A B (i + 1) = preR A B i + L.length := by
      have h01 : i = 0 ∨ i = 1 := by omega
      rw [hxs]
      rcases h01 with rfl | rfl
      · subst hii
        refine ⟨A, rfl, hA, fun j r hj => ?_, by simp [preR]⟩
        have hlt := (List.getElem?_eq_some_iff.1 hj).1
        rw [show preR A B 0 + j = j from Nat.zero_add j, rgsM, List.getElem?_map, List.getElem?_append_left hlt, hj]; rfl
      · subst hii
        refine ⟨B, rfl, hB, fun j r hj => ?_, by simp [preR]⟩
        rw [show preR A B 1 + j = A.length + j from rfl, rgsM, List.getElem?_map, List.getElem?_append_right (by omega), show A.length + j - A.length = j by omega, hj]; rfl
    (repeat (first | ((with_reducible apply al_q); exact rfl) | ((with_reducible apply al_len); (iterate 3 exact rfl)) | ((with_reducible apply al_indexV1); (iterate 3 exact rfl); (first | decide | omega); (first | decide | omega); (first | assumption | rfl); exact rfl) | ((with_reducible apply ywp_seq)) | ((with_reducible apply ythen_normal)) | ((with_reducible apply al_nil)) | ((with_reducible apply ywp_skip); assumption) | ((with_reducible apply ywp_block)) | ((with_reducible apply ywp_cond_1); exact rfl; (first | assumption | exact decide_eq_true (by omega) | (simp only [Bool.not_eq_true', decide_eq_false_iff_not, decide_eq_true_eq, Bool.not_eq_false']; (first | done | omega)) | exact rfl)) | ((with_reducible apply ywp_region); assumption)))
    refine ywp_loopL 24 (RvI X A B L (preR A B i) ii) L.length _ [] ⟨0, 0, Nat.zero_le _, rfl, rfl, rfl, rfl, rfl⟩ rfl ⟨rfl, rfl, rfl, rfl, rfl, rfl, trivial⟩ trivial rfl ?_
    rintro n g ts ms ⟨j, jj, hj, rfl, hjj, rfl, rfl, rfl⟩ hok
    clear hok
    by_cases hp : j < L.length
    · have p2 : jj < (L.length : Int) := by omega
      have p3 : 0 ≤ jj := by omega
      obtain ⟨r, g1⟩ : ∃ r, L[j]? = some r := ⟨_, List.getElem?_eq_getElem hp⟩
      have F1 := mapC_at (f := eldR X.U X.W1) hjj g1
      have hx := hxL j r g1
      (repeat (first | ((with_reducible apply al_q); exact rfl) | ((with_reducible apply al_loadP1); (iterate 5 exact rfl)) | ((with_reducible apply al_idxS); (iterate 3 exact rfl); (first | decide | omega); (first | decide | omega); (first | assumption | rfl); exact rfl) | ((with_reducible apply ywp_seq)) | ((with_reducible apply ythen_normal)) | ((with_reducible apply al_nil)) | ((with_reducible apply ywp_skip); assumption) | ((with_reducible apply ywp_block)) | ((with_reducible apply ywp_cond_1); exact rfl; (first | assumption | exact decide_eq_true (by omega) | (simp only [Bool.not_eq_true', decide_eq_false_iff_not, decide_eq_true_eq, Bool.not_eq_false']; (first | done | omega)) | exact rfl)) | (refine ywp_yield (ri := 6) (k := 2) (by assumption) rfl ?_) | ((with_reducible apply ywp_region); assumption)))
      refine ⟨Nat.lt_of_lt_of_le (Nat.lt_succ_self _) (Nat.le_of_ble_eq_true rfl), rfl, _, [.w (.one (eldR X.U X.W1 r))], hx, rfl, Elds.cons (Eld.eld _) Elds.nil, ?_, ?_⟩
      · (repeat (first | ((with_reducible apply al_q); exact rfl) | ((with_reducible apply al_add); (iterate 3 exact rfl); (first | exact i64_wrap (by omega) | assumption | rfl); exact rfl) | ((with_reducible apply ythen_normal)) | ((with_reducible apply al_nil)) | ((with_reducible apply ywp_skip); assumption) | ((with_reducible apply yblock_normal)) | ((with_reducible apply ywp_cond_0); exact rfl; (first | assumption | exact decide_eq_false (by omega) | (simp only [Bool.not_eq_true', decide_eq_false_iff_not, decide_eq_true_eq, Bool.not_eq_false']; (first | done | omega)) | exact rfl)) | ((with_reducible apply ywp_region); assumption)))
        exact ⟨L.length - (j + 1), _, [], by omega, ⟨j + 1, jj + 1, hp, rfl, by omega, rfl, rfl, rfl⟩, rfl, ⟨rfl, rfl, rfl, rfl, rfl, rfl, trivial⟩, trivial, rfl⟩
      · (repeat (first | ((with_reducible apply al_q); exact rfl) | ((with_reducible apply ythen_normal)) | ((with_reducible apply al_nil)) | ((with_reducible apply ythen_ret)) | ((with_reducible apply ywp_ret); assumption) | ((with_reducible apply yblock_ret)) | ((with_reducible apply ywp_cond_1); exact rfl; (first | assumption | exact decide_eq_true (by omega) | (simp only [Bool.not_eq_true', decide_eq_false_iff_not, decide_eq_true_eq, Bool.not_eq_false']; (first | done | omega)) | exact rfl))))
        exact ⟨.inr rfl, .inl rfl⟩
    · have e : j = L.length := by omega
      subst e
      (repeat (first | ((with_reducible apply al_q); exact rfl) | ((with_reducible apply al_add); (iterate 3 exact rfl); (first | exact i64_wrap (by omega) | assumption | rfl); exact rfl) | ((with_reducible apply ywp_seq)) | ((with_reducible apply ythen_normal)) | ((with_reducible apply al_nil)) | ((with_reducible apply yblock_normal)) | ((with_reducible apply yblock_same)) | ((with_reducible apply ywp_exit); assumption) | ((with_reducible apply ythen_exit)) | ((with_reducible apply ywp_cond_0); exact rfl; (first | assumption | exact decide_eq_false (by omega) | (simp only [Bool.not_eq_true', decide_eq_false_iff_not, decide_eq_true_eq, Bool.not_eq_false']; (first | done | omega)) | exact rfl)) | ((with_reducible apply ywp_region); assumption)))
      exact ⟨2 - (i + 1), _, [], by omega, ⟨i + 1, ii + 1, hq, rfl, by omega, by rw [hpre], rfl, rfl⟩, rfl, ⟨rfl, rfl, rfl, trivial⟩, trivial, rfl⟩
  · have e : i = 2 := by omega
    subst e
    (repeat (first | ((with_reducible apply al_q); exact rfl) | ((with_reducible apply ywp_seq)) | ((with_reducible apply ythen_normal)) | ((with_reducible apply al_nil)) | ((with_reducible apply yblock_same)) | ((with_reducible apply ywp_exit); assumption) | ((with_reducible apply ythen_exit)) | ((with_reducible apply ywp_cond_0); exact rfl; (first | assumption | exact decide_eq_false (by omega) | (simp only [Bool.not_eq_true', decide_eq_false_iff_not, decide_eq_true_eq, Bool.not_eq_false']; (first | done | omega)) | exact rfl)) | ((with_reducible apply ywp_region); assumption)))
    exact ⟨.inl rfl, .inr (by simp [preR, rgsM])⟩
end Go.Proofs.Ytlfkllmnekdghaa

namespace Go.Proofs.Ytlfkllmnekdghaa
open Go.RowKit
set_option linter.unusedVariables false
set_option linter.unusedSimpArgs false
instance iInpE_1 : RowTy Try.prog 32 39 5 40 := ⟨by kernel_rfl⟩
abbrev edRow (v : Value) (l : List (Int × ((Int × Int) × (Int × Int)))) : HRow := ⟨39, 5, v, l.length, edsC l⟩
def allE (A B : List (List (Int × Int))) : List (Int × ((Int × Int) × (Int × Int))) := (edgsM A).map (fun e => (0, e)) ++ (edgsM B).map fun e => (1, e)
theorem edRow_one (v : Value) (l : List (Int × ((Int × Int) × (Int × Int)))) (x : Int × ((Int × Int) × (Int × Int))) : edRow v (l ++ [x]) = ⟨39, 5, v, l.length + 1, edsC l ++ edC x⟩ := by
  simp [edRow, edsC, List.flatMap_append]
theorem allE_A {A B : List (List (Int × Int))} {i : Nat} {e : (Int × Int) × (Int × Int)} (h : (edgsM A)[i]? = some e) : (allE A B)[i]? = some (0, e) := by
  have hi := (List.getElem?_eq_some_iff.1 h).1
  unfold allE
  rw [List.getElem?_append_left (by simpa using hi), List.getElem?_map, h]; rfl
theorem allE_B {A B : List (List (Int × Int))} {i : Nat} {e : (Int × Int) × (Int × Int)} (h : (edgsM B)[i]? = some e) : (allE A B)[(edgsM A).length + i]? = some (1, e) := by
  unfold allE
  rw [List.getElem?_append_right (by simp), List.length_map, Nat.add_sub_cancel_left, List.getElem?_map, h]; rfl
theorem allE_len (A B : List (List (Int × Int))) : (allE A B).length = (edgsM A).length + (edgsM B).length := by simp [allE]
def preE (A B : List (List (Int × Int))) (i : Nat) : Nat := if i = 0 then 0 else if i = 1 then (edgsM A).length else (edgsM A).length + (edgsM B).length
def EoI (A B : List (List (Int × Int))) (k : Nat) (R : Rws) (ts : List (Nat × AV)) (ms : List (Nat × List AC)) : Prop :=
  ∃ (i : Nat) (ii : Int) (v : Value), i ≤ 2 ∧ k = 2 - i ∧ ii = i ∧ v.oneCell' = true ∧ R = row1 0 (edRow v ((allE A B).take (preE A B i))) ∧ ms = [(1003, [.c v])] ∧ ts = [(3, vOw11 1003), (9, .w (.agg [ringsA A, ringsA B])), (10, vI ii)]
def EdI (M : List (Int × ((Int × Int) × (Int × Int)))) (ii : Int) (b : Nat) (i : Nat) (R : Rws) (css : List (List AC)) : Prop := ∃ v, v.oneCell' = true ∧ R = row1 0 (edRow v (M.take (b + i))) ∧ css = [[.c v], [.c (.int .i64 ii)]]
set_option maxRecDepth 100000 in
set_option maxHeartbeats 8000000 in
theorem p_Edges11 {A B : List (List (Int × Int))} {op fill rung cap : Int} (hA : A.length ≤ 900000) (hB : B.length ≤ 900000) (hAr : ∀ r ∈ A, r.length ≤ 900000) (hBr : ∀ r ∈ B, r.length ≤ 900000) (hM : (allE A B).length ≤ 900000) :
    PCall Try.prog 14 [.w (.agg (jobC A B op fill rung cap))] (vS 5 (allE A B).length (edsC (allE A B))) := by
  have C0 : PCall Try.prog 31 [.w (.agg (jobC A B op fill rung cap))] (.w (.agg [ringsA A, ringsA B])) := p_areas11
  refine pcall_bodyR (f := 14) Try.func14 rfl rfl rfl rfl ?_
  (repeat (first | ((with_reducible apply rwt_seq)) | ((with_reducible apply rwt_region)) | ((with_reducible apply rwt_block)) | ((with_reducible apply rthen_normal)) | ((with_reducible apply hs_nil)) | ((with_reducible apply hs_c); exact rfl; (repeat (first | ((with_reducible apply al_q); exact rfl) | (refine al_call1 rfl rfl rfl (by (first | exact C0)) rfl ?_))); (with_reducible apply al_nil))))
  refine rwt_ren (swp 3 1003) (swp_swp _ _) ?_
  refine rwt_nil 0 39 5 rfl ?_
  refine rwt_loopL 27 (EoI A B) 2 _ _ _ ⟨0, 0, .slice none 0 0, Nat.zero_le _, rfl, rfl, rfl, rfl, rfl, rfl⟩ (row1_le _ _ _) rfl ⟨rfl, rfl, rfl, trivial⟩ ⟨rfl, trivial⟩ rfl ?_
  rintro n R ts ms ⟨i, ii, v, hi, rfl, hii, hv, rfl, rfl, rfl⟩ hok
  clear hok
  by_cases hq : i < 2
  · have q2 : ii < 2 := by omega
    have q3 : 0 ≤ ii := by omega
    obtain ⟨L, hcell, hLl, hLr, hE, hpre⟩ : ∃ L : List (List (Int × Int)), [ringsA A, ringsA B][ii.toNat * 1]? = some (ringsA L) ∧ L.length ≤ 900000 ∧ (∀ r ∈ L, r.length ≤ 900000) ∧ (∀ (j : Nat) e, (edgsM L)[j]? = some e → (allE A B)[preE A B i + j]? = some (ii, e)) ∧ preE A B (i + 1) = preE A B i + (edgsM L).length := by
      have h01 : i = 0 ∨ i = 1 := by omega
      rcases h01 with rfl | rfl
      · subst hii
        refine ⟨A, rfl, hA, hAr, fun j e he => ?_, by simp [preE]⟩
        rw [show preE A B 0 + j = j from Nat.zero_add j]; exact allE_A he
      · subst hii
        exact ⟨B, rfl, hB, hBr, fun j e he => allE_B he, by simp [preE]⟩
    have S1 := p_around11 L
    have Q1 := iseq_around (L := L) (by omega) (fun r hr => by have := hLr r hr; omega)
    (repeat (first | ((with_reducible apply rwt_seq)) | ((with_reducible apply rwt_region)) | ((with_reducible apply rwt_skip)) | ((with_reducible apply rwt_block)) | ((with_reducible apply rthen_normal)) | ((with_reducible apply hs_nil)) | ((with_reducible apply hs_c); exact rfl; (repeat (first | ((with_reducible apply al_q); exact rfl) | ((with_reducible apply al_indexV1); (iterate 3 exact rfl); (first | decide | omega); (first | decide | omega); (first | assumption | rfl); exact rfl) | (refine al_call1 rfl rfl rfl (by (first | exact S1)) rfl ?_))); (with_reducible apply al_nil)) | ((with_reducible apply rwt_cond_1); exact rfl; (first | assumption | exact decide_eq_true (by omega) | (simp only [Bool.not_eq_true', decide_eq_false_iff_not, decide_eq_true_eq, Bool.not_eq_false']; (first | done | omega)) | exact rfl))))
    refine rwt_ren (swp 4 1004) (swp_swp _ _) ?_
    refine rwt_range 27 [(3, vOw11 1003), (4, vOw11 1004), (9, .w (.agg [ringsA A, ringsA B])), (10, vI ii)] [1003, 1004] [[.c v], [.c (.int .i64 ii)]] (row1 0 (edRow v ((allE A B).take (preE A B i)))) (EdI (allE A B) ii (preE A B i)) (fun _ _ _ => False) rfl Q1 (by decide) ?hxs ?hp rfl ⟨rfl, rfl, rfl, rfl, trivial⟩ ⟨rfl, rfl, trivial⟩ (by decide) rfl rfl ⟨v, hv, rfl, rfl⟩ (RLe.refl _) (plainR1 (Nat.zero_lt_succ _)) ?round ?done (fun _ _ _ _ _ h => h.elim)
    case hxs =>
      intro x hx
      obtain ⟨e, _, rfl⟩ := List.mem_map.1 hx
      exact ⟨rfl, rfl⟩
    case hp =>
      intro p hp
      simp only [List.mem_cons, List.not_mem_nil, or_false] at hp
      rcases hp with rfl | rfl <;> exact ⟨by decide, rfl⟩
    case round =>
      rintro j x R css hx ⟨v, hv, rfl, rfl⟩ hok
      rw [List.getElem?_map] at hx
      obtain ⟨⟨⟨x1, y1⟩, x2, y2⟩, he, rfl⟩ := Option.map_eq_some_iff.1 hx
      clear hx hok
      have ht := take_one (hE _ _ he)
      have htl : ((allE A B).take (preE A B i + j)).length ≤ 900000 := by rw [List.length_take]; omega
      (repeat (first | ((with_reducible apply rwp_seq)) | ((with_reducible apply rthen_normal)) | ((with_reducible apply rwp_region)) | ((with_reducible apply hs_nil)) | ((with_reducible apply rwp_block)) | ((with_reducible apply hs_c); exact rfl; (repeat (first | ((with_reducible apply al_q); exact rfl) | ((with_reducible apply al_bslice); (iterate 10 exact rfl)))); (with_reducible apply al_nil))))
      refine hs_app0 0 rfl rfl rfl rfl ?q1 ?q2 rfl rfl (fun v' hv' => ?_)
      case q1 => exact Nat.le_trans (m := 1000000) (by show ((allE A B).take (preE A B i + j)).length + 1 ≤ 1000000; omega) (by decide)
      case q2 => show (((allE A B).take (preE A B i + j)).length + 1) * 40 ≤ 140737488355328; omega
      (repeat (first | ((with_reducible apply hs_nil)) | ((with_reducible apply rblock_normal)) | ((with_reducible apply hs_c); exact rfl; (repeat (first | ((with_reducible apply al_q); exact rfl))); (with_reducible apply al_nil))))
      refine ⟨_, _, ⟨v', hv', rfl, rfl⟩, ?_, plainR1 (Nat.zero_lt_succ _), rfl, ⟨rfl, rfl, trivial⟩, rfl⟩
      rw [← Nat.add_assoc, ht, edRow_one]; exact row1_le _ _ _
    case done =>
      rintro R css ⟨v, hv, rfl, rfl⟩ hok
      clear hok
      rw [List.length_map]
      (repeat (first | ((with_reducible apply rwt_region)) | ((with_reducible apply rthen_normal)) | ((with_reducible apply hs_nil)) | ((with_reducible apply rblock_normal)) | ((with_reducible apply hs_c); exact rfl; (repeat (first | ((with_reducible apply al_q); exact rfl) | ((with_reducible apply al_add); (iterate 3 exact rfl); (first | exact i64_wrap (by omega) | assumption | rfl); exact rfl))); (with_reducible apply al_nil))))
      exact ⟨2 - (i + 1), _, _, _, by omega, ⟨i + 1, ii + 1, v, by omega, rfl, by omega, hv, rfl, rfl, rfl⟩, by rw [hpre]; exact RLe.refl _, rfl, ⟨rfl, rfl, rfl, trivial⟩, ⟨rfl, trivial⟩, rfl⟩
  · have e : i = 2 := by omega
    subst e
    have e0 : (allE A B).take (preE A B 2) = allE A B := List.take_of_length_le (by rw [allE_len]; simp [preE])
    rw [e0]
    have q4 : ¬ ii < 2 := by omega
    refine rwt_coolb 0 1003 0 (edRow v (allE A B)) rfl rfl rfl ?_
    (repeat (first | ((with_reducible apply rwt_seq)) | ((with_reducible apply rwt_region)) | ((with_reducible apply rwt_ret)) | ((with_reducible apply rwt_exit)) | ((with_reducible apply rthen_normal)) | ((with_reducible apply hs_nil)) | ((with_reducible apply rblock_same)) | ((with_reducible apply rthen_exit)) | ((with_reducible apply hs_c); exact rfl; (repeat (first | ((with_reducible apply al_q); exact rfl))); (with_reducible apply al_nil)) | ((with_reducible apply rwt_cond_0); exact rfl; (first | assumption | exact decide_eq_false (by omega) | (simp only [Bool.not_eq_true', decide_eq_false_iff_not, decide_eq_true_eq, Bool.not_eq_false']; (first | done | omega)) | exact rfl))))
    (first | (refine apost_ret rfl (resl_tmp rfl resl_nil) ?_))
    exact AV.Le.refl _
end Go.Proofs.Ytlfkllmnekdghaa

namespace Go.Proofs.Ytlfkllmnekdghaa
open Go.RowKit
set_option linter.unusedVariables false
set_option linter.unusedSimpArgs false
/-- how many points all rings have. -/
def sumL (L : List (List Pt)) : Nat := (L.map List.length).sum
theorem sumL_take {L : List (List Pt)} {k : Nat} {r : List Pt} (h : L[k]? = some r) : sumL (L.take (k + 1)) = sumL (L.take k) + r.length := by
  rw [take_one h]; simp [sumL]
theorem sumL_le {L : List (List Pt)} {k : Nat} : sumL (L.take k) ≤ sumL L := by
  have e : sumL L = sumL (L.take k) + sumL (L.drop k) := by
    conv => lhs; rw [← List.take_append_drop k L]
    simp only [sumL, List.map_append, List.sum_append]
  omega
theorem sumL_mem {L : List (List Pt)} {k : Nat} {r : List Pt} (h : L[k]? = some r) : r.length ≤ sumL L := by
  have h1 := sumL_take h
  have h2 := sumL_le (L := L) (k := k + 1)
  omega
/-- what points counts. -/
def ptsF : List (List Pt) → Nat → Nat
  | [], c => c
  | r :: L, c => if c ≤ 256 then (if 256 < r.length then 257 else ptsF L (c + r.length)) else c
def PnI (L : List (List Pt)) (n : Nat) (ts : List (Nat × AV)) (ms : List (Nat × List AC)) : Prop :=
  ∃ (k : Nat) (ki : Int) (c : Nat), k ≤ L.length ∧ n = L.length - k ∧ ki = k ∧ c ≤ 512 ∧ ptsF L 0 = ptsF (L.drop k) c ∧ ms = [] ∧ ts = [(0, .w (.one (ringsA L))), (3, vI c), (4, vI ki)]
def farB (p : Pt) : Bool := decide (p.1 > 67108864) || decide (p.1 < -67108864) || decide (p.2 > 67108864) || decide (p.2 < -67108864)
/-- why rings may not be. -/
def rgV : List (List Pt) → Int
  | [] => 0
  | r :: L => if r.length < 3 then 114 else if r.any farB = true then 115 else rgV L
theorem rgV_cons (r : List Pt) (L : List (List Pt)) : rgV (r :: L) = if r.length < 3 then 114 else if r.any farB = true then 115 else rgV L := rfl
def RgI (L : List (List Pt)) (n : Nat) (ts : List (Nat × AV)) (ms : List (Nat × List AC)) : Prop :=
  ∃ (k : Nat) (ki : Int), k ≤ L.length ∧ n = L.length - k ∧ ki = k ∧ rgV L = rgV (L.drop k) ∧ ms = [] ∧ ts = [(0, .w (.one (ringsA L))), (3, vI ki)]
def RhI (L : List (List Pt)) (r : List Pt) (ki : Int) (n : Nat) (ts : List (Nat × AV)) (ms : List (Nat × List AC)) : Prop :=
  ∃ (i : Nat) (ii : Int), i ≤ r.length ∧ n = r.length - i ∧ ii = i ∧ r.any farB = (r.drop i).any farB ∧ ms = [] ∧ ts = [(0, .w (.one (ringsA L))), (3, vI ki), (4, vI ii)]
/-- why a job may not be, or 0. -/
def chkV (A B : List (List Pt)) (op fill rung cap : Int) : Int :=
  if op < 0 ∨ op > 3 then 110 else if fill < 0 ∨ fill > 1 then 111 else if rung < 0 ∨ rung > 28 then 112 else if cap < 1 ∨ cap > 1024 then 113 else if sumL A + sumL B < 1 ∨ sumL A + sumL B > 256 then 116 else if rgV A = 0 then rgV B else rgV A
end Go.Proofs.Ytlfkllmnekdghaa

namespace Go.Proofs.Ytlfkllmnekdghaa
open Go.RowKit
set_option linter.unusedVariables false
set_option linter.unusedSimpArgs false
theorem sumL_app (A B : List (List Pt)) : sumL (A ++ B) = sumL A + sumL B := by simp [sumL]
theorem rgV_app : ∀ (A B : List (List Pt)), rgV (A ++ B) = if rgV A = 0 then rgV B else rgV A
  | [], B => rfl
  | r :: A, B => by
    rw [List.cons_append, rgV_cons, rgV_cons]
    by_cases h1 : r.length < 3
    · rw [if_pos h1, if_pos h1]; rfl
    · rw [if_neg h1, if_neg h1]
      by_cases h2 : r.any farB = true
      · rw [if_pos h2, if_pos h2]; rfl
      · rw [if_neg h2, if_neg h2]; exact rgV_app A B
theorem rgsM_at {A B : List (List Pt)} {i : Nat} {x : List AV} (h : (rgsM A B)[i]? = some x) : ∃ r, (A ++ B)[i]? = some r ∧ x = [.w (.one (ringA r))] := by
  rw [rgsM, List.getElem?_map] at h
  obtain ⟨r, h1, rfl⟩ := Option.map_eq_some_iff.1 h
  exact ⟨r, h1, rfl⟩
theorem rgsM_cl {A B : List (List Pt)} : ∀ x ∈ rgsM A B, x.length = 1 ∧ x.all AV.closedB = true := fun x hx => by
  obtain ⟨r, _, rfl⟩ := List.mem_map.1 hx
  exact ⟨rfl, rfl⟩
def NmI (M : List (List Pt)) (i : Nat) (R : Rws) (css : List (List AC)) : Prop := ∃ c : Int, R = noRows ∧ css = [[.c (.bool false)], [.c (.int .i64 c)]] ∧ c = (sumL (M.take i) : Nat) ∧ c ≤ 256
def NmX (M : List (List Pt)) (e : Exit) (R : Rws) (css : List (List AC)) : Prop := ∃ c : Int, e = .ret ∧ R = noRows ∧ css = [[.c (.bool true)], [.c (.int .i64 c)]] ∧ 256 < sumL M
def nmB (A B : List (List Pt)) : Bool := decide (sumL A + sumL B < 1 ∨ sumL A + sumL B > 256)
set_option maxRecDepth 100000 in
set_option maxHeartbeats 8000000 in
theorem p_isNone {A B : List (List Pt)} {op fill rung cap : Int} (hA : A.length ≤ 4611686018427387904) (hB : B.length ≤ 4611686018427387904) (hr : ∀ r ∈ A ++ B, r.length ≤ 4611686018427387904) :
    PCall Try.prog 27 [.w (.agg (jobC A B op fill rung cap))] (vB (nmB A B)) := by
  have S1 := p_jrings11 A B op fill rung cap
  have Q1 := iseq_rings (A := A) (B := B) (op := op) (fill := fill) (rung := rung) (cap := cap) hA hB
  refine pcall_bodyR (f := 27) Try.func27 rfl rfl rfl rfl ?_
  (repeat (first | ((with_reducible apply rwt_seq)) | ((with_reducible apply rwt_region)) | ((with_reducible apply rwt_block)) | ((with_reducible apply rthen_normal)) | ((with_reducible apply hs_nil)) | ((with_reducible apply hs_c); exact rfl; (repeat (first | ((with_reducible apply al_q); exact rfl) | (refine al_call1 rfl rfl rfl (by (first | exact S1)) rfl ?_))); (with_reducible apply al_nil))))
  refine rwt_ren (swp 2 1002) (swp_swp _ _) ?_
  refine rwt_ren (swp 3 1003) (swp_swp _ _) ?_
  refine rwt_range 16 [(2, vOw11 1002), (3, vOw11 1003)] [1002, 1003] [[.c (.bool false)], [.c (.int .i64 0)]] noRows (NmI (A ++ B)) (NmX (A ++ B)) rfl Q1 (by decide) rgsM_cl ?hp rfl ⟨rfl, rfl, trivial⟩ ⟨rfl, rfl, trivial⟩ (by decide) rfl rfl ⟨0, rfl, rfl, rfl, by decide⟩ (RLe.refl _) (fun i r h => by cases h) ?round ?done ?stop
  case hp =>
    intro p hp
    simp only [List.mem_cons, List.not_mem_nil, or_false] at hp
    subst hp; exact ⟨by decide, rfl⟩
  case round =>
    rintro i x R css hx ⟨c, rfl, rfl, hc, hc2⟩ hok
    obtain ⟨r, h1, rfl⟩ := rgsM_at hx
    clear hx hok
    have hs := sumL_take h1
    have hl := sumL_le (L := A ++ B) (k := i + 1)
    have hrl := hr r (List.mem_of_getElem? h1)
    by_cases hq : c + r.length > 256
    · (repeat (first | ((with_reducible apply rwp_seq)) | ((with_reducible apply rthen_normal)) | ((with_reducible apply rwp_region)) | ((with_reducible apply hs_nil)) | ((with_reducible apply rwp_ret)) | ((with_reducible apply rwp_block)) | ((with_reducible apply rblock_ret)) | ((with_reducible apply rwp_cond_1); exact rfl; (first | assumption | exact decide_eq_true (by omega) | (simp only [Bool.not_eq_true', decide_eq_false_iff_not, decide_eq_true_eq, Bool.not_eq_false']; (first | done | omega)) | exact rfl)) | ((with_reducible apply hs_c); exact rfl; (repeat (first | ((with_reducible apply al_q); exact rfl) | ((with_reducible apply al_add); (iterate 3 exact rfl); (first | exact i64_wrap (by omega) | assumption | rfl); exact rfl) | ((with_reducible apply al_len); (iterate 3 exact rfl)))); (with_reducible apply al_nil))))
      exact ⟨_, _, ⟨_, rfl, rfl, rfl, by omega⟩, RLe.refl _, (fun i r h => by cases h), rfl, ⟨rfl, rfl, trivial⟩, rfl⟩
    · (repeat (first | ((with_reducible apply rwp_seq)) | ((with_reducible apply rthen_normal)) | ((with_reducible apply rwp_region)) | ((with_reducible apply hs_nil)) | ((with_reducible apply rwp_skip)) | ((with_reducible apply rwp_block)) | ((with_reducible apply rblock_normal)) | ((with_reducible apply rwp_cond_0); exact rfl; (first | assumption | exact decide_eq_false (by omega) | (simp only [Bool.not_eq_true', decide_eq_false_iff_not, decide_eq_true_eq, Bool.not_eq_false']; (first | done | omega)) | exact rfl)) | ((with_reducible apply hs_c); exact rfl; (repeat (first | ((with_reducible apply al_q); exact rfl) | ((with_reducible apply al_add); (iterate 3 exact rfl); (first | exact i64_wrap (by omega) | assumption | rfl); exact rfl) | ((with_reducible apply al_len); (iterate 3 exact rfl)))); (with_reducible apply al_nil))))
      exact ⟨_, _, ⟨_, rfl, rfl, by omega, by omega⟩, RLe.refl _, (fun i r h => by cases h), rfl, ⟨rfl, rfl, trivial⟩, rfl⟩
  case done =>
    rintro R css ⟨c, rfl, rfl, hc, hc2⟩ hok
    clear hok
    have e0 : (A ++ B).take (rgsM A B).length = A ++ B := List.take_of_length_le (by simp [rgsM])
    rw [e0, sumL_app] at hc
    have e : nmB A B = decide (c = 0) := by unfold nmB; rw [decide_eq_decide]; omega
    rw [e]
    (repeat (first | ((with_reducible apply rwt_seq)) | ((with_reducible apply rwt_region)) | ((with_reducible apply rwt_ret)) | ((with_reducible apply rthen_normal)) | ((with_reducible apply hs_nil)) | ((with_reducible apply rblock_normal)) | ((with_reducible apply hs_c); exact rfl; (repeat (first | ((with_reducible apply al_q); exact rfl))); (with_reducible apply al_nil))))
    (first | (refine apost_ret rfl (resl_agg rfl rfl rfl resl_nil) ?_) | (refine apost_ret rfl (resl_one rfl rfl rfl resl_nil) ?_))
    exact AV.Le.refl _
  case stop =>
    rintro e c R css he ⟨c', rfl, rfl, rfl, h2⟩ hok
    clear hok he
    rw [sumL_app] at h2
    have e : nmB A B = true := decide_eq_true (by omega)
    rw [e]
    (repeat (first | ((with_reducible apply rthen_ret)) | ((with_reducible apply rblock_ret))))
    (first | (refine apost_ret rfl (resl_agg rfl rfl rfl resl_nil) ?_) | (refine apost_ret rfl (resl_one rfl rfl rfl resl_nil) ?_))
    exact AV.Le.refl _
set_option maxRecDepth 100000 in
set_option maxHeartbeats 8000000 in
theorem p_isFar {x y : Int} : PCall Try.prog 47 [vP x y] (vB (farB (x, y))) := by
  have cs : ((if y > x then y else x) > 67108864 ∧ farB (x, y) = true) ∨ (¬ (if y > x then y else x) > 67108864 ∧ farB (x, y) = decide ((if y < x then y else x) < -67108864)) := by
    unfold farB
    by_cases h : (if y > x then y else x) > 67108864
    · refine .inl ⟨h, ?_⟩
      simp only [Bool.or_eq_true, decide_eq_true_eq]
      split at h <;> omega
    · refine .inr ⟨h, ?_⟩
      rw [Bool.eq_iff_iff]
      simp only [Bool.or_eq_true, decide_eq_true_eq]
      split at h <;> split <;> omega
  rcases cs with ⟨h, e⟩ | ⟨h, e⟩
  all_goals
    rw [e]
    refine pcall_body (f := 47) Try.func47 rfl rfl rfl rfl ?_
    (repeat (first | ((with_reducible apply al_q); exact rfl) | ((with_reducible apply al_min); (iterate 4 exact rfl)) | ((with_reducible apply al_max); (iterate 4 exact rfl)) | ((with_reducible apply al_guard_b (c := true)); exact rfl; exact rfl; (first | assumption | exact decide_eq_true (by omega) | (simp only [Bool.not_eq_true', decide_eq_false_iff_not, decide_eq_true_eq, Bool.not_eq_false']; (first | done | omega)))) | ((with_reducible apply al_guard_b (c := false)); exact rfl; exact rfl; (first | assumption | exact decide_eq_false (by omega) | (simp only [Bool.not_eq_true', decide_eq_false_iff_not, decide_eq_true_eq, Bool.not_eq_false']; (first | done | omega)))) | ((with_reducible apply awp_seq)) | ((with_reducible apply athen_normal)) | ((with_reducible apply awp_region)) | ((with_reducible apply al_nil)) | ((with_reducible apply awp_ret))))
    (first | (refine apost_ret rfl (resl_tmp rfl resl_nil) ?_))
    exact AV.Le.refl _
/-- the first that is far. -/
def fxI : List Pt → Int → Int
  | [], _ => -1
  | p :: l, i => if farB p = true then i else fxI l (i + 1)
theorem fxI_cons (p : Pt) (l : List Pt) (i : Int) : fxI (p :: l) i = if farB p = true then i else fxI l (i + 1) := rfl
theorem fxI_any : ∀ (l : List Pt) (i : Int), 0 ≤ i → (decide (fxI l i ≥ 0)) = l.any farB
  | [], i, h => rfl
  | p :: l, i, h => by
    rw [List.any_cons]
    unfold fxI
    cases hp : farB p with
    | true => rw [if_pos rfl, Bool.true_or]; exact decide_eq_true h
    | false => rw [if_neg (by simp), Bool.false_or]; exact fxI_any l (i + 1) (by omega)
abbrev vFn (f : Nat) : AV := vC (.func (.func f) #[] #[])
def FxI (r : List Pt) (k : Nat) (ts : List (Nat × AV)) (ms : List (Nat × List AC)) : Prop :=
  ∃ (i : Nat) (ii : Int), i ≤ r.length ∧ k = r.length - i ∧ ii = i ∧ fxI r 0 = fxI (r.drop i) ii ∧ ms = [] ∧ ts = [(0, .w (.one (ringA r))), (1, vFn 47), (7, vI r.length), (8, vI ii)]
set_option maxRecDepth 100000 in
set_option maxHeartbeats 8000000 in
theorem p_index11 {r : List Pt} (hr : r.length ≤ 4611686018427387904) : PCall Try.prog 61 [.w (.one (ringA r)), vFn 47] (vI (fxI r 0)) := by
  refine pcall_body (f := 61) Try.func61 rfl rfl rfl rfl ?_
  (repeat (first | ((with_reducible apply al_q); exact rfl) | ((with_reducible apply al_len); (iterate 3 exact rfl)) | ((with_reducible apply awp_seq)) | ((with_reducible apply athen_normal)) | ((with_reducible apply awp_region)) | ((with_reducible apply al_nil)) | ((with_reducible apply awp_block))))
  refine awp_loopL 19 (FxI r) r.length _ [] ⟨0, 0, Nat.zero_le _, rfl, rfl, rfl, rfl, rfl⟩ rfl ⟨rfl, rfl, rfl, rfl, trivial⟩ trivial rfl ?_
  rintro n ts ms ⟨j, jj, hj, rfl, hjj, hfx, rfl, rfl⟩ hok
  clear hok
  by_cases hp : j < r.length
  · have p2 : jj < (r.length : Int) := by omega
    have p3 : 0 ≤ jj := by omega
    obtain ⟨x, y, g1⟩ : ∃ x y, r[j]? = some (x, y) := ⟨_, _, List.getElem?_eq_getElem hp⟩
    have F1 := ringC_at hjj g1
    have hd : r.drop j = (x, y) :: r.drop (j + 1) := by rw [List.drop_eq_getElem_cons hp, (List.getElem?_eq_some_iff.1 g1).2]
    have P1 := p_isFar (x := x) (y := y)
    rw [hd, fxI_cons] at hfx
    cases hf : farB (x, y) with
    | true =>
      rw [hf] at hfx P1
      rw [if_pos rfl] at hfx
      rw [hfx]
      (repeat (first | ((with_reducible apply al_q); exact rfl) | ((with_reducible apply al_loadPN); (iterate 5 exact rfl)) | ((with_reducible apply al_idxS); (iterate 3 exact rfl); (first | decide | omega); (first | decide | omega); (first | assumption | rfl); exact rfl) | (refine al_call1 rfl rfl rfl (by (first | exact P1)) rfl ?_) | ((with_reducible apply awp_seq)) | ((with_reducible apply athen_normal)) | ((with_reducible apply awp_region)) | ((with_reducible apply al_nil)) | ((with_reducible apply awp_ret)) | ((with_reducible apply awp_skip)) | ((with_reducible apply athen_ret)) | ((with_reducible apply awp_block)) | ((with_reducible apply ablock_ret)) | ((with_reducible apply awp_cond_t); exact rfl) | ((with_reducible apply awp_cond_1); exact rfl; (first | assumption | exact decide_eq_true (by omega) | (simp only [Bool.not_eq_true', decide_eq_false_iff_not, decide_eq_true_eq, Bool.not_eq_false']; (first | done | omega))))))
      (first | (refine apost_ret rfl (resl_tmp rfl resl_nil) ?_))
      exact AV.Le.refl _
    | false =>
      rw [hf] at hfx P1
      rw [if_neg (by simp)] at hfx
      (repeat (first | ((with_reducible apply al_q); exact rfl) | ((with_reducible apply al_loadPN); (iterate 5 exact rfl)) | ((with_reducible apply al_idxS); (iterate 3 exact rfl); (first | decide | omega); (first | decide | omega); (first | assumption | rfl); exact rfl) | ((with_reducible apply al_add); (iterate 3 exact rfl); (first | exact i64_wrap (by omega) | assumption | rfl); exact rfl) | (refine al_call1 rfl rfl rfl (by (first | exact P1)) rfl ?_) | ((with_reducible apply awp_seq)) | ((with_reducible apply athen_normal)) | ((with_reducible apply awp_region)) | ((with_reducible apply al_nil)) | ((with_reducible apply awp_skip)) | ((with_reducible apply awp_block)) | ((with_reducible apply ablock_normal)) | ((with_reducible apply awp_cond_f); exact rfl) | ((with_reducible apply awp_cond_1); exact rfl; (first | assumption | exact decide_eq_true (by omega) | (simp only [Bool.not_eq_true', decide_eq_false_iff_not, decide_eq_true_eq, Bool.not_eq_false']; (first | done | omega))))))
      exact ⟨r.length - (j + 1), _, [], by omega, ⟨j + 1, jj + 1, hp, rfl, by omega, hfx, rfl, rfl⟩, rfl, ⟨rfl, rfl, rfl, rfl, trivial⟩, trivial, rfl⟩
  · have e : j = r.length := by omega
    subst e
    rw [List.drop_length] at hfx
    rw [show fxI [] jj = -1 from rfl] at hfx
    rw [hfx]
    (repeat (first | ((with_reducible apply al_q); exact rfl) | ((with_reducible apply awp_seq)) | ((with_reducible apply athen_normal)) | ((with_reducible apply awp_region)) | ((with_reducible apply al_nil)) | ((with_reducible apply awp_ret)) | ((with_reducible apply ablock_same)) | ((with_reducible apply awp_exit)) | ((with_reducible apply athen_exit)) | ((with_reducible apply awp_cond_0); exact rfl; (first | assumption | exact decide_eq_false (by omega) | (simp only [Bool.not_eq_true', decide_eq_false_iff_not, decide_eq_true_eq, Bool.not_eq_false']; (first | done | omega))))))
    (first | (refine apost_ret rfl (resl_tmp rfl resl_nil) ?_))
    exact AV.Le.refl _
theorem p_contains11 {r : List Pt} (hr : r.length ≤ 4611686018427387904) : PCall Try.prog 46 [.w (.one (ringA r)), vFn 47] (vB (r.any farB)) := by
  have P1 := p_index11 hr
  rw [← fxI_any r 0 (by decide)]
  refine pcall_body (f := 46) Try.func46 rfl rfl rfl rfl ?_
  (repeat (first | ((with_reducible apply al_q); exact rfl) | (refine al_call2 rfl rfl rfl rfl (by (first | exact P1)) rfl ?_) | ((with_reducible apply awp_seq)) | ((with_reducible apply athen_normal)) | ((with_reducible apply awp_region)) | ((with_reducible apply al_nil)) | ((with_reducible apply awp_ret))))
  (first | (refine apost_ret rfl (resl_tmp rfl resl_nil) ?_))
  exact AV.Le.refl _
def CrI (M : List (List Pt)) (i : Nat) (R : Rws) (css : List (List AC)) : Prop := R = noRows ∧ css = [[.c (.int .i64 0)]] ∧ rgV M = rgV (M.drop i)
def CrX (M : List (List Pt)) (e : Exit) (R : Rws) (css : List (List AC)) : Prop := e = .ret ∧ R = noRows ∧ css = [[.c (.int .i64 (rgV M))]]
set_option maxRecDepth 100000 in
set_option maxHeartbeats 8000000 in
theorem p_checkRings {A B : List (List Pt)} {op fill rung cap : Int} (hA : A.length ≤ 4611686018427387904) (hB : B.length ≤ 4611686018427387904) (hr : ∀ r ∈ A ++ B, r.length ≤ 4611686018427387904) :
    PCall Try.prog 28 [.w (.agg (jobC A B op fill rung cap))] (vI (rgV (A ++ B))) := by
  have S1 := p_jrings11 A B op fill rung cap
  have Q1 := iseq_rings (A := A) (B := B) (op := op) (fill := fill) (rung := rung) (cap := cap) hA hB
  refine pcall_bodyR (f := 28) Try.func28 rfl rfl rfl rfl ?_
  (repeat (first | ((with_reducible apply rwt_seq)) | ((with_reducible apply rwt_region)) | ((with_reducible apply rwt_block)) | ((with_reducible apply rthen_normal)) | ((with_reducible apply hs_nil)) | ((with_reducible apply hs_c); exact rfl; (repeat (first | ((with_reducible apply al_q); exact rfl) | (refine al_call1 rfl rfl rfl (by (first | exact S1)) rfl ?_))); (with_reducible apply al_nil))))
  refine rwt_ren (swp 2 1002) (swp_swp _ _) ?_
  refine rwt_range 12 [(2, vOw11 1002)] [1002] [[.c (.int .i64 0)]] noRows (CrI (A ++ B)) (CrX (A ++ B)) rfl Q1 (by decide) rgsM_cl ?hp rfl ⟨rfl, trivial⟩ ⟨rfl, trivial⟩ (by decide) rfl rfl ⟨rfl, rfl, rfl⟩ (RLe.refl _) (fun i r h => by cases h) ?round ?done ?stop
  case hp =>
    intro p hp
    simp only [List.mem_cons, List.not_mem_nil, or_false] at hp
    subst hp; exact ⟨by decide, rfl⟩
  case round =>
    rintro i x R css hx ⟨rfl, rfl, hv⟩ hok
    obtain ⟨r, h1, rfl⟩ := rgsM_at hx
    clear hx hok
    have hrl := hr r (List.mem_of_getElem? h1)
    have hd : (A ++ B).drop i = r :: (A ++ B).drop (i + 1) := by rw [List.drop_eq_getElem_cons (List.getElem?_eq_some_iff.1 h1).1, (List.getElem?_eq_some_iff.1 h1).2]
    rw [hd, rgV_cons] at hv
    have P1 := p_contains11 hrl
    by_cases hq : r.length < 3
    · rw [if_pos hq] at hv
      have hq' : (r.length : Int) < 3 := by omega
      (repeat (first | ((with_reducible apply rwp_seq)) | ((with_reducible apply rthen_normal)) | ((with_reducible apply rwp_region)) | ((with_reducible apply hs_nil)) | ((with_reducible apply rwp_ret)) | ((with_reducible apply rthen_ret)) | ((with_reducible apply rwp_block)) | ((with_reducible apply rblock_ret)) | ((with_reducible apply rwp_cond_1); exact rfl; (first | assumption | exact decide_eq_true (by omega) | (simp only [Bool.not_eq_true', decide_eq_false_iff_not, decide_eq_true_eq, Bool.not_eq_false']; (first | done | omega)) | exact rfl)) | ((with_reducible apply hs_c); exact rfl; (repeat (first | ((with_reducible apply al_q); exact rfl) | ((with_reducible apply al_len); (iterate 3 exact rfl)))); (with_reducible apply al_nil))))
      exact ⟨_, [[.c (.int .i64 114)]], ⟨rfl, rfl, by rw [hv]⟩, RLe.refl _, (fun i r h => by cases h), rfl, ⟨rfl, trivial⟩, rfl⟩
    · rw [if_neg hq] at hv
      have hq' : ¬ (r.length : Int) < 3 := by omega
      cases hf : r.any farB with
      | true =>
        rw [hf] at hv P1
        rw [if_pos rfl] at hv
        (repeat (first | ((with_reducible apply rwp_seq)) | ((with_reducible apply rthen_normal)) | ((with_reducible apply rwp_region)) | ((with_reducible apply hs_nil)) | ((with_reducible apply rwp_ret)) | ((with_reducible apply rwp_skip)) | ((with_reducible apply rwp_block)) | ((with_reducible apply rblock_ret)) | ((with_reducible apply rwp_cond_1); exact rfl; (first | assumption | exact decide_eq_true (by omega) | (simp only [Bool.not_eq_true', decide_eq_false_iff_not, decide_eq_true_eq, Bool.not_eq_false']; (first | done | omega)) | exact rfl)) | ((with_reducible apply rwp_cond_0); exact rfl; (first | assumption | exact decide_eq_false (by omega) | (simp only [Bool.not_eq_true', decide_eq_false_iff_not, decide_eq_true_eq, Bool.not_eq_false']; (first | done | omega)) | exact rfl)) | ((with_reducible apply hs_c); exact rfl; (repeat (first | ((with_reducible apply al_q); exact rfl) | ((with_reducible apply al_len); (iterate 3 exact rfl)) | (refine al_call2 rfl rfl rfl rfl (by (first | exact P1)) rfl ?_))); (with_reducible apply al_nil))))
        exact ⟨_, [[.c (.int .i64 115)]], ⟨rfl, rfl, by rw [hv]⟩, RLe.refl _, (fun i r h => by cases h), rfl, ⟨rfl, trivial⟩, rfl⟩
      | false =>
        rw [hf] at hv P1
        rw [if_neg (by simp)] at hv
        (repeat (first | ((with_reducible apply rwp_seq)) | ((with_reducible apply rthen_normal)) | ((with_reducible apply rwp_region)) | ((with_reducible apply hs_nil)) | ((with_reducible apply rwp_skip)) | ((with_reducible apply rwp_block)) | ((with_reducible apply rblock_normal)) | ((with_reducible apply rwp_cond_0); exact rfl; (first | assumption | exact decide_eq_false (by omega) | (simp only [Bool.not_eq_true', decide_eq_false_iff_not, decide_eq_true_eq, Bool.not_eq_false']; (first | done | omega)) | exact rfl)) | ((with_reducible apply hs_c); exact rfl; (repeat (first | ((with_reducible apply al_q); exact rfl) | ((with_reducible apply al_len); (iterate 3 exact rfl)) | (refine al_call2 rfl rfl rfl rfl (by (first | exact P1)) rfl ?_))); (with_reducible apply al_nil))))
        exact ⟨_, _, ⟨rfl, rfl, hv⟩, RLe.refl _, (fun i r h => by cases h), rfl, ⟨rfl, trivial⟩, rfl⟩
  case done =>
    rintro R css ⟨rfl, rfl, hv⟩ hok
    clear hok
    rw [List.drop_of_length_le (by simp [rgsM]), show rgV [] = 0 from rfl] at hv
    rw [hv]
    (repeat (first | ((with_reducible apply rwt_seq)) | ((with_reducible apply rwt_region)) | ((with_reducible apply rwt_ret)) | ((with_reducible apply rthen_normal)) | ((with_reducible apply hs_nil)) | ((with_reducible apply rblock_normal)) | ((with_reducible apply hs_c); exact rfl; (repeat (first | ((with_reducible apply al_q); exact rfl))); (with_reducible apply al_nil))))
    (first | (refine apost_ret rfl (resl_agg rfl rfl rfl resl_nil) ?_) | (refine apost_ret rfl (resl_one rfl rfl rfl resl_nil) ?_))
    exact AV.Le.refl _
  case stop =>
    rintro e c R css he ⟨rfl, rfl, rfl⟩ hok
    clear hok he
    (repeat (first | ((with_reducible apply rthen_ret)) | ((with_reducible apply rblock_ret))))
    (first | (refine apost_ret rfl (resl_agg rfl rfl rfl resl_nil) ?_) | (refine apost_ret rfl (resl_one rfl rfl rfl resl_nil) ?_))
    exact AV.Le.refl _
set_option maxRecDepth 100000 in
set_option maxHeartbeats 8000000 in
theorem p_Check11 {A B : List (List Pt)} {op fill rung cap : Int} (hA : A.length ≤ 4611686018427387904) (hB : B.length ≤ 4611686018427387904) (hr : ∀ r ∈ A ++ B, r.length ≤ 4611686018427387904) :
    PCall Try.prog 11 [.w (.agg (jobC A B op fill rung cap))] (vI (chkV A B op fill rung cap)) := by
  have P1 := p_isNone (op := op) (fill := fill) (rung := rung) (cap := cap) hA hB hr
  have P2 := p_checkRings (op := op) (fill := fill) (rung := rung) (cap := cap) hA hB hr
  have cs : ∃ c, chkV A B op fill rung cap = c ∧ ((op < 0 ∧ c = 110) ∨ (¬ op < 0 ∧ op > 3 ∧ c = 110) ∨ (¬ op < 0 ∧ ¬ op > 3 ∧ ((fill < 0 ∧ c = 111) ∨ (¬ fill < 0 ∧ fill > 1 ∧ c = 111) ∨ (¬ fill < 0 ∧ ¬ fill > 1 ∧ ((rung < 0 ∧ c = 112) ∨ (¬ rung < 0 ∧ rung > 28 ∧ c = 112) ∨ (¬ rung < 0 ∧ ¬ rung > 28 ∧ ((cap < 1 ∧ c = 113) ∨ (¬ cap < 1 ∧ cap > 1024 ∧ c = 113) ∨ (¬ cap < 1 ∧ ¬ cap > 1024 ∧ ((nmB A B = true ∧ c = 116) ∨ (nmB A B = false ∧ c = rgV (A ++ B))))))))))) := by
    refine ⟨_, rfl, ?_⟩
    unfold chkV nmB
    rw [rgV_app]
    by_cases o1 : op < 0
    · exact .inl ⟨o1, by rw [if_pos (.inl o1)]⟩
    by_cases o2 : op > 3
    · exact .inr (.inl ⟨o1, o2, by rw [if_pos (.inr o2)]⟩)
    refine .inr (.inr ⟨o1, o2, ?_⟩)
    rw [if_neg (by omega)]
    by_cases f1 : fill < 0
    · exact .inl ⟨f1, by rw [if_pos (.inl f1)]⟩
    by_cases f2 : fill > 1
    · exact .inr (.inl ⟨f1, f2, by rw [if_pos (.inr f2)]⟩)
    refine .inr (.inr ⟨f1, f2, ?_⟩)
    rw [if_neg (by omega)]
    by_cases r1 : rung < 0
    · exact .inl ⟨r1, by rw [if_pos (.inl r1)]⟩
    by_cases r2 : rung > 28
    · exact .inr (.inl ⟨r1, r2, by rw [if_pos (.inr r2)]⟩)
    refine .inr (.inr ⟨r1, r2, ?_⟩)
    rw [if_neg (by omega)]
    by_cases c1 : cap < 1
    · exact .inl ⟨c1, by rw [if_pos (.inl c1)]⟩
    by_cases c2 : cap > 1024
    · exact .inr (.inl ⟨c1, c2, by rw [if_pos (.inr c2)]⟩)
    refine .inr (.inr ⟨c1, c2, ?_⟩)
    rw [if_neg (by omega)]
    by_cases m1 : sumL A + sumL B < 1 ∨ sumL A + sumL B > 256
    · exact .inl ⟨decide_eq_true m1, by rw [if_pos m1]⟩
    · exact .inr ⟨decide_eq_false m1, by rw [if_neg m1]⟩
  obtain ⟨c, e, cs⟩ := cs
  rw [e]
  clear e hA hB hr
  rcases cs with ⟨o1, rfl⟩ | ⟨o1, o2, rfl⟩ | ⟨o1, o2, cs⟩
  · refine pcall_body (f := 11) Try.func11 rfl rfl rfl rfl ?_
    (repeat (first | ((with_reducible apply al_q); exact rfl) | ((with_reducible apply al_guard_b (c := true)); exact rfl; exact rfl; (first | assumption | exact decide_eq_true (by omega) | (simp only [Bool.not_eq_true', decide_eq_false_iff_not, decide_eq_true_eq, Bool.not_eq_false']; (first | done | omega)))) | ((with_reducible apply awp_seq)) | ((with_reducible apply athen_normal)) | ((with_reducible apply awp_region)) | ((with_reducible apply al_nil)) | ((with_reducible apply awp_ret)) | ((with_reducible apply athen_ret)) | ((with_reducible apply awp_block)) | ((with_reducible apply ablock_ret)) | ((with_reducible apply awp_cond_t); exact rfl)))
    (first | (refine apost_ret rfl (resl_tmp rfl resl_nil) ?_))
    exact AV.Le.refl _
  · refine pcall_body (f := 11) Try.func11 rfl rfl rfl rfl ?_
    (repeat (first | ((with_reducible apply al_q); exact rfl) | ((with_reducible apply al_guard_b (c := false)); exact rfl; exact rfl; (first | assumption | exact decide_eq_false (by omega) | (simp only [Bool.not_eq_true', decide_eq_false_iff_not, decide_eq_true_eq, Bool.not_eq_false']; (first | done | omega)))) | ((with_reducible apply awp_seq)) | ((with_reducible apply athen_normal)) | ((with_reducible apply awp_region)) | ((with_reducible apply al_nil)) | ((with_reducible apply awp_ret)) | ((with_reducible apply athen_ret)) | ((with_reducible apply awp_block)) | ((with_reducible apply ablock_ret)) | ((with_reducible apply awp_cond_1); exact rfl; (first | assumption | exact decide_eq_true (by omega) | (simp only [Bool.not_eq_true', decide_eq_false_iff_not, decide_eq_true_eq, Bool.not_eq_false']; (first | done | omega))))))
    (first | (refine apost_ret rfl (resl_tmp rfl resl_nil) ?_))
    exact AV.Le.refl _
  rcases cs with ⟨f1, rfl⟩ | ⟨f1, f2, rfl⟩ | ⟨f1, f2, cs⟩
  · refine pcall_body (f := 11) Try.func11 rfl rfl rfl rfl ?_
    (repeat (first | ((with_reducible apply al_q); exact rfl) | ((with_reducible apply al_guard_b (c := true)); exact rfl; exact rfl; (first | assumption | exact decide_eq_true (by omega) | (simp only [Bool.not_eq_true', decide_eq_false_iff_not, decide_eq_true_eq, Bool.not_eq_false']; (first | done | omega)))) | ((with_reducible apply al_guard_b (c := false)); exact rfl; exact rfl; (first | assumption | exact decide_eq_false (by omega) | (simp only [Bool.not_eq_true', decide_eq_false_iff_not, decide_eq_true_eq, Bool.not_eq_false']; (first | done | omega)))) | ((with_reducible apply awp_seq)) | ((with_reducible apply athen_normal)) | ((with_reducible apply awp_region)) | ((with_reducible apply al_nil)) | ((with_reducible apply awp_ret)) | ((with_reducible apply athen_ret)) | ((with_reducible apply awp_block)) | ((with_reducible apply ablock_ret)) | ((with_reducible apply awp_cond_t); exact rfl) | ((with_reducible apply awp_cond_0); exact rfl; (first | assumption | exact decide_eq_false (by omega) | (simp only [Bool.not_eq_true', decide_eq_false_iff_not, decide_eq_true_eq, Bool.not_eq_false']; (first | done | omega))))))
    (first | (refine apost_ret rfl (resl_tmp rfl resl_nil) ?_))
    exact AV.Le.refl _
  · refine pcall_body (f := 11) Try.func11 rfl rfl rfl rfl ?_
    (repeat (first | ((with_reducible apply al_q); exact rfl) | ((with_reducible apply al_guard_b (c := false)); exact rfl; exact rfl; (first | assumption | exact decide_eq_false (by omega) | (simp only [Bool.not_eq_true', decide_eq_false_iff_not, decide_eq_true_eq, Bool.not_eq_false']; (first | done | omega)))) | ((with_reducible apply awp_seq)) | ((with_reducible apply athen_normal)) | ((with_reducible apply awp_region)) | ((with_reducible apply al_nil)) | ((with_reducible apply awp_ret)) | ((with_reducible apply athen_ret)) | ((with_reducible apply awp_block)) | ((with_reducible apply ablock_ret)) | ((with_reducible apply awp_cond_1); exact rfl; (first | assumption | exact decide_eq_true (by omega) | (simp only [Bool.not_eq_true', decide_eq_false_iff_not, decide_eq_true_eq, Bool.not_eq_false']; (first | done | omega)))) | ((with_reducible apply awp_cond_0); exact rfl; (first | assumption | exact decide_eq_false (by omega) | (simp only [Bool.not_eq_true', decide_eq_false_iff_not, decide_eq_true_eq, Bool.not_eq_false']; (first | done | omega))))))
    (first | (refine apost_ret rfl (resl_tmp rfl resl_nil) ?_))
    exact AV.Le.refl _
  rcases cs with ⟨r1, rfl⟩ | ⟨r1, r2, rfl⟩ | ⟨r1, r2, cs⟩
  · refine pcall_body (f := 11) Try.func11 rfl rfl rfl rfl ?_
    (repeat (first | ((with_reducible apply al_q); exact rfl) | ((with_reducible apply al_guard_b (c := true)); exact rfl; exact rfl; (first | assumption | exact decide_eq_true (by omega) | (simp only [Bool.not_eq_true', decide_eq_false_iff_not, decide_eq_true_eq, Bool.not_eq_false']; (first | done | omega)))) | ((with_reducible apply al_guard_b (c := false)); exact rfl; exact rfl; (first | assumption | exact decide_eq_false (by omega) | (simp only [Bool.not_eq_true', decide_eq_false_iff_not, decide_eq_true_eq, Bool.not_eq_false']; (first | done | omega)))) | ((with_reducible apply awp_seq)) | ((with_reducible apply athen_normal)) | ((with_reducible apply awp_region)) | ((with_reducible apply al_nil)) | ((with_reducible apply awp_ret)) | ((with_reducible apply athen_ret)) | ((with_reducible apply awp_block)) | ((with_reducible apply ablock_ret)) | ((with_reducible apply awp_cond_t); exact rfl) | ((with_reducible apply awp_cond_0); exact rfl; (first | assumption | exact decide_eq_false (by omega) | (simp only [Bool.not_eq_true', decide_eq_false_iff_not, decide_eq_true_eq, Bool.not_eq_false']; (first | done | omega))))))
    (first | (refine apost_ret rfl (resl_tmp rfl resl_nil) ?_))
    exact AV.Le.refl _
  · refine pcall_body (f := 11) Try.func11 rfl rfl rfl rfl ?_
    (repeat (first | ((with_reducible apply al_q); exact rfl) | ((with_reducible apply al_guard_b (c := false)); exact rfl; exact rfl; (first | assumption | exact decide_eq_false (by omega) | (simp only [Bool.not_eq_true', decide_eq_false_iff_not, decide_eq_true_eq, Bool.not_eq_false']; (first | done | omega)))) | ((with_reducible apply awp_seq)) | ((with_reducible apply athen_normal)) | ((with_reducible apply awp_region)) | ((with_reducible apply al_nil)) | ((with_reducible apply awp_ret)) | ((with_reducible apply athen_ret)) | ((with_reducible apply awp_block)) | ((with_reducible apply ablock_ret)) | ((with_reducible apply awp_cond_1); exact rfl; (first | assumption | exact decide_eq_true (by omega) | (simp only [Bool.not_eq_true', decide_eq_false_iff_not, decide_eq_true_eq, Bool.not_eq_false']; (first | done | omega)))) | ((with_reducible apply awp_cond_0); exact rfl; (first | assumption | exact decide_eq_false (by omega) | (simp only [Bool.not_eq_true', decide_eq_false_iff_not, decide_eq_true_eq, Bool.not_eq_false']; (first | done | omega))))))
    (first | (refine apost_ret rfl (resl_tmp rfl resl_nil) ?_))
    exact AV.Le.refl _
  rcases cs with ⟨c1, rfl⟩ | ⟨c1, c2, rfl⟩ | ⟨c1, c2, cs⟩
  · refine pcall_body (f := 11) Try.func11 rfl rfl rfl rfl ?_
    (repeat (first | ((with_reducible apply al_q); exact rfl) | ((with_reducible apply al_guard_b (c := true)); exact rfl; exact rfl; (first | assumption | exact decide_eq_true (by omega) | (simp only [Bool.not_eq_true', decide_eq_false_iff_not, decide_eq_true_eq, Bool.not_eq_false']; (first | done | omega)))) | ((with_reducible apply al_guard_b (c := false)); exact rfl; exact rfl; (first | assumption | exact decide_eq_false (by omega) | (simp only [Bool.not_eq_true', decide_eq_false_iff_not, decide_eq_true_eq, Bool.not_eq_false']; (first | done | omega)))) | ((with_reducible apply awp_seq)) | ((with_reducible apply athen_normal)) | ((with_reducible apply awp_region)) | ((with_reducible apply al_nil)) | ((with_reducible apply awp_ret)) | ((with_reducible apply athen_ret)) | ((with_reducible apply awp_block)) | ((with_reducible apply ablock_ret)) | ((with_reducible apply awp_cond_t); exact rfl) | ((with_reducible apply awp_cond_0); exact rfl; (first | assumption | exact decide_eq_false (by omega) | (simp only [Bool.not_eq_true', decide_eq_false_iff_not, decide_eq_true_eq, Bool.not_eq_false']; (first | done | omega))))))
    (first | (refine apost_ret rfl (resl_tmp rfl resl_nil) ?_))
    exact AV.Le.refl _
  · refine pcall_body (f := 11) Try.func11 rfl rfl rfl rfl ?_
    (repeat (first | ((with_reducible apply al_q); exact rfl) | ((with_reducible apply al_guard_b (c := false)); exact rfl; exact rfl; (first | assumption | exact decide_eq_false (by omega) | (simp only [Bool.not_eq_true', decide_eq_false_iff_not, decide_eq_true_eq, Bool.not_eq_false']; (first | done | omega)))) | ((with_reducible apply awp_seq)) | ((with_reducible apply athen_normal)) | ((with_reducible apply awp_region)) | ((with_reducible apply al_nil)) | ((with_reducible apply awp_ret)) | ((with_reducible apply athen_ret)) | ((with_reducible apply awp_block)) | ((with_reducible apply ablock_ret)) | ((with_reducible apply awp_cond_1); exact rfl; (first | assumption | exact decide_eq_true (by omega) | (simp only [Bool.not_eq_true', decide_eq_false_iff_not, decide_eq_true_eq, Bool.not_eq_false']; (first | done | omega)))) | ((with_reducible apply awp_cond_0); exact rfl; (first | assumption | exact decide_eq_false (by omega) | (simp only [Bool.not_eq_true', decide_eq_false_iff_not, decide_eq_true_eq, Bool.not_eq_false']; (first | done | omega))))))
    (first | (refine apost_ret rfl (resl_tmp rfl resl_nil) ?_))
    exact AV.Le.refl _
  rcases cs with ⟨m1, rfl⟩ | ⟨m1, rfl⟩
  · rw [m1] at P1
    refine pcall_body (f := 11) Try.func11 rfl rfl rfl rfl ?_
    (repeat (first | ((with_reducible apply al_q); exact rfl) | (refine al_call1 rfl rfl rfl (by (first | exact P1)) rfl ?_) | ((with_reducible apply al_guard_b (c := false)); exact rfl; exact rfl; (first | assumption | exact decide_eq_false (by omega) | (simp only [Bool.not_eq_true', decide_eq_false_iff_not, decide_eq_true_eq, Bool.not_eq_false']; (first | done | omega)))) | ((with_reducible apply awp_seq)) | ((with_reducible apply athen_normal)) | ((with_reducible apply awp_region)) | ((with_reducible apply al_nil)) | ((with_reducible apply awp_ret)) | ((with_reducible apply athen_ret)) | ((with_reducible apply awp_block)) | ((with_reducible apply ablock_ret)) | ((with_reducible apply awp_cond_t); exact rfl) | ((with_reducible apply awp_cond_0); exact rfl; (first | assumption | exact decide_eq_false (by omega) | (simp only [Bool.not_eq_true', decide_eq_false_iff_not, decide_eq_true_eq, Bool.not_eq_false']; (first | done | omega))))))
    (first | (refine apost_ret rfl (resl_tmp rfl resl_nil) ?_))
    exact AV.Le.refl _
  · rw [m1] at P1
    refine pcall_body (f := 11) Try.func11 rfl rfl rfl rfl ?_
    (repeat (first | ((with_reducible apply al_q); exact rfl) | (refine al_call1 rfl rfl rfl (by (first | exact P1 | exact P2)) rfl ?_) | ((with_reducible apply al_guard_b (c := false)); exact rfl; exact rfl; (first | assumption | exact decide_eq_false (by omega) | (simp only [Bool.not_eq_true', decide_eq_false_iff_not, decide_eq_true_eq, Bool.not_eq_false']; (first | done | omega)))) | ((with_reducible apply awp_seq)) | ((with_reducible apply athen_normal)) | ((with_reducible apply awp_region)) | ((with_reducible apply al_nil)) | ((with_reducible apply awp_ret)) | ((with_reducible apply awp_skip)) | ((with_reducible apply awp_block)) | ((with_reducible apply ablock_normal)) | ((with_reducible apply awp_cond_f); exact rfl) | ((with_reducible apply awp_cond_0); exact rfl; (first | assumption | exact decide_eq_false (by omega) | (simp only [Bool.not_eq_true', decide_eq_false_iff_not, decide_eq_true_eq, Bool.not_eq_false']; (first | done | omega))))))
    (first | (refine apost_ret rfl (resl_tmp rfl resl_nil) ?_))
    exact AV.Le.refl _
end Go.Proofs.Ytlfkllmnekdghaa

namespace Go.Proofs.Ytlfkllmnekdghaa
open Go.RowKit
set_option linter.unusedVariables false
set_option linter.unusedSimpArgs false
/-- how two points compare. -/
def pc (a b c d : Int) : Int := if eqP a b c d = true then 0 else if a < c ∨ (a = c ∧ b < d) then -1 else 1
/-! the reference package -/
end Go.Proofs.Ytlfkllmnekdghaa

namespace Go.Proofs.Ytlfkllmnekdghaa
open Go.RowKit
set_option linter.unusedVariables false
set_option linter.unusedSimpArgs false
/-- whole numbers of 64 bits go round. -/
def w64 (n : Int) : Int := (n + 9223372036854775808) % 18446744073709551616 - 9223372036854775808
/-- the point at a place; the one behind it. -/
def ptA (l : List (Int × Int)) (i : Nat) : Int × Int := (l[i]?).getD (0, 0)
def nxA (l : List (Int × Int)) (i : Nat) : Int × Int := ptA l ((i + 1) % l.length)
def arS (l : List (Int × Int)) : Nat → Int
  | 0 => 0
  | i + 1 => arS l i + crV 0 0 (ptA l i).1 (ptA l i).2 (nxA l i).1 (nxA l i).2
def okL (l : List (Int × Int)) : Bool := l.all fun p => rB p.1 p.2
def areaL (l : List (Int × Int)) : Int := if l.length ≤ 2000 ∧ okL l = true then w64 (arS l l.length) else 0
/-- what holds ahead of each round of Area's loop. -/
def ArI (l : List (Int × Int)) (k : Nat) (ts : List (Nat × AV)) (ms : List (Nat × List AC)) : Prop :=
  ∃ (i : Nat) (a j : Int), i ≤ l.length ∧ k = l.length - i ∧ (∀ m p, m < i → l[m]? = some p → rB p.1 p.2 = true) ∧ a = w64 (arS l i) ∧ j = i ∧ ms = [] ∧ ts = [(0, vPs l), (3, vI a), (9, vI l.length), (10, vI j)]
end Go.Proofs.Ytlfkllmnekdghaa

namespace Go.Proofs.Ytlfkllmnekdghaa
open Go.ChangeShapes Go.WideShapes Go.ChangeAt Go.RowKit Go.Joins
set_option linter.unusedVariables false
set_option linter.unusedSimpArgs false
theorem own3 : ownKnob Try.prog.godebug = none := by kernel_rfl
/-- a type of plain values. -/
def flatB (P : Program) : Nat → TypeId → Bool
  | 0, _ => false
  | d + 1, t => match P.underlying t with
    | some .bool | some (.int _) | some .string => true
    | some (.struct fs) => fs.toList.all fun f => flatB P d f.type
    | some (.array _ e) => flatB P d e
    | _ => false
section
variable {H : Type} {enc : TypeId × Value → H} {P : Program}
end
section
variable {P : Program} {W : World} {r : Reach} {b : Nat} {t : TypeId} {v : Value}
def aggB (P : Program) (t : TypeId) (n : Nat) (ts : List TypeId) : Bool :=
  (match P.underlying t with | some (.struct _) | some (.array _ _) => true | _ => false) && (P.cellsOf t == n) && (P.cellTypes P.depth t == some ts) && (ts.length == n) && (0 < n)
end
end Go.Proofs.Ytlfkllmnekdghaa

namespace Go.Proofs.Ytlfkllmnekdghaa
open Go.RowKit
set_option linter.unusedVariables false
set_option linter.unusedSimpArgs false
abbrev vP3 (a1 a2 b1 b2 c1 c2 : Int) : AV := .w (.agg [.c (.int .i64 a1), .c (.int .i64 a2), .c (.int .i64 b1), .c (.int .i64 b2), .c (.int .i64 c1), .c (.int .i64 c2)])
end Go.Proofs.Ytlfkllmnekdghaa

namespace Go.Proofs.Ytlfkllmnekdghaa
open Go.RowKit
set_option linter.unusedVariables false
set_option linter.unusedSimpArgs false
/-- is a number between two? -/
def btB (n a b : Int) : Bool := (decide (a ≤ n) && decide (n ≤ b)) || (decide (b ≤ n) && decide (n ≤ a))
end Go.Proofs.Ytlfkllmnekdghaa

namespace Go.Proofs.Ytlfkllmnekdghaa
open Go.RowKit
set_option linter.unusedVariables false
set_option linter.unusedSimpArgs false
instance iInpR_1 : RowTy Try.prog 34 40 5 40 := ⟨by kernel_rfl⟩
abbrev erRow (v : Value) (l : List (Int × (Pt × Pt))) : HRow := ⟨40, 5, v, l.length, edsC l⟩
/-- the edges of one area. -/
def ofE (o : Int) (L : List (List Pt)) : List (Int × (Pt × Pt)) := (edgsM L).map fun e => (o, e)
def RoI (L : List (List Pt)) (o : Int) (n : Nat) (R : Rws) (ts : List (Nat × AV)) (ms : List (Nat × List AC)) : Prop :=
  ∃ (k : Nat) (v : Value) (ki : Int), k ≤ L.length ∧ n = L.length - k ∧ ki = k ∧ R = row1 0 (erRow v (ofE o (L.take k))) ∧ ms = [] ∧ ts = [(0, .w (.one (ringsA L))), (1, vI o), (5, vC v), (6, vI ki)]
def RiI (L : List (List Pt)) (o : Int) (r : List Pt) (S : List (Int × (Pt × Pt))) (ki : Int) (n : Nat) (R : Rws) (ts : List (Nat × AV)) (ms : List (Nat × List AC)) : Prop :=
  ∃ (i : Nat) (v : Value) (ii : Int), i ≤ r.length ∧ n = r.length - i ∧ ii = i ∧ R = row1 0 (erRow v (S ++ ((edgM r).take i).map fun e => (o, e))) ∧ ms = [] ∧ ts = [(0, .w (.one (ringsA L))), (1, vI o), (5, vC v), (6, vI ki), (7, .w (.one (ringA r))), (8, vI ii)]
/-- as On tells it. -/
theorem onB_rel {x y a1 a2 b1 b2 : Int} (h : rB x y = true) (ha : rB a1 a2 = true) (hb : rB b1 b2 = true) : onB x y a1 a2 b1 b2 = onR (a1 - x) (a2 - y) (b1 - x) (b2 - y) := by
  unfold onB
  rw [h, ha, hb, Bool.true_and, Bool.true_and, Bool.true_and]
  have e : cr a1 a2 b1 b2 x y = dtR (a1 - x) (a2 - y) (b1 - x) (b2 - y) := by unfold cr dtR; grind
  rw [e]
  unfold onR hB imin imax
  rw [Bool.eq_iff_iff]
  simp only [Bool.and_eq_true, Bool.or_eq_true, decide_eq_true_eq]
  constructor
  · rintro ⟨⟨⟨⟨h1, h2⟩, h3⟩, h4⟩, h5⟩
    refine ⟨⟨h5, ?_⟩, ?_⟩
    · revert h1 h2; split <;> split <;> omega
    · revert h3 h4; split <;> split <;> omega
  · rintro ⟨⟨h5, h1⟩, h2⟩
    refine ⟨⟨⟨⟨?_, ?_⟩, ?_⟩, ?_⟩, h5⟩ <;> split <;> omega
theorem crV_rel {x y a1 a2 b1 b2 : Int} (h : rB x y = true) (ha : rB a1 a2 = true) (hb : rB b1 b2 = true) : crV a1 a2 b1 b2 x y = dtR (a1 - x) (a2 - y) (b1 - x) (b2 - y) := by
  unfold crV
  rw [h, ha, hb]
  show (if true = true then cr a1 a2 b1 b2 x y else 0) = _
  rw [if_pos rfl]; unfold cr dtR; grind
theorem wndE_one {f : Int → Int → Int → Int → Int} {x y : Int} {E : List (Pt × Pt)} {e : Pt × Pt} : wndE f x y (E ++ [e]) = wndE f x y E + relR f x y e := by rw [wndE_app]; simp [wndE]
theorem anyE_one {x y : Int} {E : List (Pt × Pt)} {e : Pt × Pt} : anyE x y (E ++ [e]) = (anyE x y E || relB onR x y e) := by rw [anyE_app]; simp [anyE]
theorem anyE_take {x y : Int} {E : List (Pt × Pt)} {k : Nat} {e : Pt × Pt} (h : E[k]? = some e) (ho : relB onR x y e = true) : anyE x y E = true := List.any_eq_true.2 ⟨e, List.mem_of_getElem? h, ho⟩
abbrev vWnd (n : Int) (b : Bool) : AV := .tup [.one (.c (.int .i64 n)), .one (.c (.bool b))]
def RwI (L : List (List Pt)) (x y : Int) (n : Nat) (ts : List (Nat × AV)) (ms : List (Nat × List AC)) : Prop :=
  ∃ (k : Nat) (ki c : Int), k ≤ (edgsM L).length ∧ n = (edgsM L).length - k ∧ ki = k ∧ anyE x y ((edgsM L).take k) = false ∧ wndE cuR x y ((edgsM L).take k) = c ∧ ms = [(8, [.c (.int .i64 x), .c (.int .i64 y)])] ∧ ts = [(1, vI x), (8, .w (.one (.own 8 0))), (9, vI c), (10, vS 5 (ofE 0 L).length (edsC (ofE 0 L))), (11, vI ki)]
end Go.Proofs.Ytlfkllmnekdghaa

namespace Go.Proofs.Ytlfkllmnekdghaa
open Go.RowKit
set_option linter.unusedVariables false
set_option linter.unusedSimpArgs false
instance iInpS_1 : Enters Try.prog 33 := ⟨by kernel_rfl⟩
/-- is it filled? -/
def flF (f n : Int) : Bool := (decide (f = 0) && !decide (n % 2 = 0)) || (decide (f = 1) && !decide (n = 0))
/-- is it in the result? -/
def dsF (op : Int) (a b : Bool) : Bool := (decide (op = 0) && (a || b)) || (decide (op = 1) && a && b) || (decide (op = 2) && a && !b) || (decide (op = 3) && (a != b))
end Go.Proofs.Ytlfkllmnekdghaa

namespace Go.Proofs.Ytlfkllmnekdghaa
open Go.RowKit
set_option linter.unusedVariables false
set_option linter.unusedSimpArgs false
theorem p_twiceL {x y : Int} (hx : rB x y = true) : PCall Try.prog 38 [vP x y] (vP (2 * x) (2 * y)) := by
  rw [rB_iff] at hx
  refine pcall_body (f := 38) Try.func38 rfl rfl rfl rfl ?_
  (repeat (first | ((with_reducible apply al_q); exact rfl) | ((with_reducible apply al_mul); (iterate 3 exact rfl); (first | exact i64_wrap (by omega) | assumption | rfl); exact rfl) | ((with_reducible apply awp_seq)) | ((with_reducible apply athen_normal)) | ((with_reducible apply awp_region)) | ((with_reducible apply al_nil)) | ((with_reducible apply awp_ret))))
  (first | (refine apost_ret rfl (resl_agg rfl rfl rfl resl_nil) ?_) | (refine apost_ret rfl (resl_one rfl rfl rfl resl_nil) ?_))
  exact AV.Le.refl _
def rtE (e : Pt × Pt) : Bool := rB e.1.1 e.1.2 && rB (2 * e.1.1) (2 * e.1.2)
def RtI (E : List (Pt × Pt)) (i : Nat) (R : Rws) (css : List (List AC)) : Prop := R = noRows ∧ css = [[.c (.bool false)]] ∧ E.all rtE = (E.drop i).all rtE
def RtX (E : List (Pt × Pt)) (e : Exit) (R : Rws) (css : List (List AC)) : Prop := e = .ret ∧ R = noRows ∧ css = [[.c (.bool false)]] ∧ E.all rtE = false
theorem vEd_hxs {E : List (Pt × Pt)} : ∀ x ∈ E.map vEd, x.length = 2 ∧ x.all AV.closedB = true := fun x hx => by
  obtain ⟨e, _, rfl⟩ := List.mem_map.1 hx
  exact ⟨rfl, rfl⟩
set_option maxRecDepth 100000 in
set_option maxHeartbeats 8000000 in
theorem p_areRight {L : List (List Pt)} (hL : L.length ≤ 4611686018427387904) (hr : ∀ r ∈ L, r.length ≤ 4611686018427387904) :
    PCall Try.prog 37 [.w (.one (ringsA L))] (vB ((edgsM L).all rtE)) := by
  have S1 := p_around11 L
  have Q1 := iseq_around (L := L) hL hr
  refine pcall_bodyR (f := 37) Try.func37 rfl rfl rfl rfl ?_
  (repeat (first | ((with_reducible apply rwt_seq)) | ((with_reducible apply rwt_region)) | ((with_reducible apply rwt_block)) | ((with_reducible apply rthen_normal)) | ((with_reducible apply hs_nil)) | ((with_reducible apply hs_c); exact rfl; (repeat (first | ((with_reducible apply al_q); exact rfl) | (refine al_call1 rfl rfl rfl (by (first | exact S1)) rfl ?_))); (with_reducible apply al_nil))))
  refine rwt_ren (swp 2 1002) (swp_swp _ _) ?_
  refine rwt_range 17 [(2, vOw11 1002)] [1002] [[.c (.bool false)]] noRows (RtI (edgsM L)) (RtX (edgsM L)) rfl Q1 (by decide) vEd_hxs ?hp rfl ⟨rfl, trivial⟩ ⟨rfl, trivial⟩ (by decide) rfl rfl ⟨rfl, rfl, rfl⟩ (RLe.refl _) (fun i r h => by cases h) ?round ?done ?stop
  case hp =>
    intro p hp
    simp only [List.mem_cons, List.not_mem_nil, or_false] at hp
    rcases hp with rfl | rfl <;> exact ⟨by decide, rfl⟩
  case round =>
    rintro i x R css hx ⟨rfl, rfl, hal⟩ hok
    rw [List.getElem?_map] at hx
    obtain ⟨⟨⟨x1, y1⟩, x2, y2⟩, he, rfl⟩ := Option.map_eq_some_iff.1 hx
    clear hx hok
    have hd : (edgsM L).drop i = ((x1, y1), (x2, y2)) :: (edgsM L).drop (i + 1) := by rw [List.drop_eq_getElem_cons (List.getElem?_eq_some_iff.1 he).1, (List.getElem?_eq_some_iff.1 he).2]
    rw [hd, List.all_cons] at hal
    have hrt : rtE ((x1, y1), (x2, y2)) = (rB x1 y1 && rB (2 * x1) (2 * y1)) := rfl
    rw [hrt] at hal
    cases h1 : rB x1 y1 with
    | false =>
      have R1 := p_pRight h1
      rw [h1, Bool.false_and, Bool.false_and] at hal
      clear h1
      (repeat (first | ((with_reducible apply rwp_seq)) | ((with_reducible apply rthen_normal)) | ((with_reducible apply rwp_region)) | ((with_reducible apply hs_nil)) | ((with_reducible apply rwp_ret)) | ((with_reducible apply rwp_block)) | ((with_reducible apply rblock_ret)) | ((with_reducible apply rwp_cond_1); exact rfl; (first | assumption | exact decide_eq_true (by omega) | (simp only [Bool.not_eq_true', decide_eq_false_iff_not, decide_eq_true_eq, Bool.not_eq_false']; (first | done | omega)) | exact rfl)) | ((with_reducible apply hs_c); exact rfl; (repeat (first | ((with_reducible apply al_q); exact rfl) | (refine al_call1 rfl rfl rfl (by (first | exact R1)) rfl ?_))); (with_reducible apply al_nil))))
      exact ⟨_, [[.c (.bool false)]], ⟨rfl, rfl, rfl, hal⟩, RLe.refl _, (fun i r h => by cases h), rfl, ⟨rfl, trivial⟩, rfl⟩
    | true =>
      have R1 := p_pRight h1
      have T1 := p_twiceL h1
      cases h2 : rB (2 * x1) (2 * y1) with
      | false =>
        have R2 := p_pRight h2
        rw [h1, h2, Bool.true_and, Bool.false_and] at hal
        clear h1 h2
        (repeat (first | ((with_reducible apply rwp_seq)) | ((with_reducible apply rthen_normal)) | ((with_reducible apply rwp_region)) | ((with_reducible apply hs_nil)) | ((with_reducible apply rwp_ret)) | ((with_reducible apply rwp_block)) | ((with_reducible apply rblock_ret)) | ((with_reducible apply rwp_cond_1); exact rfl; (first | assumption | exact decide_eq_true (by omega) | (simp only [Bool.not_eq_true', decide_eq_false_iff_not, decide_eq_true_eq, Bool.not_eq_false']; (first | done | omega)) | exact rfl)) | ((with_reducible apply hs_c); exact rfl; (repeat (first | ((with_reducible apply al_q); exact rfl) | (refine al_call1 rfl rfl rfl (by (first | exact T1 | exact R1 | exact R2)) rfl ?_))); (with_reducible apply al_nil))))
        exact ⟨_, [[.c (.bool false)]], ⟨rfl, rfl, rfl, hal⟩, RLe.refl _, (fun i r h => by cases h), rfl, ⟨rfl, trivial⟩, rfl⟩
      | true =>
        have R2 := p_pRight h2
        rw [h1, h2, Bool.true_and, Bool.true_and] at hal
        clear h1 h2
        (repeat (first | ((with_reducible apply rwp_seq)) | ((with_reducible apply rthen_normal)) | ((with_reducible apply rwp_region)) | ((with_reducible apply hs_nil)) | ((with_reducible apply rwp_skip)) | ((with_reducible apply rwp_block)) | ((with_reducible apply rblock_normal)) | ((with_reducible apply rwp_cond_0); exact rfl; (first | assumption | exact decide_eq_false (by omega) | (simp only [Bool.not_eq_true', decide_eq_false_iff_not, decide_eq_true_eq, Bool.not_eq_false']; (first | done | omega)) | exact rfl)) | ((with_reducible apply hs_c); exact rfl; (repeat (first | ((with_reducible apply al_q); exact rfl) | (refine al_call1 rfl rfl rfl (by (first | exact T1 | exact R1 | exact R2)) rfl ?_))); (with_reducible apply al_nil))))
        exact ⟨_, [[.c (.bool false)]], ⟨rfl, rfl, hal⟩, RLe.refl _, (fun i r h => by cases h), rfl, ⟨rfl, trivial⟩, rfl⟩
  case done =>
    rintro R css ⟨rfl, rfl, hal⟩ hok
    clear hok
    rw [List.length_map, List.drop_length, List.all_nil] at hal
    rw [hal]
    (repeat (first | ((with_reducible apply rwt_seq)) | ((with_reducible apply rwt_region)) | ((with_reducible apply rwt_ret)) | ((with_reducible apply rthen_normal)) | ((with_reducible apply hs_nil)) | ((with_reducible apply rblock_normal)) | ((with_reducible apply hs_c); exact rfl; (repeat (first | ((with_reducible apply al_q); exact rfl))); (with_reducible apply al_nil))))
    (first | (refine apost_ret rfl (resl_agg rfl rfl rfl resl_nil) ?_) | (refine apost_ret rfl (resl_one rfl rfl rfl resl_nil) ?_))
    exact AV.Le.refl _
  case stop =>
    rintro e c R css he ⟨rfl, rfl, rfl, hal⟩ hok
    clear hok he
    rw [hal]
    (repeat (first | ((with_reducible apply rthen_ret)) | ((with_reducible apply rblock_ret))))
    (first | (refine apost_ret rfl (resl_agg rfl rfl rfl resl_nil) ?_) | (refine apost_ret rfl (resl_one rfl rfl rfl resl_nil) ?_))
    exact AV.Le.refl _
theorem sgn4_pos {n : Int} : 0 < sgn4 n ↔ 0 < n := by unfold sgn4; repeat' split <;> omega
theorem sgn4_neg {n : Int} : sgn4 n < 0 ↔ n < 0 := by unfold sgn4; repeat' split <;> omega
set_option maxRecDepth 100000 in
set_option maxHeartbeats 8000000 in
theorem p_passes {a1 a2 b1 b2 x y : Int} (ho : rB x y = true) (ha : rB a1 a2 = true) (hb : rB b1 b2 = true) : PCall Try.prog 40 [vP a1 a2, vP b1 b2, vP x y] (vI (crR (a1 - x) (a2 - y) (b1 - x) (b2 - y))) := by
  have T1 := p_Turn (o1 := a1) (o2 := a2) (a1 := b1) (a2 := b2) (b1 := x) (b2 := y)
  have q1 := crV_rel ho ha hb
  have p0 := sgn4_pos (n := crV a1 a2 b1 b2 x y)
  have n0 := sgn4_neg (n := crV a1 a2 b1 b2 x y)
  rw [q1] at T1 p0 n0
  clear q1 ho ha hb
  generalize ht : sgn4 (dtR (a1 - x) (a2 - y) (b1 - x) (b2 - y)) = t at T1 p0 n0
  have cs : ∃ c, crR (a1 - x) (a2 - y) (b1 - x) (b2 - y) = c ∧ ((a2 ≤ y ∧ y < b2 ∧ t > 0 ∧ c = 1) ∨ (a2 ≤ y ∧ y < b2 ∧ ¬ t > 0 ∧ ¬ b2 ≤ y ∧ c = 0) ∨ (a2 ≤ y ∧ ¬ y < b2 ∧ b2 ≤ y ∧ ¬ y < a2 ∧ c = 0) ∨ (¬ a2 ≤ y ∧ b2 ≤ y ∧ y < a2 ∧ t < 0 ∧ c = -1) ∨ (¬ a2 ≤ y ∧ b2 ≤ y ∧ y < a2 ∧ ¬ t < 0 ∧ c = 0) ∨ (¬ a2 ≤ y ∧ ¬ b2 ≤ y ∧ c = 0)) := by
    refine ⟨_, rfl, ?_⟩
    unfold crR
    generalize dtR (a1 - x) (a2 - y) (b1 - x) (b2 - y) = d at p0 n0
    clear ht T1
    by_cases h1 : a2 ≤ y
    · by_cases h2 : y < b2
      · by_cases h3 : t > 0
        · exact .inl ⟨h1, h2, h3, by rw [if_pos (by omega)]⟩
        · exact .inr (.inl ⟨h1, h2, h3, by omega, by rw [if_neg (by omega), if_neg (by omega)]⟩)
      · exact .inr (.inr (.inl ⟨h1, h2, by omega, by omega, by rw [if_neg (by omega), if_neg (by omega)]⟩))
    · by_cases h2 : b2 ≤ y
      · by_cases h3 : t < 0
        · exact .inr (.inr (.inr (.inl ⟨h1, h2, by omega, h3, by rw [if_neg (by omega), if_pos (by omega)]⟩)))
        · exact .inr (.inr (.inr (.inr (.inl ⟨h1, h2, by omega, h3, by rw [if_neg (by omega), if_neg (by omega)]⟩))))
      · exact .inr (.inr (.inr (.inr (.inr ⟨h1, h2, by rw [if_neg (by omega), if_neg (by omega)]⟩))))
  obtain ⟨c, e, cs⟩ := cs
  rw [e]
  clear e ht p0 n0
  rcases cs with ⟨h1, h2, h3, rfl⟩ | ⟨h1, h2, h3, h4, rfl⟩ | ⟨h1, h2, h3, h4, rfl⟩ | ⟨h1, h2, h3, h4, rfl⟩ | ⟨h1, h2, h3, h4, rfl⟩ | ⟨h1, h2, rfl⟩
  all_goals
    refine pcall_body (f := 40) Try.func40 rfl rfl rfl rfl ?_
    (repeat (first | ((with_reducible apply al_q); exact rfl) | (refine al_call3 rfl rfl rfl rfl rfl (by (first | exact T1)) rfl ?_) | ((with_reducible apply al_guard_b (c := true)); exact rfl; exact rfl; (first | assumption | exact decide_eq_true (by omega) | (simp only [Bool.not_eq_true', decide_eq_false_iff_not, decide_eq_true_eq, Bool.not_eq_false']; (first | done | omega)))) | ((with_reducible apply al_guard_b (c := false)); exact rfl; exact rfl; (first | assumption | exact decide_eq_false (by omega) | (simp only [Bool.not_eq_true', decide_eq_false_iff_not, decide_eq_true_eq, Bool.not_eq_false']; (first | done | omega)))) | ((with_reducible apply awp_seq)) | ((with_reducible apply athen_normal)) | ((with_reducible apply awp_region)) | ((with_reducible apply al_nil)) | ((with_reducible apply awp_ret)) | ((with_reducible apply awp_skip)) | ((with_reducible apply athen_ret)) | ((with_reducible apply awp_block)) | ((with_reducible apply ablock_normal)) | ((with_reducible apply ablock_ret)) | ((with_reducible apply awp_cond_f); exact rfl) | ((with_reducible apply awp_cond_1); exact rfl; (first | assumption | exact decide_eq_true (by omega) | (simp only [Bool.not_eq_true', decide_eq_false_iff_not, decide_eq_true_eq, Bool.not_eq_false']; (first | done | omega)))) | ((with_reducible apply awp_cond_0); exact rfl; (first | assumption | exact decide_eq_false (by omega) | (simp only [Bool.not_eq_true', decide_eq_false_iff_not, decide_eq_true_eq, Bool.not_eq_false']; (first | done | omega))))))
    (first | (refine apost_ret rfl (resl_tmp rfl resl_nil) ?_))
    exact AV.Le.refl _
end Go.Proofs.Ytlfkllmnekdghaa

namespace Go.Proofs.Ytlfkllmnekdghaa
open Go.RowKit
set_option linter.unusedVariables false
set_option linter.unusedSimpArgs false
def ptB (p : Pt) : Bool := rB p.1 p.2 && rB (2 * p.1) (2 * p.2)
theorem edgM_fst (l : List Pt) : (edgM l).map Prod.fst = l := by
  unfold edgM
  exact List.map_fst_zip (by simp only [List.length_append, List.length_drop, List.length_take]; omega)
theorem edgM_ends {l : List Pt} {e : Pt × Pt} (h : e ∈ edgM l) : e.1 ∈ l ∧ e.2 ∈ l := by
  obtain ⟨a, b⟩ := e
  obtain ⟨h1, h2⟩ := List.of_mem_zip h
  refine ⟨h1, ?_⟩
  rcases List.mem_append.1 h2 with h2 | h2
  · exact List.mem_of_mem_drop h2
  · exact List.mem_of_mem_take h2
theorem edgsM_rt {L : List (List Pt)} : (edgsM L).all rtE = L.all fun r => r.all ptB := by
  induction L with
  | nil => rfl
  | cons r L ih =>
    have e : edgsM (r :: L) = edgM r ++ edgsM L := by simp [edgsM]
    rw [e, List.all_append, ih, List.all_cons]
    congr 1
    conv => rhs; rw [← edgM_fst r, List.all_map]
    rfl
theorem rt_ends {L : List (List Pt)} (h : (edgsM L).all rtE = true) {e : Pt × Pt} (he : e ∈ edgsM L) : ptB e.1 = true ∧ ptB e.2 = true := by
  rw [edgsM_rt, List.all_eq_true] at h
  obtain ⟨r, hr, her⟩ := List.mem_flatMap.1 he
  have h1 := List.all_eq_true.1 (h r hr)
  obtain ⟨q1, q2⟩ := edgM_ends her
  exact ⟨h1 _ q1, h1 _ q2⟩
theorem crR_bd (u1 u2 v1 v2 : Int) : -1 ≤ crR u1 u2 v1 v2 ∧ crR u1 u2 v1 v2 ≤ 1 := by unfold crR; repeat' split <;> omega
theorem wndR_bd {x y : Int} : ∀ (E : List (Pt × Pt)), -(E.length : Int) ≤ wndE crR x y E ∧ wndE crR x y E ≤ E.length
  | [] => ⟨by simp [wndE], by simp [wndE]⟩
  | e :: E => by
    have ih := wndR_bd (x := x) (y := y) E
    have h := crR_bd (2 * e.1.1 - x) (2 * e.1.2 - y) (2 * e.2.1 - x) (2 * e.2.2 - y)
    have e1 : wndE crR x y (e :: E) = relR crR x y e + wndE crR x y E := by simp [wndE]
    rw [e1]
    unfold relR
    simp only [List.length_cons, Int.natCast_add]
    omega
/-- as Wind tells it. -/
def wndL (x y : Int) (E : List (Pt × Pt)) : Int × Bool := if (rB x y && E.all rtE) = true then wndV x y E else (0, false)
def WdI (E : List (Pt × Pt)) (x y : Int) (i : Nat) (R : Rws) (css : List (List AC)) : Prop := ∃ c : Int, R = noRows ∧ css = [[.c (.int .i64 c)], [.c (.bool false)], [.c (.int .i64 x), .c (.int .i64 y)]] ∧ c = wndE crR x y (E.take i) ∧ anyE x y (E.take i) = false
def WdX (E : List (Pt × Pt)) (x y : Int) (e : Exit) (R : Rws) (css : List (List AC)) : Prop := e = .ret ∧ R = noRows ∧ css = [[.c (.int .i64 0)], [.c (.bool true)], [.c (.int .i64 x), .c (.int .i64 y)]] ∧ anyE x y E = true
set_option maxRecDepth 100000 in
set_option maxHeartbeats 8000000 in
theorem p_Wind11L {L : List (List Pt)} {x y : Int} (hL : L.length ≤ 4611686018427387904) (hr : ∀ r ∈ L, r.length ≤ 4611686018427387904) (hM : (edgsM L).length ≤ 4611686018427387904) :
    PCall Try.prog 19 [.w (.one (ringsA L)), vI x, vI y] (vWnd (wndL x y (edgsM L)).1 (wndL x y (edgsM L)).2) := by
  have S1 := p_around11 L
  have Q1 := iseq_around (L := L) hL hr
  have A1 := p_areRight hL hr
  cases hxy : rB x y with
  | false =>
    have e : wndL x y (edgsM L) = (0, false) := by unfold wndL; rw [hxy]; rfl
    rw [e]
    have R0 := p_pRight hxy
    clear e hxy
    refine pcall_bodyR (f := 19) Try.func19 rfl rfl rfl rfl ?_
    (repeat (first | ((with_reducible apply rwt_seq)) | ((with_reducible apply rwt_region)) | ((with_reducible apply rwt_ret)) | ((with_reducible apply rthen_normal)) | ((with_reducible apply hs_nil)) | ((with_reducible apply rthen_ret)) | ((with_reducible apply hs_c); exact rfl; (repeat (first | ((with_reducible apply al_q); exact rfl) | (refine al_call1 rfl rfl rfl (by (first | exact R0 | exact A1)) rfl ?_))); (with_reducible apply al_nil)) | ((with_reducible apply rwt_cond_1); exact rfl; (first | assumption | exact decide_eq_true (by omega) | (simp only [Bool.not_eq_true', decide_eq_false_iff_not, decide_eq_true_eq, Bool.not_eq_false']; (first | done | omega)) | exact rfl))))
    (first | (refine apost_ret rfl (resl_agg rfl rfl rfl (resl_agg rfl rfl rfl resl_nil)) ?_) | (refine apost_ret rfl (resl_one rfl rfl rfl (resl_agg rfl rfl rfl resl_nil)) ?_) | (refine apost_ret rfl (resl_agg rfl rfl rfl (resl_one rfl rfl rfl resl_nil)) ?_) | (refine apost_ret rfl (resl_one rfl rfl rfl (resl_one rfl rfl rfl resl_nil)) ?_))
    exact AV.Le.refl _
  | true =>
    have R0 := p_pRight hxy
    cases hrt : (edgsM L).all rtE with
    | false =>
      have e : wndL x y (edgsM L) = (0, false) := by unfold wndL; rw [hrt, Bool.and_false]; rfl
      rw [e]
      rw [hrt] at A1
      clear e hrt hxy
      refine pcall_bodyR (f := 19) Try.func19 rfl rfl rfl rfl ?_
      (repeat (first | ((with_reducible apply rwt_seq)) | ((with_reducible apply rwt_region)) | ((with_reducible apply rwt_ret)) | ((with_reducible apply rthen_normal)) | ((with_reducible apply hs_nil)) | ((with_reducible apply rthen_ret)) | ((with_reducible apply hs_c); exact rfl; (repeat (first | ((with_reducible apply al_q); exact rfl) | (refine al_call1 rfl rfl rfl (by (first | exact R0 | exact A1)) rfl ?_))); (with_reducible apply al_nil)) | ((with_reducible apply rwt_cond_1); exact rfl; (first | assumption | exact decide_eq_true (by omega) | (simp only [Bool.not_eq_true', decide_eq_false_iff_not, decide_eq_true_eq, Bool.not_eq_false']; (first | done | omega)) | exact rfl))))
      (first | (refine apost_ret rfl (resl_agg rfl rfl rfl (resl_agg rfl rfl rfl resl_nil)) ?_) | (refine apost_ret rfl (resl_one rfl rfl rfl (resl_agg rfl rfl rfl resl_nil)) ?_) | (refine apost_ret rfl (resl_agg rfl rfl rfl (resl_one rfl rfl rfl resl_nil)) ?_) | (refine apost_ret rfl (resl_one rfl rfl rfl (resl_one rfl rfl rfl resl_nil)) ?_))
      exact AV.Le.refl _
    | true =>
      have e : wndL x y (edgsM L) = wndV x y (edgsM L) := by unfold wndL; rw [hrt, hxy]; rfl
      rw [e]
      rw [hrt] at A1
      clear e
      have hends : ∀ e ∈ edgsM L, ptB e.1 = true ∧ ptB e.2 = true := fun e he => rt_ends hrt he
      clear hrt
      refine pcall_bodyR (f := 19) Try.func19 rfl rfl rfl rfl ?_
      (repeat (first | ((with_reducible apply rwt_seq)) | ((with_reducible apply rwt_region)) | ((with_reducible apply rwt_skip)) | ((with_reducible apply rwt_block)) | ((with_reducible apply rthen_normal)) | ((with_reducible apply hs_nil)) | ((with_reducible apply hs_c); exact rfl; (repeat (first | ((with_reducible apply al_q); exact rfl) | (refine al_call1 rfl rfl rfl (by (first | exact R0 | exact A1 | exact S1)) rfl ?_))); (with_reducible apply al_nil)) | ((with_reducible apply rwt_cond_0); exact rfl; (first | assumption | exact decide_eq_false (by omega) | (simp only [Bool.not_eq_true', decide_eq_false_iff_not, decide_eq_true_eq, Bool.not_eq_false']; (first | done | omega)) | exact rfl))))
      refine rwt_ren (swp 6 1006) (swp_swp _ _) ?_
      refine rwt_ren (swp 7 1007) (swp_swp _ _) ?_
      refine rwt_ren (swp 8 1008) (swp_swp _ _) ?_
      refine rwt_range 41 [(6, vOw11 1006), (7, vOw11 1007), (8, vOw11 1008)] [1006, 1007, 1008] [[.c (.int .i64 0)], [.c (.bool false)], [.c (.int .i64 x), .c (.int .i64 y)]] noRows (WdI (edgsM L) x y) (WdX (edgsM L) x y) rfl Q1 (by decide) vEd_hxs ?hp rfl ⟨rfl, rfl, rfl, trivial⟩ ⟨rfl, rfl, rfl, trivial⟩ (by decide) rfl rfl ⟨0, rfl, rfl, rfl, rfl⟩ (RLe.refl _) (fun i r h => by cases h) ?round ?done ?stop
      case hp =>
        intro p hp
        simp only [List.mem_cons, List.not_mem_nil, or_false] at hp
        rcases hp with rfl | rfl <;> exact ⟨by decide, rfl⟩
      case round =>
        rintro i z R css hx ⟨c, rfl, rfl, hc, hany⟩ hok
        rw [List.getElem?_map] at hx
        obtain ⟨⟨⟨x1, y1⟩, x2, y2⟩, he, rfl⟩ := Option.map_eq_some_iff.1 hx
        clear hx hok
        have hi := (List.getElem?_eq_some_iff.1 he).1
        obtain ⟨m1, m2⟩ := hends _ (List.mem_of_getElem? he)
        unfold ptB at m1 m2
        rw [Bool.and_eq_true] at m1 m2
        obtain ⟨m1, k1⟩ := m1
        obtain ⟨m2, k2⟩ := m2
        have T1 := p_twiceL m1
        have T2 := p_twiceL m2
        have O1 := p_On (p1 := x) (p2 := y) (a1 := 2 * x1) (a2 := 2 * y1) (b1 := 2 * x2) (b2 := 2 * y2) rfl
        rw [onB_rel hxy k1 k2] at O1
        have P1 := p_passes hxy k1 k2
        have hbd := wndR_bd (x := x) (y := y) ((edgsM L).take i)
        have hb1 := crR_bd (2 * x1 - x) (2 * y1 - y) (2 * x2 - x) (2 * y2 - y)
        have htl : ((edgsM L).take i).length = i := by rw [List.length_take]; omega
        rw [htl, ← hc] at hbd
        have hone := take_one he
        have ho : anyE x y ((edgsM L).take (i + 1)) = onR (2 * x1 - x) (2 * y1 - y) (2 * x2 - x) (2 * y2 - y) := by rw [hone, anyE_one, hany, Bool.false_or]; rfl
        have hw : wndE crR x y ((edgsM L).take (i + 1)) = c + crR (2 * x1 - x) (2 * y1 - y) (2 * x2 - x) (2 * y2 - y) := by rw [hone, wndE_one, ← hc]; rfl
        cases hon : onR (2 * x1 - x) (2 * y1 - y) (2 * x2 - x) (2 * y2 - y) with
        | true =>
          have hX : anyE x y (edgsM L) = true := anyE_take he hon
          rw [hon] at O1
          clear hone ho hw hany hc he hon hends hxy m1 m2 k1 k2
          (repeat (first | ((with_reducible apply hs_nilS); kernel_rfl) | ((with_reducible apply rwp_draw (id := 7) [0,1,2,3,4,5]); kernel_rfl; kernel_rfl; exact rfl) | ((with_reducible apply rwp_seq)) | ((with_reducible apply rthen_normal)) | ((with_reducible apply rwp_region)) | ((with_reducible apply hs_nil)) | ((with_reducible apply rwp_ret)) | ((with_reducible apply rthen_ret)) | ((with_reducible apply rwp_block)) | ((with_reducible apply rblock_ret)) | ((with_reducible apply rwp_cond_1); exact rfl; (first | assumption | exact decide_eq_true (by omega) | (simp only [Bool.not_eq_true', decide_eq_false_iff_not, decide_eq_true_eq, Bool.not_eq_false']; (first | done | omega)) | exact rfl)) | ((with_reducible apply hs_c); exact rfl; (repeat (first | ((with_reducible apply al_q); exact rfl) | (refine al_call1 rfl rfl rfl (by (first | exact T1 | exact T2 | exact O1 | exact P1)) rfl ?_) | (refine al_call3 rfl rfl rfl rfl rfl (by (first | exact T1 | exact T2 | exact O1 | exact P1)) rfl ?_))); (with_reducible apply al_nil))))
          exact ⟨_, [[.c (.int .i64 0)], [.c (.bool true)], [.c (.int .i64 x), .c (.int .i64 y)]], ⟨rfl, rfl, rfl, hX⟩, RLe.refl _, (fun i r h => by cases h), rfl, ⟨rfl, rfl, rfl, trivial⟩, rfl⟩
        | false =>
          rw [hon] at O1 ho
          generalize crR (2 * x1 - x) (2 * y1 - y) (2 * x2 - x) (2 * y2 - y) = d at P1 hb1 hw
          clear hone hany hc he hon hends hxy m1 m2 k1 k2
          (repeat (first | ((with_reducible apply hs_nilS); kernel_rfl) | ((with_reducible apply rwp_draw (id := 7) [0,1,2,3,4,5]); kernel_rfl; kernel_rfl; exact rfl) | ((with_reducible apply rwp_draw (id := 10) [0,1,2,3,4,5,6]); kernel_rfl; kernel_rfl; exact rfl) | ((with_reducible apply rwp_seq)) | ((with_reducible apply rthen_normal)) | ((with_reducible apply rwp_region)) | ((with_reducible apply hs_nil)) | ((with_reducible apply rwp_skip)) | ((with_reducible apply rwp_block)) | ((with_reducible apply rblock_normal)) | ((with_reducible apply rwp_cond_0); exact rfl; (first | assumption | exact decide_eq_false (by omega) | (simp only [Bool.not_eq_true', decide_eq_false_iff_not, decide_eq_true_eq, Bool.not_eq_false']; (first | done | omega)) | exact rfl)) | ((with_reducible apply hs_c); exact rfl; (repeat (first | ((with_reducible apply al_q); exact rfl) | ((with_reducible apply al_add); (iterate 3 exact rfl); (first | exact i64_wrap (by omega) | assumption | rfl); exact rfl) | (refine al_call1 rfl rfl rfl (by (first | exact T1 | exact T2 | exact O1 | exact P1)) rfl ?_) | (refine al_call3 rfl rfl rfl rfl rfl (by (first | exact T1 | exact T2 | exact O1 | exact P1)) rfl ?_))); (with_reducible apply al_nil))))
          exact ⟨_, [[.c (.int .i64 (c + d))], [.c (.bool false)], [.c (.int .i64 x), .c (.int .i64 y)]], ⟨_, rfl, rfl, hw.symm, ho⟩, RLe.refl _, (fun i r h => by cases h), rfl, ⟨rfl, rfl, rfl, trivial⟩, rfl⟩
      case done =>
        rintro R css ⟨c, rfl, rfl, hc, hany⟩ hok
        clear hok
        rw [List.length_map, List.take_length] at hc hany
        have e : wndV x y (edgsM L) = (c, false) := by
          unfold wndV
          rw [hany, if_neg (by simp), hc]
          have := wnd_rings (f := crR) (f' := cuR) (g := q1R) (fun _ _ _ _ h => crR_cuR h) (L := L) hany
          rw [show edgsM L = L.flatMap edgM from rfl, this]
        rw [e]
        (repeat (first | ((with_reducible apply rwt_seq)) | ((with_reducible apply rwt_region)) | ((with_reducible apply rwt_ret)) | ((with_reducible apply rthen_normal)) | ((with_reducible apply hs_nil)) | ((with_reducible apply rblock_normal)) | ((with_reducible apply hs_c); exact rfl; (repeat (first | ((with_reducible apply al_q); exact rfl))); (with_reducible apply al_nil))))
        (first | (refine apost_ret rfl (resl_agg rfl rfl rfl (resl_agg rfl rfl rfl resl_nil)) ?_) | (refine apost_ret rfl (resl_one rfl rfl rfl (resl_agg rfl rfl rfl resl_nil)) ?_) | (refine apost_ret rfl (resl_agg rfl rfl rfl (resl_one rfl rfl rfl resl_nil)) ?_) | (refine apost_ret rfl (resl_one rfl rfl rfl (resl_one rfl rfl rfl resl_nil)) ?_))
        exact AV.Le.refl _
      case stop =>
        rintro e c R css he ⟨rfl, rfl, rfl, hX⟩ hok
        clear hok he
        have e : wndV x y (edgsM L) = (0, true) := by unfold wndV; rw [if_pos hX]
        rw [e]
        (repeat (first | ((with_reducible apply rthen_ret)) | ((with_reducible apply rblock_ret))))
        (first | (refine apost_ret rfl (resl_agg rfl rfl rfl (resl_agg rfl rfl rfl resl_nil)) ?_) | (refine apost_ret rfl (resl_one rfl rfl rfl (resl_agg rfl rfl rfl resl_nil)) ?_) | (refine apost_ret rfl (resl_agg rfl rfl rfl (resl_one rfl rfl rfl resl_nil)) ?_) | (refine apost_ret rfl (resl_one rfl rfl rfl (resl_one rfl rfl rfl resl_nil)) ?_))
        exact AV.Le.refl _
end Go.Proofs.Ytlfkllmnekdghaa

namespace Go.Proofs.Ytlfkllmnekdghaa
open Go.RowKit
set_option linter.unusedVariables false
set_option linter.unusedSimpArgs false
set_option maxRecDepth 100000 in
set_option maxHeartbeats 8000000 in
theorem p_Does11 {op : Int} {a b : Bool} : PCall Try.prog 24 [vI op, vB a, vB b] (vB (dsF op a b)) := by
  have cs : op = 0 ∨ op = 1 ∨ op = 2 ∨ op = 3 ∨ (¬ op = 0 ∧ ¬ op = 1 ∧ ¬ op = 2 ∧ ¬ op = 3) := by omega
  have e4 : (¬ op = 0 ∧ ¬ op = 1 ∧ ¬ op = 2 ∧ ¬ op = 3) → dsF op a b = false := fun ⟨h0, h1, h2, h3⟩ => by unfold dsF; simp [h0, h1, h2, h3]
  rcases cs with rfl | rfl | rfl | rfl | ⟨h0, h1, h2, h3⟩
  · clear e4
    cases a <;> cases b
    all_goals
      refine pcall_body (f := 24) Try.func24 rfl rfl rfl rfl ?_
      (repeat (first | ((with_reducible apply al_q); exact rfl) | ((with_reducible apply awp_seq)) | ((with_reducible apply athen_normal)) | ((with_reducible apply awp_region)) | ((with_reducible apply al_nil)) | ((with_reducible apply awp_ret)) | ((with_reducible apply athen_ret)) | ((with_reducible apply awp_block)) | ((with_reducible apply ablock_ret)) | ((with_reducible apply awp_cond_t); exact rfl)))
      (first | (refine apost_ret rfl (resl_tmp rfl resl_nil) ?_))
      exact AV.Le.of_eq (by rfl)
  · clear e4
    cases a <;> cases b
    all_goals
      refine pcall_body (f := 24) Try.func24 rfl rfl rfl rfl ?_
      (repeat (first | ((with_reducible apply al_q); exact rfl) | ((with_reducible apply awp_seq)) | ((with_reducible apply athen_normal)) | ((with_reducible apply awp_region)) | ((with_reducible apply al_nil)) | ((with_reducible apply awp_ret)) | ((with_reducible apply athen_ret)) | ((with_reducible apply awp_block)) | ((with_reducible apply ablock_ret)) | ((with_reducible apply awp_cond_t); exact rfl) | ((with_reducible apply awp_cond_f); exact rfl)))
      (first | (refine apost_ret rfl (resl_tmp rfl resl_nil) ?_))
      exact AV.Le.of_eq (by rfl)
  · clear e4
    cases a <;> cases b
    all_goals
      refine pcall_body (f := 24) Try.func24 rfl rfl rfl rfl ?_
      (repeat (first | ((with_reducible apply al_q); exact rfl) | ((with_reducible apply awp_seq)) | ((with_reducible apply athen_normal)) | ((with_reducible apply awp_region)) | ((with_reducible apply al_nil)) | ((with_reducible apply awp_ret)) | ((with_reducible apply athen_ret)) | ((with_reducible apply awp_block)) | ((with_reducible apply ablock_ret)) | ((with_reducible apply awp_cond_t); exact rfl) | ((with_reducible apply awp_cond_f); exact rfl)))
      (first | (refine apost_ret rfl (resl_tmp rfl resl_nil) ?_))
      exact AV.Le.of_eq (by rfl)
  · clear e4
    cases a <;> cases b
    all_goals
      refine pcall_body (f := 24) Try.func24 rfl rfl rfl rfl ?_
      (repeat (first | ((with_reducible apply al_q); exact rfl) | ((with_reducible apply al_neT); (iterate 4 exact rfl); kernel_rfl) | ((with_reducible apply awp_seq)) | ((with_reducible apply athen_normal)) | ((with_reducible apply awp_region)) | ((with_reducible apply al_nil)) | ((with_reducible apply awp_ret)) | ((with_reducible apply athen_ret)) | ((with_reducible apply awp_block)) | ((with_reducible apply ablock_ret)) | ((with_reducible apply awp_cond_t); exact rfl) | ((with_reducible apply awp_cond_f); exact rfl)))
      (first | (refine apost_ret rfl (resl_tmp rfl resl_nil) ?_))
      exact AV.Le.of_eq (by rfl)
  · rw [e4 ⟨h0, h1, h2, h3⟩]
    clear e4
    refine pcall_body (f := 24) Try.func24 rfl rfl rfl rfl ?_
    (repeat (first | ((with_reducible apply al_q); exact rfl) | ((with_reducible apply awp_seq)) | ((with_reducible apply athen_normal)) | ((with_reducible apply awp_region)) | ((with_reducible apply al_nil)) | ((with_reducible apply awp_ret)) | ((with_reducible apply awp_skip)) | ((with_reducible apply awp_block)) | ((with_reducible apply ablock_normal)) | ((with_reducible apply awp_cond_0); exact rfl; (first | assumption | exact decide_eq_false (by omega) | (simp only [Bool.not_eq_true', decide_eq_false_iff_not, decide_eq_true_eq, Bool.not_eq_false']; (first | done | omega))))))
    (first | (refine apost_ret rfl (resl_tmp rfl resl_nil) ?_))
    exact AV.Le.refl _
set_option maxRecDepth 100000 in
set_option maxHeartbeats 8000000 in
theorem p_Fills11 {f n : Int} : PCall Try.prog 23 [vI f, vI n] (vB (flF f n)) := by
  have cs : ∃ q, n.tmod 2 = q ∧ ((f = 0 ∧ ¬ q = 0 ∧ flF f n = true) ∨ (f = 0 ∧ q = 0 ∧ flF f n = false) ∨ (¬ f = 0 ∧ f = 1 ∧ n = 0 ∧ flF f n = false) ∨ (¬ f = 0 ∧ f = 1 ∧ ¬ n = 0 ∧ flF f n = true) ∨ (¬ f = 0 ∧ ¬ f = 1 ∧ flF f n = false)) := by
    refine ⟨_, rfl, ?_⟩
    have hm : (n % 2 = 0 ↔ n.tmod 2 = 0) := by
      rcases Int.le_total 0 n with h | h
      · rw [Int.tmod_eq_emod_of_nonneg h]
      · have e : n.tmod 2 = - ((-n) % 2) := by
          rw [← Int.tmod_eq_emod_of_nonneg (show 0 ≤ -n by omega), Int.neg_tmod, Int.neg_neg]
        omega
    unfold flF
    by_cases h0 : f = 0 <;> by_cases h1 : f = 1 <;> by_cases h2 : n = 0 <;> by_cases h3 : n % 2 = 0 <;> simp [h0, h1, h2, h3] <;> omega
  obtain ⟨q, hq, cs⟩ := cs
  rcases cs with ⟨rfl, h1, h⟩ | ⟨rfl, h1, h⟩ | ⟨h0, rfl, h2, h⟩ | ⟨h0, rfl, h2, h⟩ | ⟨h0, h1, h⟩ <;> rw [h] <;> clear h
  all_goals
    refine pcall_body (f := 23) Try.func23 rfl rfl rfl rfl ?_
    (repeat (first | ((with_reducible apply al_q); exact rfl) | ((with_reducible apply al_bin); (iterate 5 exact rfl); (intro W; go_simp; try rfl); (intro W; go_simp; try rfl); exact rfl; exact rfl) | ((with_reducible apply awp_seq)) | ((with_reducible apply athen_normal)) | ((with_reducible apply awp_region)) | ((with_reducible apply al_nil)) | ((with_reducible apply awp_ret)) | ((with_reducible apply awp_skip)) | ((with_reducible apply athen_ret)) | ((with_reducible apply awp_block)) | ((with_reducible apply ablock_normal)) | ((with_reducible apply ablock_ret)) | ((with_reducible apply awp_cond_t); exact rfl) | ((with_reducible apply awp_cond_f); exact rfl) | ((with_reducible apply awp_cond_0); exact rfl; (first | assumption | exact decide_eq_false (by omega) | (simp only [Bool.not_eq_true', decide_eq_false_iff_not, decide_eq_true_eq, Bool.not_eq_false']; (first | done | omega))))))
    (first | (refine apost_ret rfl (resl_tmp rfl resl_nil) ?_))
    first | exact AV.Le.refl _ | exact AV.Le.of_eq (by rw [decide_eq_true h1]; rfl) | exact AV.Le.of_eq (by rw [decide_eq_false h1]; rfl) | exact AV.Le.of_eq (by rw [decide_eq_true h2]; rfl) | exact AV.Le.of_eq (by rw [decide_eq_false h2]; rfl) | exact AV.Le.of_eq (by rw [h2]; rfl)
set_option maxRecDepth 100000 in
set_option maxHeartbeats 8000000 in
theorem p_Wants11 {A B : List (List Pt)} {op fill rung cap a b : Int} : PCall Try.prog 26 [.w (.agg (jobC A B op fill rung cap)), vI a, vI b] (vB (dsF op (flF fill a) (flF fill b))) := by
  have F1 := p_Fills11 (f := fill) (n := a)
  have F2 := p_Fills11 (f := fill) (n := b)
  have D1 := p_Does11 (op := op) (a := flF fill a) (b := flF fill b)
  generalize flF fill a = u at *
  generalize flF fill b = v at *
  refine pcall_body (f := 26) Try.func26 rfl rfl rfl rfl ?_
  (repeat (first | ((with_reducible apply al_q); exact rfl) | (refine al_call2 rfl rfl rfl rfl (by (first | exact F1 | exact F2 | exact D1)) rfl ?_) | (refine al_call3 rfl rfl rfl rfl rfl (by (first | exact F1 | exact F2 | exact D1)) rfl ?_) | ((with_reducible apply al_nilS); kernel_rfl) | ((with_reducible apply awp_region_draw); kernel_rfl; kernel_rfl; exact rfl) | ((with_reducible apply awp_seq)) | ((with_reducible apply athen_normal)) | ((with_reducible apply awp_region)) | ((with_reducible apply al_nil)) | ((with_reducible apply awp_ret))))
  (first | (refine apost_ret rfl (resl_tmp rfl resl_nil) ?_))
  exact AV.Le.refl _
end Go.Proofs.Ytlfkllmnekdghaa

namespace Go.Proofs.Ytlfkllmnekdghaa
open Go.RowKit
set_option linter.unusedVariables false
set_option linter.unusedSimpArgs false
theorem pcall_less {P : Program} {f : FuncId} {args args' : List AV} {r : AV} (h : PCall P f args r) (ca : args'.all AV.closedB = true) (hl : args'.length = args.length) (hle : ∀ (i : Nat) x y, args'[i]? = some x → args[i]? = some y → x.Le y) : PCall P f args' r :=
  ⟨fun x hx => AV.closed_of (List.all_eq_true.1 ca x hx), h.cr, fun U W vs hvs => h.call U W vs ⟨by rw [← hl]; exact hvs.1, fun i y v hy hv => by
    have hi : i < args'.length := by rw [hl]; exact (List.getElem?_eq_some_iff.1 hy).1
    exact hle i _ y (List.getElem?_eq_getElem hi) hy U id W v (hvs.2 i _ v (List.getElem?_eq_getElem hi) hv)⟩⟩
def sqR : List Pt := [(0, 0), (2, 0), (2, 2), (0, 2)]
/-- a job without B; one without rings. -/
theorem job1_le {A : List (List Pt)} {op fill rung cap : Int} : AV.Le (.w (.agg [ringsA A, .c (.slice none 0 0), .c (.int .i64 op), .c (.int .i64 fill), .c (.int .i64 rung), .c (.int .i64 cap)])) (.w (.agg (jobC A [] op fill rung cap))) := agg_le rfl fun j x y hx hy => by
  match j with
  | 0 => cases hx; cases hy; exact .inl rfl
  | 1 => cases hx; cases hy; exact .inr ⟨rfl, 1, rfl⟩
  | 2 => cases hx; cases hy; exact .inl rfl
  | 3 => cases hx; cases hy; exact .inl rfl
  | 4 => cases hx; cases hy; exact .inl rfl
  | 5 => cases hx; cases hy; exact .inl rfl
  | j + 6 => simp at hx
theorem job0_le {op fill rung cap : Int} : AV.Le (.w (.agg [.c (.slice none 0 0), .c (.slice none 0 0), .c (.int .i64 op), .c (.int .i64 fill), .c (.int .i64 rung), .c (.int .i64 cap)])) (.w (.agg (jobC [] [] op fill rung cap))) := agg_le rfl fun j x y hx hy => by
  match j with
  | 0 => cases hx; cases hy; exact .inr ⟨rfl, 1, rfl⟩
  | 1 => cases hx; cases hy; exact .inr ⟨rfl, 1, rfl⟩
  | 2 => cases hx; cases hy; exact .inl rfl
  | 3 => cases hx; cases hy; exact .inl rfl
  | 4 => cases hx; cases hy; exact .inl rfl
  | 5 => cases hx; cases hy; exact .inl rfl
  | j + 6 => simp at hx
theorem le1 {P : Program} {f : FuncId} {x y : AV} {ys : List AV} {r : AV} (h : PCall P f (y :: ys) r) (cx : x.closedB = true) (cs : ys.all AV.closedB = true) (hle : x.Le y) : PCall P f (x :: ys) r := pcall_less h (by rw [List.all_cons, cx, cs]; rfl) rfl fun i a b ha hb => by
  cases i with
  | zero => cases ha; cases hb; exact hle
  | succ i => rw [List.getElem?_cons_succ] at ha hb; rw [ha] at hb; cases hb; exact .refl _
set_option maxRecDepth 100000 in
set_option maxHeartbeats 16000000 in
theorem p_alive11 : PCall Try.prog 10 [] (vB true) := by
  have W1 := p_Wind11L (L := [sqR]) (x := 2) (y := 2) (by decide) (by decide) (by decide)
  rw [show wndL 2 2 (edgsM [sqR]) = (1, false) by decide] at W1
  have W2 := p_Wind11L (L := [sqR]) (x := 0) (y := 2) (by decide) (by decide) (by decide)
  rw [show wndL 0 2 (edgsM [sqR]) = (0, true) by decide] at W2
  have E1 := le1 (p_Edges11 (A := [sqR]) (B := []) (op := 0) (fill := 0) (rung := 0) (cap := 9) (by decide) (by decide) (by decide) (by decide) (by decide)) rfl rfl job1_le
  have C1 := le1 (p_Check11 (A := [sqR]) (B := []) (op := 0) (fill := 0) (rung := 0) (cap := 9) (by decide) (by decide) (by decide)) rfl rfl job1_le
  rw [show chkV [sqR] [] 0 0 0 9 = 0 by decide] at C1
  have C2 := le1 (p_Check11 (A := []) (B := []) (op := 0) (fill := 0) (rung := 0) (cap := 0) (by decide) (by decide) (by decide)) rfl rfl job0_le
  rw [show chkV [] [] 0 0 0 0 = 113 by decide] at C2
  have F1 := p_Fills11 (f := 0) (n := -1)
  rw [show flF 0 (-1) = true by decide] at F1
  have D1 := p_Does11 (op := 2) (a := true) (b := false)
  rw [show dsF 2 true false = true by decide] at D1
  have V1 := le1 (p_Wants11 (A := [sqR]) (B := []) (op := 0) (fill := 0) (rung := 0) (cap := 9) (a := 1) (b := 0)) rfl rfl job1_le
  rw [show dsF 0 (flF 0 1) (flF 0 0) = true by decide] at V1
  have L1 := le1 (p_Clone11 (A := [sqR]) (B := []) (op := 0) (fill := 0) (rung := 0) (cap := 9) (by decide) (by decide) (by decide)) rfl rfl job1_le
  have S1 := le1 (p_Same11 (A := [sqR]) (B := []) (A' := [sqR]) (B' := []) (op := 0) (fill := 0) (rung := 0) (cap := 9) (op' := 0) (fill' := 0) (rung' := 0) (cap' := 9) (by decide) (by decide) (by decide) (by decide) (by decide)) rfl rfl job1_le
  rw [show smB [sqR] [] 0 0 0 9 [sqR] [] 0 0 0 9 = true by decide] at S1
  refine pcall_body (f := 10) Try.func10 rfl rfl rfl rfl ?_
  (repeat (first | ((with_reducible apply al_q); exact rfl) | ((with_reducible apply al_loadPN); (iterate 5 exact rfl)) | ((with_reducible apply al_idxS); (iterate 3 exact rfl); (first | decide | omega); (first | decide | omega); (first | assumption | rfl); exact rfl) | ((with_reducible apply al_len); (iterate 3 exact rfl)) | ((with_reducible apply al_bslice); (iterate 10 exact rfl)) | (refine al_call1 rfl rfl rfl (by (first | exact W1 | exact W2 | exact E1 | exact C1 | exact C2 | exact F1 | exact D1 | exact V1 | exact L1 | exact S1)) rfl ?_) | (refine al_call2 rfl rfl rfl rfl (by (first | exact W1 | exact W2 | exact E1 | exact C1 | exact C2 | exact F1 | exact D1 | exact V1 | exact L1 | exact S1)) rfl ?_) | (refine al_call3 rfl rfl rfl rfl rfl (by (first | exact W1 | exact W2 | exact E1 | exact C1 | exact C2 | exact F1 | exact D1 | exact V1 | exact L1 | exact S1)) rfl ?_) | ((with_reducible apply al_bin); (iterate 5 exact rfl); (intro W; go_simp; try rfl); (intro W; go_simp; try rfl); exact rfl; exact rfl) | ((with_reducible apply al_nilS); kernel_rfl) | ((with_reducible apply awp_region_draw); kernel_rfl; kernel_rfl; exact rfl) | ((with_reducible apply awp_seq)) | ((with_reducible apply athen_normal)) | ((with_reducible apply awp_region)) | ((with_reducible apply al_nil)) | ((with_reducible apply awp_ret))))
  (first | (refine apost_ret rfl (resl_tmp rfl resl_nil) ?_))
  exact AV.Le.refl _
end Go.Proofs.Ytlfkllmnekdghaa

namespace Go.Proofs.Ytlfkllmnekdghaa
open Go.RowKit
set_option linter.unusedVariables false
set_option linter.unusedSimpArgs false
def MyI (L : List (List Pt)) (b : Nat) (n : Nat) (ts : List (Nat × AV)) (ms : List (Nat × List AC)) : Prop :=
  ∃ (i : Nat) (ii c : Int), i ≤ L.length ∧ n = L.length - i ∧ ii = i ∧ c = ((b + sumL (L.take i) : Nat) : Int) ∧ ms = [] ∧ ts = [(3, vI c), (24, .w (.one (ringsA L))), (25, vI L.length), (26, vI ii)]
set_option maxRecDepth 100000 in
set_option maxHeartbeats 8000000 in
theorem p_Many {A B : List (List Pt)} {op fill rung cap : Int} (hb : A.length + B.length + sumL A + sumL B ≤ 1048576) :
    PCall Try.prog 13 [.w (.agg (jobC A B op fill rung cap))] (vI ((A.length + B.length + (sumL A + sumL B) : Nat) : Int)) := by
  have z1 : (A.length : Int).toNat - 0 = A.length := by omega
  have z2 : ((A.map ringA).drop (0 * 1)).take (A.length * 1) = A.map ringA := by rw [Nat.zero_mul, List.drop_zero, Nat.mul_one, List.take_of_length_le (by simp)]
  have z3 : A.length + B.length = (A ++ B).length := by simp
  have z4 : A.map ringA ++ B.map ringA = (A ++ B).map ringA := by simp
  have z5 : (A.length + B.length) * 24 ≤ 140737488355328 := by omega
  have z7 : sumL (A ++ B) = sumL A + sumL B := by simp [sumL]
  have z8 : (A.length : Int) + B.length = (((A ++ B).length + sumL ((A ++ B).take 0) : Nat) : Int) := by simp [sumL]
  have z9 : A.length + B.length ≤ 900000 ∨ 900000 < A.length + B.length := by omega
  have zm : A.length + B.length ≤ maxLen := Nat.le_trans (m := 1048576) (by omega) (by decide)
  refine pcall_body (f := 13) Try.func13 rfl rfl rfl rfl ?_
  (repeat (first | ((with_reducible apply al_q); exact rfl) | ((with_reducible apply al_add); (iterate 3 exact rfl); (first | exact i64_wrap (by omega) | assumption | rfl); exact rfl) | ((with_reducible apply al_len); (iterate 3 exact rfl)) | ((with_reducible apply al_sl_hmF); (iterate 4 exact rfl); (first | assumption | omega); (first | assumption | omega); (first | assumption | rfl); (first | assumption | rfl); exact rfl) | ((with_reducible apply al_appF); (iterate 3 exact rfl); (first | exact le_maxLen (by omega) | assumption); (first | assumption | omega); (first | assumption | rfl); (first | assumption | rfl); exact rfl) | ((with_reducible apply al_nilS); kernel_rfl) | ((with_reducible apply awp_region_draw); kernel_rfl; kernel_rfl; exact rfl) | ((with_reducible apply awp_seq)) | ((with_reducible apply athen_normal)) | ((with_reducible apply awp_region)) | ((with_reducible apply al_nil)) | ((with_reducible apply awp_block))))
  refine awp_loopL 36 (MyI (A ++ B) (A ++ B).length) (A ++ B).length _ [] ⟨0, 0, _, Nat.zero_le _, rfl, rfl, z8, rfl, rfl⟩ rfl ⟨rfl, rfl, rfl, rfl, trivial⟩ trivial rfl ?_
  rintro n ts ms ⟨i, ii, c, hi, rfl, hii, hc, rfl, rfl⟩ hok
  clear hok z1 z2 z4 z5 z8 z9 zm
  generalize hM : A ++ B = M at *
  by_cases hq : i < M.length
  · have q2 : ii < (M.length : Int) := by omega
    have q3 : 0 ≤ ii := by omega
    obtain ⟨r, hri⟩ : ∃ r, M[i]? = some r := ⟨_, List.getElem?_eq_getElem hq⟩
    have E1 := ringsC_at hii hri
    have hs := sumL_take hri
    have hl := sumL_le (L := M) (k := i + 1)
    (repeat (first | ((with_reducible apply al_q); exact rfl) | ((with_reducible apply al_loadP1); (iterate 5 exact rfl)) | ((with_reducible apply al_idxS); (iterate 3 exact rfl); (first | decide | omega); (first | decide | omega); (first | assumption | rfl); exact rfl) | ((with_reducible apply al_add); (iterate 3 exact rfl); (first | exact i64_wrap (by omega) | assumption | rfl); exact rfl) | ((with_reducible apply al_len); (iterate 3 exact rfl)) | ((with_reducible apply awp_seq)) | ((with_reducible apply athen_normal)) | ((with_reducible apply awp_region)) | ((with_reducible apply al_nil)) | ((with_reducible apply awp_skip)) | ((with_reducible apply awp_block)) | ((with_reducible apply ablock_normal)) | ((with_reducible apply awp_cond_1); exact rfl; (first | assumption | exact decide_eq_true (by omega) | (simp only [Bool.not_eq_true', decide_eq_false_iff_not, decide_eq_true_eq, Bool.not_eq_false']; (first | done | omega))))))
    exact ⟨M.length - (i + 1), _, [], by omega, ⟨i + 1, ii + 1, c + r.length, hq, rfl, by omega, by omega, rfl, rfl⟩, rfl, ⟨rfl, rfl, rfl, rfl, trivial⟩, trivial, rfl⟩
  · have e : i = M.length := by omega
    subst e
    rw [List.take_length] at hc
    have hc' : ((A.length + B.length + (sumL A + sumL B) : Nat) : Int) = c := by omega
    rw [hc']
    (repeat (first | ((with_reducible apply al_q); exact rfl) | ((with_reducible apply awp_seq)) | ((with_reducible apply athen_normal)) | ((with_reducible apply awp_region)) | ((with_reducible apply al_nil)) | ((with_reducible apply awp_ret)) | ((with_reducible apply ablock_same)) | ((with_reducible apply awp_exit)) | ((with_reducible apply athen_exit)) | ((with_reducible apply awp_cond_0); exact rfl; (first | assumption | exact decide_eq_false (by omega) | (simp only [Bool.not_eq_true', decide_eq_false_iff_not, decide_eq_true_eq, Bool.not_eq_false']; (first | done | omega))))))
    (first | (refine apost_ret rfl (resl_tmp rfl resl_nil) ?_))
    exact AV.Le.refl _
def rgB11 (L : List (List Pt)) (x y : Int) : Bool := (L.all fun r => r.all ptB) && rB x y
def RiO (L : List (List Pt)) (x y : Int) (n : Nat) (ts : List (Nat × AV)) (ms : List (Nat × List AC)) : Prop :=
  ∃ (i : Nat) (ii : Int), i ≤ L.length ∧ n = L.length - i ∧ ii = i ∧ (L.all fun r => r.all ptB) = ((L.drop i).all fun r => r.all ptB) ∧ ms = [] ∧ ts = [(1, vI x), (2, vI y), (11, .w (.one (ringsA L))), (12, vI L.length), (13, vI ii)]
def RiN (L : List (List Pt)) (r : List Pt) (x y oo : Int) (n : Nat) (ts : List (Nat × AV)) (ms : List (Nat × List AC)) : Prop :=
  ∃ (i : Nat) (ii : Int), i ≤ r.length ∧ n = r.length - i ∧ ii = i ∧ r.all ptB = (r.drop i).all ptB ∧ ms = [] ∧ ts = [(1, vI x), (2, vI y), (11, .w (.one (ringsA L))), (12, vI L.length), (13, vI oo), (17, .w (.one (ringA r))), (18, vI r.length), (19, vI ii)]
end Go.Proofs.Ytlfkllmnekdghaa

namespace Go.Proofs.Ytlfkllmnekdghaa
open Go.RowKit
set_option linter.unusedVariables false
set_option linter.unusedSimpArgs false
theorem mem_sumL {L : List (List Pt)} {r : List Pt} (h : r ∈ L) : r.length ≤ sumL L := by
  obtain ⟨i, hi⟩ := List.getElem?_of_mem h
  exact sumL_mem hi
def EsI (M : List (Int × (Pt × Pt))) (n : Nat) (ts : List (Nat × AV)) (ms : List (Nat × List AC)) : Prop :=
  ∃ (i : Nat) (ii : Int), i ≤ M.length ∧ n = M.length - i ∧ ii = i ∧ ms = [] ∧ ts = [(4, vS 5 M.length (edsC M)), (35, vS 5 M.length (edsC M)), (36, vI M.length), (37, vI ii)]
end Go.Proofs.Ytlfkllmnekdghaa

namespace Go.Proofs.Ytlfkllmnekdghaa
open Go.RowKit
set_option linter.unusedVariables false
set_option linter.unusedSimpArgs false
theorem ringC_drop : ∀ (l : List Pt) (k : Nat), (ringC l).drop (k * 2) = ringC (l.drop k)
  | l, 0 => by simp
  | [], k + 1 => by simp [ringC]
  | p :: l, k + 1 => by
    rw [show ringC (p :: l) = .c (.int .i64 p.1) :: .c (.int .i64 p.2) :: ringC l from rfl, Nat.succ_mul, show k * 2 + 2 = k * 2 + 1 + 1 from rfl, List.drop_succ_cons, List.drop_succ_cons, List.drop_succ_cons]
    exact ringC_drop l k
theorem ringC_take : ∀ (l : List Pt) (k : Nat), (ringC l).take (k * 2) = ringC (l.take k)
  | l, 0 => by simp [ringC]
  | [], k + 1 => by simp [ringC]
  | p :: l, k + 1 => by
    rw [show ringC (p :: l) = .c (.int .i64 p.1) :: .c (.int .i64 p.2) :: ringC l from rfl, Nat.succ_mul, show k * 2 + 2 = k * 2 + 1 + 1 from rfl, List.take_succ_cons, List.take_succ_cons, List.take_succ_cons, ringC_take l k]
    rfl
def TbI (a b : List Pt) (x y at_ : Int) (n : Nat) (R : Rws) (ts : List (Nat × AV)) (ms : List (Nat × List AC)) : Prop :=
  ∃ (i : Nat) (ii : Int) (v : Value), i ≤ a.length ∧ n = a.length - i ∧ ii = i ∧ R = row1 0 ⟨37, 2, v, i, ringC (a.reverse.take i)⟩ ∧ ms = [] ∧ ts = [(0, .w (.one (ringA a))), (1, .w (.one (ringA b))), (7, vI x), (8, vI y), (9, vI at_), (10, vC v), (11, vC (.slice none 0 0)), (39, vI a.length), (40, vI ii)]
end Go.Proofs.Ytlfkllmnekdghaa

