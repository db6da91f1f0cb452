/-
  My own texts, without what this claim does not need. My own text.
-/
import Derived.Test.YtbcecodakfejaaaGreatSNodedK16
set_option maxRecDepth 100000
set_option maxHeartbeats 64000000
set_option linter.unusedVariables false
set_option linter.unusedSimpArgs false
set_option linter.unusedSectionVars false
namespace Go.Proofs.YtbcecodakfejaaaGreat
open Go.ChangeShapes Go.WideShapes Go.ChangeAt Go.RowKit Go.Joins
theorem laidOut : laidOutB Tryz.prog = true := by kernel_rfl
theorem L8 : ∀ (L : List (List Int)), (∀ x ∈ L, x.length = 5) → ∃ l : List (Int × bu.bS), l.length = L.length ∧ rS L = nR l
 | [], _ => ⟨[], rfl, rfl⟩
 | x :: L, h => by
  obtain ⟨l, h1, h2⟩ := L8 L fun y ai => h y (by simp [ai]);have aa := h x (by simp)
  match x, aa with
  | [a, b, c, d, o], _ =>
   refine ⟨(o, (a, b), (c, d)) :: l, by simp [h1], ?_⟩;show rS ([a, b, c, d, o] :: L) = BP (o, (a, b), (c, d)) ++ nR l;rw [← h2];unfold rS;rw [List.flatten_cons, List.map_append];rfl
theorem Wf {H : Type} {enc : TypeId × Value → H} {P : Program} {W : World} {e : TypeId} {g0 g1 g2 f0 f1 : Field} (he : P.underlying e = some (.struct #[g0, g1, g2])) (ce : P.cellsOf e = 5) (l7 : g0.offset = 0) (p1 : g1.offset = 2) (p2 : g2.offset = 4) (d0 : P.cellsOf g0.type = 2) (aB : g1.type = g0.type) (d2 : P.cellsOf g2.type = 1) (bJ : P.underlying g2.type = some (.int .i64))
  (aq : P.underlying g0.type = some (.struct #[f0, f1])) (Dq : f0.offset = 0) (o1 : f1.offset = 1) (gT : P.cellsOf f0.type = 1) (c1 : P.cellsOf f1.type = 1) (e5 : P.underlying f0.type = some (.int .i64)) (bl : P.underlying f1.type = some (.int .i64))
  {n : Nat} {cs : List Value} {d : DataW H × List MemPlace} (h : DataW.trod enc P W 0 (fun _ => true) true n e cs = some d) : ∃ a b x y v : Int, cs = [.int .i64 a, .int .i64 b, .int .i64 x, .int .i64 y, .int .i64 v] := by
 obtain ⟨xs, k, _, _, cZ, oN, ar⟩ := DataW.trod_struct he h;rw [ce] at cZ
 match cs, cZ, xs, oN with
 | [u, v, w, r, s], _, [cX, aF, aM], _ =>
  have di := ar 0 g0 rfl;have q1 := ar 1 g1 rfl;have q2 := ar 2 g2 rfl;simp [l7, p1, p2, d0, d2, aB] at di q1 q2;obtain ⟨a, b, aa⟩ := LB aq d0 Dq o1 gT c1 e5 bl di;obtain ⟨x, y, ai⟩ := LB aq d0 Dq o1 gT c1 e5 bl q1;obtain ⟨z, aP⟩ := FD bJ q2 rfl;cases aa; cases ai; cases aP;exact ⟨a, b, x, y, z, rfl⟩
theorem ach {H : Type} {enc : TypeId × Value → H} {P : Program} {W : World} {t e : TypeId} (aB : P.underlying t = some (.slice e)) (ce : P.cellsOf e = 5)
  (yY : ∀ (n : Nat) (cs : List Value) d, DataW.trod enc P W 0 (fun _ => true) true n e cs = some d → ∃ a b x y v : Int, cs = [.int .i64 a, .int .i64 b, .int .i64 x, .int .i64 y, .int .i64 v])
  {v : Value} {d : DataW H} {p : List MemPlace} (hv : ∃ a len cap, v = .slice a len cap) (aD : DataW.Trod enc P W 0 (fun _ => true) true t v d p) :
  ∃ l : List (Int × bu.bS), (l.length : Int) ≤ 9223372036854775807 ∧ da (fun _ => True) id W (jA l) v := by
 obtain ⟨L, h1, h2, an⟩ := aci 5 aB ce (fun n cs d h => by obtain ⟨a, b, x, y, v, e⟩ := yY n cs d h; exact ⟨[a, b, x, y, v], e⟩) hv aD (by decide);obtain ⟨l, aE, cY⟩ := L8 L h2;rw [cY] at an;refine ⟨l, by rw [aE]; exact h1, ?_⟩;rw [← aE] at an;exact an
theorem ad6 {P : Program} {f : FuncId} {args : List ah} (h : aC P f args (bk true)) (jh : List Value) (W : World) (ak : args.length = jh.length) (ap : ∀ (i : Nat) (x : ah) (v : Value), args[i]? = some x → jh[i]? = some v → da (fun _ => True) id W x v) :
  Calls P f jh.toArray W fun e bh => e = .returned (.bool true) ∧ Below W.heap.size W bh :=
 (h.call (fun _ => True) W jh ⟨ak, ap⟩).mono fun e bh ⟨v, he, ⟨hv, _⟩, ab⟩ => by subst hv; exact ⟨he, ab⟩
end Go.Proofs.YtbcecodakfejaaaGreat
