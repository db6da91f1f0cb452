/-
  The hot row, in regions that draw their order: what hangs on slots alone is taken first. My own text.
-/
import Derived.Test.YtlhgmlebjnkonaaAbsH
import Derived.Deep.RegionHeld3
import Derived.StillTail
import Derived.Laws.Slices
namespace Go.Proofs.Ytlhgmlebjnkonaa
open Go.RowKit
set_option linter.unusedVariables false
set_option linter.unusedSimpArgs false
section
variable {P : Program} {e sz : Nat} {t : Hot} {s : AS} {Q : Exit → Hot → AS → Prop}
/-- a region that draws, from here on. -/
def HL (P : Program) (e sz : Nat) (ops : Array Oper) (Q : Exit → Hot → AS → Prop) (n : Nat) (listed : Array Bool) (t : Hot) (s : AS) : Prop :=
  s.Ok → ∀ (B0 : Base) A0 a w, (∀ b, B0.W.heap.size ≤ b → A0 b) → HRel B0 A0 e sz t s a w → wpAnyH P .any ops (fun x a' w' => ∃ t' s', s'.Ok ∧ HRel B0 A0 e sz t' s' a' w' ∧ Q x t' s') (fun _ => True) n listed a w
/-- an operation whose value hangs on its operands' slots alone. -/
def PureOK (P : Program) (look : Operand → Option AV) (o : Oper) (av : AV) : Prop :=
  (∀ j, ¬ av.owns j) ∧ ∀ (U : Nat → Prop) (ρ : Nat → Nat) (W : World) (env : Operand → Value), (∀ x ∈ o.op.operands, ∀ a, look x = some a → RpV U ρ W a (env x)) →
    ∃ v, (∀ W', (execOp env o).run P W' = .ok (.value v) W') ∧ RpV U ρ W av v
variable {ops : Array Oper} {n i d : Nat} {listed : Array Bool} {op : Op} {ty : Nat} {pos : String} {after : Array Edge}
theorem hl_take {av : AV} (hi : ops[i]? = some ⟨some d, op, ty, pos, after, none⟩) (hs : Region.noSelect ops = true) (hf : Region.free .any ops listed i = true) (hr : (Region.ready .any ops listed).contains i = true) (hp : ∀ c t s, ¬ Q (.panic c) t s) (hq : PureOK P s.look ⟨some d, op, ty, pos, after, none⟩ av) (hd : Nat.blt d s.n = true)
    (h : HL P e sz ops Q n (listed.setIfInBounds i true) t (s.put (some d) av)) : HL P e sz ops Q (n + 1) listed t s := by
  intro ok B0 A0 a w up ⟨A, ρ, hA, hR, hown, hb, ho, hg, h1⟩
  obtain ⟨v, hv, hrp⟩ := hq.2 (s.free A ρ) ρ w a.eval (fun x hx b hb' => hR.look hb')
  refine wpAnyH_take hi hs hf hr (fun c a w ⟨t', s', _, _, h⟩ => absurd h (hp c t' s')) (v := v) (.inl ⟨rfl, fun w' _ => hv w'⟩) trivial ?_
  refine h (ok.put fun j hj => absurd hj (hq.1 j)) B0 A0 _ w up ⟨A, ρ, hA, hR.put (dst := some d) (fun d' e => by cases e; simpa [Nat.blt_eq] using hd) hrp, hown, hb, ho, hg, h1⟩
theorem hl_append {tt bytes m : Nat} {sx xx : Operand} {news : List Value} [R : RowTy P tt e sz bytes] (hi : ops[i]? = some ⟨some d, .call ⟨.builtin .append, #[sx, xx], #[tt, tt]⟩, ty, pos, after, none⟩) (hr : Region.ready .any ops listed = [i]) (hd : Nat.blt d s.n = true) (hsx : s.look sx = some (vC t.v)) (hxx : s.look xx = some (vS sz m (news.map .c))) (hm0 : 0 < m ∨ 0 < t.n) (hn1 : ∀ u ∈ news, u.oneCell' = true) (hmax : t.n + m ≤ maxLen) (hbyt : (t.n + m) * bytes ≤ 140737488355328)
    (h : ∀ v', v'.oneCell' = true → HL P e sz ops Q n (listed.setIfInBounds i true) ⟨v', t.n + m, t.xs ++ news⟩ (s.put (some d) (vC v'))) : HL P e sz ops Q (n + 1) listed t s := by
  intro ok B0 A0 a w up hH
  obtain ⟨v', w2, hrun, hone, hH2⟩ := HRel.app (P := P) (tt := tt) (bytes := bytes) (ty := ty) (d := d) up hH (by simpa [Nat.blt_eq] using hd) hsx hxx hm0 hn1 hmax hbyt
  refine ⟨fun h0 => absurd (hr.symm.trans h0) (by simp), fun j hj => ?_⟩
  obtain rfl : j = i := by rw [hr] at hj; simpa using hj
  unfold wpOp
  rw [hi]
  simp only [Region.wanted, if_true]
  left
  refine Oper.wp_value (v := v') (w' := w2) ?_ ⟨trivial, ?_⟩
  · simp only [execOp, resolve, invoke, builtin, Sem.run_bind, Sem.run_pure, Result.andThen_ok, List.map_toArray, List.map_cons, List.map_nil, hrun]
  · exact h v' hone (ok.put fun j hj => absurd hj (noown _ j)) B0 A0 _ w2 up hH2
theorem hl_done (hr : Region.ready .any ops listed = []) (h : Q .normal t s) : HL P e sz ops Q n listed t s := by
  intro ok B0 A0 a w up hH
  cases n with
  | zero => exact ⟨hr, t, s, ok, hH, h⟩
  | succ n => exact ⟨fun _ => ⟨t, s, ok, hH, h⟩, fun i hi => by rw [hr] at hi; cases hi⟩
theorem hwp_draw {ri : Nat} {l : List Oper} (hm : P.follows .mixedOrders = true) (h : HL P e sz l.toArray Q l.length (Array.replicate l.length false) t s) : HWp P e sz (.region ri l.toArray true) Q t s := by
  intro ok B0 A0 a w up ⟨A, ρ, hA, hR, hown, hb, ho, hg, h1⟩
  refine wp_region_any hm ?_
  refine wpAny_of_held (S := fun _ => True) _ _ _ _ ?_
  have hd : Rel (hbase s ρ w) A s ρ a { w with drawn := w.drawn + 1 } := hR.call ((Below.refl _ w).drew)
  have := h ok B0 A0 a _ up (HRel.next hA hown hb ho hg h1 hd)
  simpa using this
theorem pure_move {x : Operand} {av : AV} (hx : s.look x = some av) (hc : ∀ j, ¬ av.owns j) : PureOK P s.look ⟨some d, .move x, ty, pos, after, none⟩ av :=
  ⟨hc, fun U ρ W env he => ⟨env x, fun W' => by simp [execOp], he x (by simp [Op.operands]) _ hx⟩⟩
theorem pure_assign {x : Operand} {av : AV} (hx : s.look x = some av) (hc : ∀ j, ¬ av.owns j) : PureOK P s.look ⟨some d, .assign x, ty, pos, after, none⟩ av :=
  ⟨hc, fun U ρ W env he => ⟨env x, fun W' => by simp [execOp], he x (by simp [Op.operands]) _ hx⟩⟩
/-- from k on; the first k. -/
theorem pure_from {tt z n' : Nat} {x y : Operand} {xs : List AC} {k : Int} [S : SliOf P tt z] (hx : s.look x = some (vS z n' xs)) (hy : s.look y = some (vI k)) (h0 : 0 ≤ k) (h1 : k ≤ n') : PureOK P s.look ⟨some d, .slice tt x (some y) none none, ty, pos, after, none⟩ (vS z (n' - k.toNat) (xs.drop (k.toNat * z))) := by
  refine ⟨fun j => noownp _ j, fun U ρ W env he => ?_⟩
  obtain ⟨⟨A, c, e1, hc, hl, hA⟩, hU⟩ := he x (by simp [Op.operands]) _ hx
  have hi : env y = .int .i64 k := (he y (by simp [Op.operands]) _ hy).1
  obtain ⟨e', i', hu, hi', hs⟩ := sliOf_spec S.h
  have hu' : P.underlying tt = some (.slice (P.elem tt)) := by rw [elem_slice hu]; exact hu
  refine ⟨sliced A k.toNat n' c z, fun W' => ?_, ⟨if c = k.toNat then A else A.map (·.add (k.toNat * z)), c - k.toNat, rfl, by omega, by simp [hl, Nat.sub_mul], fun hn => ?_⟩, ?_⟩
  · simp only [execOp, e1, Option.map_some, Option.map_none, hi, Sem.run_bind, run_sliceAt_slice W' tt _ _ _ _ hu', run_slice_l W' tt A n' c hu' .i64 k h0 h1, elem_slice hu, run_sizeOf' hi', Result.andThen_ok, hs, Sem.run_pure]
  · obtain ⟨a, vs, rfl, hcs⟩ := hA (by omega)
    have hne : ¬ c = k.toNat := by omega
    rw [if_neg hne]
    refine ⟨a.add (k.toNat * z), vs.drop (k.toNat * z), rfl, ?_⟩
    have := hcs.sub (k.toNat * z) xs.length
    rwa [List.take_of_length_le (by simp), List.take_of_length_le (by have := hcs.rp.1; simp; omega)] at this
  · rintro b ⟨c', a', q, hn, hf⟩
    obtain ⟨a, vs, rfl, hcs⟩ := hA (by omega)
    have hne : ¬ c = k.toNat := by omega
    unfold sliced at q
    rw [if_neg hne] at q
    simp at q
    obtain ⟨rfl, _⟩ := q
    refine hU b ⟨c, a, e1, by omega, footL.sub (off := k.toNat * z) (n := xs.length) ?_⟩
    rw [List.take_of_length_le (by simp)]
    exact hf
theorem pure_to {tt z n' : Nat} {x y : Operand} {xs : List AC} {k : Int} [S : SliOf P tt z] (hx : s.look x = some (vS z n' xs)) (hy : s.look y = some (vI k)) (h0 : 0 ≤ k) (h1 : k ≤ n') : PureOK P s.look ⟨some d, .slice tt x none (some y) none, ty, pos, after, none⟩ (vS z k.toNat (xs.take (k.toNat * z))) := by
  refine ⟨fun j => noownp _ j, fun U ρ W env he => ?_⟩
  obtain ⟨⟨A, c, e1, hc, hl, hA⟩, hU⟩ := he x (by simp [Op.operands]) _ hx
  have hi : env y = .int .i64 k := (he y (by simp [Op.operands]) _ hy).1
  obtain ⟨e', i', hu, hi', hs⟩ := sliOf_spec S.h
  have hu' : P.underlying tt = some (.slice (P.elem tt)) := by rw [elem_slice hu]; exact hu
  have hkz : k.toNat * z ≤ n' * z := Nat.mul_le_mul_right _ (by omega)
  refine ⟨sliced A 0 k.toNat c z, fun W' => ?_, ⟨if c = 0 then A else A.map (·.add (0 * z)), c - 0, rfl, by omega, by rw [List.length_take, hl]; exact Nat.min_eq_left hkz, fun hn => ?_⟩, ?_⟩
  · simp only [execOp, e1, Option.map_some, Option.map_none, hi, Sem.run_bind, run_sliceAt_slice W' tt _ _ _ _ hu', run_slice_h W' tt A n' c hu' .i64 k h0 (by omega), elem_slice hu, run_sizeOf' hi', Result.andThen_ok, hs, Sem.run_pure]
  · obtain ⟨a, vs, rfl, hcs⟩ := hA (by omega)
    have hne : ¬ c = 0 := by omega
    rw [if_neg hne]
    refine ⟨a.add (0 * z), vs.take (k.toNat * z), rfl, ?_⟩
    have := hcs.sub 0 (k.toNat * z)
    rw [Nat.zero_mul]
    exact this
  · rintro b ⟨c', a', q, hn, hf⟩
    obtain ⟨a, vs, rfl, hcs⟩ := hA (by omega)
    have hne : ¬ c = 0 := by omega
    unfold sliced at q
    rw [if_neg hne] at q
    simp at q
    obtain ⟨rfl, _⟩ := q
    exact hU b ⟨c, a, e1, by omega, footL.sub (off := 0) (n := k.toNat * z) hf⟩
end
end Go.Proofs.Ytlhgmlebjnkonaa
