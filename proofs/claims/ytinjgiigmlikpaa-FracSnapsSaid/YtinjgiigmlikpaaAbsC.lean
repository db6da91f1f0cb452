/-
  A frame and a world go along with every operation that the states know. My own text.
-/
import Derived.Test.YtinjgiigmlikpaaAbsB
namespace Go.Proofs.Ytinjgiigmlikpaa
open Go.RowKit
set_option linter.unusedVariables false
section
variable {P : Program} {B : World} {A : Nat → Prop} {s s' : AS} {ρ : Nat → Nat} {a : Act} {w : World} {o : Oper} {Q : Exit → Act → World → Prop}
theorem pick_sound {U : Nat → Prop} {ty : TypeId} {cs : List AC} {off g : Nat} {av : AW} {vs : List Value} {t : TypeId} (hv : pick P ty cs off = some av) (hg : w.heap[g]? = some (.cells vs.toArray t (0, 0))) (hl : RpL U ρ w cs vs) :
    ∃ v, (loadVar ty ⟨g, off, none⟩).run P w = .ok v w ∧ RpW U ρ w av v := by
  unfold pick at hv
  have key : ∀ d, P.underlying ty = some d → ((∃ fs, d = .struct fs) ∨ ∃ n e, d = .array n e) → ((P.info? ty).bind fun i => if off + i.size ≤ cs.length then some (AW.agg ((cs.drop off).take i.size)) else none) = some av → ∃ v, (loadVar ty ⟨g, off, none⟩).run P w = .ok v w ∧ RpW U ρ w av v := by
    intro d hu hd h
    cases hi : P.info? ty with
    | none => rw [hi] at h; cases h
    | some i =>
      rw [hi] at h
      simp only [Option.bind_some] at h
      split at h
      · rename_i hle
        cases h
        have hs := hl.sub off i.size
        have hlen : ((vs.drop off).take i.size).length = i.size := by have := hl.1; simp; omega
        refine ⟨_, run_loadVar_agg hu hd hi hlen (fun j v hj => ?_), _, rfl, hs⟩
        have hj' : j < i.size := by rw [← hlen]; exact (List.getElem?_eq_some_iff.1 hj).1
        rw [List.getElem?_take_of_lt hj', List.getElem?_drop] at hj
        have hadd : (⟨g, off, none⟩ : Addr).add j = ⟨g, off + j, none⟩ := by unfold Addr.add; split <;> simp_all
        rw [hadd]
        simp only [World.cell?, hg]
        simpa using hj
      · cases h
  have key1 : ∀ d, P.underlying ty = some d → (∀ fs, d ≠ .struct fs) → (∀ n e, d ≠ .array n e) → (cs[off]?).map AW.one = some av → ∃ v, (loadVar ty ⟨g, off, none⟩).run P w = .ok v w ∧ RpW U ρ w av v := by
    intro d hu h1 h2 h
    cases hx : cs[off]? with
    | none => rw [hx] at h; cases h
    | some x =>
      rw [hx] at h
      cases h
      obtain ⟨v, q1, q2, q3⟩ := hl.cellAt hg hx
      exact ⟨v, run_loadVar_one hu h1 h2 q2, q3⟩
  cases hu : P.underlying ty with
  | none => rw [hu] at hv; cases hv
  | some d =>
    rw [hu] at hv
    cases d <;> first | exact key _ hu (.inl ⟨_, rfl⟩) hv | exact key _ hu (.inr ⟨_, _, rfl⟩) hv | exact key1 _ hu (fun _ h => by cases h) (fun _ _ h => by cases h) hv
theorem enters_run {f : FuncId} {args : Array Value} (h : enters P f = true) : (callFunc f args).run P w = .ok (.enter f args) w := by
  unfold enters at h
  cases hf : P.funcs[f]? with
  | none => rw [hf] at h; cases h
  | some fn =>
    rw [hf] at h
    simp only [Bool.and_eq_true, bne_iff_ne, ne_eq] at h
    obtain ⟨h1, h2⟩ := h
    simp [callFunc, program, Sem.run_bind, Sem.run, hf, Result.andThen, h2]
    intro h3
    rw [h3] at h1
    cases h1
theorem Oper.wp_value {v : Value} {w' : World} {next : Act → World → Prop} (h : (execOp a.eval o).run P w = .ok (.value v) w') (hn : next (a.put o.dst v) w') : o.wp P a w next Q := by
  unfold Oper.wp
  rw [h]
  exact hn
theorem Rel.id_of_closed {U : Nat → Prop} {x : AV} {v : Value} (hc : x.closed) (h : RpV U ρ w x v) : RpV U id w x v := h.map (fun b hb _ => ⟨hb, rfl⟩) fun j hj => absurd hj (hc j)
theorem AStep.sound (h : AStep P s o s') (hR : Rel B A s ρ a w) (ok : s.Ok) : o.wp P a w (fun a' w' => ∃ ρ', Rel B A s' ρ' a' w') Q := by
  cases h with
  | quiet av hq hd =>
    obtain ⟨v, h1, h2⟩ := hq.run (s.free A ρ) ρ w a.eval (fun x hx b hb => hR.look hb)
    exact Oper.wp_value h1 ⟨ρ, hR.put hd h2⟩
  | load ty x k off cs av ho hx hm hv hd =>
    obtain ⟨vs, t, g1, g2, g3⟩ := hR.mm k cs hm
    obtain ⟨v, h1, h2⟩ := pick_sound hv g1 g2
    have hp : a.eval x = .pointer (some ⟨ρ k, off, none⟩) := hR.look hx
    refine Oper.wp_value (v := v) (w' := w) ?_ ⟨ρ, hR.put hd h2⟩
    simp only [execOp, ho, Instr.loadAt, hp, Instr.sureAddr, Sem.run_bind, Sem.run_pure, Result.andThen_ok, h1]
  | store ty x y k off cs z i ho hx hy hm hi hs hb hd =>
    obtain ⟨vs, t, g1, g2, g3⟩ := hR.mm k cs hm
    have hp : a.eval x = .pointer (some ⟨ρ k, off, none⟩) := hR.look hx
    have hz : RpW (s.free A ρ) ρ w z (a.eval y) := hR.look hy
    have hzc := hz.cells
    have hzl : (a.eval y).cells.size = z.cells.length := by have := hzc.1; simp at this; exact this.symm
    have hst : (storeVar ty ⟨ρ k, off, none⟩ (a.eval y)).run P w = .ok () (w.setRow (ρ k) (vs.take off ++ (a.eval y).cells.toList ++ vs.drop (off + (a.eval y).cells.toList.length)).toArray) := by
      unfold storeVar
      have hne : ¬ ((a.eval y).cells.size ≠ i.size) := by rw [hzl, hs]; simp
      simp only [Sem.run_bind, run_sizeOf' hi, Result.andThen_ok, if_neg hne]
      have hall : ∀ v ∈ (a.eval y).cells.toList, v.oneCell' = true := fun v hv => by
        obtain ⟨j, hj⟩ := List.getElem?_of_mem hv
        have hlt : j < z.cells.length := by rw [hzc.1]; exact (List.getElem?_eq_some_iff.1 hj).1
        exact (hzc.2 j _ v (List.getElem?_eq_getElem hlt) hj).cell
      have := run_storeCells_at (P := P) (ρ k) off t (a.eval y).cells.toList 0 vs.toArray w g1 (by have := g2.1; simp; omega) hall
      simpa using this
    have hrel := (Rel.set (k := k) (ds := splice cs off z.cells) (hR.put (dst := o.dst) hd (RpV.undef _)) (by rw [AS.mem_put]; exact hm) (by rw [AS.free_put]; exact g2.splice hzc off hb))
    unfold Oper.wp
    have hrun : (execOp a.eval o).run P w = .ok .skip (w.setRow (ρ k) (vs.take off ++ (a.eval y).cells.toList ++ vs.drop (off + (a.eval y).cells.toList.length)).toArray) := by
      simp only [execOp, ho, Instr.storeAt, hp, Instr.sureAddr, Sem.run_bind, Sem.run_pure, Result.andThen_ok, hst]
    rw [hrun]
    exact ⟨ρ, hrel⟩
  | new cs d hdst hm hn hd =>
    have main : ∀ (vs : List Value) (ty : TypeId), RpL (s.free A ρ) ρ w cs vs → (∀ x ∈ cs, ∀ j, x.owns j → ∃ cs', s.mem j = some cs') → (execOp a.eval o).run P w = .ok (.value (.pointer (some ⟨w.heap.size, 0, none⟩))) (w.alloc (.cells vs.toArray ty)) →
        o.wp P a w (fun a' w' => ∃ ρ', Rel B A ((s.setm d cs).put (some d) (.w (.one (.own d 0)))) ρ' a' w') Q := by
      intro vs ty hl hown hrun
      refine Oper.wp_value hrun ⟨fun k => if k = d then w.heap.size else ρ k, ?_⟩
      rw [hdst]
      refine (hR.new ok hm hl hown).put (fun d' e => by cases e; exact hd) ?_
      show Value.pointer _ = Value.pointer _
      simp
    cases hn with
    | alloc ty i z cs ho hi hz hc h1 =>
      subst hc
      refine main z.cells.toList ty ⟨by simp, fun j x v hx hv => ?_⟩ (fun x hx j hj => ?_) ?_
      · rw [List.getElem?_map, hv] at hx
        cases hx
        exact ⟨rfl, List.all_eq_true.1 h1 v (List.mem_of_getElem? hv)⟩
      · obtain ⟨v, _, rfl⟩ := List.mem_map.1 hx
        cases hj
      · have hzv : (zeroValue ty).run P w = .ok z w := by simp [zeroValue, typeInfo, program, Sem.run_bind, Sem.run, hi, Result.andThen, hz]
        simp only [execOp, ho, Instr.alloc, Sem.run_bind, hzv, Result.andThen_ok, newVar, newRow, newObj, Sem.run]
        rfl
    | box ty x z ho hx =>
      have hz : RpW (s.free A ρ) ρ w z (a.eval x) := hR.look hx
      refine main (a.eval x).cells.toList ty hz.cells (fun y hy j hj => ?_) ?_
      · cases x with
        | tmp t => exact ok.tm t _ j hx ⟨y, hy, hj⟩
        | const v =>
          simp only [AS.look] at hx
          split at hx
          · cases hx; simp [AW.cells] at hy; subst hy; cases hj
          · cases hx
        | global g => cases hx; simp [AW.cells] at hy; subst hy; cases hj
        | func g => cases hx; simp [AW.cells] at hy; subst hy; cases hj
      · simp only [execOp, ho, Instr.box, newVar, newRow, newObj, Sem.run_bind, Sem.run, Result.andThen_ok]
        rfl
  | call f args r hc hp hd =>
    obtain ⟨⟨c, g, ho, hcal, hg, hargs⟩, hent⟩ := hc
    have hgv : a.eval g = .func (.func f) #[] #[] := (hR.look hg).1
    have hvs : RpVs (s.free A ρ) id w args (c.args.toList.map a.eval) := by
      refine ⟨by have := congrArg List.length hargs; simpa using this.symm, fun i x v hx hv => ?_⟩
      have h1 : (c.args.toList.map s.look)[i]? = some (some x) := by rw [hargs, List.getElem?_map, hx]; rfl
      rw [List.getElem?_map] at h1 hv
      cases hy : c.args.toList[i]? with
      | none => rw [hy] at hv; cases hv
      | some y =>
        rw [hy] at h1 hv
        simp only [Option.map_some, Option.some.injEq] at h1 hv
        subst hv
        exact Rel.id_of_closed (hp.ca x (List.mem_of_getElem? hx)) (hR.look h1)
    unfold Oper.wp
    have hrun : (execOp a.eval o).run P w = .ok (.enter f (c.args.toList.map a.eval).toArray) w := by
      have e : (c.args.map a.eval) = (c.args.toList.map a.eval).toArray := by rw [← Array.toList_map, Array.toArray_toList]
      simp only [execOp, ho, resolve, hcal, Deferred.ofValue, hgv]
      simp only [Sem.run_bind, Sem.run_pure, Result.andThen_ok, invoke]
      rw [← e]
      have e2 : #[] ++ c.args.map a.eval ++ #[] = c.args.map a.eval := by simp
      rw [e2]
      exact enters_run hent
    rw [hrun]
    refine (hp.call (s.free A ρ) w _ hvs).mono ?_
    rintro e w' ⟨v, rfl, hv, hb⟩
    refine ⟨ρ, (hR.call hb).put hd (hv.map (fun b hb' hl => ⟨?_, rfl⟩) fun j hj => absurd hj (hp.cr j))⟩
    rcases hb' with h | h
    · exact h
    · refine ⟨hR.up b (Nat.le_trans hR.below.size h), fun k cs hk e => ?_⟩
      have := hR.lt hk
      omega
end
end Go.Proofs.Ytinjgiigmlikpaa
