/-
  States without addresses: slices, and pointers into them; states that are told by lists, for loops. My own text.
-/
import Derived.Test.YtpopeipcjpfbaaaAbsG
namespace Go.Proofs.Ytpopeipcjpfbaaa
open Go.RowKit
set_option linter.unusedVariables false
set_option linter.unusedSimpArgs false
/-- two numbers, as Point and Pixel have. -/
abbrev vP (x y : Int) : AV := .w (.agg [.c (.int .i64 x), .c (.int .i64 y)])
def footC (w : World) : AC → Value → Nat → Prop
  | .p R, x, b => R.foot w x b
  | _, _, _ => False
theorem add_add' (a : Addr) (m j : Nat) : (a.add m).add j = a.add (m + j) := by
  unfold Addr.add
  by_cases h1 : m = 0 <;> by_cases h2 : j = 0 <;> simp [h1, h2, Nat.add_assoc]
theorem block_add (a : Addr) (m : Nat) : (a.add m).block = a.block := by unfold Addr.add; split <;> rfl
/-- cells that lie from an address on, and tell what xs does. -/
structure CellsAt (w : World) (a : Addr) (xs : List AC) (vs : List Value) : Prop where
  lt : a.block < w.heap.size
  rp : RpL (fun _ => True) id w xs vs
  at_ : ∀ (j : Nat) v, vs[j]? = some v → w.cell? (a.add j) = some v
  cl : ∀ y ∈ xs, y.closedB = true
def footL (w : World) (a : Addr) (xs : List AC) (b : Nat) : Prop := a.block = b ∨ ∃ (j : Nat) (y : AC) (v : Value), xs[j]? = some y ∧ w.cell? (a.add j) = some v ∧ footC w y v b
theorem CellsAt.frame {w w' : World} {a : Addr} {xs : List AC} {vs : List Value} (h : CellsAt w a xs vs) (hf : ∀ b, footL w a xs b → w'.heap[b]? = w.heap[b]?) : CellsAt w' a xs vs ∧ ∀ b, footL w' a xs b → footL w a xs b := by
  have hb : w'.heap[a.block]? = w.heap[a.block]? := hf _ (.inl rfl)
  have hc : ∀ j, w'.cell? (a.add j) = w.cell? (a.add j) := fun j => World.cell?_of_block (w := w) (by rw [block_add]; exact hb)
  have key : ∀ (j : Nat) (y : AC) (v : Value), xs[j]? = some y → w.cell? (a.add j) = some v → RpC (fun _ => True) id w y v → RpC (fun _ => True) id w' y v ∧ ∀ b, footC w' y v b → footC w y v b := by
    intro j y v hy hv hr
    cases y with
    | c u => exact ⟨hr, fun b h => h⟩
    | own k o => exact ⟨hr, fun b h => h⟩
    | p R =>
      have := R.frame w w' v hr.1 fun b hb => hf b (.inr ⟨j, _, v, hy, hv, hb⟩)
      exact ⟨⟨this.1, fun _ _ => trivial⟩, this.2⟩
  refine ⟨⟨?_, ⟨h.rp.1, fun i y v hy hv => (key i y v hy (h.at_ i v hv) (h.rp.2 i y v hy hv)).1⟩, fun j v hv => by rw [hc]; exact h.at_ j v hv, h.cl⟩, ?_⟩
  · have h5 := Array.getElem?_eq_getElem h.lt
    exact (Array.getElem?_eq_some_iff.1 (hb.trans h5)).1
  · rintro b (h1 | ⟨j, y, v, hy, hv, hfo⟩)
    · exact .inl h1
    · rw [hc] at hv
      have hlt : j < vs.length := by rw [← h.rp.1]; exact (List.getElem?_eq_some_iff.1 hy).1
      have h2 := h.at_ j _ (List.getElem?_eq_getElem hlt)
      rw [hv] at h2
      cases h2
      exact .inr ⟨j, y, _, hy, hv, (key j y _ hy hv (h.rp.2 j y _ hy (List.getElem?_eq_getElem hlt))).2 b hfo⟩
theorem CellsAt.old {w : World} {a : Addr} {xs : List AC} {vs : List Value} {b : Nat} (h : CellsAt w a xs vs) (hf : footL w a xs b) : b < w.heap.size := by
  rcases hf with rfl | ⟨j, y, v, hy, hv, hfo⟩
  · exact h.lt
  · have hlt : j < vs.length := by rw [← h.rp.1]; exact (List.getElem?_eq_some_iff.1 hy).1
    have h2 := h.at_ j _ (List.getElem?_eq_getElem hlt)
    rw [hv] at h2
    cases h2
    have := h.rp.2 j y _ hy (List.getElem?_eq_getElem hlt)
    cases y with
    | c u => cases hfo
    | own k o => cases hfo
    | p R => exact R.old _ _ _ this.1 hfo
theorem CellsAt.sub {w : World} {a : Addr} {xs : List AC} {vs : List Value} (h : CellsAt w a xs vs) (off n : Nat) : CellsAt w (a.add off) ((xs.drop off).take n) ((vs.drop off).take n) := by
  refine ⟨by rw [block_add]; exact h.lt, h.rp.sub off n, fun j v hv => ?_, fun y hy => h.cl y (List.mem_of_mem_drop (List.mem_of_mem_take hy))⟩
  rw [add_add']
  have hj : j < n := by
    have := (List.getElem?_eq_some_iff.1 hv).1
    simp at this; omega
  rw [List.getElem?_take_of_lt hj, List.getElem?_drop] at hv
  exact h.at_ _ v hv
theorem footL.sub {w : World} {a : Addr} {xs : List AC} {off n b : Nat} (h : footL w (a.add off) ((xs.drop off).take n) b) : footL w a xs b := by
  rcases h with h | ⟨j, y, v, hy, hv, hfo⟩
  · rw [block_add] at h; exact .inl h
  · rw [add_add'] at hv
    have hj : j < n := by
      have := (List.getElem?_eq_some_iff.1 hy).1
      simp at this; omega
    rw [List.getElem?_take_of_lt hj, List.getElem?_drop] at hy
    exact .inr ⟨_, y, v, hy, hv, hfo⟩
theorem CellsAt.rpl {w : World} {a : Addr} {xs : List AC} {vs : List Value} {U : Nat → Prop} {ρ : Nat → Nat} (h : CellsAt w a xs vs) (hU : ∀ b, footL w a xs b → U b) : RpL U ρ w xs vs := by
  refine ⟨h.rp.1, fun i y v hy hv => ?_⟩
  have h1 := h.rp.2 i y v hy hv
  have h2 := h.cl y (List.mem_of_getElem? hy)
  cases y with
  | c u => exact h1
  | own k o => cases h2
  | p R => exact ⟨h1.1, fun b hb => hU b (.inr ⟨i, _, v, hy, h.at_ i v hv, hb⟩)⟩
/-- a pointer to cells. -/
def PtrP (xs : List AC) : SP where
  holds w v := ∃ a vs, v = .pointer (some a) ∧ CellsAt w a xs vs
  foot w v b := ∃ a, v = .pointer (some a) ∧ footL w a xs b
  frame w w' v := by
    rintro ⟨a, vs, rfl, h⟩ hf
    obtain ⟨h1, h2⟩ := h.frame fun b hb => hf b ⟨a, rfl, hb⟩
    exact ⟨⟨a, vs, rfl, h1⟩, fun b ⟨a', e, hb⟩ => by cases e; exact ⟨a, rfl, h2 b hb⟩⟩
  old w v b := by
    rintro ⟨a, vs, rfl, h⟩ ⟨a', e, hb⟩
    cases e
    exact h.old hb
  cell w v := by rintro ⟨a, vs, rfl, h⟩; rfl
/-- a slice of n things of sz cells each. -/
def SlP (sz n : Nat) (xs : List AC) : SP where
  holds w v := ∃ A c, v = .slice A n c ∧ n ≤ c ∧ xs.length = n * sz ∧ (0 < n → ∃ a vs, A = some a ∧ CellsAt w a xs vs)
  foot w v b := ∃ c a, v = .slice (some a) n c ∧ 0 < n ∧ footL w a xs b
  frame w w' v := by
    rintro ⟨A, c, rfl, hc, hl, h⟩ hf
    refine ⟨⟨A, c, rfl, hc, hl, fun hn => ?_⟩, ?_⟩
    · obtain ⟨a, vs, rfl, h'⟩ := h hn
      exact ⟨a, vs, rfl, (h'.frame fun b hb => hf b ⟨c, a, rfl, hn, hb⟩).1⟩
    · rintro b ⟨c', a', e, hn, hb⟩
      cases e
      obtain ⟨a, vs, e, h'⟩ := h hn
      cases e
      exact ⟨c, a', rfl, hn, (h'.frame fun b hb => hf b ⟨c, a', rfl, hn, hb⟩).2 b hb⟩
  old w v b := by
    rintro ⟨A, c, rfl, hc, hl, h⟩ ⟨c', a', e, hn, hb⟩
    cases e
    obtain ⟨a, vs, e, h'⟩ := h hn
    cases e
    exact h'.old hb
  cell w v := by rintro ⟨A, c, rfl, _⟩; rfl
abbrev vS (sz n : Nat) (xs : List AC) : AV := .w (.one (.p (SlP sz n xs)))
abbrev vPt (xs : List AC) : AV := .w (.one (.p (PtrP xs)))
theorem noownp (R : SP) (j : Nat) : ¬ (AV.w (.one (.p R))).owns j := fun ⟨y, hy, h⟩ => by simp [AW.cells] at hy; subst hy; cases h
section
variable {P : Program} {s : AS} {o : Oper} {ops : Array Oper} {K : AS → Prop} {rest : List Oper} {op : Op} {ty : Nat} {pos : String} {after : Array Edge} {guard : Option (Nat × Bool)} {d : Nat}
theorem al_fresh {av : AV} (hw : want ops ⟨some d, op, ty, pos, after, guard⟩ s = some true) (hq : FreshOK P s.look ⟨some d, op, ty, pos, after, guard⟩ av) (hd : Nat.blt d s.n = true) (h : aList P ops K rest (s.put (some d) av)) : aList P ops K (⟨some d, op, ty, pos, after, guard⟩ :: rest) s :=
  al_step (e := ⟨av, none⟩) hw (.fresh av hq) (dst_ok hd) h
theorem sliOf_spec {t sz : Nat} (h : sliOf P t = some sz) : ∃ e i, P.underlying t = some (.slice e) ∧ P.info? e = some i ∧ i.size = sz := by
  unfold sliOf at h
  split at h
  · rename_i e hu
    cases hi : P.info? e with
    | none => rw [hi] at h; cases h
    | some i => rw [hi] at h; cases h; exact ⟨e, i, hu, hi, rfl⟩
  · cases h
theorem elem_slice {t e : Nat} (h : P.underlying t = some (.slice e)) : P.elem t = e := by simp [Program.elem, h]
/-- len of a slice. -/
theorem al_len {t sz sz' n : Nat} {xs : List AC} {x : Operand} [S : SliOf P t sz'] (hw : want ops ⟨some d, .call ⟨.builtin .len, #[x], #[t]⟩, ty, pos, after, guard⟩ s = some true) (hx : s.look x = some (vS sz n xs)) (hd : Nat.blt d s.n = true)
    (h : aList P ops K rest (s.put (some d) (vI n))) : aList P ops K (⟨some d, .call ⟨.builtin .len, #[x], #[t]⟩, ty, pos, after, guard⟩ :: rest) s := by
  refine al_quiet (av := vI n) hw ⟨fun _ _ h => (by cases h), fun y hy => ?_, fun U ρ W env he => ⟨.int .i64 n, ?_, rfl, rfl⟩, fun j hj => absurd hj (noown _ j)⟩ hd h
  · simp [Op.operands, Call.operands] at hy
    subst hy
    exact ⟨_, hx⟩
  · obtain ⟨⟨A, c, e1, _⟩, _⟩ := he x (by simp [Op.operands, Call.operands]) _ hx
    obtain ⟨e, i, hu, hi, _⟩ := sliOf_spec S.h
    have hu' : P.underlying t = some (.slice (P.elem t)) := by rw [elem_slice hu]; exact hu
    have em : (#[x] : Array Operand).map env = #[.slice A n c] := by simp [e1]
    simp only [execOp, resolve, em, Sem.run_bind, Sem.run_pure, Result.andThen_ok, invoke, builtin]
    rw [run_len_slice W t ty A n c hu']
    rfl
/-- the address of a slice's thing. -/
theorem al_idxS {x y : Operand} {t sz n : Nat} {ik : IntKind} {i : Int} {xs ys : List AC} [S : SliOf P t sz] (hw : want ops ⟨some d, .indexAddr t x y, ty, pos, after, guard⟩ s = some true) (hx : s.look x = some (vS sz n xs)) (hy : s.look y = some (vC (.int ik i))) (h0 : 0 ≤ i) (h1 : i < n)
    (he : (xs.drop (i.toNat * sz)).take sz = ys) (hd : Nat.blt d s.n = true) (h : aList P ops K rest (s.put (some d) (vPt ys))) : aList P ops K (⟨some d, .indexAddr t x y, ty, pos, after, guard⟩ :: rest) s := by
  subst he
  refine al_quiet hw ⟨fun _ _ h => (by cases h), fun z hz => ?_, fun U ρ W env he => ?_, fun j hj => absurd hj (noownp _ j)⟩ hd h
  · simp [Op.operands] at hz
    rcases hz with rfl | rfl
    · exact ⟨_, hx⟩
    · exact ⟨_, hy⟩
  · obtain ⟨⟨A, c, e1, hc, hl, hA⟩, hU⟩ := he x (by simp [Op.operands]) _ hx
    have hi : env y = .int ik i := (he y (by simp [Op.operands]) _ hy).1
    obtain ⟨e, ti, hu, hi', hs⟩ := sliOf_spec S.h
    obtain ⟨a, vs, rfl, hcs⟩ := hA (by omega)
    refine ⟨.pointer (some (a.add (i.toNat * sz))), ?_, ⟨_, _, rfl, hcs.sub _ _⟩, ?_⟩
    · simp only [execOp, Instr.indexAt, e1, hi, asIntOf, Sem.run_bind, Sem.run_pure, Result.andThen_ok, run_underlying hu, run_sizeOf' hi', if_pos (And.intro h0 h1), hs]
    · rintro b ⟨a', e, hb⟩
      cases e
      exact hU b ⟨c, a, e1, by omega, hb.sub⟩
/-- the address of a field of what is pointed to. -/
theorem al_fldP {x : Operand} {sty i fo : Nat} {xs : List AC} [F : FldOf P sty i fo] (hw : want ops ⟨some d, .fieldAddr sty x i, ty, pos, after, guard⟩ s = some true) (hx : s.look x = some (vPt xs)) (hd : Nat.blt d s.n = true) (h : aList P ops K rest (s.put (some d) (vPt (xs.drop fo)))) : aList P ops K (⟨some d, .fieldAddr sty x i, ty, pos, after, guard⟩ :: rest) s := by
  refine al_quiet hw ⟨fun _ _ h => (by cases h), fun y hy => ?_, fun U ρ W env he => ?_, fun j hj => absurd hj (noownp _ j)⟩ hd h
  · simp [Op.operands] at hy
    subst hy
    exact ⟨_, hx⟩
  · obtain ⟨⟨a, vs, e1, hcs⟩, hU⟩ := he x (by simp [Op.operands]) _ hx
    have hF := F.h
    unfold fldOf at hF
    split at hF
    · rename_i fs hu
      cases hf : fs[i]? with
      | none => rw [hf] at hF; cases hF
      | some f =>
        rw [hf] at hF
        simp only [Option.bind_some] at hF
        cases hi : P.info? f.type with
        | none => rw [hi] at hF; cases hF
        | some t =>
          rw [hi] at hF
          simp only [Option.bind_some] at hF
          split at hF
          · cases hF
          · rename_i hne
            cases hF
            have hsub := hcs.sub f.offset xs.length
            rw [List.take_of_length_le (by simp), List.take_of_length_le (by have := hcs.rp.1; simp; omega)] at hsub
            refine ⟨.pointer (some (a.add f.offset)), ?_, ⟨_, _, rfl, hsub⟩, ?_⟩
            · simp only [execOp, Instr.fieldAt, e1, Instr.sureAddr, Sem.run_bind, Sem.run_pure, Result.andThen_ok, run_underlying hu, hf, fieldPlace, run_sizeOf' hi, if_neg hne]
            · rintro b ⟨a', e, hb⟩
              cases e
              refine hU b ⟨a, e1, footL.sub (off := f.offset) (n := xs.length) ?_⟩
              rw [List.take_of_length_le (by simp)]
              exact hb
    · cases hF
/-- what is pointed to: one cell; several. -/
theorem al_loadP1 {x : Operand} {lt n : Nat} {xs : List AC} {y : AC} [T : TyOf P lt false n] (hw : want ops ⟨some d, .load lt x, ty, pos, after, guard⟩ s = some true) (hx : s.look x = some (vPt xs)) (hc : xs[0]? = some y) (hcl : y.closedB = true) (hd : Nat.blt d s.n = true) (h : aList P ops K rest (s.put (some d) (.w (.one y)))) : aList P ops K (⟨some d, .load lt x, ty, pos, after, guard⟩ :: rest) s := by
  refine al_quiet hw ⟨fun _ _ h => (by cases h), fun y hy => ?_, fun U ρ W env he => ?_, fun j hj => ?_⟩ hd h
  · simp [Op.operands] at hy
    subst hy
    exact ⟨_, hx⟩
  · obtain ⟨⟨a, vs, e1, hcs⟩, hU⟩ := he x (by simp [Op.operands]) _ hx
    have hr := hcs.rpl (U := U) (ρ := ρ) fun b hb => hU b ⟨a, e1, hb⟩
    have hlt : 0 < vs.length := by rw [← hr.1]; exact (List.getElem?_eq_some_iff.1 hc).1
    have hv := List.getElem?_eq_getElem hlt
    refine ⟨_, ?_, hr.2 0 y _ hc hv⟩
    have hT := T.h
    have hcell : W.cell? a = some vs[0] := hcs.at_ 0 _ hv
    unfold tyOf at hT
    cases hu : P.underlying lt with
    | none => rw [hu] at hT; cases hT
    | some D =>
      have key : (loadVar lt a).run P W = .ok vs[0] W := by
        refine run_loadVar_one hu (fun fs e => ?_) (fun m e' e => ?_) hcell
        · subst e
          cases hi : P.info? lt with
          | none => simp [hu, hi] at hT
          | some ti => simp [hu, hi] at hT
        · subst e
          cases hi : P.info? lt with
          | none => simp [hu, hi] at hT
          | some ti => simp [hu, hi] at hT
      simp only [execOp, Instr.loadAt, e1, Instr.sureAddr, Sem.run_bind, Sem.run_pure, Result.andThen_ok, key]
  · exact absurd hj (AV.closed_of (x := .w (.one y)) hcl j)
theorem al_loadPN {x : Operand} {lt n : Nat} {xs ys : List AC} [T : TyOf P lt true n] (hw : want ops ⟨some d, .load lt x, ty, pos, after, guard⟩ s = some true) (hx : s.look x = some (vPt xs)) (hc : takeN xs 0 n = some ys) (hcl : (AW.agg ys).closedB = true) (hd : Nat.blt d s.n = true) (h : aList P ops K rest (s.put (some d) (.w (.agg ys)))) : aList P ops K (⟨some d, .load lt x, ty, pos, after, guard⟩ :: rest) s := by
  refine al_quiet hw ⟨fun _ _ h => (by cases h), fun y hy => ?_, fun U ρ W env he => ?_, fun j hj => ?_⟩ hd h
  · simp [Op.operands] at hy
    subst hy
    exact ⟨_, hx⟩
  · obtain ⟨⟨a, vs, e1, hcs⟩, hU⟩ := he x (by simp [Op.operands]) _ hx
    obtain ⟨q1, q2⟩ := takeN_spec _ _ _ _ hc
    have hsub := hcs.sub 0 n
    have hr := hsub.rpl (U := U) (ρ := ρ) fun b hb => hU b ⟨a, e1, footL.sub hb⟩
    rw [q2] at hr
    have ha : a.add 0 = a := rfl
    refine ⟨.agg ((vs.drop 0).take n).toArray, ?_, _, rfl, hr⟩
    have hT := T.h
    unfold tyOf at hT
    have hlen : ((vs.drop 0).take n).length = n := by have := hcs.rp.1; simp; omega
    have hcell := hsub.at_
    rw [ha] at hcell
    cases hu : P.underlying lt with
    | none => rw [hu] at hT; cases hT
    | some D =>
      cases hi : P.info? lt with
      | none => rw [hu, hi] at hT; cases D <;> cases hT
      | some ti =>
        rw [hu, hi] at hT
        have key : ((∃ fs, D = .struct fs) ∨ ∃ n e, D = .array n e) ∧ ti.size = n := by cases D <;> simp at hT <;> simp [hT]
        have := run_loadVar_agg (P := P) (w := W) (A := a) hu key.1 hi (by rw [hlen, key.2]) hcell
        simp only [execOp, Instr.loadAt, e1, Instr.sureAddr, Sem.run_bind, Sem.run_pure, Result.andThen_ok, this]
  · exact absurd hj (AV.closed_of (x := .w (.agg ys)) hcl j)
/-- a slice that is written down. -/
def sliZ (P : Program) (t : TypeId) : Option (List Value) :=
  match P.underlying t with
  | some (.slice e) => zeroOf P e
  | _ => none
class SliZ (P : Program) (t : TypeId) (vs : outParam (List Value)) : Prop where
  h : sliZ P t = some vs
def zeroN (n sz : Nat) (vs : List Value) : List AC := (List.range (n * sz)).map fun j => .c (vs.toArray[j % vs.length]!)
def plcN (n sz : Nat) : List (Nat × Nat) := (List.range n).map fun i => (i * sz, sz)
theorem alloc_cellsAt {w : World} {rs : List AC} {us : List Value} {ty : TypeId} {U : Nat → Prop} {ρ : Nat → Nat} (h : RpL U ρ w rs us) (hcl : ∀ y ∈ rs, y.closedB = true) : CellsAt (w.alloc (.cells us.toArray ty)) ⟨w.heap.size, 0, none⟩ rs us := by
  refine ⟨by show w.heap.size < (w.heap.push _).size; simp, ⟨h.1, fun i y v hy hv => ?_⟩, fun j v hv => ?_, hcl⟩
  · refine (h.2 i y v hy hv).map (fun b hb hl => ⟨trivial, Below.heap_alloc _ _ _ hl⟩) fun j hj => ?_
    exact absurd hj (AC.closed_of (hcl y (List.mem_of_getElem? hy)) j)
  · have hadd : (⟨w.heap.size, 0, none⟩ : Addr).add j = ⟨w.heap.size, j, none⟩ := by unfold Addr.add; split <;> simp_all
    rw [hadd]
    have : (w.alloc (.cells us.toArray ty)).heap[w.heap.size]? = some (.cells us.toArray ty (0, 0)) := by show (w.heap.push _)[w.heap.size]? = _; simp
    simp only [World.cell?, this]
    simpa using hv
theorem alloc_foot {w : World} {rs : List AC} {us : List Value} {ty : TypeId} {U : Nat → Prop} {ρ : Nat → Nat} {b : Nat} (h : RpL U ρ w rs us) (hf : footL (w.alloc (.cells us.toArray ty)) ⟨w.heap.size, 0, none⟩ rs b) : U b ∨ w.heap.size ≤ b := by
  rcases hf with rfl | ⟨j, y, v, hy, hv, hfo⟩
  · exact .inr (Nat.le_refl _)
  · have hadd : (⟨w.heap.size, 0, none⟩ : Addr).add j = ⟨w.heap.size, j, none⟩ := by unfold Addr.add; split <;> simp_all
    rw [hadd] at hv
    have : (w.alloc (.cells us.toArray ty)).heap[w.heap.size]? = some (.cells us.toArray ty (0, 0)) := by show (w.heap.push _)[w.heap.size]? = _; simp
    simp only [World.cell?, this] at hv
    have hv' : us[j]? = some v := by simpa using hv
    have hr := h.2 j y v hy hv'
    cases y with
    | c u => cases hfo
    | own k o => cases hfo
    | p R =>
      refine .inl (hr.2 b ?_)
      exact (R.frame w _ v hr.1 fun b' hb' => Below.heap_alloc _ _ _ (R.old _ _ _ hr.1 hb')).2 b hfo
theorem al_bslice {t n sz : Nat} {parts : List (Nat × Operand)} {vs : List Value} {zs : List (Nat × AW)} {r : List AC} [S : SliOf P t sz] [Z : SliZ P t vs] (hw : want ops ⟨some d, .buildSlice t n parts.toArray, ty, pos, after, guard⟩ s = some true) (hz : lookP s.look parts = some zs) (hb : buildN (plcN n sz) (zeroN n sz vs) zs = some r)
    (h1 : (vs.all fun v => v.oneCell') = true) (hs : Nat.beq vs.length sz = true) (h0 : Nat.blt 0 (n * sz) = true) (h2 : Nat.ble (n * sz) 16777216 = true) (hr : Nat.beq r.length (n * sz) = true) (hcl : r.all AC.closedB = true) (hd : Nat.blt d s.n = true) (h : aList P ops K rest (s.put (some d) (vS sz n r))) : aList P ops K (⟨some d, .buildSlice t n parts.toArray, ty, pos, after, guard⟩ :: rest) s := by
  refine al_fresh (av := vS sz n r) hw ⟨fun z hz' => ?_, fun j hj => noownp _ j hj, fun U ρ W env he => ?_⟩ hd h
  · simp only [Op.operands, List.mem_toArray, List.mem_map] at hz'
    obtain ⟨p, hp, rfl⟩ := hz'
    obtain ⟨z, h1, _⟩ := lookP_mem parts zs hz p hp
    exact ⟨_, h1⟩
  · obtain ⟨e, i, hu, hi, hsz⟩ := sliOf_spec S.h
    have hZ := Z.h
    unfold sliZ at hZ
    rw [hu] at hZ
    simp only at hZ
    unfold zeroOf at hZ
    rw [hi] at hZ
    simp only [Option.bind_some] at hZ
    cases hzz : i.zero with
    | none => rw [hzz] at hZ; cases hZ
    | some z =>
      rw [hzz] at hZ
      cases hZ
      have hlen : z.cells.toList.length = sz := Nat.eq_of_beq_eq_true hs
      have h0' : 0 < n * sz := by simpa [Nat.blt_eq] using h0
      have h2' : n * sz ≤ 16777216 := by simpa [Nat.ble_eq] using h2
      have hr' : r.length = n * sz := Nat.eq_of_beq_eq_true hr
      have hcl' : ∀ y ∈ r, y.closedB = true := List.all_eq_true.1 hcl
      have hzv : (zeroValue e).run P W = .ok z W := by simp [zeroValue, typeInfo, program, Sem.run_bind, Sem.run, hi, Result.andThen, hzz]
      have hrl : RpL U ρ W (zeroN n sz z.cells.toList) ((List.range (n * sz)).map fun j => z.cells[j % z.cells.size]!) := by
        refine ⟨by simp [zeroN], fun j x v hx hv => ?_⟩
        have hj : j < n * sz := by have := (List.getElem?_eq_some_iff.1 hv).1; simpa using this
        simp only [zeroN, List.getElem?_map, List.getElem?_range hj, Option.map_some, Option.some.injEq] at hx hv
        subst hx; subst hv
        have hzl : z.cells.size = sz := by simpa using hlen
        have hpos : 0 < sz := Nat.pos_of_mul_pos_left h0' |> fun h => by
          rcases Nat.eq_zero_or_pos sz with q | q
          · rw [q] at h0'; simp at h0'
          · exact q
        have hlt : j % z.cells.size < z.cells.size := Nat.mod_lt _ (by omega)
        have e2 : z.cells.toList.toArray[j % z.cells.toList.length]! = z.cells[j % z.cells.size]! := by simp
        refine ⟨e2.symm, ?_⟩
        rw [e2, getElem!_pos z.cells _ hlt]
        exact List.all_eq_true.1 h1 _ (by simp)
      obtain ⟨us, g1, g2⟩ := fill_sound (U := U) (ρ := ρ) (W := W) (ps := plcN n sz) (place := fun i => some (i * sz, sz)) (fun i q hq => by
          simp only [plcN, List.getElem?_map] at hq
          cases hr : (List.range n)[i]? with
          | none => rw [hr] at hq; cases hq
          | some m =>
            rw [hr] at hq
            cases hq
            have := List.getElem?_eq_some_iff.1 hr
            obtain ⟨h3, h4⟩ := this
            simp at h4
            rw [h4]) (look := s.look) (env := env) parts _ _ zs r hrl hz (fun p hp a ha => he p.2 (by simp only [Op.operands, List.mem_toArray, List.mem_map]; exact ⟨p, hp, rfl⟩) a ha) hb
      refine ⟨.slice (some ⟨W.heap.size, 0, none⟩) n n, W.alloc (.cells us.toArray e), ?_, ⟨⟨some ⟨W.heap.size, 0, none⟩, n, rfl, Nat.le_refl _, hr', fun hn => ⟨_, us, rfl, alloc_cellsAt g2 hcl'⟩⟩, ?_⟩, (Below.refl _ _).alloc (Nat.le_refl _) _⟩
      · have hparts : (parts.toArray.map fun (i, x) => (i, env x)).toList = parts.map fun p => (p.1, env p.2) := by simp
        have e3 : (Array.range (n * sz)).map (fun j => z.cells[j % z.cells.size]!) = ((List.range (n * sz)).map fun j => z.cells[j % z.cells.size]!).toArray := by simp [← List.toArray_range]
        simp only [execOp, Instr.buildSlice, Sem.run_bind, run_underlying hu, Result.andThen_ok, run_sizeOf' hi, hsz]
        rw [if_neg (by omega), if_neg (by omega)]
        simp only [Sem.run_bind, Sem.run_pure, hzv, Result.andThen_ok, e3, hparts, g1, newRow, newObj, Sem.run]
        rfl
      · rintro b ⟨c, a, e, hn, hb⟩
        cases e
        exact alloc_foot g2 hb
end
/-! states told by lists -/
def lkp {α : Type} : List (Nat × α) → Nat → Option α
  | [], _ => none
  | (k, v) :: r, t => bif Nat.beq t k then some v else lkp r t
def mkS (n : Nat) (ts : List (Nat × AV)) (ms : List (Nat × List AC)) : AS := ⟨n, lkp ts, lkp ms⟩
def allT {α : Type} (f : Nat → Option α) : List (Nat × α) → Prop
  | [] => True
  | (k, v) :: r => f k = some v ∧ allT f r
theorem allT_lkp {α : Type} {f : Nat → Option α} : ∀ (l : List (Nat × α)), allT f l → ∀ t v, lkp l t = some v → f t = some v
  | [], _, t, v, h => by cases h
  | (k, u) :: r, ha, t, v, h => by
    simp only [lkp] at h
    cases hb : Nat.beq t k with
    | true => rw [hb] at h; cases h; rw [Nat.eq_of_beq_eq_true hb]; exact ha.1
    | false => rw [hb] at h; exact allT_lkp r ha.2 t v h
theorem mkS_le {s : AS} {n : Nat} {ts : List (Nat × AV)} {ms : List (Nat × List AC)} (hn : n = s.n) (ht : allT s.tmps ts) (hm : allT s.mem ms) : s.Le (mkS n ts ms) :=
  ⟨hn, allT_lkp ts ht, allT_lkp ms hm⟩
def keyB {α : Type} (ms : List (Nat × α)) (k : Nat) : Bool := ms.any fun p => Nat.beq k p.1
def acOkB (ms : List (Nat × List AC)) : AC → Bool
  | .own k _ => keyB ms k
  | _ => true
def avOkB (ms : List (Nat × List AC)) : AV → Bool
  | .w x => x.cells.all (acOkB ms)
  | .tup xs => xs.all fun x => x.cells.all (acOkB ms)
def okB (ts : List (Nat × AV)) (ms : List (Nat × List AC)) : Bool := ts.all (fun p => avOkB ms p.2) && ms.all fun p => p.2.all (acOkB ms)
theorem keyB_lkp {α : Type} {k : Nat} : ∀ (ms : List (Nat × α)), keyB ms k = true → ∃ v, lkp ms k = some v
  | [], h => by cases h
  | (j, u) :: r, h => by
    simp only [keyB, List.any_cons, Bool.or_eq_true] at h
    simp only [lkp]
    cases hb : Nat.beq k j with
    | true => exact ⟨u, rfl⟩
    | false => rw [hb] at h; exact keyB_lkp r (by simpa [keyB] using h)
theorem lkp_mem {α : Type} {k : Nat} {v : α} : ∀ (ms : List (Nat × α)), lkp ms k = some v → (k, v) ∈ ms
  | [], h => by cases h
  | (j, u) :: r, h => by
    simp only [lkp] at h
    cases hb : Nat.beq k j with
    | true => rw [hb] at h; cases h; rw [Nat.eq_of_beq_eq_true hb]; simp
    | false => rw [hb] at h; exact List.mem_cons_of_mem _ (lkp_mem r h)
theorem acOkB_spec {ms : List (Nat × List AC)} {x : AC} {j : Nat} (h : acOkB ms x = true) (hj : x.owns j) : ∃ cs, lkp ms j = some cs := by
  cases x with
  | c v => cases hj
  | p R => cases hj
  | own k o => cases hj; exact keyB_lkp ms h
theorem mkS_ok {n : Nat} {ts : List (Nat × AV)} {ms : List (Nat × List AC)} (h : okB ts ms = true) : (mkS n ts ms).Ok := by
  unfold okB at h
  rw [Bool.and_eq_true] at h
  refine ⟨fun t av j ht hj => ?_, fun k cs x j hk hx hj => ?_⟩
  · have h1 := List.all_eq_true.1 h.1 _ (lkp_mem ts ht)
    cases av with
    | w x =>
      obtain ⟨y, hy, hyj⟩ := hj
      exact acOkB_spec (List.all_eq_true.1 h1 y hy) hyj
    | tup xs =>
      obtain ⟨z, hz, y, hy, hyj⟩ := hj
      exact acOkB_spec (List.all_eq_true.1 (List.all_eq_true.1 h1 z hz) y hy) hyj
  · have h1 := List.all_eq_true.1 h.2 _ (lkp_mem ms hk)
    exact acOkB_spec (List.all_eq_true.1 h1 x hx) hj
section
variable {P : Program} {s : AS} {x : Code}
/-- less is known, told by lists. -/
theorem awp_cut {Q : Exit → AS → Prop} (n : Nat) (ts : List (Nat × AV)) (ms : List (Nat × List AC)) (hn : n = s.n) (ht : allT s.tmps ts) (hm : allT s.mem ms) (ok : okB ts ms = true) (h : AWp P x Q (mkS n ts ms)) : AWp P x Q s :=
  awp_less _ (mkS_le hn ht hm) (mkS_ok ok) h
/-- a loop whose state is told by lists: I k ts ms holds ahead of each round, k falling. -/
theorem awp_loopL {Q : Exit → AS → Prop} (N : Nat) (I : Nat → List (Nat × AV) → List (Nat × List AC) → Prop) (k : Nat) (ts : List (Nat × AV)) (ms : List (Nat × List AC)) (hI : I k ts ms) (hn : N = s.n) (ht : allT s.tmps ts) (hm : allT s.mem ms) (ok : okB ts ms = true)
    (round : ∀ k ts ms, I k ts ms → okB ts ms = true → AWp P x (athen (fun s' => ∃ k' ts' ms', k' < k ∧ I k' ts' ms' ∧ N = s'.n ∧ allT s'.tmps ts' ∧ allT s'.mem ms' ∧ okB ts' ms' = true) Q) (mkS N ts ms)) : AWp P (.loop x) Q s := by
  refine awp_loop (fun k s => ∃ ts ms, I k ts ms ∧ okB ts ms = true ∧ s = mkS N ts ms) k (mkS N ts ms) (mkS_le hn ht hm) (mkS_ok ok) ⟨ts, ms, hI, ok, rfl⟩ ?_
  rintro k s ⟨ts, ms, hI, ok, rfl⟩
  intro ok' B A ρ a w hR
  refine wp_mono (round k ts ms hI ok ok' B A ρ a w hR) ?_
  rintro e a' w' ⟨s', ρ', ok'', hR', hq⟩
  refine ⟨s', ρ', ok'', hR', ?_⟩
  cases e with
  | normal =>
    obtain ⟨k', ts', ms', h1, h2, h3, h4, h5, h6⟩ := hq
    exact ⟨k', h1, mkS N ts' ms', mkS_le h3 h4 h5, mkS_ok h6, ts', ms', h2, h6, rfl⟩
  | _ => exact hq
/-- a loop, round by round: no more than n rounds. -/
def roll (P : Program) (x : Code) (Q : Exit → AS → Prop) : Nat → AS → Prop
  | 0, _ => False
  | n + 1, s => AWp P x (athen (roll P x Q n) Q) s
theorem roll_succ {Q : Exit → AS → Prop} {n : Nat} (h : AWp P x (athen (roll P x Q n) Q) s) : roll P x Q (n + 1) s := h
theorem awp_roll (n : Nat) {Q : Exit → AS → Prop} (h : roll P x Q n s) : AWp P (.loop x) Q s := by
  intro ok
  refine awp_loop (fun k s => s.Ok ∧ roll P x Q k s) n s ⟨rfl, fun _ _ h => h, fun _ _ h => h⟩ ok ⟨ok, h⟩ ?_ ok
  rintro k s ⟨ok, h⟩
  cases k with
  | zero => cases h
  | succ k =>
    intro ok' B A ρ a w hR
    refine wp_mono (h ok' B A ρ a w hR) ?_
    rintro e a' w' ⟨s', ρ', ok'', hR', hq⟩
    refine ⟨s', ρ', ok'', hR', ?_⟩
    cases e with
    | normal => exact ⟨k, Nat.lt_succ_self k, s', ⟨rfl, fun _ _ h => h, fun _ _ h => h⟩, ok'', ok'', hq⟩
    | _ => exact hq
end
end Go.Proofs.Ytpopeipcjpfbaaa
