/-
  States beside rows that grow: the operations of a region one by one, in whatever order; code over them. My own text.
-/
import Derived.Test.YtpopeipcjpfbaaaAbsY
namespace Go.Proofs.Ytpopeipcjpfbaaa
open Go.RowKit
set_option linter.unusedVariables false
set_option linter.unusedSimpArgs false
def appB (o : Oper) : Bool := match o.op with
  | .call ⟨.builtin .append, _, _⟩ => true
  | _ => false
def hotB (o : Oper) : Bool := match o.op with
  | .call ⟨.builtin .append, _, _⟩ => true
  | .buildSlice .. => true
  | .makeSlice .. => true
  | _ => false
/-- is the operation a call that may turn what is held: where the order is the text's, any; else one whose slot is among these (1000000: a call that writes none). -/
def callB (o : Oper) : Bool := match o.op with
  | .call ⟨.value _, _, _⟩ => true
  | _ => false
def hotM (dr : Option (List Nat)) (o : Oper) : Bool := callB o && match dr with
  | none => true
  | some hs => hs.contains (o.dst.getD 1000000)
/-- may such a call turn the block of this name? (2000000 and the name are among these.) -/
def tch (dr : Option (List Nat)) (k : Nat) : Bool := match dr with
  | none => true
  | some hs => hs.contains (2000000 + k)
/-- what is loaded is of a block that no such call turns. -/
def ldOK (dr : Option (List Nat)) (look : Operand → Option AV) (o : Oper) : Bool := match dr with
  | none => true
  | some hs => bif hs.isEmpty then true else match o.op with
    | .load _ x => match look x with
      | some (.w (.one (.own k _))) => !hs.contains (2000000 + k)
      | _ => true
    | _ => true
/-- does it turn the frame's own blocks, or make one? -/
def memB (o : Oper) : Bool := match o.op with
  | .store .. => true
  | .alloc _ => true
  | .box .. => true
  | _ => false
/-- every append, and every call that may turn what is held, waits for what writes that slot. -/
def rdB (ops : Array Oper) (hs : List Nat) (dst : Option Nat) : Bool := (List.range ops.size).all fun k => match ops[k]? with
  | some ok => !(ok.dst == dst) || (List.range ops.size).all fun j => match ops[j]? with
    | some oj => !(appB oj || hotM (some hs) oj) || waits .any ops 8 j k
    | none => true
  | none => true
def rdD (ops : Array Oper) (dr : Option (List Nat)) (dst : Option Nat) : Bool := match dr with
  | none => true
  | some hs => rdB ops hs dst
/-- what leaves the rows as they are. -/
inductive SEff (P : Program) (ops : Array Oper) (dr : Option (List Nat)) (R : Rws) (s : AS) (o : Oper) : Bool → Eff → Prop
  | cold (b : Bool) (e : Eff) (h : AEff P s.n s.look s.mem o b e) (ht : ldOK dr s.look o = true) : SEff P ops dr R s o b e
  | read (av : AV) (h : HRead P R s.look o av) (hc : av.closed) (hr : rdD ops dr o.dst = true) : SEff P ops dr R s o true ⟨av, none⟩
def hOp (P : Program) (ops : Array Oper) (dr : Option (List Nat)) (o : Oper) (K : Rws → AS → Prop) (R : Rws) (s : AS) : Prop :=
  ∃ b, want ops o s = some b ∧ (∀ d, o.dst = some d → d < s.n) ∧ ((∃ e, SEff P ops dr R s o b e ∧ K R (e.on o.dst s)) ∨ (b = true ∧ ∃ d f, o.dst = some d ∧ HWr P R s.look o f ∧ ∀ v' : Value, v'.oneCell' = true → K (f v') (s.put (some d) (vC v'))) ∨ (b = true ∧ dr = none ∧ ∃ R', o.dst = none ∧ HSt P R s.look o R' ∧ K R' s) ∨
    (b = true ∧ dr = none ∧ ∃ d f i, ∃ g : Value → HRow, o.dst = some d ∧ HWr P R s.look o f ∧ (∀ v', f v' i = some (g v') ∧ (g v').v = v') ∧ ∀ v' : Value, v'.oneCell' = true → K (fun j => if j = i then none else f v' j) (s.put (some d) (vS (g v').sz (g v').n (g v').ys))) ∨
    (b = true ∧ hotM dr o = true ∧ HotCall P (tch dr) R s o K) ∨
    (b = true ∧ hotM dr o = true ∧ HotCall P (tch dr) R s o fun R' s' => ∃ i d r, o.dst = some d ∧ R' i = some r ∧ s'.tmps d = some (vC r.v) ∧ d < s'.n ∧ K (fun j => if j = i then none else R' j) (s'.put (some d) (vS r.sz r.n r.ys))))
def hList (P : Program) (ops : Array Oper) (dr : Option (List Nat)) (K : Rws → AS → Prop) : List Oper → Rws → AS → Prop
  | [], R, s => K R s
  | o :: rest, R, s => hOp P ops dr o (hList P ops dr K rest) R s
def hAny (P : Program) (md : Region.Mode) (ops : Array Oper) (hs : List Nat) (K : Rws → AS → Prop) : Nat → Array Bool → Rws → AS → Prop
  | 0, listed, R, s => Region.ready md ops listed = [] ∧ K R s
  | fuel + 1, listed, R, s => (Region.ready md ops listed = [] → K R s) ∧
    ∀ i ∈ Region.ready md ops listed, ∀ o, ops[i]? = some o → hOp P ops (some hs) o (hAny P md ops hs K fuel (listed.setIfInBounds i true)) R s
section
variable {P : Program} {B0 : Base} {A0 A : Nat → Prop} {R : Rws} {s s' : AS} {a a' : Act} {w w' : World} {ρ ρ' : Nat → Nat} {o oi oj : Oper} {ops : Array Oper} {md : Region.Mode} {dr : Option (List Nat)} {hs : List Nat}
theorem closed_rows (h : RR B0 A0 R s a w A ρ) : ∀ i r, R i = some r → ∀ y ∈ r.ys, y.closedB = true := fun i r hi => (h.rows i r hi).cl
theorem SEff.ok {b : Bool} {e : Eff} (ok : s.Ok) (h : SEff P ops dr R s o b e) (hd : ∀ d, o.dst = some d → d < s.n) : (e.on o.dst s).Ok := by
  cases h with
  | cold b e h ht => exact eff_ok ok h hd
  | read av h hc hr => exact ok.put fun j hj => absurd hj (hc j)
theorem putC_ok (ok : s.Ok) (d : Nat) (v : Value) : (s.put (some d) (vC v)).Ok := ok.put fun j hj => absurd hj (noown v j)
theorem hOp_mono {K K' : Rws → AS → Prop} (ok : s.Ok) (h : ∀ R s, s.Ok → K R s → K' R s) (hh : hOp P ops dr o K R s) : hOp P ops dr o K' R s := by
  obtain ⟨b, hw, hd, h1 | ⟨hb, d, f, hdst, hf, hk⟩ | ⟨hb, hdr, R', hdst, hf, hk⟩ | ⟨hb, hdr, d, f, i, g, hdst, hf, hg, hk⟩ | ⟨hb, hm, hc⟩ | ⟨hb, hm, hc⟩⟩ := hh
  · obtain ⟨e, he, hk⟩ := h1
    exact ⟨b, hw, hd, .inl ⟨e, he, h _ _ (he.ok ok hd) hk⟩⟩
  · exact ⟨b, hw, hd, .inr (.inl ⟨hb, d, f, hdst, hf, fun v' hv => h _ _ (putC_ok ok d v') (hk v' hv)⟩)⟩
  · exact ⟨b, hw, hd, .inr (.inr (.inl ⟨hb, hdr, R', hdst, hf, h _ _ ok hk⟩))⟩
  · exact ⟨b, hw, hd, .inr (.inr (.inr (.inl ⟨hb, hdr, d, f, i, g, hdst, hf, hg, fun v' hv => h _ _ (ok.put fun j hj => absurd hj (noownp _ j)) (hk v' hv)⟩)))⟩
  · exact ⟨b, hw, hd, .inr (.inr (.inr (.inr (.inl ⟨hb, hm, hc.mono ok h⟩))))⟩
  · refine ⟨b, hw, hd, .inr (.inr (.inr (.inr (.inr ⟨hb, hm, hc.mono ok fun R s okk hk => ?_⟩))))⟩
    obtain ⟨i, d, r, h0, h1, h2, h3, h4⟩ := hk
    exact ⟨i, d, r, h0, h1, h2, h3, h _ _ (okk.put fun j hj => absurd hj (noownp _ j)) h4⟩
/-- a row is given up: it is told by what its slot holds. -/
theorem RR.cool (hR : RR B0 A0 R s a w A ρ) (i d : Nat) (r : HRow) (hi : R i = some r) (hds : s.tmps d = some (vC r.v)) (hdn : d < s.n) : ∃ A', RR B0 A0 (fun j => if j = i then none else R j) (s.put (some d) (vS r.sz r.n r.ys)) a w A' ρ := by
  obtain ⟨⟨xs, ho, hl⟩, hcl, hg⟩ := hR.rows i r hi
  have hA' : ∀ b, s.free A ρ b → b < w.heap.size → s.free (fun b => A b ∨ r.v.ownBlock = some b) ρ b ∧ w.heap[b]? = w.heap[b]? := fun b hb _ => ⟨⟨.inl hb.1, hb.2⟩, rfl⟩
  have hR1 : Rel (hbase s ρ w) (fun b => A b ∨ r.v.ownBlock = some b) s ρ a w := hR.rel.anew (fun b hb _ => ⟨.inl hb, rfl⟩) (fun k cs hk => ⟨rfl, fun hf => hf.2 k cs hk rfl⟩) (BelowB.refl _) (fun b hb => .inl (hR.rel.up b hb)) (hbase_anch _ _ _)
  have hR2 : RR B0 A0 (fun j => if j = i then none else R j) s a w (fun b => A b ∨ r.v.ownBlock = some b) ρ := by
    refine ⟨hR.up, ?_, hR1, hR.mine, hR.below, fun j q hj => ?_, fun j k q q' hj hk hjk => ?_, fun j q g hj => ?_, hR.anch⟩
    · rintro b (hb | hb)
      · exact hR.sub b hb
      · exact (hR.hot i r b hi hb).2
    · have hji : j ≠ i := fun e => by rw [if_pos e] at hj; cases hj
      rw [if_neg hji] at hj
      obtain ⟨⟨us, uo, ul⟩, uc, ug⟩ := hR.rows j q hj
      refine ⟨⟨us, uo, ul.closed_map uc hA'⟩, uc, fun g hg' => ⟨?_, (ug g hg').2⟩⟩
      rintro (hb | hb)
      · exact (ug g hg').1 hb
      · exact hR.apart i j r q hi hj (Ne.symm hji) g hb hg'
    · have hji : j ≠ i := fun e => by rw [if_pos e] at hj; cases hj
      have hki : k ≠ i := fun e => by rw [if_pos e] at hk; cases hk
      rw [if_neg hji] at hj
      rw [if_neg hki] at hk
      exact hR.apart j k q q' hj hk hjk
    · have hji : j ≠ i := fun e => by rw [if_pos e] at hj; cases hj
      rw [if_neg hji] at hj
      exact hR.hot j q g hj
  have hR3 : Rel (hbase s ρ w) (fun b => A b ∨ r.v.ownBlock = some b) (s.put (some d) (vS r.sz r.n r.ys)) ρ a w := by
    refine hR2.rel.retell hds fun v hv1 hv2 => ?_
    obtain ⟨rfl, h1c⟩ := hv2
    have hll := hl.1
    obtain ⟨hlx, hn | ⟨g, cap, cur, hgv, hbg, hheap, hnc, hcm, hcs, htake⟩⟩ := id ho
    · obtain ⟨e1, e2⟩ := hn
      have : r.ys = [] := List.eq_nil_of_length_eq_zero (by rw [hll, hlx, e2]; simp)
      rw [e1]
      exact ⟨⟨none, 0, by rw [e2], by omega, by rw [this, e2]; simp, fun h => absurd h (by omega)⟩, fun b ⟨c', a', q, hn, hb⟩ => by cases q⟩
    · have hcells := ho.cells (g := g) (by rw [hgv]; rfl)
      rw [hgv]
      have hCA : CellsAt w ⟨g, 0, none⟩ r.ys xs := ⟨(Array.getElem?_eq_some_iff.1 hheap).1, hl.closed_map hcl fun b _ _ => ⟨trivial, rfl⟩, hcells, hcl⟩
      refine ⟨⟨some ⟨g, 0, none⟩, cap, rfl, hnc, by rw [hll]; exact hlx, fun hn => ⟨⟨g, 0, none⟩, xs, rfl, hCA⟩⟩, ?_⟩
      rintro b ⟨c', a', q, hn, hf⟩
      cases q
      rcases hf with rfl | ⟨j, y, v, hy, hv, hfo⟩
      · exact ⟨.inr rfl, (hg g (by rw [hgv]; rfl)).2⟩
      · have hlt : j < xs.length := by rw [← hll]; exact (List.getElem?_eq_some_iff.1 hy).1
        have h2 := hcells j _ (List.getElem?_eq_getElem hlt)
        rw [hv] at h2
        cases h2
        have h3 := hl.2 j y _ hy (List.getElem?_eq_getElem hlt)
        cases y with
        | c u => cases hfo
        | own k o => cases hfo
        | p S => have := h3.2 b hfo; exact ⟨.inl this.1, this.2⟩
  exact ⟨_, hR2.next (s' := s.put (some d) (vS r.sz r.n r.ys)) (a' := a) (w' := w) (ρ' := ρ) hR3⟩
theorem put_put (s : AS) (d : Nat) (u v : AV) : (s.put (some d) u).put (some d) v = s.put (some d) v := by
  simp only [AS.put, AS.mk.injEq, true_and, and_true]
  funext j
  by_cases e : j = d
  · subst e; rw [upd_same, upd_same]
  · rw [upd_ne _ _ e, upd_ne _ _ e, upd_ne _ _ e]
theorem hOp_sound {K : Rws → AS → Prop} {K' : Act → World → Prop} {Q : Exit → Act → World → Prop} {i : Nat} (hi : ops[i]? = some o) (ok : s.Ok) (hR : RRel B0 A0 R s a w) (h : hOp P ops dr o K R s)
    (hK : ∀ R' s' a' w', s'.Ok → RRel B0 A0 R' s' a' w' → K R' s' → K' a' w') : wpOp P ops Q i K' a w := by
  obtain ⟨A, ρ, hR⟩ := hR
  obtain ⟨b, hw, hd, h⟩ := h
  have hw' := want_sound hw hR.rel
  unfold wpOp
  simp only [hi]
  cases b with
  | true =>
    rw [hw']
    simp only [if_true]
    left
    rcases h with ⟨e, he, hk⟩ | ⟨_, d, f, hdst, hf, hk⟩ | ⟨_, _, R', hdst, hf, hk⟩ | ⟨_, _, d, f, i, g, hdst, hf, hg, hk⟩ | ⟨_, _, hc⟩ | ⟨_, _, hc⟩
    · have ok' := he.ok ok hd
      cases he with
      | cold b e he _ => exact Oper.wp_mono (fun a' w' ⟨ρ', hr⟩ => hK _ _ a' w' ok' ⟨A, ρ', hR.next hr⟩ hk) (AStep.sound (he.step hd) hR.rel ok)
      | read av h hc hr =>
        obtain ⟨v, h1, h2⟩ := h.sound hR
        exact Oper.wp_value h1 (hK _ _ _ _ ok' ⟨A, ρ, hR.put hd h2⟩ hk)
    · obtain ⟨v', w2, A', h1, h2, h3⟩ := hf.sound hR (hd d hdst)
      refine Oper.wp_value h1 ?_
      rw [hdst]
      exact hK _ _ _ _ (putC_ok ok d v') ⟨A', ρ, h3⟩ (hk v' h2)
    · obtain ⟨w2, A', h1, h2⟩ := hf.sound hR
      unfold Oper.wp
      rw [h1, Oper.upon_skip, hdst]
      exact hK _ _ _ _ ok ⟨A', ρ, h2⟩ hk
    · have hdn := hd d hdst
      obtain ⟨v', w2, A', h1, h2, h3⟩ := hf.sound hR hdn
      refine Oper.wp_value h1 ?_
      rw [hdst]
      obtain ⟨A2, h4⟩ := h3.cool i d (g v') (hg v').1 (by rw [(hg v').2]; exact upd_same _ _ _) hdn
      rw [put_put] at h4
      exact hK _ _ _ _ (ok.put fun j hj => absurd hj (noownp _ j)) ⟨A2, ρ, h4⟩ (hk v' h2)
    · exact hc.sound hd hR ok hK
    · refine hc.sound hd hR ok fun R' s' a' w' ok' hR' hk => ?_
      obtain ⟨i, d, r, _, h1, h2, h3, h4⟩ := hk
      obtain ⟨A2, ρ2, hR2⟩ := hR'
      obtain ⟨A3, hR3⟩ := hR2.cool i d r h1 h2 h3
      exact hK _ _ _ _ (ok'.put fun j hj => absurd hj (noownp _ j)) ⟨A3, ρ2, hR3⟩ h4
  | false =>
    rw [hw']
    simp only [Bool.false_eq_true, if_false]
    rcases h with ⟨e, he, hk⟩ | ⟨h, _⟩ | ⟨h, _⟩ | ⟨h, _⟩ | ⟨h, _⟩ | ⟨h, _⟩
    · have ok' := he.ok ok hd
      cases he with
      | cold b e he _ =>
        cases he
        exact hK _ _ _ _ ok' ⟨A, ρ, hR.put hd (RpV.undef _)⟩ hk
    · cases h
    · cases h
    · cases h
    · cases h
    · cases h
theorem AEff.cong {n : Nat} {look look' : Operand → Option AV} {mem : Nat → Option (List AC)} {b : Bool} {e : Eff} (h : AEff P n look mem o b e) (el : ∀ x ∈ o.op.operands, look' x = look x) : AEff P n look' mem o b e := by
  cases h with
  | skip => exact .skip
  | quiet av hq => exact .quiet av (hq.congr el)
  | fresh av hq => exact .fresh av (hq.congr el)
  | load ty x k off cs av ho hx hm hv => exact .load ty x k off cs av ho (by rw [el x (by simp [ho, Op.operands])]; exact hx) hm hv
  | store ty x y k off cs z i ho hx hy hm hi hs hb => exact .store ty x y k off cs z i ho (by rw [el x (by simp [ho, Op.operands])]; exact hx) (by rw [el y (by simp [ho, Op.operands])]; exact hy) hm hi hs hb
  | new cs d hdst hm hn => exact .new cs d hdst hm (hn.congr el)
  | call g args r hc hp => exact .call g args r (hc.congr el) hp
theorem put_on (s : AS) (dst : Option Nat) (v : AV) : s.put dst v = (⟨v, none⟩ : Eff).on dst s := rfl
theorem HWr.ext {look : Operand → Option AV} {f : Value → Rws} (h : HWr P R look o f) (hn : appB o = false) (v : Value) : RLe R (f v) := by
  cases h with
  | app i r tt bytes m sx xx news hi ho => simp [appB, ho] at hn
  | new i t n e sz bytes parts vs zs r hi =>
    intro j q hj
    have : j ≠ i := fun e => by subst e; rw [hi] at hj; cases hj
    show upd R i _ j = some q
    rw [upd_ne _ _ this]; exact hj
  | make i t l c e sz bytes x y kl kc vs hi =>
    intro j q hj
    have : j ≠ i := fun e => by subst e; rw [hi] at hj; cases hj
    show upd R i _ j = some q
    rw [upd_ne _ _ this]; exact hj
theorem AEff.nom {n : Nat} {look : Operand → Option AV} {mem : Nat → Option (List AC)} {b : Bool} {e : Eff} (h : AEff P n look mem o b e) (hm : memB o = false) : e.m = none := by
  cases h with
  | skip => rfl
  | quiet av hq => rfl
  | fresh av hq => rfl
  | load ty x k off cs av ho hx hm' hv => rfl
  | store ty x y k off cs z i ho hx hy hm' hi hs hb => simp [memB, ho] at hm
  | new cs d hdst hm' hn =>
    cases hn with
    | alloc ty i z cs ho => simp [memB, ho] at hm
    | box ty x z ho => simp [memB, ho] at hm
  | call g args r hc hp => rfl
theorem AEff.nomem {n : Nat} {look : Operand → Option AV} {mem mem' : Nat → Option (List AC)} {b : Bool} {e : Eff} (h : AEff P n look mem o b e) (hm : memB o = false) (hld : ∀ ty x k off cs, o.op = .load ty x → look x = some (.w (.one (.own k off))) → mem k = some cs → mem' k = some cs) : AEff P n look mem' o b e := by
  cases h with
  | skip => exact .skip
  | quiet av hq => exact .quiet av hq
  | fresh av hq => exact .fresh av hq
  | load ty x k off cs av ho hx hm' hv => exact .load ty x k off cs av ho hx (hld ty x k off cs ho hx hm') hv
  | store ty x y k off cs z i ho hx hy hm' hi hs hb => simp [memB, ho] at hm
  | new cs d hdst hm' hn =>
    cases hn with
    | alloc ty i z cs ho => simp [memB, ho] at hm
    | box ty x z ho => simp [memB, ho] at hm
  | call g args r hc hp => exact .call g args r hc hp
theorem ldOK_congr {look look' : Operand → Option AV} (h : ldOK dr look o = true) (e : ∀ x ∈ o.op.operands, look' x = look x) : ldOK dr look' o = true := by
  unfold ldOK at h ⊢
  cases dr with
  | none => rfl
  | some hs =>
    simp only at h ⊢
    cases he : hs.isEmpty with
    | true => rfl
    | false =>
      rw [he] at h
      simp only [cond_false] at h ⊢
      cases ho : o.op with
      | load ty x =>
        rw [ho] at h
        simp only at h ⊢
        rw [e x (by simp [ho, Op.operands])]; exact h
      | _ => rfl
theorem ldOK_load {hs : List Nat} {look : Operand → Option AV} {ty : TypeId} {x : Operand} {k off : Nat} (h : ldOK (some hs) look o = true) (ho : o.op = .load ty x) (hx : look x = some (.w (.one (.own k off)))) : tch (some hs) k = false := by
  unfold ldOK at h
  simp only at h
  cases he : hs.isEmpty with
  | true =>
    have : hs = [] := List.isEmpty_iff.1 he
    subst this; rfl
  | false =>
    rw [he] at h
    simp only [cond_false, ho, hx, Bool.not_eq_true'] at h
    exact h
/-- the diamond: what leaves the rows as they are may be taken first. -/
theorem hOp_swap {b : Bool} {e : Eff} {K : Rws → AS → Prop} (ok : s.Ok) (hw : want ops oi s = some b) (he : SEff P ops (some hs) R s oi b e) (hdi : ∀ d, oi.dst = some d → d < s.n) (hap : oi.apart ops oj = true) (hma : MemSep s oi oj) (hra : rdB ops hs oi.dst = true → appB oj = false ∧ hotM (some hs) oj = false) (hmb : memB oi = true → hotM (some hs) oj = false) (h : hOp P ops (some hs) oj K R (e.on oi.dst s)) :
    hOp P ops (some hs) oj (fun R' t => (∃ (f : Eff) (mm : Mem), t = f.on oj.dst { s with mem := mm }) ∧ (want ops oi t = some b ∧ SEff P ops (some hs) R' t oi b e ∧ (∀ d, oi.dst = some d → d < t.n) ∧ t.Ok) ∧ K R' (e.on oi.dst t)) R s := by
  obtain ⟨a1, a2, a3⟩ := Oper.apart_spec hap
  obtain ⟨c, hwj, hdj, hh⟩ := h
  rw [want_put (b := none) a1] at hwj
  have hdj' : ∀ d, oj.dst = some d → d < s.n := fun d hd => by have := hdj d hd; rwa [Eff.on_n] at this
  have lj : ∀ x ∈ oj.op.operands, (e.on oi.dst s).look x = s.look x := fun x hx => Eff.on_look _ _ _ fun d hd => looks_op (a1 d hd) hx
  have li : ∀ (f : Eff), ∀ x ∈ oi.op.operands, (f.on oj.dst s).look x = s.look x := fun f x hx => Eff.on_look _ _ _ fun d hd => looks_op (a3 d hd) hx
  have wi : ∀ f : Eff, want ops oi (f.on oj.dst s) = some b := fun f => by rw [want_put (b := none) a3]; exact hw
  have ni : ∀ f : Eff, ∀ d, oi.dst = some d → d < (f.on oj.dst s).n := fun f d hd => by rw [Eff.on_n]; exact hdi d hd
  have cm : ∀ f : Eff, f.m = none → f.on oj.dst (e.on oi.dst s) = e.on oi.dst (f.on oj.dst s) := fun f hf => Eff.on_comm e f oi.dst oj.dst s a2 fun k cs j ds _ h2 => by rw [hf] at h2; cases h2
  -- what oi does, behind an operation that leaves memory alone
  have si : ∀ (R' : Rws) (f : Eff), f.m = none → (rdB ops hs oi.dst = true → RLe R R') → SEff P ops (some hs) R' (f.on oj.dst s) oi b e := fun R' f hf hl => by
    cases he with
    | cold b e he ht =>
      refine .cold _ _ ?_ (ldOK_congr ht (li f))
      rw [Eff.on_n, Eff.on_mem, hf]
      exact he.cong (li f)
    | read av h hc hr => exact .read av ((h.rows (hl hr)).congr (li f)) hc hr
  refine ⟨c, hwj, hdj', ?_⟩
  rcases hh with ⟨f, hf, hk⟩ | ⟨hb, d, f, hdst, hf, hk⟩ | ⟨_, hdr, _⟩ | ⟨_, hdr, _⟩ | ⟨hb, hm, hc⟩ | ⟨hb, hm, hc⟩
  · left
    cases hf with
    | cold c f hf htj =>
      have htj' := ldOK_congr htj fun x hx => (lj x hx).symm
      cases id he with
      | cold b e hei hti =>
        obtain ⟨h1, h2, h3⟩ := AEff.swap ok hei hf hap hma
        exact ⟨f, .cold _ _ h1 htj', ⟨f, s.mem, rfl⟩, ⟨wi f, .cold _ _ h2 (ldOK_congr hti (li f)), ni f, eff_ok ok h1 hdj'⟩, by rw [← h3]; exact hk⟩
      | read av h hc hr =>
        have h1 : AEff P s.n s.look s.mem oj c f := by
          have : AEff P s.n ((⟨av, none⟩ : Eff).on oi.dst s).look s.mem oj c f := by
            have := hf
            rw [Eff.on_n, Eff.on_mem] at this
            exact this
          exact this.cong fun x hx => (lj x hx).symm
        refine ⟨f, .cold _ _ h1 htj', ⟨f, s.mem, rfl⟩, ⟨wi f, .read av (h.congr (li f)) hc hr, ni f, eff_ok ok h1 hdj'⟩, ?_⟩
        have : f.on oj.dst ((⟨av, none⟩ : Eff).on oi.dst s) = (⟨av, none⟩ : Eff).on oi.dst (f.on oj.dst s) := Eff.on_comm _ f oi.dst oj.dst s a2 fun k cs j ds h1 _ => by cases h1
        rw [← this]; exact hk
    | read av hr hc hrd =>
      have h1 : HRead P R s.look oj av := hr.congr fun x hx => (lj x hx).symm
      refine ⟨⟨av, none⟩, .read av h1 hc hrd, ⟨⟨av, none⟩, s.mem, rfl⟩, ⟨wi _, si R _ rfl (fun _ => .refl R), ni _, ok.put fun j hj => absurd hj (hc j)⟩, ?_⟩
      rw [← cm _ rfl]; exact hk
  · right; left
    have h1 : HWr P R s.look oj f := hf.congr fun x hx => (lj x hx).symm
    refine ⟨hb, d, f, hdst, h1, fun v' hv => ?_⟩
    have e1 : s.put (some d) (vC v') = (⟨vC v', none⟩ : Eff).on oj.dst s := by rw [hdst]; rfl
    have e2 : (e.on oi.dst s).put (some d) (vC v') = (⟨vC v', none⟩ : Eff).on oj.dst (e.on oi.dst s) := by rw [hdst]; rfl
    have h2 := hk v' hv
    have ok2 := putC_ok ok d v'
    rw [e2, cm _ rfl] at h2
    rw [e1] at ok2 ⊢
    exact ⟨⟨_, s.mem, rfl⟩, ⟨wi _, si (f v') _ rfl (fun hh => h1.ext (hra hh).1 v'), ni _, ok2⟩, h2⟩
  · cases hdr
  · cases hdr
  · right; right; right; right; left
    refine ⟨hb, hm, ?_⟩
    have hmi : memB oi = false := by
      cases hx : memB oi with
      | false => rfl
      | true => rw [hmb hx] at hm; cases hm
    have hem : AEff P s.n s.look s.mem oi b e ∧ ldOK (some hs) s.look oi = true := by
      cases he with
      | cold b e he ht => exact ⟨he, ht⟩
      | read av h hc hr => rw [(hra hr).2] at hm; cases hm
    have hen : e.m = none := hem.1.nom hmi
    obtain ⟨f, args, m0, R0, Post, hcok, hp, ho, hmm, hr, mo, hk⟩ := hc.ex
    refine ⟨f, args, m0, R0, Post, hcok.congr (fun x hx => (lj x hx).symm), hp, ho, fun k cs h0 => ?_, hr, mo, fun r m' R' h1 h2 h3 h4 => ?_⟩
    · obtain ⟨this, ht⟩ := hmm k cs h0
      rw [Eff.on_mem, hen] at this
      exact ⟨this, ht⟩
    · obtain ⟨f1, hK⟩ := hk r m' R' h1 h2 h3 h4
      have et : (s.over m').put oj.dst r = (⟨r, none⟩ : Eff).on oj.dst { s with mem := ovr m' s.mem } := rfl
      have es : ((e.on oi.dst s).over m').put oj.dst r = e.on oi.dst ((s.over m').put oj.dst r) := by
        have e0 : e.on oi.dst s = s.put oi.dst e.v := by unfold Eff.on; rw [hen]
        have e1 : e.on oi.dst ((s.over m').put oj.dst r) = ((s.over m').put oj.dst r).put oi.dst e.v := by unfold Eff.on; rw [hen]
        have e2 : (s.put oi.dst e.v).over m' = (s.over m').put oi.dst e.v := by cases oi.dst <;> rfl
        rw [e0, e1, e2]
        exact AS.put_comm (s.over m') e.v r a2
      have f1' : ∀ k cs', m' k = some cs' → (∃ cs, m0 k = some cs) ∨ (s.mem k = none ∧ k < s.n) := fun k cs' h0 => by
        have := f1 k cs' h0
        rw [Eff.on_mem, hen, Eff.on_n] at this
        exact this
      have hmem' : AEff P s.n s.look (ovr m' s.mem) oi b e := hem.1.nomem hmi fun ty x k off cs ho hx hk => by
        have ht := ldOK_load hem.2 ho hx
        cases hmk : m' k with
        | none => rw [ovr_r hmk]; exact hk
        | some c =>
          rcases f1' k c hmk with ⟨c0, h0⟩ | ⟨h0, _⟩
          · rw [(hmm k c0 h0).2] at ht; cases ht
          · rw [h0] at hk; cases hk
      refine ⟨fun k cs' h0 => ?_, ⟨⟨_, _, et⟩, ⟨?_, ?_, fun d hd => ?_, ok.over_put_ok h3 h2 _⟩, by rw [← es]; exact hK⟩⟩
      · exact f1' k cs' h0
      · rw [et, want_put (b := none) a3]; exact hw
      · refine .cold _ _ ?_ (ldOK_congr hem.2 fun x hx => by rw [et]; exact (Eff.on_look _ _ _ fun d hd => looks_op (a3 d hd) hx).trans (by cases x <;> rfl))
        have hl : ∀ x ∈ oi.op.operands, ((s.over m').put oj.dst r).look x = s.look x := fun x hx => by
          rw [et]
          exact (Eff.on_look _ _ _ fun d hd => looks_op (a3 d hd) hx).trans (by cases x <;> rfl)
        have hn : ((s.over m').put oj.dst r).n = s.n := by rw [AS.n_put]; rfl
        rw [hn, AS.mem_put]
        exact hmem'.cong hl
      · rw [AS.n_put]; exact hdi d hd
  · right; right; right; right; right
    refine ⟨hb, hm, ?_⟩
    have hmi : memB oi = false := by
      cases hx : memB oi with
      | false => rfl
      | true => rw [hmb hx] at hm; cases hm
    have hem : AEff P s.n s.look s.mem oi b e ∧ ldOK (some hs) s.look oi = true := by
      cases he with
      | cold b e he ht => exact ⟨he, ht⟩
      | read av h hc hr => rw [(hra hr).2] at hm; cases hm
    have hen : e.m = none := hem.1.nom hmi
    obtain ⟨f, args, m0, R0, Post, hcok, hp, ho, hmm, hr, mo, hk⟩ := hc.ex
    refine ⟨f, args, m0, R0, Post, hcok.congr (fun x hx => (lj x hx).symm), hp, ho, fun k cs h0 => ?_, hr, mo, fun r m' R' h1 h2 h3 h4 => ?_⟩
    · obtain ⟨this, ht⟩ := hmm k cs h0
      rw [Eff.on_mem, hen] at this
      exact ⟨this, ht⟩
    · obtain ⟨f1, hK⟩ := hk r m' R' h1 h2 h3 h4
      have et : (s.over m').put oj.dst r = (⟨r, none⟩ : Eff).on oj.dst { s with mem := ovr m' s.mem } := rfl
      obtain ⟨i, d, q, hdst, hq1, hq2, hq3, hK⟩ := hK
      have hq2' : ((s.over m').put oj.dst r).tmps d = some (vC q.v) := by
        rw [hdst] at hq2 ⊢
        simp only [AS.put, upd_same] at hq2 ⊢
        exact hq2
      have hn' : ((s.over m').put oj.dst r).n = s.n := by rw [AS.n_put]; rfl
      have et2 : ((s.over m').put oj.dst r).put (some d) (vS q.sz q.n q.ys) = (⟨vS q.sz q.n q.ys, none⟩ : Eff).on oj.dst { s with mem := ovr m' s.mem } := by rw [hdst, put_put]; rfl
      have es2 : (((e.on oi.dst s).over m').put oj.dst r).put (some d) (vS q.sz q.n q.ys) = e.on oi.dst (((s.over m').put oj.dst r).put (some d) (vS q.sz q.n q.ys)) := by
        have e0 : e.on oi.dst s = s.put oi.dst e.v := by unfold Eff.on; rw [hen]
        have e1 : ∀ u : AS, e.on oi.dst u = u.put oi.dst e.v := fun u => by unfold Eff.on; rw [hen]
        have e2 : (s.put oi.dst e.v).over m' = (s.over m').put oi.dst e.v := by cases oi.dst <;> rfl
        rw [e0, e1, e2, hdst, put_put, put_put]
        exact AS.put_comm (s.over m') e.v _ (by rw [← hdst]; exact a2)
      rw [es2] at hK
      have hd0 : d < s.n := hdj' d hdst
      have f1' : ∀ k cs', m' k = some cs' → (∃ cs, m0 k = some cs) ∨ (s.mem k = none ∧ k < s.n) := fun k cs' h0 => by
        have := f1 k cs' h0
        rw [Eff.on_mem, hen, Eff.on_n] at this
        exact this
      have hmem' : AEff P s.n s.look (ovr m' s.mem) oi b e := hem.1.nomem hmi fun ty x k off cs ho hx hk => by
        have ht := ldOK_load hem.2 ho hx
        cases hmk : m' k with
        | none => rw [ovr_r hmk]; exact hk
        | some c =>
          rcases f1' k c hmk with ⟨c0, h0⟩ | ⟨h0, _⟩
          · rw [(hmm k c0 h0).2] at ht; cases ht
          · rw [h0] at hk; cases hk
      refine ⟨fun k cs' h0 => ?_, i, d, q, hdst, hq1, hq2', by rw [hn']; exact hd0, ⟨⟨_, _, et2⟩, ⟨?_, ?_, fun d hd => ?_, (ok.over_put_ok h3 h2 _).put fun j hj => absurd hj (noownp _ j)⟩, hK⟩⟩
      · exact f1' k cs' h0
      · rw [et2, want_put (b := none) a3]; exact hw
      · refine .cold _ _ ?_ (ldOK_congr hem.2 fun x hx => by rw [et2]; exact (Eff.on_look _ _ _ fun d hd => looks_op (a3 d hd) hx).trans (by cases x <;> rfl))
        have hl : ∀ x ∈ oi.op.operands, (((s.over m').put oj.dst r).put (some d) (vS q.sz q.n q.ys)).look x = s.look x := fun x hx => by
          rw [et2]
          exact (Eff.on_look _ _ _ fun d hd => looks_op (a3 d hd) hx).trans (by cases x <;> rfl)
        have hn : (((s.over m').put oj.dst r).put (some d) (vS q.sz q.n q.ys)).n = s.n := by rw [AS.n_put, AS.n_put]; rfl
        rw [hn, AS.mem_put, AS.mem_put]
        exact hmem'.cong hl
      · rw [AS.n_put, AS.n_put]; exact hdi d hd
theorem hAny_first {K : Rws → AS → Prop} {i : Nat} {b : Bool} {e : Eff} (hi : ops[i]? = some oi) : ∀ (fuel : Nat) (listed : Array Bool) (R : Rws) (s : AS),
      (∀ j oj, ops[j]? = some oj → j ≠ i → listed.getD j true = false → (∀ e ∈ oj.after, Region.binds .any e = true → e.on ≠ i) → waits .any ops 4 j i = false → waits .any ops 8 j i = false → oi.apart ops oj = true ∧ SepT ops listed oi oj s ∧ (memB oi = true → hotM (some hs) oj = false)) →
      Down .any ops listed → i ∈ Region.ready .any ops listed → s.Ok → want ops oi s = some b → SEff P ops (some hs) R s oi b e → (∀ d, oi.dst = some d → d < s.n) →
      hAny P .any ops hs K fuel (listed.setIfInBounds i true) R (e.on oi.dst s) → hAny P .any ops hs K (fuel + 1) listed R s := by
  intro fuel
  induction fuel with
  | zero =>
    intro listed R s _ hdn hr ok hw he hd H
    refine ⟨fun h => (by rw [h] at hr; cases hr), fun j hj oj hoj => ?_⟩
    by_cases hji : j = i
    · subst hji; rw [hi] at hoj; cases hoj; exact ⟨b, hw, hd, .inl ⟨e, he, H⟩⟩
    · have := ready_mono hj hji
      rw [H.1] at this
      cases this
  | succ fuel ih =>
    intro listed R s hfree hdn hr ok hw he hd H
    refine ⟨fun h => (by rw [h] at hr; cases hr), fun j hj oj hoj => ?_⟩
    by_cases hji : j = i
    · subst hji; rw [hi] at hoj; cases hoj; exact ⟨b, hw, hd, .inl ⟨e, he, H⟩⟩
    · have h1 := H.2 j (ready_mono hj hji) oj hoj
      obtain ⟨hjun, oj', hoj', hall⟩ := mem_ready.1 hj
      rw [hoj] at hoj'
      cases hoj'
      have hnot : ∀ e ∈ oj.after, Region.binds .any e = true → e.on ≠ i := fun e he hb heq => by
        have h1 := hall e he hb
        have h0 := (mem_ready.1 hr).1
        rw [heq] at h1
        rcases Nat.lt_or_ge i listed.size with h' | h'
        · simp [h'] at h0 h1; rw [h0] at h1; cases h1
        · simp [Array.getElem?_eq_none h'] at h1
      have hwt : ∀ f, waits .any ops f j i = false := fun f => by
        cases hwj : waits .any ops f j i with
        | false => rfl
        | true =>
          have h1 := waits_listed hdn f j i oj hoj hall hwj
          have h0 := (mem_ready.1 hr).1
          rcases Nat.lt_or_ge i listed.size with h' | h'
          · simp [h'] at h0 h1; rw [h0] at h1; cases h1
          · simp [Array.getElem?_eq_none h'] at h1
      have hra : rdB ops hs oi.dst = true → appB oj = false ∧ hotM (some hs) oj = false := fun h => by
        unfold rdB at h
        simp only [List.all_eq_true, List.mem_range] at h
        have h1 := h i (Array.getElem?_eq_some_iff.1 hi).1
        simp only [hi, beq_self_eq_true, Bool.not_true, Bool.false_or, List.all_eq_true, List.mem_range] at h1
        have h2 := h1 j (Array.getElem?_eq_some_iff.1 hoj).1
        simp only [hoj, hwt 8, Bool.or_false, Bool.not_eq_true', Bool.or_eq_false_iff] at h2
        exact h2
      obtain ⟨g1, g2, g3⟩ := hfree j oj hoj hji hjun hnot (hwt 4) (hwt 8)
      have h2 := hOp_swap ok hw he hd g1 g2.sep hra g3 h1
      refine hOp_mono ok (fun R' t okt h3 => ?_) h2
      obtain ⟨⟨f, mm, rfl⟩, h3⟩ := h3
      have hfree' : ∀ k ok, ops[k]? = some ok → k ≠ i → (listed.setIfInBounds j true).getD k true = false →
          (∀ e ∈ ok.after, Region.binds .any e = true → e.on ≠ i) → waits .any ops 4 k i = false → waits .any ops 8 k i = false → oi.apart ops ok = true ∧ SepT ops (listed.setIfInBounds j true) oi ok (f.on oj.dst { s with mem := mm }) ∧ (memB oi = true → hotM (some hs) ok = false) := fun k ok hk hki hun hno hwk hwk8 => by
        have hun' : listed.getD k true = false := by
          by_cases hjk : j = k
          · subst hjk; exact hjun
          · rwa [getD_set_ne true hjk] at hun
        obtain ⟨q1, q2, q3⟩ := hfree k ok hk hki hun' hno hwk hwk8
        exact ⟨q1, (show SepT ops listed oi ok { s with mem := mm } from q2).on hoj hjun, q3⟩
      refine ih (listed.setIfInBounds j true) R' _ hfree' (hdn.set hj) (ready_mono hr (Ne.symm hji)) h3.1.2.2.2 h3.1.1 h3.1.2.1 h3.1.2.2.1 ?_
      rw [Array.setIfInBounds_comm _ _ hji]
      exact h3.2
theorem hAny_sound {K : Rws → AS → Prop} {Q : Exit → Act → World → Prop} (hQ : ∀ R' s' a' w', s'.Ok → RRel B0 A0 R' s' a' w' → K R' s' → Q .normal a' w') : ∀ (fuel : Nat) (listed : Array Bool) (R : Rws) (s : AS) (a : Act) (w : World), s.Ok → RRel B0 A0 R s a w →
    hAny P md ops hs K fuel listed R s → wpAny P md ops Q fuel listed a w
  | 0, _, _, _, _, _, ok, hR, h => ⟨h.1, hQ _ _ _ _ ok hR h.2⟩
  | fuel + 1, listed, R, s, a, w, ok, hR, h => ⟨fun h0 => hQ _ _ _ _ ok hR (h.1 h0), fun i hi => by
      obtain ⟨h0, o, ho, _⟩ := mem_ready.1 hi
      exact hOp_sound ho ok hR (h.2 i hi o ho) fun R' s' a' w' ok' hR' hk => hAny_sound hQ fuel _ R' s' a' w' ok' hR' hk⟩
/-- the slots that no operation of the list writes hold in the end what they held. -/
theorem hList_end {K : Rws → AS → Prop} (hnh : ∀ o, hotM dr o = false) : ∀ (l : List Oper) (R : Rws) (s : AS), hList P ops dr K l R s → ∃ R' s', K R' s' ∧ ∀ t, (∀ o ∈ l, o.dst ≠ some t) → s'.tmps t = s.tmps t
  | [], R, s, h => ⟨R, s, h, fun _ _ => rfl⟩
  | o :: l, R, s, ⟨b, hw, hd, h⟩ => by
    rcases h with ⟨e, he, hK⟩ | ⟨_, d, f, hdst, hf, hK⟩ | ⟨_, _, R1, hdst, hf, hK⟩ | ⟨_, _, d, f, i, g, hdst, hf, hg, hK⟩ | ⟨_, hm, _⟩ | ⟨_, hm, _⟩
    · obtain ⟨R', s', h1, h2⟩ := hList_end hnh l _ _ hK
      exact ⟨R', s', h1, fun t ht => (h2 t fun o' ho' => ht o' (by simp [ho'])).trans (Eff.on_tmps (ht o (by simp)))⟩
    · obtain ⟨R', s', h1, h2⟩ := hList_end hnh l _ _ (hK (.bool false) rfl)
      refine ⟨R', s', h1, fun t ht => (h2 t fun o' ho' => ht o' (by simp [ho'])).trans ?_⟩
      have := ht o (by simp)
      rw [hdst] at this
      exact Eff.on_tmps (e := ⟨vC (.bool false), none⟩) this
    · obtain ⟨R', s', h1, h2⟩ := hList_end hnh l _ _ hK
      exact ⟨R', s', h1, fun t ht => h2 t fun o' ho' => ht o' (by simp [ho'])⟩
    · obtain ⟨R', s', h1, h2⟩ := hList_end hnh l _ _ (hK (.bool false) rfl)
      refine ⟨R', s', h1, fun t ht => (h2 t fun o' ho' => ht o' (by simp [ho'])).trans ?_⟩
      have := ht o (by simp)
      rw [hdst] at this
      exact Eff.on_tmps (e := ⟨vS (g (.bool false)).sz (g (.bool false)).n (g (.bool false)).ys, none⟩) this
    · rw [hnh o] at hm; cases hm
    · rw [hnh o] at hm; cases hm
def hotFree (ops : Array Oper) (hs : List Nat) (listed : Array Bool) (i : Nat) : Bool := (List.range ops.size).all fun j => Nat.beq j i || listed.getD j true || match ops[j]? with
  | some oj => !hotM (some hs) oj || waits .any ops 8 j i
  | none => true
def lexH (ops : Array Oper) (prs : List (Nat × Nat)) (hs : List Nat) : List Nat → Array Bool → Bool
  | [], listed => (Region.ready .any ops listed).isEmpty
  | k :: ord, listed => (bif (match ops[k]? with | some o => hotB o || hotM (some hs) o | none => true) then Region.ready .any ops listed == [k] else (Region.ready .any ops listed).contains k && Region.free .any ops listed k && memFree .any ops prs listed k && (!(match ops[k]? with | some o => memB o | none => true) || hotFree ops hs listed k)) && lexH ops prs hs ord (listed.setIfInBounds k true)
theorem HWr.hot {look : Operand → Option AV} {f : Value → Rws} (h : HWr P R look o f) : hotB o = true := by
  cases h with
  | app i r tt bytes m sx xx news hi ho => simp [hotB, ho]
  | new i t n e sz bytes parts vs zs r hi ho => simp [hotB, ho]
  | make i t l c e sz bytes x y kl kc vs hi ho => simp [hotB, ho]
theorem hAny_lex {K : Rws → AS → Prop} {prs : List (Nat × Nat)} (hne0 : prs = [] ∨ hs = []) : ∀ (ord : List Nat) (l : List Oper) (listed : Array Bool) (R : Rws) (s : AS), l.length = ord.length → (∀ (j : Nat), l[j]? = (ord[j]?).bind (ops[·]?)) → (∀ k ∈ ord, listed.getD k true = false) → (∀ k, k < ops.size → listed.getD k true = false → k ∈ ord) → ord.Nodup → Down .any ops listed → s.Ok →
    lexH ops prs hs ord listed = true → hList P ops (some hs) (fun R s => prs.all (sepB s) = true ∧ K R s) l R s → hAny P .any ops hs K l.length listed R s
  | [], [], _, _, _, _, _, _, _, _, _, _, hB, h => ⟨by simpa [lexH] using hB, h.2⟩
  | [], _ :: _, _, _, _, hlen, _, _, _, _, _, _, _, _ => by cases hlen
  | _ :: _, [], _, _, _, hlen, _, _, _, _, _, _, _, _ => by cases hlen
  | k :: ord, o :: l, listed, R, s, hlen, hl, hun, hcov, hnd, hdn, ok, hB, h => by
    have h0 : ops[k]? = some o := by simpa using (hl 0).symm
    have hend := fun hnh => hList_end (dr := some hs) hnh _ _ _ h
    simp only [lexH, h0, Bool.and_eq_true] at hB
    obtain ⟨hk, hB'⟩ := hB
    rw [List.nodup_cons] at hnd
    have hne : ∀ q ∈ ord, k ≠ q := fun q hq e => hnd.1 (by rw [e]; exact hq)
    have ih : ∀ R' s', s'.Ok → k ∈ Region.ready .any ops listed → hList P ops (some hs) (fun R s => prs.all (sepB s) = true ∧ K R s) l R' s' → hAny P .any ops hs K l.length (listed.setIfInBounds k true) R' s' := fun R' s' ok' hr hh => by
      refine hAny_lex hne0 ord l _ R' s' (by simpa using hlen) (fun j => by simpa using hl (j + 1)) (fun q hq => by rw [getD_set_ne true (hne q hq)]; exact hun q (by simp [hq])) (fun q hq hlq => ?_) hnd.2 (hdn.set hr) ok' hB' hh
      by_cases e' : k = q
      · subst e'
        have : k < listed.size := by
          have := hun k (by simp)
          rcases Nat.lt_or_ge k listed.size with h' | h'
          · exact h'
          · simp [Array.getElem?_eq_none h'] at this
        simp [this] at hlq
      · rw [getD_set_ne true e'] at hlq
        rcases List.mem_cons.1 (hcov q hq hlq) with h' | h'
        · exact absurd h'.symm e'
        · exact h'
    cases hh : (hotB o || hotM (some hs) o) with
    | true =>
      rw [hh] at hk
      simp only [cond_true, beq_iff_eq] at hk
      have hr : k ∈ Region.ready .any ops listed := by rw [hk]; simp
      refine ⟨fun h1 => (by rw [hk] at h1; cases h1), fun i hi oi hoi => ?_⟩
      rw [hk] at hi
      obtain rfl : i = k := by simpa using hi
      rw [h0] at hoi
      cases hoi
      exact hOp_mono ok (fun R' s' ok' hh => ih R' s' ok' hr hh) h
    | false =>
      rw [hh] at hk
      simp only [cond_false, Bool.and_eq_true] at hk
      obtain ⟨⟨⟨hr, hf⟩, hm⟩, hmh⟩ := hk
      rw [Bool.or_eq_false_iff] at hh
      have hr' : k ∈ Region.ready .any ops listed := by simpa using hr
      obtain ⟨b, hw, hd, h1⟩ := h
      rcases h1 with ⟨e, he, hK⟩ | ⟨_, d, f, hdst, hf', _⟩ | ⟨_, hdr, _⟩ | ⟨_, hdr, _⟩ | ⟨_, hm', _⟩ | ⟨_, hm', _⟩
      · have hsp : ∀ p ∈ prs, noWrite ops listed p.1 = true → noWrite ops listed p.2 = true → sepB s p = true := fun p hp n1 n2 => by
          have hs0 : hs = [] := by
            rcases hne0 with h0 | h0
            · rw [h0] at hp; cases hp
            · exact h0
          obtain ⟨R', s', ⟨h1, _⟩, h2⟩ := hend fun o => by rw [hs0]; simp [hotM]
          have nw : ∀ t, noWrite ops listed t = true → ∀ o' ∈ o :: l, o'.dst ≠ some t := fun t ht o' ho' => by
            obtain ⟨j, hj⟩ := List.getElem?_of_mem ho'
            rw [hl j] at hj
            cases hq : (k :: ord)[j]? with
            | none => rw [hq] at hj; cases hj
            | some q => rw [hq] at hj; exact noWrite_spec ht q o' hj (hun _ (List.mem_of_getElem? hq))
          have := List.all_eq_true.1 h1 p hp
          unfold sepB at this ⊢
          rw [h2 p.1 (nw _ n1), h2 p.2 (nw _ n2)] at this
          exact this
        refine hAny_first h0 l.length listed R s (fun j oj h1 h2 h3 h4 h5 h6 => ⟨Region.free_spec h0 hf j oj h1 h2 h3 h4, memFree_spec h0 hm hsp j oj h1 h2 h3 h5, fun hmb => ?_⟩) hdn hr' ok hw he hd ?_
        · rw [hmb] at hmh
          simp only [Bool.not_true, Bool.false_or] at hmh
          unfold hotFree at hmh
          simp only [List.all_eq_true, List.mem_range] at hmh
          have q := hmh j (Array.getElem?_eq_some_iff.1 h1).1
          simp only [h1, h3, h6, Bool.or_false, Bool.or_eq_true, Bool.not_eq_true'] at q
          rcases q with q | q
          · exact absurd (Nat.eq_of_beq_eq_true q) h2
          · exact q
        exact ih _ _ (he.ok ok hd) hr' hK
      · rw [hf'.hot] at hh; cases hh.1
      · cases hdr
      · cases hdr
      · rw [hh.2] at hm'; cases hm'
      · rw [hh.2] at hm'; cases hm'
/-- what holds of a piece of code, over states with rows. -/
def RWp (P : Program) (c : Code) (Q : Exit → Rws → AS → Prop) (R : Rws) (s : AS) : Prop :=
  s.Ok → ∀ B0 A0 a w, RRel B0 A0 R s a w → c.wp P (fun x a' w' => ∃ R' s', s'.Ok ∧ RRel B0 A0 R' s' a' w' ∧ Q x R' s') a w
def rdrawB (l : List Oper) (ord hs : List Nat) : Bool := ((needPrs l.toArray ord).isEmpty || hs.isEmpty) && Nat.beq ord.length l.length && ndB ord && (List.range l.length).all (fun i => ord.contains i) && ord.all (fun i => Nat.blt i l.length) && lexH l.toArray (needPrs l.toArray ord) hs ord (Array.replicate l.length false)
variable {Q : Exit → Rws → AS → Prop} {x y c : Code}
theorem rwp_drawH (ord hs : List Nat) {id : Nat} {l l' : List Oper} (hB : rdrawB l ord hs = true) (hm : P.follows .mixedOrders = true) (hl : getAll l ord = some l')
    (h : hList P l.toArray (some hs) (fun R s => (needPrs l.toArray ord).all (sepB s) = true ∧ Q .normal R s) l' R s) : RWp P (.region id l.toArray true) Q R s := by
  intro ok B0 A0 a w hR
  refine wp_region_any hm ?_
  unfold rdrawB at hB
  simp only [Bool.and_eq_true, List.all_eq_true, List.mem_range, List.contains_eq_mem, decide_eq_true_eq] at hB
  obtain ⟨⟨⟨⟨⟨bh, b0⟩, b1⟩, b2⟩, b3⟩, b4⟩ := hB
  obtain ⟨g1, g2⟩ := getAll_spec _ _ hl
  obtain ⟨A, ρ, hR⟩ := hR
  have hd : RR B0 A0 R s a { w with drawn := w.drawn + 1 } A ρ := hR.next (hR.rel.call ((Below.refl _ w).drew))
  refine hAny_sound (K := Q .normal) (hs := hs) (fun R' s' a' w' ok' hR' hk => ⟨R', s', ok', hR', hk⟩) _ _ R s a _ ok ⟨A, ρ, hd⟩ ?_
  have nd := ndB_spec _ b1
  have hlen : ord.length = l.length := Nat.eq_of_beq_eq_true b0
  have := hAny_lex (ops := l.toArray) (hs := hs) (by simpa [Bool.or_eq_true, List.isEmpty_iff] using bh) ord l' (Array.replicate l.length false) R s g1 (by simpa using g2) (fun q hq => by have := b3 q hq; simp [Nat.blt_eq] at this; simp [this]) (fun q hq _ => b2 q (by simpa using hq)) nd (fun k o hk => by exfalso; rcases Nat.lt_or_ge k l.length with q | q <;> simp [Array.getElem?_replicate, q] at hk) ok b4 h
  rw [g1, hlen] at this
  simpa using this
theorem rwp_draw (ord : List Nat) {id : Nat} {l l' : List Oper} (hB : rdrawB l ord [] = true) (hm : P.follows .mixedOrders = true) (hl : getAll l ord = some l')
    (h : hList P l.toArray (some []) (fun R s => (needPrs l.toArray ord).all (sepB s) = true ∧ Q .normal R s) l' R s) : RWp P (.region id l.toArray true) Q R s := rwp_drawH ord [] hB hm hl h
theorem hList_sound {K : Rws → AS → Prop} {Q : Exit → Act → World → Prop} (hQ : ∀ R' s' a' w', s'.Ok → RRel B0 A0 R' s' a' w' → K R' s' → Q .normal a' w') : ∀ (l : List Oper) (k : Nat) (R : Rws) (s : AS) (a : Act) (w : World), (∀ (j : Nat), l[j]? = ops[k + j]?) → s.Ok → RRel B0 A0 R s a w →
    hList P ops dr K l R s → wpOps P ops Q ((List.range l.length).map (k + ·)) a w
  | [], _, _, _, _, _, _, ok, hR, h => hQ _ _ _ _ ok hR h
  | o :: l, k, R, s, a, w, hl, ok, hR, h => by
    have h0 : ops[k]? = some o := by simpa using (hl 0).symm
    have e : (List.range (o :: l).length).map (k + ·) = k :: (List.range l.length).map (k + 1 + ·) := by
      rw [List.length_cons, List.range_succ_eq_map, List.map_cons, List.map_map]
      congr 1
      apply List.map_congr_left
      intro j _
      simp [Nat.add_assoc, Nat.add_comm 1 j]
    rw [e, wpOps_cons]
    refine hOp_sound h0 ok hR h fun R' s' a' w' ok' hR' hk => hList_sound hQ l (k + 1) R' s' a' w' (fun j => by have := hl (j + 1); simpa [Nat.add_assoc, Nat.add_comm 1 j] using this) ok' hR' hk
theorem rwp_region {id : Nat} {l : List Oper} (h : hList P l.toArray none (Q .normal) l R s) : RWp P (.region id l.toArray false) Q R s := by
  intro ok B0 A0 a w hR
  refine wp_region ?_
  have := hList_sound (ops := l.toArray) (K := Q .normal) (Q := fun e a' w' => ∃ R' s', s'.Ok ∧ RRel B0 A0 R' s' a' w' ∧ Q e R' s') (fun R' s' a' w' ok' hR' hk => ⟨R', s', ok', hR', hk⟩) l 0 R s a w (by simp) ok hR h
  simpa using this
def rthen (next : Rws → AS → Prop) (Q : Exit → Rws → AS → Prop) : Exit → Rws → AS → Prop
  | .normal, R, s => next R s
  | e, R, s => Q e R s
def rblock (id : Nat) (Q : Exit → Rws → AS → Prop) : Exit → Rws → AS → Prop
  | .exit id', R, s => bif Nat.beq id' id then Q .normal R s else Q (.exit id') R s
  | e, R, s => Q e R s
theorem rwp_awp (h : AWp P c (fun x s' => Q x R s') s) : RWp P c Q R s := by
  rintro ok B0 A0 a w ⟨A, ρ, hR⟩
  refine wp_mono (h ok (hbase s ρ w) A ρ a w hR.rel) ?_
  rintro x a' w' ⟨s', ρ', ok', hR', hq⟩
  exact ⟨R, s', ok', ⟨A, ρ', hR.next hR'⟩, hq⟩
theorem rwp_seq (h : RWp P x (rthen (fun R s => RWp P y Q R s) Q) R s) : RWp P (.seq x y) Q R s := by
  intro ok B0 A0 a w hH
  refine wp_seq (wp_mono (h ok B0 A0 a w hH) ?_)
  rintro x a' w' ⟨R', s', ok', hH', hq⟩
  cases x <;> first | exact hq ok' B0 A0 a' w' hH' | exact ⟨R', s', ok', hH', hq⟩
theorem rwp_skip (h : Q .normal R s) : RWp P .skip Q R s := fun ok B0 A0 a w hR => wp_skip ⟨R, s, ok, hR, h⟩
theorem rwp_label {l : Nat} (h : Q .normal R s) : RWp P (.label l) Q R s := fun ok B0 A0 a w hR => wp_label ⟨R, s, ok, hR, h⟩
theorem rwp_exit {id : Nat} (h : Q (.exit id) R s) : RWp P (.exit id) Q R s := fun ok B0 A0 a w hR => wp_exit ⟨R, s, ok, hR, h⟩
theorem rwp_ret (h : Q .ret R s) : RWp P .ret Q R s := fun ok B0 A0 a w hR => wp_ret ⟨R, s, ok, hR, h⟩
theorem rwp_block {id : Nat} (h : RWp P x (rblock id Q) R s) : RWp P (.block id x) Q R s := by
  intro ok B0 A0 a w hH
  refine wp_block (wp_mono (h ok B0 A0 a w hH) ?_)
  rintro x a' w' ⟨R', s', ok', hH', hq⟩
  cases x with
  | exit id' =>
    simp only [Exit.inBlock]
    simp only [rblock] at hq
    cases hb : Nat.beq id' id with
    | true => rw [hb] at hq; rw [if_pos (Nat.eq_of_beq_eq_true hb)]; exact ⟨R', s', ok', hH', hq⟩
    | false =>
      rw [hb] at hq
      have : id' ≠ id := fun e => by subst e; rw [Nat.beq_refl] at hb; cases hb
      rw [if_neg this]; exact ⟨R', s', ok', hH', hq⟩
  | _ => exact ⟨R', s', ok', hH', hq⟩
theorem rwp_cond {c : Operand} {b : Bool} (hc : s.look c = some (vB b)) (h1 : b = true → RWp P x Q R s) (h0 : b = false → RWp P y Q R s) : RWp P (.cond c x y) Q R s := by
  rintro ok B0 A0 a w ⟨A, ρ, hR⟩
  have hv : a.eval c = .bool b := (hR.rel.look hc).1
  refine wp_cond hv ?_
  cases b with
  | true => exact h1 rfl ok B0 A0 a w ⟨A, ρ, hR⟩
  | false => exact h0 rfl ok B0 A0 a w ⟨A, ρ, hR⟩
theorem rwp_cond_1 {c : Operand} {b : Bool} (hc : s.look c = some (vB b)) (hb : b = true) (h1 : RWp P x Q R s) : RWp P (.cond c x y) Q R s := rwp_cond hc (fun _ => h1) fun e => by rw [hb] at e; cases e
theorem rwp_cond_0 {c : Operand} {b : Bool} (hc : s.look c = some (vB b)) (hb : b = false) (h0 : RWp P y Q R s) : RWp P (.cond c x y) Q R s := rwp_cond hc (fun e => by rw [hb] at e; cases e) fun _ => h0
theorem rwp_less (R' : Rws) (s' : AS) (lR : RLe R' R) (l : s.Le s') (ok' : s'.Ok) (h : RWp P x Q R' s') : RWp P x Q R s := fun _ B0 A0 a w ⟨A, ρ, hR⟩ => h ok' B0 A0 a w ⟨A, ρ, (hR.le lR).les l⟩
theorem rwp_loopL (N : Nat) (I : Nat → Rws → List (Nat × AV) → List (Nat × List AC) → Prop) (k : Nat) (R0 : Rws) (ts : List (Nat × AV)) (ms : List (Nat × List AC)) (hI : I k R0 ts ms) (hl : RLe R0 R) (hn : N = s.n) (ht : allT s.tmps ts) (hm : allT s.mem ms) (hok : okB ts ms = true)
    (round : ∀ k R ts ms, I k R ts ms → okB ts ms = true → RWp P x (rthen (fun R' s' => ∃ k' R'' ts' ms', k' < k ∧ I k' R'' ts' ms' ∧ RLe R'' R' ∧ N = s'.n ∧ allT s'.tmps ts' ∧ allT s'.mem ms' ∧ okB ts' ms' = true) Q) R (mkS N ts ms)) : RWp P (.loop x) Q R s := by
  rintro ok B0 A0 a w ⟨A, ρ, hR⟩
  refine wp_loop_n (fun k a w => ∃ R ts ms, I k R ts ms ∧ okB ts ms = true ∧ RRel B0 A0 R (mkS N ts ms) a w) (n := k) ⟨R0, ts, ms, hI, hok, A, ρ, (hR.le hl).les (mkS_le hn ht hm)⟩ ?_
  rintro k a w ⟨R, ts, ms, hI, ok, hH⟩
  refine wp_mono (round k R ts ms hI ok (mkS_ok ok) B0 A0 a w hH) ?_
  rintro x a' w' ⟨R', s', ok', ⟨A', ρ', hH'⟩, hq⟩
  cases x with
  | normal =>
    obtain ⟨k', R'', ts', ms', h1, h2, h3, h4, h5, h6, h7⟩ := hq
    exact ⟨k', h1, R'', ts', ms', h2, h7, A', ρ', (hH'.le h3).les (mkS_le h4 h5 h6)⟩
  | _ => exact ⟨R', s', ok', ⟨A', ρ', hH'⟩, hq⟩
/-- code that begins with no rows; those that are left in the end are forgotten. -/
theorem awp_rows {Q : Exit → AS → Prop} (h : RWp P c (fun x R' s' => Q x s') noRows s) : AWp P c Q s := by
  intro ok B A ρ a w hR
  have hH : RR B A noRows s a w A ρ := ⟨hR.up, fun _ h => h, hR.hot fun b h => hR.up b (Nat.le_trans hR.below.size h), fun k cs hk => (hR.mm k cs hk).choose_spec.choose_spec.2.2, hR.below, fun i r hi => (by cases hi), fun i j r q hi => (by cases hi), fun i r g hi => (by cases hi), hR.anch⟩
  refine wp_mono (h ok B A a w ⟨A, ρ, hH⟩) ?_
  rintro x a' w' ⟨R', s', ok', ⟨A1, ρ1, h1⟩, hq⟩
  exact ⟨s', ρ1, ok', h1.rel.anew (fun b hb _ => ⟨h1.sub b hb, rfl⟩) (fun k cs hk => ⟨rfl, h1.mine k cs hk⟩) h1.below hR.up h1.anch, hq⟩
/-- a row that has nothing yet. -/
theorem rwp_nil (i e sz : Nat) (hi : R i = none) (h : RWp P c Q (upd R i ⟨e, sz, .slice none 0 0, 0, []⟩) s) : RWp P c Q R s := by
  rintro ok B0 A0 a w ⟨A, ρ, hR⟩
  refine h ok B0 A0 a w ⟨A, ρ, hR.up, hR.sub, hR.rel, hR.mine, hR.below, fun j r hj => ?_, fun j k r q hj hk hjk g hg => ?_, fun j r g hj hg => ?_, hR.anch⟩
  · by_cases e' : j = i
    · subst e'
      rw [upd_same] at hj
      cases hj
      exact ⟨⟨[], World.ownsRow_nil w 0 e sz, rfl, fun i x v hx => by simp at hx⟩, fun y hy => (by cases hy), fun g hg => (by cases hg)⟩
    · rw [upd_ne _ _ e'] at hj; exact hR.rows j r hj
  · by_cases e1 : j = i
    · subst e1; rw [upd_same] at hj; cases hj; cases hg
    · rw [upd_ne _ _ e1] at hj
      by_cases e2 : k = i
      · subst e2; rw [upd_same] at hk; cases hk; intro h; cases h
      · rw [upd_ne _ _ e2] at hk; exact hR.apart j k r q hj hk hjk g hg
  · by_cases e1 : j = i
    · subst e1; rw [upd_same] at hj; cases hj; cases hg
    · rw [upd_ne _ _ e1] at hj; exact hR.hot j r g hj hg
theorem rwp_cool (i d : Nat) (r : HRow) (hi : R i = some r) (hd : s.tmps d = some (vC r.v)) (h : RWp P c Q (fun j => if j = i then none else R j) (s.put (some d) (vS r.sz r.n r.ys))) : RWp P c Q R s := by
  rintro ok B0 A0 a w ⟨A, ρ, hR⟩
  have hdn : d < s.n := by
    obtain ⟨v, h1, _⟩ := hR.rel.tm d _ hd
    rw [← hR.rel.size]
    exact (Array.getElem?_eq_some_iff.1 h1).1
  obtain ⟨A', hR4⟩ := hR.cool i d r hi hd hdn
  exact h (ok.put fun j hj => absurd hj (noownp _ j)) B0 A0 a w ⟨A', ρ, hR4⟩
/-- a run of operations that leave the rows alone; reading; growing. -/
theorem hs_c {K : Rws → AS → Prop} {rest : List Oper} (ht : ldOK dr s.look o = true) (h : aList P ops (fun s' => hList P ops dr K rest R s') [o] s) : hList P ops dr K (o :: rest) R s := by
  obtain ⟨b, hw, e, he, hd, hk⟩ := h
  exact ⟨b, hw, hd, .inl ⟨e, .cold b e he ht, hk⟩⟩
theorem hs_nil {K : Rws → AS → Prop} (h : K R s) : hList P ops dr K [] R s := h
theorem hs_nilS {K : Rws → AS → Prop} {prs : List (Nat × Nat)} (hs : prs.all (sepB s) = true) (h : K R s) : hList P ops dr (fun R s => prs.all (sepB s) = true ∧ K R s) [] R s := ⟨hs, h⟩
variable {d ty : Nat} {pos : String} {after : Array Edge} {guard : Option (Nat × Bool)} {K : Rws → AS → Prop} {rest : List Oper}
theorem hs_read {op : Op} {av : AV} (hw : want ops ⟨some d, op, ty, pos, after, guard⟩ s = some true) (hq : HRead P R s.look ⟨some d, op, ty, pos, after, guard⟩ av) (hc : av.closedB = true) (hr : rdD ops dr (some d) = true) (hd : Nat.blt d s.n = true) (h : hList P ops dr K rest R (s.put (some d) av)) : hList P ops dr K (⟨some d, op, ty, pos, after, guard⟩ :: rest) R s :=
  ⟨true, hw, dst_ok hd, .inl ⟨⟨av, none⟩, .read av hq (AV.closed_of hc) hr, h⟩⟩
theorem hs_len {x : Operand} {t z : Nat} {r : HRow} (i : Nat) [S : SliOf P t z] (hi : R i = some r) (hw : want ops ⟨some d, .call ⟨.builtin .len, #[x], #[t]⟩, ty, pos, after, guard⟩ s = some true) (hx : s.look x = some (vC r.v)) (hr : rdD ops dr (some d) = true) (hd : Nat.blt d s.n = true) (h : hList P ops dr K rest R (s.put (some d) (vI r.n))) : hList P ops dr K (⟨some d, .call ⟨.builtin .len, #[x], #[t]⟩, ty, pos, after, guard⟩ :: rest) R s :=
  hs_read hw (.len i r t z x hi rfl hx S.h) rfl hr hd h
theorem hs_idx {x y : Operand} {t z : Nat} {r : HRow} {ik : IntKind} {j : Int} (i : Nat) [S : SliOf P t z] (hi : R i = some r) (hw : want ops ⟨some d, .indexAddr t x y, ty, pos, after, guard⟩ s = some true) (hx : s.look x = some (vC r.v)) (hy : s.look y = some (vC (.int ik j))) (h0 : 0 ≤ j) (h1 : j < r.n) (hz : z = r.sz) (hr : rdD ops dr (some d) = true) (hd : Nat.blt d s.n = true) (h : hList P ops dr K rest R (s.put (some d) (vC (rowPtr r.v (j.toNat * z))))) : hList P ops dr K (⟨some d, .indexAddr t x y, ty, pos, after, guard⟩ :: rest) R s := by
  subst hz
  exact hs_read hw (.idx i r t x y ik j hi rfl hx hy h0 h1 S.h) rfl hr hd h
theorem hs_loadN {x : Operand} {lt n off : Nat} {r : HRow} {zs : List AC} (i : Nat) [T : TyOf P lt true n] (hi : R i = some r) (hw : want ops ⟨some d, .load lt x, ty, pos, after, guard⟩ s = some true) (hx : s.look x = some (vC (rowPtr r.v off))) (hn : 0 < r.n) (hz : off + n ≤ r.ys.length ∧ (r.ys.drop off).take n = zs) (hc : (AV.w (.agg zs)).closedB = true) (hr : rdD ops dr (some d) = true) (hd : Nat.blt d s.n = true) (h : hList P ops dr K rest R (s.put (some d) (.w (.agg zs)))) : hList P ops dr K (⟨some d, .load lt x, ty, pos, after, guard⟩ :: rest) R s :=
  hs_read hw (.load i r off lt x _ hi hn rfl hx (by
    have hT := T.h
    unfold tyOf at hT
    unfold pick
    rw [← hz.2]
    cases hu : P.underlying lt with
    | none => rw [hu] at hT; cases hT
    | some D =>
      cases hii : P.info? lt with
      | none => rw [hu, hii] at hT; cases D <;> cases hT
      | some ti =>
        rw [hu, hii] at hT
        cases D <;> simp at hT <;> (subst hT; simp [hz.1]))) hc hr hd h
theorem hs_app {tt bytes m : Nat} {r : HRow} {sx xx : Operand} {news : List AC} (i : Nat) (hi : R i = some r) [T : RowTy P tt r.e r.sz bytes] (hw : want ops ⟨some d, .call ⟨.builtin .append, #[sx, xx], #[tt, tt]⟩, ty, pos, after, guard⟩ s = some true) (hx : s.look sx = some (vC r.v)) (hy : s.look xx = some (vS r.sz m news)) (h0 : 0 < m ∨ 0 < r.n) (h1 : r.n + m ≤ maxLen) (h2 : (r.n + m) * bytes ≤ 140737488355328) (hc : news.all AC.closedB = true) (hd : Nat.blt d s.n = true)
    (h : ∀ v', v'.oneCell' = true → hList P ops dr K rest (upd R i ⟨r.e, r.sz, v', r.n + m, r.ys ++ news⟩) (s.put (some d) (vC v'))) : hList P ops dr K (⟨some d, .call ⟨.builtin .append, #[sx, xx], #[tt, tt]⟩, ty, pos, after, guard⟩ :: rest) R s :=
  ⟨true, hw, dst_ok hd, .inr (.inl ⟨rfl, d, _, rfl, .app i r tt bytes m sx xx news hi rfl T.h hx hy h1 h2 (List.all_eq_true.1 hc), h⟩)⟩
theorem hs_new {t n e sz bytes : Nat} {parts : List (Nat × Operand)} {vs : List Value} {zs : List (Nat × AW)} {r : List AC} (i : Nat) (hi : R i = none) [T : RowTy P t e sz bytes] [Z : SliZ P t vs] (hw : want ops ⟨some d, .buildSlice t n parts.toArray, ty, pos, after, guard⟩ s = some true) (hz : lookP s.look parts = some zs) (hb : buildN (plcN n sz) (zeroN n sz vs) zs = some r)
    (h1 : (vs.all fun v => v.oneCell') = true) (hs : Nat.beq vs.length sz = true) (h0 : Nat.blt 0 (n * sz) = true) (h2 : Nat.ble (n * sz) 16777216 = true) (h3 : n ≤ maxLen) (hr : Nat.beq r.length (n * sz) = true) (hcl : r.all AC.closedB = true) (hd : Nat.blt d s.n = true)
    (h : ∀ v', v'.oneCell' = true → hList P ops dr K rest (upd R i ⟨e, sz, v', n, r⟩) (s.put (some d) (vC v'))) : hList P ops dr K (⟨some d, .buildSlice t n parts.toArray, ty, pos, after, guard⟩ :: rest) R s :=
  ⟨true, hw, dst_ok hd, .inr (.inl ⟨rfl, d, _, rfl, .new i t n e sz bytes parts vs zs r hi rfl T.h Z.h hz hb h1 (Nat.eq_of_beq_eq_true hs) (by simpa [Nat.ble_eq] using h2) h3 (Nat.eq_of_beq_eq_true hr) (List.all_eq_true.1 hcl), h⟩)⟩
/-- as hs_app, where nothing may come behind nothing. -/
theorem hs_app0 {tt bytes m : Nat} {r : HRow} {sx xx : Operand} {news : List AC} (i : Nat) (hi : R i = some r) [T : RowTy P tt r.e r.sz bytes] (hw : want ops ⟨some d, .call ⟨.builtin .append, #[sx, xx], #[tt, tt]⟩, ty, pos, after, guard⟩ s = some true) (hx : s.look sx = some (vC r.v)) (hy : s.look xx = some (vS r.sz m news)) (h1 : r.n + m ≤ maxLen) (h2 : (r.n + m) * bytes ≤ 140737488355328) (hc : news.all AC.closedB = true) (hd : Nat.blt d s.n = true)
    (h : ∀ v', v'.oneCell' = true → hList P ops dr K rest (upd R i ⟨r.e, r.sz, v', r.n + m, r.ys ++ news⟩) (s.put (some d) (vC v'))) : hList P ops dr K (⟨some d, .call ⟨.builtin .append, #[sx, xx], #[tt, tt]⟩, ty, pos, after, guard⟩ :: rest) R s :=
  ⟨true, hw, dst_ok hd, .inr (.inl ⟨rfl, d, _, rfl, .app i r tt bytes m sx xx news hi rfl T.h hx hy h1 h2 (List.all_eq_true.1 hc), h⟩)⟩
/-- an append, and the row is given up. -/
theorem hs_appC {tt bytes m k : Nat} {r : HRow} {sx xx : Operand} {news zs : List AC} (i : Nat) (hi : R i = some r) [T : RowTy P tt r.e r.sz bytes] (hw : want ops ⟨some d, .call ⟨.builtin .append, #[sx, xx], #[tt, tt]⟩, ty, pos, after, guard⟩ s = some true) (hx : s.look sx = some (vC r.v)) (hy : s.look xx = some (vS r.sz m news)) (h1 : r.n + m ≤ maxLen) (h2 : (r.n + m) * bytes ≤ 140737488355328) (hk : r.n + m = k) (hz : r.ys ++ news = zs) (hc : news.all AC.closedB = true) (hd : Nat.blt d s.n = true)
    (h : hList P ops none K rest (fun j => if j = i then none else R j) (s.put (some d) (vS r.sz k zs))) : hList P ops none K (⟨some d, .call ⟨.builtin .append, #[sx, xx], #[tt, tt]⟩, ty, pos, after, guard⟩ :: rest) R s := by
  subst hk hz
  refine ⟨true, hw, dst_ok hd, .inr (.inr (.inr (.inl ⟨rfl, rfl, d, _, i, fun v' => ⟨r.e, r.sz, v', r.n + m, r.ys ++ news⟩, rfl, .app i r tt bytes m sx xx news hi rfl T.h hx hy h1 h2 (List.all_eq_true.1 hc), fun v' => ⟨upd_same _ _ _, rfl⟩, fun v' hv => ?_⟩)))⟩
  have : (fun j => if j = i then none else upd R i ⟨r.e, r.sz, v', r.n + m, r.ys ++ news⟩ j) = fun j => if j = i then none else R j := by
    funext j
    by_cases e : j = i
    · rw [if_pos e, if_pos e]
    · rw [if_neg e, if_neg e, upd_ne _ _ e]
  rw [this]
  exact h
/-- []T{}: nothing is written down yet. -/
theorem hs_new0 {t e sz bytes : Nat} {vs : List Value} (i : Nat) (hi : R i = none) [T : RowTy P t e sz bytes] [Z : SliZ P t vs] (hw : want ops ⟨some d, .buildSlice t 0 #[], ty, pos, after, guard⟩ s = some true)
    (h1 : (vs.all fun v => v.oneCell') = true) (hs : Nat.beq vs.length sz = true) (hd : Nat.blt d s.n = true)
    (h : ∀ v', v'.oneCell' = true → hList P ops dr K rest (upd R i ⟨e, sz, v', 0, []⟩) (s.put (some d) (vC v'))) : hList P ops dr K (⟨some d, .buildSlice t 0 #[], ty, pos, after, guard⟩ :: rest) R s :=
  ⟨true, hw, dst_ok hd, .inr (.inl ⟨rfl, d, _, rfl, .new i t 0 e sz bytes [] vs [] [] hi rfl T.h Z.h rfl (by simp [zeroN, buildN]) h1 (Nat.eq_of_beq_eq_true hs) (by simp) (Nat.zero_le _) (by simp) (fun y hy => by cases hy), h⟩)⟩
/-- make([]T, l, c). -/
theorem hs_make {t l c' e sz bytes : Nat} {x y : Operand} {kl kc : IntKind} {vs : List Value} (i : Nat) (hi : R i = none) [T : RowTy P t e sz bytes] [Z : SliZ P t vs] (hw : want ops ⟨some d, .makeSlice t x y, ty, pos, after, guard⟩ s = some true) (hx : s.look x = some (vC (.int kl l))) (hy : s.look y = some (vC (.int kc c'))) (hl : l ≤ c')
    (h1 : (vs.all fun v => v.oneCell') = true) (hs : Nat.beq vs.length sz = true) (h2 : bytes * c' ≤ 281474976710656) (h3 : c' ≤ maxLen) (hd : Nat.blt d s.n = true)
    (h : ∀ v', v'.oneCell' = true → hList P ops dr K rest (upd R i ⟨e, sz, v', l, zeroN l sz vs⟩) (s.put (some d) (vC v'))) : hList P ops dr K (⟨some d, .makeSlice t x y, ty, pos, after, guard⟩ :: rest) R s :=
  ⟨true, hw, dst_ok hd, .inr (.inl ⟨rfl, d, _, rfl, .make i t l c' e sz bytes x y kl kc vs hi rfl T.h Z.h hx hy hl h1 (Nat.eq_of_beq_eq_true hs) h2 h3, h⟩)⟩
/-- r[j] = y, where the order is the text's. -/
theorem hs_store {x y : Operand} {st off : Nat} {r : HRow} {z : AW} {ti : TypeInfo} (i : Nat) (hi : R i = some r) (hw : want ops ⟨none, .store st x y, ty, pos, after, guard⟩ s = some true) (hx : s.look x = some (vC (rowPtr r.v off))) (hy : s.look y = some (.w z)) (hn : 0 < r.n) (ht : P.info? st = some ti) (hs : ti.size = z.cells.length) (hb : off + z.cells.length ≤ r.ys.length) (hc : z.cells.all AC.closedB = true)
    (h : hList P ops none K rest (upd R i ⟨r.e, r.sz, r.v, r.n, splice r.ys off z.cells⟩) s) : hList P ops none K (⟨none, .store st x y, ty, pos, after, guard⟩ :: rest) R s :=
  ⟨true, hw, (fun d hd => by cases hd), .inr (.inr (.inl ⟨rfl, rfl, _, rfl, .store i r off st x y z ti hi hn rfl hx hy ht hs hb (List.all_eq_true.1 hc), h⟩))⟩
theorem hs_load1 {x : Operand} {lt off : Nat} {r : HRow} {c1 : AC} (i : Nat) [T : TyOf P lt false 1] (hi : R i = some r) (hw : want ops ⟨some d, .load lt x, ty, pos, after, guard⟩ s = some true) (hx : s.look x = some (vC (rowPtr r.v off))) (hn : 0 < r.n) (hz : r.ys[off]? = some c1) (hc : (AV.w (.one c1)).closedB = true) (hr : rdD ops dr (some d) = true) (hd : Nat.blt d s.n = true) (h : hList P ops dr K rest R (s.put (some d) (.w (.one c1)))) : hList P ops dr K (⟨some d, .load lt x, ty, pos, after, guard⟩ :: rest) R s :=
  hs_read hw (.load i r off lt x _ hi hn rfl hx (by
    have hT := T.h
    unfold tyOf at hT
    unfold pick
    cases hu : P.underlying lt with
    | none => rw [hu] at hT; cases hT
    | some D =>
      cases hii : P.info? lt with
      | none => rw [hu, hii] at hT; cases D <;> simp at hT <;> simp [hz]
      | some ti =>
        rw [hu, hii] at hT
        cases D <;> simp at hT <;> simp [hz])) hc hr hd h
theorem rthen_normal {next : Rws → AS → Prop} (h : next R s) : rthen next Q .normal R s := h
theorem rthen_exit {next : Rws → AS → Prop} {i : Nat} (h : Q (.exit i) R s) : rthen next Q (.exit i) R s := h
theorem rthen_ret {next : Rws → AS → Prop} (h : Q .ret R s) : rthen next Q .ret R s := h
theorem rblock_normal {i : Nat} (h : Q .normal R s) : rblock i Q .normal R s := h
theorem rblock_ret {i : Nat} (h : Q .ret R s) : rblock i Q .ret R s := h
theorem rblock_ne {i j : Nat} (hne : Nat.beq j i = false) (h : Q (.exit j) R s) : rblock i Q (.exit j) R s := by simp only [rblock, hne, cond_false]; exact h
theorem rblock_same {i : Nat} (h : Q .normal R s) : rblock i Q (.exit i) R s := by simp only [rblock, Nat.beq_refl, cond_true]; exact h
end
end Go.Proofs.Ytpopeipcjpfbaaa
