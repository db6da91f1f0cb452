/-
  Regions, and all code, over states without addresses. My own text.
-/
import Derived.Test.YtinjgiigmlikpaaAbsD
namespace Go.Proofs.Ytinjgiigmlikpaa
open Go.RowKit
set_option linter.unusedVariables false
set_option linter.unusedSimpArgs false
section
variable {P : Program} {B : World} {A : Nat → Prop} {s s1 s2 s' : AS} {ρ : Nat → Nat} {a : Act} {w : World} {o oi oj : Oper} {ops : Array Oper} {md : Region.Mode}
theorem look_ok {x : Operand} {av : AV} {j : Nat} (ok : s.Ok) (hx : s.look x = some av) (hj : av.owns j) : ∃ cs, s.mem j = some cs := by
  have none : ∀ v, ¬ (AV.w (.one (.c v))).owns j := fun v ⟨y, hy, h⟩ => by simp [AW.cells] at hy; subst hy; cases h
  cases x with
  | tmp t => exact ok.tm t av j hx hj
  | const v =>
    simp only [AS.look] at hx
    split at hx
    · cases hx; exact absurd hj (none _)
    · cases hx
  | global g => cases hx; exact absurd hj (none _)
  | func g => cases hx; exact absurd hj (none _)
theorem AS.Ok.put {dst : Option Nat} {av : AV} (ok : s.Ok) (h : ∀ j, av.owns j → ∃ cs, s.mem j = some cs) : (s.put dst av).Ok := by
  cases dst with
  | none => exact ok
  | some d =>
    refine ⟨fun t bv j ht hj => ?_, ok.mm⟩
    simp only [AS.put] at ht ⊢
    by_cases e : t = d
    · subst e; rw [upd_same] at ht; cases ht; exact h j hj
    · rw [upd_ne _ _ e] at ht; exact ok.tm t bv j ht hj
theorem AS.Ok.setm {k : Nat} {cs : List AC} (ok : s.Ok) (h : ∀ x ∈ cs, ∀ j, x.owns j → ∃ cs', s.mem j = some cs') : (s.setm k cs).Ok := by
  have up : ∀ j, (∃ c, s.mem j = some c) → ∃ c, (s.setm k cs).mem j = some c := fun j ⟨c, hc⟩ => by
    by_cases e : j = k
    · exact ⟨cs, by rw [e]; exact upd_same _ _ _⟩
    · exact ⟨c, by simp only [AS.setm]; rw [upd_ne _ _ e]; exact hc⟩
  refine ⟨fun t bv j ht hj => up j (ok.tm t bv j ht hj), fun k' c x j hk hx hj => up j ?_⟩
  simp only [AS.setm] at hk
  by_cases e : k' = k
  · subst e; rw [upd_same] at hk; cases hk; exact h x hx j hj
  · rw [upd_ne _ _ e] at hk; exact ok.mm k' c x j hk hx hj
theorem pick_mem {ty : TypeId} {cs : List AC} {off : Nat} {av : AW} (h : pick P ty cs off = some av) : ∀ x ∈ av.cells, x ∈ cs := by
  unfold pick at h
  split at h
  · cases hi : P.info? ty with
    | none => rw [hi] at h; cases h
    | some i =>
      rw [hi] at h
      simp only [Option.bind_some] at h
      split at h
      · cases h; exact fun x hx => List.mem_of_mem_drop (List.mem_of_mem_take hx)
      · cases h
  · cases hi : P.info? ty with
    | none => rw [hi] at h; cases h
    | some i =>
      rw [hi] at h
      simp only [Option.bind_some] at h
      split at h
      · cases h; exact fun x hx => List.mem_of_mem_drop (List.mem_of_mem_take hx)
      · cases h
  · cases hx : cs[off]? with
    | none => rw [hx] at h; cases h
    | some y => rw [hx] at h; cases h; intro x hx'; simp [AW.cells] at hx'; subst hx'; exact List.mem_of_getElem? hx
  · cases h
theorem AStep.ok (h : AStep P s o s') (ok : s.Ok) : s'.Ok := by
  cases h with
  | quiet av hq hd =>
    refine ok.put fun j hj => ?_
    obtain ⟨x, hx, b, hb, hbj⟩ := hq.own j hj
    exact look_ok ok hb hbj
  | load ty x k off cs av ho hx hm hv hd =>
    refine ok.put fun j hj => ?_
    obtain ⟨y, hy, hyj⟩ := hj
    exact ok.mm k cs y j hm (pick_mem hv y hy) hyj
  | store ty x y k off cs z i ho hx hy hm hi hs hb hd =>
    rw [AS.put_setm]
    refine AS.Ok.put (ok.setm fun x hx j hj => ?_) fun j hj => (by obtain ⟨y, hy, _⟩ := hj; cases hy)
    unfold splice at hx
    simp only [List.mem_append] at hx
    rcases hx with (h1 | h1) | h1
    · exact ok.mm k cs x j hm (List.mem_of_mem_take h1) hj
    · exact look_ok ok hy ⟨x, h1, hj⟩
    · exact ok.mm k cs x j hm (List.mem_of_mem_drop h1) hj
  | new cs d hdst hm hn hd =>
    refine AS.Ok.put (ok.setm fun x hx j hj => ?_) fun j hj => ?_
    · cases hn with
      | alloc ty i z cs ho hi hz hc h1 => subst hc; obtain ⟨v, _, rfl⟩ := List.mem_map.1 hx; cases hj
      | box ty y z ho hy => exact look_ok ok hy ⟨x, hx, hj⟩
    · obtain ⟨y, hy, hyj⟩ := hj
      simp [AW.cells] at hy
      subst hy
      cases hyj
      exact ⟨cs, upd_same _ _ _⟩
  | call f args r hc hp hd => exact ok.put fun j hj => absurd hj (hp.cr j)
/-- one operation comes up, or is passed by. -/
def aOp (P : Program) (ops : Array Oper) (o : Oper) (K : AS → Prop) (s : AS) : Prop :=
  ∃ b, want ops o s = some b ∧ ∃ e, AEff P s.n s.look s.mem o b e ∧ (∀ d, o.dst = some d → d < s.n) ∧ K (e.on o.dst s)
def aAny (P : Program) (md : Region.Mode) (ops : Array Oper) (K : AS → Prop) : Nat → Array Bool → AS → Prop
  | 0, listed, s => Region.ready md ops listed = [] ∧ K s
  | fuel + 1, listed, s => (Region.ready md ops listed = [] → K s) ∧
    ∀ i ∈ Region.ready md ops listed, ∀ o, ops[i]? = some o → aOp P ops o (aAny P md ops K fuel (listed.setIfInBounds i true)) s
theorem want_sound {b : Bool} (h : want ops o s = some b) (hR : Rel B A s ρ a w) : Region.wanted o (yielded ops a.tmps) = b := by
  unfold want at h
  unfold Region.wanted
  split at h
  · rename_i hg; rw [hg]; cases h; rfl
  · rename_i g b' hg
    rw [hg]
    split at h
    · rename_i d hd
      split at h
      · rename_i x hx
        cases h
        obtain ⟨v, h1, h2⟩ := hR.tm d _ hx
        obtain ⟨rfl, _⟩ := h2
        simp [yielded, hd, h1]
      · rename_i xs hx
        cases h
        obtain ⟨v, h1, h2⟩ := hR.tm d _ hx
        obtain ⟨vs, rfl, _⟩ := h2
        simp [yielded, hd, h1]
      · cases h
    · cases h
theorem aOp_ok {K : AS → Prop} (ok : s.Ok) (h : aOp P ops o K s) : ∃ s', s'.Ok ∧ K s' := by
  obtain ⟨b, _, e, he, hd, hk⟩ := h
  cases b with
  | true => exact ⟨_, (he.step hd).ok ok, hk⟩
  | false => cases he; exact ⟨_, ok.put fun j hj => (by obtain ⟨y, hy, _⟩ := hj; cases hy), hk⟩
theorem eff_ok {b : Bool} {e : Eff} (ok : s.Ok) (he : AEff P s.n s.look s.mem o b e) (hd : ∀ d, o.dst = some d → d < s.n) : (e.on o.dst s).Ok := by
  cases b with
  | true => exact (he.step hd).ok ok
  | false => cases he; exact ok.put fun j hj => (by obtain ⟨y, hy, _⟩ := hj; cases hy)
theorem aOp_sound {K : AS → Prop} {K' : Act → World → Prop} {Q : Exit → Act → World → Prop} {i : Nat} (hi : ops[i]? = some o) (ok : s.Ok) (hR : Rel B A s ρ a w) (h : aOp P ops o K s)
    (hK : ∀ s' ρ' a' w', s'.Ok → Rel B A s' ρ' a' w' → K s' → K' a' w') : wpOp P ops Q i K' a w := by
  obtain ⟨b, hw, e, he, hd, hk⟩ := h
  have hw' := want_sound hw hR
  unfold wpOp
  simp only [hi]
  cases b with
  | true =>
    rw [hw']
    simp only [if_true]
    have ok' := (he.step hd).ok ok
    exact .inl (Oper.wp_mono (fun a' w' ⟨ρ', hr⟩ => hK _ ρ' a' w' ok' hr hk) (AStep.sound (he.step hd) hR ok))
  | false =>
    rw [hw']
    simp only [Bool.false_eq_true, if_false]
    cases he
    exact hK _ ρ _ _ (ok.put fun j hj => (by obtain ⟨y, hy, _⟩ := hj; cases hy)) (hR.put hd (RpV.undef _)) hk
theorem aAny_sound {K : AS → Prop} {Q : Exit → Act → World → Prop} (hQ : ∀ s' ρ' a' w', s'.Ok → Rel B A s' ρ' a' w' → K s' → Q .normal a' w') : ∀ (fuel : Nat) (listed : Array Bool) (s : AS) (ρ : Nat → Nat) (a : Act) (w : World), s.Ok → Rel B A s ρ a w →
    aAny P md ops K fuel listed s → wpAny P md ops Q fuel listed a w
  | 0, _, _, _, _, _, ok, hR, h => ⟨h.1, hQ _ _ _ _ ok hR h.2⟩
  | fuel + 1, listed, s, ρ, a, w, ok, hR, h => ⟨fun h0 => hQ _ _ _ _ ok hR (h.1 h0), fun i hi => by
      obtain ⟨h0, o, ho, _⟩ := mem_ready.1 hi
      exact aOp_sound ho ok hR (h.2 i hi o ho) fun s' ρ' a' w' ok' hR' hk => aAny_sound hQ fuel _ s' ρ' a' w' ok' hR' hk⟩
theorem want_put {b : Option Bool} {e : Eff} {dst : Option Nat} (hl : ∀ d, dst = some d → d ∉ o.looksAt ops) : want ops o (e.on dst s) = want ops o s := by
  have ht : ∀ d, (∀ d', dst = some d' → d ≠ d') → (e.on dst s).tmps d = s.tmps d := fun d h => by
    have := Eff.on_look e dst s (x := .tmp d) (fun d' hd' e' => h d' hd' (by cases e'; rfl))
    exact this
  unfold want
  cases hg : o.guard with
  | none => rfl
  | some p =>
    obtain ⟨g, b'⟩ := p
    simp only
    cases hd : (ops[g]?).bind (·.dst) with
    | none => rfl
    | some d =>
      simp only
      rw [ht d (fun d' hd' e' => hl d' hd' (by
        subst e'
        unfold Oper.looksAt
        rw [hg]
        exact List.mem_append_right _ (by simp [hd])))]
theorem aOp_swap {b : Bool} {e : Eff} {K : AS → Prop} (ok : s.Ok) (hw : want ops oi s = some b) (he : AEff P s.n s.look s.mem oi b e) (hdi : ∀ d, oi.dst = some d → d < s.n) (hap : oi.apart ops oj = true) (hma : MemSep s oi oj) (h : aOp P ops oj K (e.on oi.dst s)) :
    aOp P ops oj (fun t => (want ops oi t = some b ∧ AEff P t.n t.look t.mem oi b e ∧ (∀ d, oi.dst = some d → d < t.n) ∧ t.Ok) ∧ K (e.on oi.dst t)) s := by
  obtain ⟨a1, a2, a3⟩ := Oper.apart_spec hap
  obtain ⟨c, hwj, f, hf, hdj, hk⟩ := h
  obtain ⟨h1, h2, h3⟩ := AEff.swap ok he hf hap hma
  rw [want_put (b := none) a1] at hwj
  have hdj' : ∀ d, oj.dst = some d → d < s.n := fun d hd => by have := hdj d hd; rwa [Eff.on_n] at this
  refine ⟨c, hwj, f, h1, hdj', ⟨?_, h2, fun d hd => by rw [Eff.on_n]; exact hdi d hd, eff_ok ok h1 hdj'⟩, by rw [← h3]; exact hk⟩
  rw [want_put (b := none) a3]
  exact hw
theorem aOp_mono {K K' : AS → Prop} (h : ∀ s, K s → K' s) (hh : aOp P ops o K s) : aOp P ops o K' s :=
  let ⟨b, h1, e, h2, h3, h4⟩ := hh
  ⟨b, h1, e, h2, h3, h _ h4⟩
/-- what stays so while other operations of the region come up. -/
def SepT (ops : Array Oper) (listed : Array Bool) (x y : Oper) (s : AS) : Prop :=
  memApart x y = true ∨ ∃ t u k j o p, addrOf x = some (.tmp t) ∧ addrOf y = some (.tmp u) ∧ s.tmps t = some (.w (.one (.own k o))) ∧ s.tmps u = some (.w (.one (.own j p))) ∧ k ≠ j ∧
    ∀ i oi, ops[i]? = some oi → listed.getD i true = false → oi.dst ≠ some t ∧ oi.dst ≠ some u
theorem SepT.sep {listed : Array Bool} (h : SepT ops listed oi oj s) : MemSep s oi oj := by
  rcases h with h | ⟨t, u, k, j, o, p, h1, h2, h3, h4, h5, _⟩
  · exact .inl h
  · exact .inr ⟨_, _, k, j, o, p, h1, h2, h3, h4, h5⟩
theorem Eff.on_tmps {e : Eff} {dst : Option Nat} {t : Nat} (h : dst ≠ some t) : (e.on dst s).tmps t = s.tmps t := by
  have := Eff.on_look e dst s (x := .tmp t) (fun d hd e' => by cases e'; exact h hd)
  exact this
theorem SepT.on {listed : Array Bool} {f : Eff} {o : Oper} {i : Nat} (h : SepT ops listed oi oj s) (ho : ops[i]? = some o) (hun : listed.getD i true = false) : SepT ops (listed.setIfInBounds i true) oi oj (f.on o.dst s) := by
  rcases h with h | ⟨t, u, k, j, q, p, h1, h2, h3, h4, h5, h6⟩
  · exact .inl h
  · obtain ⟨n1, n2⟩ := h6 i o ho hun
    refine .inr ⟨t, u, k, j, q, p, h1, h2, by rw [Eff.on_tmps n1]; exact h3, by rw [Eff.on_tmps n2]; exact h4, h5, fun i' o' ho' hun' => h6 i' o' ho' ?_⟩
    by_cases e : i = i'
    · subst e; exact hun
    · rwa [getD_set_ne true e] at hun'
theorem aOp_swap2 {b : Bool} {e : Eff} {K : AS → Prop} (ok : s.Ok) (hw : want ops oi s = some b) (he : AEff P s.n s.look s.mem oi b e) (hdi : ∀ d, oi.dst = some d → d < s.n) (hap : oi.apart ops oj = true) (hma : MemSep s oi oj) (h : aOp P ops oj K (e.on oi.dst s)) :
    aOp P ops oj (fun t => (∃ f : Eff, t = f.on oj.dst s) ∧ (want ops oi t = some b ∧ AEff P t.n t.look t.mem oi b e ∧ (∀ d, oi.dst = some d → d < t.n) ∧ t.Ok) ∧ K (e.on oi.dst t)) s := by
  obtain ⟨c, h1, f, h2, h3, h4⟩ := aOp_swap ok hw he hdi hap hma h
  exact ⟨c, h1, f, h2, h3, ⟨f, rfl⟩, h4⟩
/-- j waits for i, in a few steps. -/
def waits (md : Region.Mode) (ops : Array Oper) : Nat → Nat → Nat → Bool
  | 0, _, _ => false
  | f + 1, j, i => match ops[j]? with
    | some o => o.after.any fun e => Region.binds md e && (e.on == i || waits md ops f e.on i)
    | none => false
def Down (md : Region.Mode) (ops : Array Oper) (listed : Array Bool) : Prop := ∀ k o, listed.getD k false = true → ops[k]? = some o → ∀ e ∈ o.after, Region.binds md e = true → listed.getD e.on false = true
theorem waits_listed {listed : Array Bool} (hd : Down md ops listed) : ∀ (f j i : Nat) (o : Oper), ops[j]? = some o → (∀ e ∈ o.after, Region.binds md e = true → listed.getD e.on false = true) → waits md ops f j i = true → listed.getD i false = true
  | 0, _, _, _, _, _, h => by cases h
  | f + 1, j, i, o, ho, hall, h => by
    simp only [waits, ho] at h
    obtain ⟨e, he, hb⟩ := Array.any_eq_true'.1 h
    simp only [Bool.and_eq_true, Bool.or_eq_true, beq_iff_eq] at hb
    obtain ⟨h1, h2⟩ := hb
    have hl := hall e he h1
    rcases h2 with h2 | h2
    · rw [← h2]; exact hl
    · cases ho' : ops[e.on]? with
      | none => cases f <;> simp [waits, ho'] at h2
      | some o' => exact waits_listed hd f e.on i o' ho' (fun e' he' hb' => hd e.on o' hl ho' e' he' hb') h2
theorem Down.set {listed : Array Bool} (hd : Down md ops listed) {j : Nat} (hj : j ∈ Region.ready md ops listed) : Down md ops (listed.setIfInBounds j true) := by
  intro k o hk ho e he hb
  obtain ⟨_, oj, hoj, hall⟩ := mem_ready.1 hj
  by_cases e' : j = k
  · subst e'
    rw [hoj] at ho
    cases ho
    exact getD_set_true (hall e he hb)
  · refine getD_set_true (hd k o ?_ ho e he hb)
    have : (listed.setIfInBounds j true).getD k false = listed.getD k false := by simp [Array.getElem?_setIfInBounds_ne e']
    rwa [this] at hk
theorem aAny_first {K : AS → Prop} {i : Nat} {b : Bool} {e : Eff} (hi : ops[i]? = some oi) : ∀ (fuel : Nat) (listed : Array Bool) (s : AS),
      (∀ j oj, ops[j]? = some oj → j ≠ i → listed.getD j true = false → (∀ e ∈ oj.after, Region.binds md e = true → e.on ≠ i) → waits md ops 4 j i = false → oi.apart ops oj = true ∧ SepT ops listed oi oj s) →
      Down md ops listed → i ∈ Region.ready md ops listed → s.Ok → want ops oi s = some b → AEff P s.n s.look s.mem oi b e → (∀ d, oi.dst = some d → d < s.n) →
      aAny P md ops K fuel (listed.setIfInBounds i true) (e.on oi.dst s) → aAny P md ops K (fuel + 1) listed s := by
  intro fuel
  induction fuel with
  | zero =>
    intro listed s _ hdn hr ok hw he hd H
    refine ⟨fun h => (by rw [h] at hr; cases hr), fun j hj oj hoj => ?_⟩
    by_cases hji : j = i
    · subst hji; rw [hi] at hoj; cases hoj; exact ⟨b, hw, e, he, hd, H⟩
    · have := ready_mono hj hji
      rw [H.1] at this
      cases this
  | succ fuel ih =>
    intro listed s hfree hdn hr ok hw he hd H
    refine ⟨fun h => (by rw [h] at hr; cases hr), fun j hj oj hoj => ?_⟩
    by_cases hji : j = i
    · subst hji; rw [hi] at hoj; cases hoj; exact ⟨b, hw, e, he, hd, H⟩
    · have h1 := H.2 j (ready_mono hj hji) oj hoj
      obtain ⟨hjun, oj', hoj', hall⟩ := mem_ready.1 hj
      rw [hoj] at hoj'
      cases hoj'
      have hnot : ∀ e ∈ oj.after, Region.binds md e = true → e.on ≠ i := fun e he hb heq => by
        have h1 := hall e he hb
        have h0 := (mem_ready.1 hr).1
        rw [heq] at h1
        rcases Nat.lt_or_ge i listed.size with h' | h'
        · simp [h'] at h0 h1; rw [h0] at h1; cases h1
        · simp [Array.getElem?_eq_none h'] at h1
      have hwt : waits md ops 4 j i = false := by
        cases hwj : waits md ops 4 j i with
        | false => rfl
        | true =>
          have h1 := waits_listed hdn 4 j i oj hoj hall hwj
          have h0 := (mem_ready.1 hr).1
          rcases Nat.lt_or_ge i listed.size with h' | h'
          · simp [h'] at h0 h1; rw [h0] at h1; cases h1
          · simp [Array.getElem?_eq_none h'] at h1
      obtain ⟨g1, g2⟩ := hfree j oj hoj hji hjun hnot hwt
      have h2 := aOp_swap2 ok hw he hd g1 g2.sep h1
      refine aOp_mono (fun t h3 => ?_) h2
      obtain ⟨⟨f, rfl⟩, h3⟩ := h3
      have hfree' : ∀ k ok, ops[k]? = some ok → k ≠ i → (listed.setIfInBounds j true).getD k true = false →
          (∀ e ∈ ok.after, Region.binds md e = true → e.on ≠ i) → waits md ops 4 k i = false → oi.apart ops ok = true ∧ SepT ops (listed.setIfInBounds j true) oi ok (f.on oj.dst s) := fun k ok hk hki hun hno hwk => by
        have hun' : listed.getD k true = false := by
          by_cases hjk : j = k
          · subst hjk; exact hjun
          · rwa [getD_set_ne true hjk] at hun
        obtain ⟨q1, q2⟩ := hfree k ok hk hki hun' hno hwk
        exact ⟨q1, q2.on hoj hjun⟩
      refine ih (listed.setIfInBounds j true) _ hfree' (hdn.set hj) (ready_mono hr (Ne.symm hji)) h3.1.2.2.2 h3.1.1 h3.1.2.1 h3.1.2.2.1 ?_
      rw [Array.setIfInBounds_comm _ _ hji]
      exact h3.2
/-- the walk in the order of the text. -/
def aList (P : Program) (ops : Array Oper) (K : AS → Prop) : List Oper → AS → Prop
  | [], s => K s
  | o :: rest, s => aOp P ops o (aList P ops K rest) s
/-- the pairs of slots that must point to blocks of their own. -/
def pairOf (x y : Oper) : Option (Nat × Nat) :=
  match addrOf x, addrOf y with
  | some (.tmp t), some (.tmp u) => some (t, u)
  | _, _ => none
def noWrite (ops : Array Oper) (listed : Array Bool) (t : Nat) : Bool := (List.range ops.size).all fun j => listed.getD j true || match ops[j]? with
  | some o => o.dst != some t
  | none => true
def sepB (s : AS) (p : Nat × Nat) : Bool :=
  match s.tmps p.1, s.tmps p.2 with
  | some (.w (.one (.own k _))), some (.w (.one (.own j _))) => !Nat.beq k j
  | _, _ => false
def memFree (md : Region.Mode) (ops : Array Oper) (prs : List (Nat × Nat)) (listed : Array Bool) (i : Nat) : Bool :=
  match ops[i]? with
  | none => false
  | some oi => (List.range ops.size).all fun j => j == i || listed.getD j true || match ops[j]? with
      | some oj => memApart oi oj || waits md ops 4 j i || match pairOf oi oj with
        | some (t, u) => prs.contains (t, u) && noWrite ops listed t && noWrite ops listed u
        | none => false
      | none => true
theorem noWrite_spec {listed : Array Bool} {t : Nat} (h : noWrite ops listed t = true) (j : Nat) (o : Oper) (ho : ops[j]? = some o) (hun : listed.getD j true = false) : o.dst ≠ some t := by
  unfold noWrite at h
  simp only [List.all_eq_true, List.mem_range] at h
  have := h j (Array.getElem?_eq_some_iff.1 ho).1
  simp only [ho, hun, Bool.false_or, bne_iff_ne, ne_eq] at this
  exact this
theorem memFree_spec {i : Nat} {prs : List (Nat × Nat)} {listed : Array Bool} (hi : ops[i]? = some oi) (h : memFree md ops prs listed i = true) (hs : ∀ p ∈ prs, noWrite ops listed p.1 = true → noWrite ops listed p.2 = true → sepB s p = true) (j : Nat) (oj : Oper)
    (hj : ops[j]? = some oj) (hne : j ≠ i) (hun : listed.getD j true = false) (hno : waits md ops 4 j i = false) : SepT ops listed oi oj s := by
  simp only [memFree, hi, List.all_eq_true, List.mem_range] at h
  have h1 := h j (Array.getElem?_eq_some_iff.1 hj).1
  simp only [hj, Bool.or_eq_true, beq_iff_eq, hne, false_or, hun, Bool.false_eq_true] at h1
  rcases h1 with (h1 | h1) | h1
  · exact .inl h1
  · rw [hno] at h1; cases h1
  · split at h1
    · rename_i t u hp
      simp only [Bool.and_eq_true] at h1
      obtain ⟨⟨c1, c2⟩, c3⟩ := h1
      have hsp := hs (t, u) (by simpa using c1) c2 c3
      unfold pairOf at hp
      split at hp
      · rename_i t' u' e1 e2
        cases hp
        unfold sepB at hsp
        split at hsp
        · rename_i k o j' p' q1 q2
          refine .inr ⟨t, u, k, j', o, p', e1, e2, q1, q2, fun e => ?_, fun i' o' ho' hun' => ⟨noWrite_spec c2 i' o' ho' hun', noWrite_spec c3 i' o' ho' hun'⟩⟩
          subst e
          simp [Nat.beq_refl] at hsp
        · cases hsp
      · cases hp
    · cases h1
def lexM (md : Region.Mode) (ops : Array Oper) (prs : List (Nat × Nat)) : List Nat → Array Bool → Bool
  | [], listed => (Region.ready md ops listed).isEmpty
  | k :: ord, listed => (Region.ready md ops listed).contains k && Region.free md ops listed k && memFree md ops prs listed k && lexM md ops prs ord (listed.setIfInBounds k true)
def getAll (l : List Oper) : List Nat → Option (List Oper)
  | [] => some []
  | i :: ord => match l[i]?, getAll l ord with
    | some o, some r => some (o :: r)
    | _, _ => none
theorem getAll_spec {l : List Oper} : ∀ (ord : List Nat) (r : List Oper), getAll l ord = some r → r.length = ord.length ∧ ∀ (j : Nat), r[j]? = (ord[j]?).bind (l[·]?)
  | [], r, h => by cases h; exact ⟨rfl, fun j => by simp⟩
  | i :: ord, r, h => by
    simp only [getAll] at h
    split at h
    · rename_i o r' ho hr
      cases h
      obtain ⟨h1, h2⟩ := getAll_spec ord r' hr
      refine ⟨by simp [h1], fun j => ?_⟩
      cases j with
      | zero => simp [ho]
      | succ j => simpa using h2 j
    · cases h
/-- the slots that no operation of the list writes hold in the end what they held. -/
theorem aList_end {K : AS → Prop} : ∀ (l : List Oper) (s : AS), aList P ops K l s → ∃ s', K s' ∧ ∀ t, (∀ o ∈ l, o.dst ≠ some t) → s'.tmps t = s.tmps t
  | [], s, h => ⟨s, h, fun _ _ => rfl⟩
  | o :: l, s, ⟨b, hw, e, he, hd, hK⟩ => by
    obtain ⟨s', h1, h2⟩ := aList_end l _ hK
    exact ⟨s', h1, fun t ht => (h2 t fun o' ho' => ht o' (by simp [ho'])).trans (Eff.on_tmps (ht o (by simp)))⟩
theorem aAny_lex {K : AS → Prop} {prs : List (Nat × Nat)} : ∀ (ord : List Nat) (l : List Oper) (listed : Array Bool) (s : AS), l.length = ord.length → (∀ (j : Nat), l[j]? = (ord[j]?).bind (ops[·]?)) → (∀ k ∈ ord, listed.getD k true = false) → (∀ k, k < ops.size → listed.getD k true = false → k ∈ ord) → ord.Nodup → Down md ops listed → s.Ok →
    lexM md ops prs ord listed = true → aList P ops (fun s => prs.all (sepB s) = true ∧ K s) l s → aAny P md ops K l.length listed s
  | [], [], _, _, _, _, _, _, _, _, _, hB, h => ⟨by simpa [lexM] using hB, h.2⟩
  | [], _ :: _, _, _, hlen, _, _, _, _, _, _, _, _ => by cases hlen
  | _ :: _, [], _, _, hlen, _, _, _, _, _, _, _, _ => by cases hlen
  | k :: ord, o :: l, listed, s, hlen, hl, hun, hcov, hnd, hdn, ok, hB, h => by
    have h0 : ops[k]? = some o := by simpa using (hl 0).symm
    have hend := aList_end _ _ h
    simp only [lexM, Bool.and_eq_true] at hB
    obtain ⟨⟨⟨hr, hf⟩, hm⟩, hB'⟩ := hB
    obtain ⟨b, hw, e, he, hd, hK⟩ := h
    have hs : ∀ p ∈ prs, noWrite ops listed p.1 = true → noWrite ops listed p.2 = true → sepB s p = true := fun p hp n1 n2 => by
      obtain ⟨s', ⟨h1, _⟩, h2⟩ := hend
      have nw : ∀ t, noWrite ops listed t = true → ∀ o' ∈ o :: l, o'.dst ≠ some t := fun t ht o' ho' => by
        obtain ⟨j, hj⟩ := List.getElem?_of_mem ho'
        rw [hl j] at hj
        cases hq : (k :: ord)[j]? with
        | none => rw [hq] at hj; cases hj
        | some q => rw [hq] at hj; exact noWrite_spec ht q o' hj (hun _ (List.mem_of_getElem? hq))
      have := List.all_eq_true.1 h1 p hp
      unfold sepB at this ⊢
      rw [h2 p.1 (nw _ n1), h2 p.2 (nw _ n2)] at this
      exact this
    rw [List.nodup_cons] at hnd
    have hne : ∀ q ∈ ord, k ≠ q := fun q hq e => hnd.1 (by rw [e]; exact hq)
    refine aAny_first h0 l.length listed s (fun j oj h1 h2 h3 h4 h5 => ⟨Region.free_spec h0 hf j oj h1 h2 h3 h4, memFree_spec h0 hm hs j oj h1 h2 h3 h5⟩) hdn (by simpa using hr) ok hw he hd ?_
    refine aAny_lex ord l _ _ (by simpa using hlen) (fun j => by simpa using hl (j + 1)) (fun q hq => by rw [getD_set_ne true (hne q hq)]; exact hun q (by simp [hq])) (fun q hq hlq => ?_) hnd.2 (hdn.set (by simpa using hr)) (eff_ok ok he hd) hB' hK
    by_cases e' : k = q
    · subst e'
      have : k < listed.size := by
        have := hun k (by simp)
        rcases Nat.lt_or_ge k listed.size with h' | h'
        · exact h'
        · simp [Array.getElem?_eq_none h'] at this
      simp [this] at hlq
    · rw [getD_set_ne true e'] at hlq
      rcases List.mem_cons.1 (hcov q hq hlq) with h' | h'
      · exact absurd h'.symm e'
      · exact h'
/-- the pairs that are needed. -/
def needPrs (ops : Array Oper) (ord : List Nat) : List (Nat × Nat) :=
  match ord with
  | [] => []
  | i :: rest => (match ops[i]? with
    | some oi => bif memKind oi != 0 then rest.filterMap fun j => match ops[j]? with
        | some oj => bif memApart oi oj || waits .any ops 4 j i then none else pairOf oi oj
        | none => none
      else []
    | none => []) ++ needPrs ops rest
/-- what makes blocks comes first. -/
def early (o : Oper) : Bool := (match o.op with | .alloc _ => true | _ => false) && o.after.isEmpty && o.guard.isNone
def ordOf (l : List Oper) : List Nat := ((List.range l.length).filter fun i => match l[i]? with | some o => early o | none => false) ++ (List.range l.length).filter fun i => match l[i]? with | some o => !early o | none => false
/-- what holds of a piece of code, over states. -/
def AWp (P : Program) (c : Code) (Q : Exit → AS → Prop) (s : AS) : Prop :=
  s.Ok → ∀ B A ρ a w, Rel B A s ρ a w → c.wp P (fun e a' w' => ∃ s' ρ', s'.Ok ∧ Rel B A s' ρ' a' w' ∧ Q e s') a w
def ndB : List Nat → Bool
  | [] => true
  | x :: xs => !xs.contains x && ndB xs
theorem ndB_spec : ∀ (l : List Nat), ndB l = true → l.Nodup
  | [], _ => List.nodup_nil
  | x :: xs, h => by
    simp only [ndB, Bool.and_eq_true, Bool.not_eq_true', List.contains_eq_mem, decide_eq_false_iff_not] at h
    exact List.nodup_cons.2 ⟨h.1, ndB_spec xs h.2⟩
def drawB (l : List Oper) : Bool := Nat.beq (ordOf l).length l.length && ndB (ordOf l) && (List.range l.length).all (fun i => (ordOf l).contains i) && (ordOf l).all (fun i => Nat.blt i l.length) && lexM .any l.toArray (needPrs l.toArray (ordOf l)) (ordOf l) (Array.replicate l.length false)
theorem awp_region_draw {id : Nat} {l l' : List Oper} {Q : Exit → AS → Prop} (hm : P.follows .mixedOrders = true) (hB : drawB l = true) (hl : getAll l (ordOf l) = some l')
    (h : aList P l.toArray (fun s => (needPrs l.toArray (ordOf l)).all (sepB s) = true ∧ Q .normal s) l' s) : AWp P (.region id l.toArray true) Q s := by
  intro ok B A ρ a w hR
  refine wp_region_any hm ?_
  unfold drawB at hB
  simp only [Bool.and_eq_true, List.all_eq_true, List.mem_range, List.contains_eq_mem, decide_eq_true_eq] at hB
  obtain ⟨⟨⟨⟨b0, b1⟩, b2⟩, b3⟩, b4⟩ := hB
  obtain ⟨g1, g2⟩ := getAll_spec _ _ hl
  have hd : Rel B A s ρ a { w with drawn := w.drawn + 1 } := hR.call ((Below.refl _ w).drew)
  refine aAny_sound (K := Q .normal) (fun s' ρ' a' w' ok' hR' hk => ⟨s', ρ', ok', hR', hk⟩) _ _ s ρ a _ ok hd ?_
  have nd := ndB_spec _ b1
  have hlen : (ordOf l).length = l.length := Nat.eq_of_beq_eq_true b0
  have := aAny_lex (md := .any) (ops := l.toArray) (ordOf l) l' (Array.replicate l.length false) s g1 (by simpa using g2) (fun q hq => by have := b3 q hq; simp [Nat.blt_eq] at this; simp [this]) (fun q hq _ => b2 q (by simpa using hq)) nd (fun k o hk => by exfalso; rcases Nat.lt_or_ge k l.length with q | q <;> simp [Array.getElem?_replicate, q] at hk) ok b4 h
  rw [g1, hlen] at this
  simpa using this
theorem aList_sound {K : AS → Prop} {Q : Exit → Act → World → Prop} (hQ : ∀ s' ρ' a' w', s'.Ok → Rel B A s' ρ' a' w' → K s' → Q .normal a' w') : ∀ (l : List Oper) (k : Nat) (s : AS) (ρ : Nat → Nat) (a : Act) (w : World), (∀ (j : Nat), l[j]? = ops[k + j]?) → s.Ok → Rel B A s ρ a w →
    aList P ops K l s → wpOps P ops Q ((List.range l.length).map (k + ·)) a w
  | [], _, _, _, _, _, _, ok, hR, h => hQ _ _ _ _ ok hR h
  | o :: l, k, s, ρ, a, w, hl, ok, hR, h => by
    have h0 : ops[k]? = some o := by simpa using (hl 0).symm
    have e : (List.range (o :: l).length).map (k + ·) = k :: (List.range l.length).map (k + 1 + ·) := by
      rw [List.length_cons, List.range_succ_eq_map, List.map_cons, List.map_map]
      congr 1
      apply List.map_congr_left
      intro j _
      simp [Nat.add_assoc, Nat.add_comm 1 j]
    rw [e, wpOps_cons]
    refine aOp_sound h0 ok hR h fun s' ρ' a' w' ok' hR' hk => aList_sound hQ l (k + 1) s' ρ' a' w' (fun j => by have := hl (j + 1); simpa [Nat.add_assoc, Nat.add_comm 1 j] using this) ok' hR' hk
theorem awp_region {id : Nat} {l : List Oper} {Q : Exit → AS → Prop} (h : aList P l.toArray (Q .normal) l s) : AWp P (.region id l.toArray false) Q s := by
  intro ok B A ρ a w hR
  refine wp_region ?_
  have := aList_sound (ops := l.toArray) (K := Q .normal) (Q := fun e a' w' => ∃ s' ρ', s'.Ok ∧ Rel B A s' ρ' a' w' ∧ Q e s') (fun s' ρ' a' w' ok' hR' hk => ⟨s', ρ', ok', hR', hk⟩) l 0 s ρ a w (by simp) ok hR h
  simpa using this
end
end Go.Proofs.Ytinjgiigmlikpaa
