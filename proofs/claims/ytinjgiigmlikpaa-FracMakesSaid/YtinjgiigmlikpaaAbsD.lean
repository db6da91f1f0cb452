/-
  Regions whose order is open: two operations that have nothing to do with each other change places. My own text.
-/
import Derived.Test.YtinjgiigmlikpaaAbsC
namespace Go.Proofs.Ytinjgiigmlikpaa
open Go.RowKit
set_option linter.unusedVariables false
set_option linter.unusedSimpArgs false
def undefAV : AV := .tup []
/-- is the operation carried out? -/
def want (ops : Array Oper) (o : Oper) (s : AS) : Option Bool :=
  match o.guard with
  | none => some true
  | some (g, b) =>
    match (ops[g]?).bind (·.dst) with
    | some d => match s.tmps d with
      | some (.w (.one (.c (.bool x)))) => some (some x == some b)
      | some (.tup _) => some false
      | _ => none
    | none => none
def memKind (o : Oper) : Nat :=
  match o.op with
  | .load .. => 1
  | .store .. => 2
  | _ => 0
def memApart (x y : Oper) : Bool := !(memKind x == 2 && memKind y != 0) && !(memKind x != 0 && memKind y == 2)
def addrOf (o : Oper) : Option Operand :=
  match o.op with
  | .load _ x => some x
  | .store _ x _ => some x
  | _ => none
/-- two operations do not meet in memory. -/
def MemSep (s : AS) (x y : Oper) : Prop := memApart x y = true ∨ ∃ a b k j o p, addrOf x = some a ∧ addrOf y = some b ∧ s.look a = some (.w (.one (.own k o))) ∧ s.look b = some (.w (.one (.own j p))) ∧ k ≠ j
section
variable {P : Program} {B : World} {A : Nat → Prop} {s s1 s2 s' : AS} {ρ : Nat → Nat} {a : Act} {w : World} {o oi oj : Oper} {ops : Array Oper}
theorem look_put {x : Operand} {dst : Option Nat} {v : AV} (h : ∀ d, dst = some d → x ≠ .tmp d) : (s.put dst v).look x = s.look x := by
  cases dst with
  | none => rfl
  | some d =>
    cases x with
    | tmp t => simp only [AS.look, AS.put]; exact upd_ne _ _ (fun e => h d rfl (by rw [e]))
    | _ => rfl
theorem look_setm {x : Operand} {k : Nat} {cs : List AC} : (s.setm k cs).look x = s.look x := by cases x <;> rfl
theorem QuietOK.congr {look look' : Operand → Option AV} {av : AV} (h : QuietOK P look o av) (e : ∀ x ∈ o.op.operands, look' x = look x) : QuietOK P look' o av :=
  ⟨h.sel, fun x hx => by rw [e x hx]; exact h.ops x hx, fun U ρ W env he => h.run U ρ W env fun x hx a ha => he x hx a (by rw [e x hx]; exact ha), fun j hj => by
    obtain ⟨x, hx, a, ha, hao⟩ := h.own j hj
    exact ⟨x, hx, a, by rw [e x hx]; exact ha, hao⟩⟩
theorem NewOK.congr {look look' : Operand → Option AV} {cs : List AC} (h : NewOK P look o cs) (e : ∀ x ∈ o.op.operands, look' x = look x) : NewOK P look' o cs := by
  cases h with
  | alloc ty i z cs ho hi hz hc h1 => exact .alloc ty i z cs ho hi hz hc h1
  | box ty x z ho hx => exact .box ty x z ho (by rw [e x (by simp [ho, Op.operands])]; exact hx)
theorem CallOK.congr {look look' : Operand → Option AV} {f : FuncId} {args : List AV} (h : CallOK P look o f args) (e : ∀ x ∈ o.op.operands, look' x = look x) : CallOK P look' o f args := by
  obtain ⟨⟨c, g, ho, hc, hg, ha⟩, he⟩ := h
  refine ⟨⟨c, g, ho, hc, by rw [e g (by simp [ho, Op.operands, Call.operands, hc])]; exact hg, ?_⟩, he⟩
  rw [← ha]
  exact List.map_congr_left fun x hx => e x (by simp [ho, Op.operands, Call.operands, hc]; exact .inr (by simpa using hx))
/-- a step from a state that holds, where it is looked at, the same. -/
theorem AS.put_comm (s : AS) {x y : Option Nat} (v u : AV) (h : ∀ d, x = some d → y ≠ some d) : (s.put x v).put y u = (s.put y u).put x v := by
  cases x with
  | none => rfl
  | some d =>
    cases y with
    | none => rfl
    | some e =>
      have hne : e ≠ d := fun he => h d rfl (by rw [he])
      simp only [AS.put]
      rw [upd_comm _ _ _ hne]
theorem AS.put_setm (s : AS) (x : Option Nat) (v : AV) (k : Nat) (cs : List AC) : (s.put x v).setm k cs = (s.setm k cs).put x v := by cases x <;> rfl
theorem AS.setm_comm (s : AS) {k j : Nat} (cs ds : List AC) (h : j ≠ k) : (s.setm k cs).setm j ds = (s.setm j ds).setm k cs := by
  simp only [AS.setm]
  rw [upd_comm _ _ _ h]
/-- what a step puts, and what it turns in memory. -/
structure Eff where
  v : AV
  m : Option (Nat × List AC)
def Eff.on (e : Eff) (dst : Option Nat) (s : AS) : AS :=
  match e.m with
  | some (k, cs) => (s.setm k cs).put dst e.v
  | none => s.put dst e.v
inductive AEff (P : Program) (n : Nat) (look : Operand → Option AV) (mem : Nat → Option (List AC)) (o : Oper) : Bool → Eff → Prop
  | skip : AEff P n look mem o false ⟨.tup [], none⟩
  | quiet (av : AV) (hq : QuietOK P look o av) : AEff P n look mem o true ⟨av, none⟩
  | load (ty : TypeId) (x : Operand) (k off : Nat) (cs : List AC) (av : AW) (ho : o.op = .load ty x) (hx : look x = some (.w (.one (.own k off)))) (hm : mem k = some cs) (hv : pick P ty cs off = some av) : AEff P n look mem o true ⟨.w av, none⟩
  | store (ty : TypeId) (x y : Operand) (k off : Nat) (cs : List AC) (z : AW) (i : TypeInfo) (ho : o.op = .store ty x y) (hx : look x = some (.w (.one (.own k off)))) (hy : look y = some (.w z)) (hm : mem k = some cs) (hi : P.info? ty = some i) (hs : i.size = z.cells.length) (hb : off + z.cells.length ≤ cs.length) : AEff P n look mem o true ⟨.tup [], some (k, splice cs off z.cells)⟩
  | new (cs : List AC) (d : Nat) (hdst : o.dst = some d) (hm : mem d = none) (hn : NewOK P look o cs) : AEff P n look mem o true ⟨.w (.one (.own d 0)), some (d, cs)⟩
  | call (f : FuncId) (args : List AV) (r : AV) (hc : CallOK P look o f args) (hp : PCall P f args r) : AEff P n look mem o true ⟨r, none⟩
theorem AStep.eff (h : AStep P s o s') : ∃ e, AEff P s.n s.look s.mem o true e ∧ s' = e.on o.dst s ∧ ∀ d, o.dst = some d → d < s.n := by
  cases h with
  | quiet av hq hd => exact ⟨_, .quiet av hq, rfl, hd⟩
  | load ty x k off cs av ho hx hm hv hd => exact ⟨_, .load ty x k off cs av ho hx hm hv, rfl, hd⟩
  | store ty x y k off cs z i ho hx hy hm hi hs hb hd => exact ⟨_, .store ty x y k off cs z i ho hx hy hm hi hs hb, by rw [AS.put_setm]; rfl, hd⟩
  | new cs d hdst hm hn hd => exact ⟨_, .new cs d hdst hm hn, by rw [hdst]; rfl, fun d' e => by rw [hdst] at e; cases e; exact hd⟩
  | call f args r hc hp hd => exact ⟨_, .call f args r hc hp, rfl, hd⟩
theorem AEff.step {e : Eff} (h : AEff P s.n s.look s.mem o true e) (hd : ∀ d, o.dst = some d → d < s.n) : AStep P s o (e.on o.dst s) := by
  cases h with
  | quiet av hq => exact .quiet av hq hd
  | load ty x k off cs av ho hx hm hv => exact .load ty x k off cs av ho hx hm hv hd
  | store ty x y k off cs z i ho hx hy hm hi hs hb =>
    have := AStep.store (P := P) (s := s) ty x y k off cs z i ho hx hy hm hi hs hb hd
    rw [AS.put_setm] at this
    exact this
  | new cs d hdst hm hn =>
    have := AStep.new (P := P) (s := s) cs d hdst hm hn (hd d hdst)
    rw [← hdst] at this
    exact this
  | call f args r hc hp => exact .call f args r hc hp hd
theorem Eff.on_mem (e : Eff) (dst : Option Nat) (s : AS) : (e.on dst s).mem = match e.m with | some (k, cs) => upd s.mem k cs | none => s.mem := by
  unfold Eff.on
  split
  · rename_i h; rw [AS.mem_put]; simp [AS.setm]
  · rename_i h; rw [AS.mem_put]
theorem Eff.on_look (e : Eff) (dst : Option Nat) (s : AS) {x : Operand} (h : ∀ d, dst = some d → x ≠ .tmp d) : (e.on dst s).look x = s.look x := by
  unfold Eff.on
  split
  · rw [look_put h, look_setm]
  · rw [look_put h]
theorem Eff.on_n (e : Eff) (dst : Option Nat) (s : AS) : (e.on dst s).n = s.n := by
  unfold Eff.on
  split
  · rw [AS.n_put]; rfl
  · rw [AS.n_put]
theorem Eff.on_comm (e f : Eff) (x y : Option Nat) (s : AS) (h : ∀ d, x = some d → y ≠ some d) (hk : ∀ k cs j ds, e.m = some (k, cs) → f.m = some (j, ds) → j ≠ k) : f.on y (e.on x s) = e.on x (f.on y s) := by
  unfold Eff.on
  cases he : e.m with
  | none =>
    cases hf : f.m with
    | none => simp only [he, hf]; exact AS.put_comm s _ _ h
    | some q => obtain ⟨j, ds⟩ := q; simp only [he, hf]; rw [AS.put_setm]; exact AS.put_comm _ _ _ h
  | some p =>
    obtain ⟨k, cs⟩ := p
    cases hf : f.m with
    | none => simp only [he, hf]; rw [AS.put_setm]; exact AS.put_comm _ _ _ h
    | some q =>
      obtain ⟨j, ds⟩ := q
      simp only [he, hf]
      rw [AS.put_setm, AS.put_setm, AS.setm_comm s _ _ (hk k cs j ds he hf)]
      exact AS.put_comm _ _ _ h
theorem looks_op {x : Operand} {d : Nat} {y : Oper} (h : d ∉ y.looksAt ops) (hx : x ∈ y.op.operands) : x ≠ .tmp d := fun e => h (by
  subst e
  exact List.mem_append_left _ (List.mem_filterMap.2 ⟨.tmp d, by simpa using hx, rfl⟩))
/-- the diamond. -/
theorem AEff.swap {b c : Bool} {e f : Eff} (ok : s.Ok) (he : AEff P s.n s.look s.mem oi b e) (hf : AEff P (e.on oi.dst s).n (e.on oi.dst s).look (e.on oi.dst s).mem oj c f) (hap : oi.apart ops oj = true) (hma : MemSep s oi oj) :
    AEff P s.n s.look s.mem oj c f ∧ AEff P (f.on oj.dst s).n (f.on oj.dst s).look (f.on oj.dst s).mem oi b e ∧ f.on oj.dst (e.on oi.dst s) = e.on oi.dst (f.on oj.dst s) := by
  obtain ⟨a1, a2, a3⟩ := Oper.apart_spec hap
  have lj : ∀ x ∈ oj.op.operands, (e.on oi.dst s).look x = s.look x := fun x hx => Eff.on_look _ _ _ fun d hd => looks_op (a1 d hd) hx
  have mem1 := Eff.on_mem e oi.dst s
  -- a block that is pointed to by an operand of s is none that oi makes
  have hkeep : ∀ k cs, e.m = some (k, cs) → (∃ cs', s.mem k = some cs') ∨ s.mem k = none := fun k cs _ => by
    cases h : s.mem k with
    | none => exact .inr rfl
    | some c => exact .inl ⟨c, rfl⟩
  have own_mem : ∀ x k off, s.look x = some (.w (.one (.own k off))) → ∃ cs, s.mem k = some cs := fun x k off hx => by
    cases x with
    | tmp t => exact ok.tm t _ k hx ⟨.own k off, by simp [AW.cells], rfl⟩
    | const v => simp only [AS.look] at hx; split at hx <;> cases hx
    | global g => cases hx
    | func g => cases hx
  -- where oi is neither a store nor (oj a store and oi a load): memory that oj reads is the same
  have mj : ∀ x k off, addrOf oj = some x → memKind oj ≠ 0 → s.look x = some (.w (.one (.own k off))) → (e.on oi.dst s).mem k = s.mem k := by
    intro x k off hadr hkind hx
    rw [mem1]
    cases he with
    | skip => rfl
    | quiet av hq => rfl
    | load => rfl
    | call => rfl
    | store ty x' y' k' off' cs z i ho hx' hy hm hi hs hb =>
      rcases hma with hma | ⟨a, b, q, j, o, p, ha, hb', ea, eb, hne⟩
      · exfalso
        have : memKind oi = 2 := by simp [memKind, ho]
        simp [memApart, this, hkind] at hma
      · simp only [addrOf, ho, Option.some.injEq] at ha
        subst ha
        rw [hx'] at ea
        cases ea
        rw [hadr] at hb'
        cases hb'
        rw [hx] at eb
        cases eb
        show upd s.mem k' _ k = s.mem k
        exact upd_ne _ _ (Ne.symm hne)
    | new cs d hdst hm hn =>
      obtain ⟨c, hc⟩ := own_mem x k off hx
      show upd s.mem d cs k = s.mem k
      exact upd_ne _ _ (fun e => by subst e; rw [hm] at hc; cases hc)
  have hf' : AEff P s.n s.look s.mem oj c f := by
    cases hf with
    | skip => exact .skip
    | quiet av hq => exact .quiet av (hq.congr fun x hx => (lj x hx).symm)
    | load ty x k off cs av ho hx hm hv =>
      have hx' : s.look x = some (.w (.one (.own k off))) := by rw [← lj x (by simp [ho, Op.operands])]; exact hx
      exact .load ty x k off cs av ho hx' (by rw [← mj x k off (by simp [addrOf, ho]) (by simp [memKind, ho]) hx']; exact hm) hv
    | store ty x y k off cs z i ho hx hy hm hi hs hb =>
      have hx' : s.look x = some (.w (.one (.own k off))) := by rw [← lj x (by simp [ho, Op.operands])]; exact hx
      exact .store ty x y k off cs z i ho hx' (by rw [← lj y (by simp [ho, Op.operands])]; exact hy) (by rw [← mj x k off (by simp [addrOf, ho]) (by simp [memKind, ho]) hx']; exact hm) hi hs hb
    | new cs d hdst hm hn =>
      refine .new cs d hdst ?_ (hn.congr fun x hx => (lj x hx).symm)
      rw [mem1] at hm
      cases hem : e.m with
      | none => rw [hem] at hm; exact hm
      | some p =>
        obtain ⟨k, c⟩ := p
        rw [hem] at hm
        by_cases ek : d = k
        · subst ek
          change upd s.mem d c d = none at hm
          rw [upd_same] at hm
          cases hm
        · change upd s.mem k c d = none at hm
          rwa [upd_ne _ _ ek] at hm
    | call g args r hc hp => exact .call g args r (hc.congr fun x hx => (lj x hx).symm) hp
  have li : ∀ x ∈ oi.op.operands, (f.on oj.dst s).look x = s.look x := fun x hx => Eff.on_look _ _ _ fun d hd => looks_op (a3 d hd) hx
  have mem2 := Eff.on_mem f oj.dst s
  have he' : AEff P (f.on oj.dst s).n (f.on oj.dst s).look (f.on oj.dst s).mem oi b e := by
    have mi : ∀ x k off, addrOf oi = some x → memKind oi ≠ 0 → s.look x = some (.w (.one (.own k off))) → (f.on oj.dst s).mem k = s.mem k := by
      intro x k off hadr hkind hx
      rw [mem2]
      cases hf' with
      | skip => rfl
      | quiet av hq => rfl
      | load => rfl
      | call => rfl
      | store ty x' y' k' off' cs z i ho hx' hy hm hi hs hb =>
        rcases hma with hma | ⟨a, b, q, j, o, p, ha, hb', ea, eb, hne⟩
        · exfalso
          have : memKind oj = 2 := by simp [memKind, ho]
          simp [memApart, this, hkind] at hma
        · simp only [addrOf, ho, Option.some.injEq] at hb'
          subst hb'
          rw [hx'] at eb
          cases eb
          rw [hadr] at ha
          cases ha
          rw [hx] at ea
          cases ea
          show upd s.mem k' _ k = s.mem k
          exact upd_ne _ _ hne
      | new cs d hdst hm hn =>
        obtain ⟨c, hc⟩ := own_mem x k off hx
        show upd s.mem d cs k = s.mem k
        exact upd_ne _ _ (fun e => by subst e; rw [hm] at hc; cases hc)
    cases he with
    | skip => exact .skip
    | quiet av hq => exact .quiet av (hq.congr fun x hx => li x hx)
    | load ty x k off cs av ho hx hm hv => exact .load ty x k off cs av ho (by rw [li x (by simp [ho, Op.operands])]; exact hx) (by rw [mi x k off (by simp [addrOf, ho]) (by simp [memKind, ho]) hx]; exact hm) hv
    | store ty x y k off cs z i ho hx hy hm hi hs hb => exact .store ty x y k off cs z i ho (by rw [li x (by simp [ho, Op.operands])]; exact hx) (by rw [li y (by simp [ho, Op.operands])]; exact hy) (by rw [mi x k off (by simp [addrOf, ho]) (by simp [memKind, ho]) hx]; exact hm) hi hs hb
    | new cs d hdst hm hn =>
      refine .new cs d hdst ?_ (hn.congr fun x hx => li x hx)
      rw [mem2]
      cases hf' with
      | skip => exact hm
      | quiet av hq => exact hm
      | load => exact hm
      | call => exact hm
      | store ty x' y' k' off' cs' z i ho hx' hy hm' hi hs hb =>
        show upd s.mem k' _ d = none
        rw [upd_ne _ _ (fun e => by subst e; rw [hm] at hm'; cases hm')]
        exact hm
      | new cs' d' hdst' hm' hn' =>
        show upd s.mem d' _ d = none
        rw [upd_ne _ _ (fun e => a2 d hdst (by rw [hdst', e]))]
        exact hm
    | call g args r hc hp => exact .call g args r (hc.congr fun x hx => li x hx) hp
  refine ⟨hf', he', Eff.on_comm e f oi.dst oj.dst s a2 ?_⟩
  intro k cs j ds h1 h2 ejk
  subst ejk
  cases he with
  | skip => cases h1
  | quiet => cases h1
  | load => cases h1
  | call => cases h1
  | store ty x y k' off cs' z i ho hx hy hm hi hs hb =>
    cases h1
    cases hf' with
    | skip => cases h2
    | quiet => cases h2
    | load => cases h2
    | call => cases h2
    | store ty2 x2 y2 k2 off2 cs2 z2 i2 ho2 hx2 =>
      cases h2
      rcases hma with hma | ⟨a, b, q, j, o, p, ha, hb', ea, eb, hne⟩
      · simp [memApart, memKind, ho, ho2] at hma
      · simp only [addrOf, ho, ho2, Option.some.injEq] at ha hb'
        subst ha
        subst hb'
        rw [hx] at ea
        rw [hx2] at eb
        cases ea
        cases eb
        exact hne rfl
    | new cs2 d2 hdst2 hm2 hn2 => cases h2; rw [hm2] at hm; cases hm
  | new cs' d hdst hm hn =>
    cases h1
    cases hf' with
    | skip => cases h2
    | quiet => cases h2
    | load => cases h2
    | call => cases h2
    | store ty2 x2 y2 k2 off2 cs2 z2 i2 ho2 hx2 hy2 hm2 => cases h2; rw [hm2] at hm; cases hm
    | new cs2 d2 hdst2 hm2 hn2 => cases h2; exact a2 _ hdst hdst2
end
end Go.Proofs.Ytinjgiigmlikpaa
