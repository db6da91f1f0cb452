/-
  States without addresses: functions that have taken hold of something; blocks of the frame's own that are written no more. My own text.
-/
import Derived.Test.YtpopeipcjpfbaaaAbsS
namespace Go.Proofs.Ytpopeipcjpfbaaa
open Go.RowKit
set_option linter.unusedVariables false
set_option linter.unusedSimpArgs false
section
variable {P : Program} {s : AS} {ops : Array Oper} {K : AS → Prop} {rest : List Oper} {ty : Nat} {pos : String} {after : Array Edge} {guard : Option (Nat × Bool)} {d : Nat}
theorem al_mkfnP {fn : Fn} {xs : List Operand} {cs : List AC} (hw : want ops ⟨some d, .makeFunc fn #[] xs.toArray, ty, pos, after, guard⟩ s = some true) (hx : xs.map s.look = cs.map fun x => some (.w (.one x))) (hc : cs.all AC.closedB = true) (hd : Nat.blt d s.n = true) (h : aList P ops K rest (s.put (some d) (.w (.one (.p (FunP fn cs)))))) : aList P ops K (⟨some d, .makeFunc fn #[] xs.toArray, ty, pos, after, guard⟩ :: rest) s := by
  have hlen : xs.length = cs.length := by have := congrArg List.length hx; simpa using this
  have hat : ∀ (i : Nat) (z : Operand), xs[i]? = some z → ∃ x, cs[i]? = some x ∧ s.look z = some (.w (.one x)) := fun i z hz => by
    have h1 : (xs.map s.look)[i]? = some (s.look z) := by rw [List.getElem?_map, hz]; rfl
    rw [hx, List.getElem?_map] at h1
    cases hq : cs[i]? with
    | none => rw [hq] at h1; cases h1
    | some x => rw [hq] at h1; exact ⟨x, rfl, (Option.some.inj h1).symm⟩
  refine al_quiet (av := .w (.one (.p (FunP fn cs)))) hw ⟨fun _ _ h => (by cases h), fun z hz => ?_, fun U ρ W env he => ⟨.func fn #[] (xs.map env).toArray, ?_, ?_⟩, fun j hj => absurd hj (noownp _ j)⟩ hd h
  · simp [Op.operands] at hz
    obtain ⟨i, hi⟩ := List.getElem?_of_mem hz
    obtain ⟨x, _, h2⟩ := hat i z hi
    exact ⟨_, h2⟩
  · simp [execOp, Instr.makeFunc]
  · have hcell : ∀ (i : Nat) (x : AC) (u : Value), cs[i]? = some x → (xs.map env)[i]? = some u → RpC U ρ W x u := fun i x u hxi hu => by
      rw [List.getElem?_map] at hu
      cases hz : xs[i]? with
      | none => rw [hz] at hu; cases hu
      | some z =>
        rw [hz] at hu
        cases hu
        obtain ⟨x', h1, h2⟩ := hat i z hz
        rw [hxi] at h1
        cases h1
        exact he z (by simp [Op.operands]; exact List.mem_of_getElem? hz) _ h2
    have hcl : ∀ x ∈ cs, ∀ j, ¬ x.owns j := fun x hx j => AC.closed_of (List.all_eq_true.1 hc x hx) j
    refine ⟨⟨xs.map env, rfl, ⟨by simpa using hlen.symm, fun i x u hxi hu => ?_⟩, hcl⟩, ?_⟩
    · have h1 := hcell i x u hxi hu
      cases x with
      | c y => exact h1
      | own k o => exact absurd rfl (hcl _ (List.mem_of_getElem? hxi) k)
      | p R => exact ⟨h1.1, fun _ _ => trivial⟩
    · rintro b ⟨vs', e, i, x, u, hxi, hu, hb⟩
      have e' : xs.map env = vs' := by simpa using e
      subst e'
      have h1 := hcell i x u hxi hu
      cases x with
      | c y => cases hb
      | own k o => cases hb
      | p R => exact h1.2 b hb
theorem run_equalIn_nilf (n : Nat) {t : TypeId} {ps rs : Array TypeId} {vr : Bool} (hu : P.underlying t = some (.func ps rs vr)) (fn : Fn) (xs ys : Array Value) (W : World) : (Op.equalIn (n + 1) t (.func fn xs ys) .nilFunc).run P W = .ok false W := by
  simp [Op.equalIn, run_underlying hu]
theorem run_equal_nilf {t : TypeId} {ps rs : Array TypeId} {vr : Bool} (hu : P.underlying t = some (.func ps rs vr)) (fn : Fn) (xs ys : Array Value) (W : World) : (Op.equal t (.func fn xs ys) .nilFunc).run P W = .ok false W := run_equalIn_nilf 9999 hu fn xs ys W
theorem run_eq_nilf {t : TypeId} {ps rs : Array TypeId} {vr : Bool} (hu : P.underlying t = some (.func ps rs vr)) (fn : Fn) (xs ys : Array Value) (W : World) : (binOp .eql t (.func fn xs ys) .nilFunc).run P W = .ok (.bool false) W := by
  simp only [binOp]
  simp [run_equal_nilf hu]
theorem guard_nilf {op : BinOp} {t : TypeId} {x y : Operand} {fn : Fn} {xs ys : Array Value} {v : Value} : eqGuard op t x y (.func fn xs ys) v = pure () := by cases op <;> rfl
theorem al_eqnil {t yt : Nat} {x : Operand} {fn : Fn} {cs : List AC} {ps rs : Array TypeId} {vr : Bool} (hw : want ops ⟨some d, .binOp .eql t x (.const .nilFunc) yt, ty, pos, after, guard⟩ s = some true) (hx : s.look x = some (.w (.one (.p (FunP fn cs))))) (hu : P.underlying t = some (.func ps rs vr)) (hd : Nat.blt d s.n = true) (h : aList P ops K rest (s.put (some d) (vB false))) : aList P ops K (⟨some d, .binOp .eql t x (.const .nilFunc) yt, ty, pos, after, guard⟩ :: rest) s := by
  refine al_quiet (av := vB false) hw ⟨fun _ _ h => (by cases h), fun z hz => ?_, fun U ρ W env he => ⟨.bool false, ?_, ⟨rfl, rfl⟩⟩, fun j hj => absurd hj (noown _ j)⟩ hd h
  · simp [Op.operands] at hz
    rcases hz with rfl | rfl
    · exact ⟨_, hx⟩
    · exact ⟨_, rfl⟩
  · obtain ⟨vs, hv, _⟩ := FunP.caps (ρ := ρ) (he x (by simp [Op.operands]) _ hx)
    have e2 : env (.const .nilFunc) = .nilFunc := (he (.const .nilFunc) (by simp [Op.operands]) _ rfl).1
    simp only [execOp, hv, e2, guard_nilf, Sem.run_bind, Sem.run_pure, Result.andThen_ok, run_eq_nilf hu]
end
/-- a block of the frame's own that is written no more: pointers into it become facts. -/
def frzB (s : AS) (k j : Nat) : Bool := !(Nat.beq j k) && (match s.mem j with | some ds => ds.all AC.closedB | none => false)
def frzT (s : AS) (k : Nat) (cs : List AC) : Option AV → Option AV
  | some (.w (.one (.own j off))) => bif Nat.beq j k then some (.w (.one (.p (PtrP (cs.drop off))))) else bif frzB s k j then some (.w (.one (.own j off))) else none
  | some av => bif av.closedB then some av else none
  | none => none
def frz (s : AS) (k : Nat) (cs : List AC) : AS := ⟨s.n, fun t => frzT s k cs (s.tmps t), fun j => bif frzB s k j then s.mem j else none⟩
theorem frzB_spec {s : AS} {k j : Nat} (h : frzB s k j = true) : j ≠ k ∧ ∃ ds, s.mem j = some ds ∧ ds.all AC.closedB = true := by
  unfold frzB at h
  simp only [Bool.and_eq_true, Bool.not_eq_true'] at h
  refine ⟨fun e => by subst e; simp at h, ?_⟩
  cases hm : s.mem j with
  | none => rw [hm] at h; simp at h
  | some ds => rw [hm] at h; exact ⟨ds, rfl, h.2⟩
theorem frz_ok {s : AS} {k : Nat} {cs : List AC} (ok : s.Ok) : (frz s k cs).Ok := by
  refine ⟨fun t av j ht hj => ?_, fun i ds x j hi hx hj => ?_⟩
  · have key : ∀ o, frzT s k cs o = some av → ∃ ds, (frz s k cs).mem j = some ds := by
      intro o ho
      unfold frzT at ho
      split at ho
      · rename_i j' off
        cases hb : Nat.beq j' k with
        | true => rw [hb] at ho; simp at ho; subst ho; obtain ⟨y, hy, hj⟩ := hj; simp [AW.cells] at hy; subst hy; cases hj
        | false =>
          rw [hb] at ho
          cases hk : frzB s k j' with
          | false => rw [hk] at ho; simp at ho
          | true =>
            rw [hk] at ho
            simp at ho
            subst ho
            obtain ⟨y, hy, hj⟩ := hj
            simp [AW.cells] at hy
            subst hy
            have e : j = j' := hj
            subst e
            obtain ⟨_, ds, hm, _⟩ := frzB_spec hk
            exact ⟨ds, by simp only [frz, hk, cond_true]; exact hm⟩
      · rename_i av' _
        cases hc : av'.closedB with
        | false => rw [hc] at ho; simp at ho
        | true => rw [hc] at ho; simp at ho; subst ho; exact absurd hj (AV.closed_of hc j)
      · cases ho
    exact key _ ht
  · simp only [frz] at hi
    cases hk : frzB s k i with
    | false => rw [hk] at hi; simp at hi
    | true =>
      rw [hk] at hi
      simp at hi
      obtain ⟨_, ds', hm, hc⟩ := frzB_spec hk
      rw [hm] at hi
      cases hi
      exact absurd hj (AC.closed_of (List.all_eq_true.1 hc x hx) j)
theorem frz_rel {s : AS} {k : Nat} {cs : List AC} {W : World} {A : Nat → Prop} {ρ : Nat → Nat} {a : Act} {w : World} (hk : s.mem k = some cs) (hcl : cs.all AC.closedB = true) (hR : Rel (Base.all W) A s ρ a w) : Rel (Base.all W) A (frz s k cs) ρ a w := by
  have hmem : ∀ j ds, (frz s k cs).mem j = some ds → j ≠ k ∧ s.mem j = some ds := fun j ds hj => by
    simp only [frz] at hj
    cases hb : frzB s k j with
    | false => rw [hb] at hj; simp at hj
    | true => rw [hb] at hj; simp at hj; exact ⟨(frzB_spec hb).1, hj⟩
  have hfree : ∀ b, s.free A ρ b → (frz s k cs).free A ρ b := fun b hb => ⟨hb.1, fun j ds hj => hb.2 j ds (hmem j ds hj).2⟩
  obtain ⟨vs, tyk, g1, g2, g3⟩ := hR.mm k cs hk
  have hAk : A (ρ k) := hR.up _ (by
    have : ¬ ρ k < W.heap.size := g3
    show W.heap.size ≤ ρ k
    omega)
  have hlt : ρ k < w.heap.size := hR.lt hk
  have hfk : (frz s k cs).free A ρ (ρ k) := ⟨hAk, fun j ds hj e => by
    obtain ⟨h1, h2⟩ := hmem j ds hj
    exact h1 (hR.inj j k _ _ h2 hk e)⟩
  have hcl' : ∀ y ∈ cs, y.closedB = true := List.all_eq_true.1 hcl
  refine ⟨hR.nodef, hR.size, fun t av ht => ?_, fun j ds hj => ?_, fun j j' c1 c2 h1 h2 e => hR.inj j j' _ _ (hmem j c1 h1).2 (hmem j' c2 h2).2 e, hR.below, hR.up, hR.anch⟩
  · simp only [frz] at ht
    cases ho : s.tmps t with
    | none => rw [ho] at ht; cases ht
    | some o =>
      rw [ho] at ht
      obtain ⟨v, h1, h2⟩ := hR.tm t o ho
      refine ⟨v, h1, ?_⟩
      have h3 : RpV ((frz s k cs).free A ρ) ρ w o v := h2.map (fun b hb _ => ⟨hfree b hb, rfl⟩) fun _ _ => rfl
      unfold frzT at ht
      split at ht
      · rename_i j' off heq
        cases heq
        cases hb : Nat.beq j' k with
        | true =>
          rw [hb] at ht
          simp at ht
          subst ht
          have e : j' = k := Nat.eq_of_beq_eq_true hb
          subst e
          have hv : v = .pointer (some ⟨ρ j', off, none⟩) := h2
          subst hv
          have hCA : CellsAt w ⟨ρ j', off, none⟩ (cs.drop off) (vs.drop off) := by
            refine ⟨hlt, ⟨by simp [g2.1], fun i x u hx hu => ?_⟩, fun i u hu => ?_, fun y hy => hcl' y (List.mem_of_mem_drop hy)⟩
            · rw [List.getElem?_drop] at hx hu
              have h5 := g2.2 _ x u hx hu
              have hc5 := hcl' x (List.mem_of_getElem? hx)
              cases x with
              | c y => exact h5
              | own k o => cases hc5
              | p S => exact ⟨h5.1, fun _ _ => trivial⟩
            · rw [List.getElem?_drop] at hu
              have hadd : (⟨ρ j', off, none⟩ : Addr).add i = ⟨ρ j', off + i, none⟩ := by unfold Addr.add; split <;> simp_all
              rw [hadd]
              simp only [World.cell?, g1]
              simpa using hu
          refine ⟨⟨_, _, rfl, hCA⟩, ?_⟩
          rintro b ⟨a', e, hf⟩
          cases e
          rcases hf with rfl | ⟨i, y, u, hy, hu, hfo⟩
          · exact hfk
          · rw [List.getElem?_drop] at hy
            have hlt2 : off + i < vs.length := by rw [← g2.1]; exact (List.getElem?_eq_some_iff.1 hy).1
            have h6 := hCA.at_ i vs[off + i] (by rw [List.getElem?_drop]; exact List.getElem?_eq_getElem hlt2)
            rw [hu] at h6
            cases h6
            have h7 := g2.2 _ y _ hy (List.getElem?_eq_getElem hlt2)
            cases y with
            | c y => cases hfo
            | own k o => cases hfo
            | p S => exact hfree b (h7.2 b hfo)
        | false =>
          rw [hb] at ht
          cases hkk : frzB s k j' with
          | false => rw [hkk] at ht; simp at ht
          | true => rw [hkk] at ht; simp at ht; subst ht; exact h3
      · rename_i av' heq
        cases heq
        cases hc : AV.closedB o with
        | false => rw [hc] at ht; simp at ht
        | true => rw [hc] at ht; simp at ht; subst ht; exact h3
      · rename_i heq; cases heq
  · obtain ⟨h1, h2⟩ := hmem j ds hj
    obtain ⟨us, tj, q1, q2, q3⟩ := hR.mm j ds h2
    exact ⟨us, tj, q1, q2.map (fun b hb _ => ⟨hfree b hb, rfl⟩) fun _ _ _ _ => rfl, q3⟩
section
variable {P : Program} {x y : Code} {Q : Exit → AS → Prop} {s : AS}
theorem awt_awp (h : AWp P x Q s) : AWt P x Q s := fun ok W => h ok (Base.all W)
theorem awt_seq (h : AWt P x (athen (fun s' => AWt P y Q s') Q) s) : AWt P (.seq x y) Q s := by
  intro ok W A ρ a w hR
  refine wp_seq (wp_mono (h ok W A ρ a w hR) ?_)
  rintro e a' w' ⟨s', ρ', ok', hR', hq⟩
  cases e <;> first | exact hq ok' W A ρ' a' w' hR' | exact ⟨s', ρ', ok', hR', hq⟩
theorem awt_freeze (k : Nat) (cs : List AC) (hk : s.mem k = some cs) (hcl : cs.all AC.closedB = true) (h : AWt P x Q (frz s k cs)) : AWt P x Q s := by
  intro ok W A ρ a w hR
  exact h (frz_ok ok) W A ρ a w (frz_rel hk hcl hR)
end
end Go.Proofs.Ytpopeipcjpfbaaa
