/-
  Code, loops, calls, over states without addresses. My own text.
-/
import Derived.Test.YtinjgiigmlikpaaAbsE
namespace Go.Proofs.Ytinjgiigmlikpaa
open Go.RowKit
set_option linter.unusedVariables false
set_option linter.unusedSimpArgs false
section
variable {P : Program} {B : World} {A : Nat → Prop} {s s1 s2 s' : AS} {ρ : Nat → Nat} {a : Act} {w : World} {Q : Exit → AS → Prop} {x y : Code}
def athen (next : AS → Prop) (Q : Exit → AS → Prop) : Exit → AS → Prop
  | .normal, s => next s
  | e, s => Q e s
theorem awp_seq (h : AWp P x (athen (fun s' => AWp P y Q s') Q) s) : AWp P (.seq x y) Q s := by
  intro ok B A ρ a w hR
  refine wp_seq (wp_mono (h ok B A ρ a w hR) ?_)
  rintro e a' w' ⟨s', ρ', ok', hR', hq⟩
  cases e <;> first | exact hq ok' B A ρ' a' w' hR' | exact ⟨s', ρ', ok', hR', hq⟩
theorem awp_skip (h : Q .normal s) : AWp P .skip Q s := fun ok B A ρ a w hR => wp_skip ⟨s, ρ, ok, hR, h⟩
theorem awp_label {l : Nat} (h : Q .normal s) : AWp P (.label l) Q s := fun ok B A ρ a w hR => wp_label ⟨s, ρ, ok, hR, h⟩
theorem awp_exit {id : Nat} (h : Q (.exit id) s) : AWp P (.exit id) Q s := fun ok B A ρ a w hR => wp_exit ⟨s, ρ, ok, hR, h⟩
theorem awp_ret (h : Q .ret s) : AWp P .ret Q s := fun ok B A ρ a w hR => wp_ret ⟨s, ρ, ok, hR, h⟩
theorem awp_cond {c : Operand} {t : Bool} (hc : s.look c = some (.w (.one (.c (.bool t))))) (h1 : t = true → AWp P x Q s) (h0 : t = false → AWp P y Q s) : AWp P (.cond c x y) Q s := by
  intro ok B A ρ a w hR
  have hv : a.eval c = .bool t := (hR.look hc).1
  refine wp_cond hv ?_
  cases t with
  | true => exact h1 rfl ok B A ρ a w hR
  | false => exact h0 rfl ok B A ρ a w hR
theorem awp_cond_t {c : Operand} (hc : s.look c = some (.w (.one (.c (.bool true))))) (h1 : AWp P x Q s) : AWp P (.cond c x y) Q s := awp_cond hc (fun _ => h1) (fun e => by cases e)
theorem awp_cond_f {c : Operand} (hc : s.look c = some (.w (.one (.c (.bool false))))) (h0 : AWp P y Q s) : AWp P (.cond c x y) Q s := awp_cond hc (fun e => by cases e) (fun _ => h0)
def ablock (id : Nat) (Q : Exit → AS → Prop) : Exit → AS → Prop
  | .exit id', s => bif Nat.beq id' id then Q .normal s else Q (.exit id') s
  | e, s => Q e s
theorem awp_block {id : Nat} (h : AWp P x (ablock id Q) s) : AWp P (.block id x) Q s := by
  intro ok B A ρ a w hR
  refine wp_block (wp_mono (h ok B A ρ a w hR) ?_)
  rintro e a' w' ⟨s', ρ', ok', hR', hq⟩
  cases e with
  | exit id' =>
    simp only [Exit.inBlock]
    simp only [ablock] at hq
    cases hb : Nat.beq id' id with
    | true => rw [hb] at hq; rw [if_pos (Nat.eq_of_beq_eq_true hb)]; exact ⟨s', ρ', ok', hR', hq⟩
    | false =>
      rw [hb] at hq
      have : id' ≠ id := fun e => by subst e; rw [Nat.beq_refl] at hb; cases hb
      rw [if_neg this]; exact ⟨s', ρ', ok', hR', hq⟩
  | _ => exact ⟨s', ρ', ok', hR', hq⟩
/-- less is known. -/
structure AS.Le (s s' : AS) : Prop where
  n : s'.n = s.n
  tm : ∀ t av, s'.tmps t = some av → s.tmps t = some av
  mm : ∀ k cs, s'.mem k = some cs → s.mem k = some cs
theorem Rel.le (h : Rel B A s ρ a w) (l : s.Le s') : Rel B A s' ρ a w := by
  have hf : ∀ b, s.free A ρ b → b < w.heap.size → s'.free A ρ b ∧ w.heap[b]? = w.heap[b]? := fun b hb _ => ⟨⟨hb.1, fun k cs hk => hb.2 k cs (l.mm k cs hk)⟩, rfl⟩
  refine ⟨h.nodef, by rw [l.n]; exact h.size, fun t av ht => ?_, fun k cs hk => ?_, fun k k' c c' hk hk' e => h.inj k k' c c' (l.mm _ _ hk) (l.mm _ _ hk') e, h.below, h.up⟩
  · obtain ⟨v, h1, h2⟩ := h.tm t av (l.tm t av ht)
    exact ⟨v, h1, h2.map hf fun _ _ => rfl⟩
  · obtain ⟨vs, ty, h1, h2, h3⟩ := h.mm k cs (l.mm k cs hk)
    exact ⟨vs, ty, h1, h2.map hf fun _ _ _ _ => rfl, h3⟩
theorem awp_less (s' : AS) (l : s.Le s') (ok' : s'.Ok) (h : AWp P x Q s') : AWp P x Q s := fun _ B A ρ a w hR => h ok' B A ρ a w (hR.le l)
theorem wp_loop_n {c : Code} {Q : Exit → Act → World → Prop} (I : Nat → Act → World → Prop) {n : Nat} (h₀ : I n a w)
    (round : ∀ n a w, I n a w → c.wp P (Exit.then (fun a' w' => ∃ m, m < n ∧ I m a' w') Q) a w) : (Code.loop c).wp P Q a w := by
  intro b k cs
  have key : ∀ n a w, I n a w →
      ∃ e a' w', Q e a' w' ∧ Arrives P (lone (b.at a (.code c :: .inLoop c :: k)) cs w) b k cs e a' w' := by
    intro n
    induction n using Nat.strongRecOn with
    | _ n ih =>
      intro a w hI
      obtain ⟨e, a₁, w₁, hq, harr⟩ := round n a w hI b (.inLoop c :: k) cs
      cases e with
      | normal =>
        obtain ⟨m, hlt, hI₁⟩ := hq
        obtain ⟨e₂, a₂, w₂, hq₂, harr₂⟩ := ih m hlt a₁ w₁ hI₁
        exact ⟨e₂, a₂, w₂, hq₂, .of_steps (Steps.trans harr (.one step_inLoop)) harr₂⟩
      | exit id => exact ⟨_, a₁, w₁, hq, .pass (x := .inLoop c) rfl (fun _ _ => .inl (by simp)) harr⟩
      | goto l => exact ⟨_, a₁, w₁, hq, .pass (x := .inLoop c) rfl (fun _ _ => .inl (by simp)) harr⟩
      | ret => exact ⟨_, a₁, w₁, hq, .pass (x := .inLoop c) rfl (fun _ _ => .inl (by simp)) harr⟩
      | panic ch => exact ⟨_, a₁, w₁, hq, .pass (x := .inLoop c) rfl (fun _ _ => .inl (by simp)) harr⟩
      | outgrown => exact ⟨_, a₁, w₁, hq, .pass (x := .inLoop c) rfl (fun _ _ => .inl (by simp)) harr⟩
  obtain ⟨e, a', w', hq, harr⟩ := key _ a w h₀
  exact ⟨e, a', w', hq, .of_steps (.one step_loop) harr⟩
/-- a loop: I n holds ahead of each round, n falling. -/
theorem awp_loop (I : Nat → AS → Prop) (n : Nat) (s0 : AS) (l0 : s.Le s0) (ok0 : s0.Ok) (h0 : I n s0)
    (round : ∀ n s, I n s → AWp P x (athen (fun s' => ∃ m, m < n ∧ ∃ s'', s'.Le s'' ∧ s''.Ok ∧ I m s'') Q) s) : AWp P (.loop x) Q s := by
  intro ok B A ρ a w hR
  refine wp_loop_n (fun n a w => ∃ s ρ, s.Ok ∧ Rel B A s ρ a w ∧ I n s) ⟨s0, ρ, ok0, hR.le l0, h0⟩ ?_
  rintro n a w ⟨s, ρ, ok, hR, hI⟩
  refine wp_mono (round n s hI ok B A ρ a w hR) ?_
  rintro e a' w' ⟨s', ρ', ok', hR', hq⟩
  cases e with
  | normal =>
    obtain ⟨m, hm, s'', hl, ok'', hI'⟩ := hq
    exact ⟨m, hm, s'', ρ', ok'', hR'.le hl, hI'⟩
  | _ => exact ⟨s', ρ', ok', hR', hq⟩
def AV.Le (x y : AV) : Prop := ∀ U ρ W v, RpV U ρ W x v → RpV U ρ W y v
theorem AV.Le.refl (x : AV) : x.Le x := fun _ _ _ _ h => h
theorem AV.Le.of_eq {x y : AV} (h : x = y) : x.Le y := by subst h; exact .refl x
def resOf (P : Program) (s : AS) : ResultVar → Option AW
  | .tmp t => match s.tmps t with
    | some (.w x) => some x
    | _ => none
  | .cell a ty => match s.tmps a with
    | some (.w (.one (.own k off))) => (s.mem k).bind (pick P ty · off)
    | _ => none
def packed : List AW → AV
  | [x] => .w x
  | xs => .tup xs
/-- what is asked where a function ends. -/
def apost (P : Program) (fn : Func) (r : AV) : Exit → AS → Prop
  | .normal, s | .ret, s => ∃ xs, fn.results.toList.map (resOf P s) = xs.map some ∧ (packed xs).Le r
  | _, _ => False
theorem run_mapM {α : Type} {f : α → Sem Value} : ∀ (l : List α) (vs : List Value), l.length = vs.length → (∀ (i : Nat) x v, l[i]? = some x → vs[i]? = some v → (f x).run P w = .ok v w) → (l.mapM f).run P w = .ok vs w
  | [], [], _, _ => rfl
  | [], _ :: _, h, _ => by cases h
  | _ :: _, [], h, _ => by cases h
  | x :: l, v :: vs, hl, h => by
    have h0 := h 0 x v rfl rfl
    have ih := run_mapM l vs (by simpa using hl) (fun i x v hx hv => h (i + 1) x v (by simpa using hx) (by simpa using hv))
    rw [List.mapM_cons]
    simp only [Sem.run_bind, h0, Result.andThen_ok, ih]
    rfl
def resSem (a : Act) : ResultVar → Sem Value
  | .tmp t => pure (a.tmps.getD t undef)
  | .cell b t => do loadVar t (← asAddr (a.tmps.getD b undef))
theorem results_eq (fn : Func) (a : Act) : results fn a.tmps = (do let vs ← fn.results.mapM (resSem a); pure (if h : vs.size = 1 then vs[0] else .tuple vs)) := rfl
theorem res_sound {v : ResultVar} {z : AW} (hR : Rel B A s ρ a w) (h : resOf P s v = some z) : ∃ u, (resSem a v).run P w = .ok u w ∧ RpW (s.free A ρ) ρ w z u := by
  cases v with
  | tmp t =>
    simp only [resOf] at h
    split at h
    · rename_i x hx
      cases h
      obtain ⟨v, h1, h2⟩ := hR.tm t _ hx
      refine ⟨v, ?_, h2⟩
      simp [resSem, Array.getD_eq_getD_getElem?, h1]
    · cases h
  | cell b ty =>
    simp only [resOf] at h
    split at h
    · rename_i k off hx
      cases hm : s.mem k with
      | none => rw [hm] at h; cases h
      | some cs =>
        rw [hm] at h
        obtain ⟨vs, t, g1, g2, g3⟩ := hR.mm k cs hm
        obtain ⟨u, h1, h2⟩ := pick_sound h g1 g2
        obtain ⟨p, q1, q2⟩ := hR.tm b _ hx
        cases q2
        refine ⟨u, ?_, h2⟩
        simp only [resSem, Array.getD_eq_getD_getElem?, q1, Option.getD_some, asAddr, Sem.run_bind, Sem.run_pure, Result.andThen_ok, h1]
    · cases h
theorem results_sound {fn : Func} {xs : List AW} (hR : Rel B A s ρ a w) (h : fn.results.toList.map (resOf P s) = xs.map some) : ∃ v, (results fn a.tmps).run P w = .ok v w ∧ RpV (s.free A ρ) ρ w (packed xs) v := by
  have key : ∀ (l : List ResultVar) (xs : List AW), l.map (resOf P s) = xs.map some → ∃ vs : List Value, vs.length = xs.length ∧ l.length = vs.length ∧ (∀ (i : Nat) r u, l[i]? = some r → vs[i]? = some u → (resSem a r).run P w = .ok u w) ∧ ∀ (i : Nat) x u, xs[i]? = some x → vs[i]? = some u → RpW (s.free A ρ) ρ w x u := by
    intro l
    induction l with
    | nil => intro xs h; cases xs with
      | nil => exact ⟨[], rfl, rfl, fun i r u h => by simp at h, fun i x u h => by simp at h⟩
      | cons => cases h
    | cons r l ih =>
      intro xs h
      cases xs with
      | nil => cases h
      | cons x xs =>
        simp only [List.map_cons, List.cons.injEq] at h
        obtain ⟨vs, e1, e2, e3, e4⟩ := ih xs h.2
        obtain ⟨u, q1, q2⟩ := res_sound hR h.1
        refine ⟨u :: vs, by simp [e1], by simp [e2], fun i r' u' h1 h2 => ?_, fun i x' u' h1 h2 => ?_⟩
        · cases i with
          | zero => simp at h1 h2; subst h1; subst h2; exact q1
          | succ i => exact e3 i r' u' (by simpa using h1) (by simpa using h2)
        · cases i with
          | zero => simp at h1 h2; subst h1; subst h2; exact q2
          | succ i => exact e4 i x' u' (by simpa using h1) (by simpa using h2)
  obtain ⟨vs, e1, e2, e3, e4⟩ := key _ _ h
  have hm := run_mapM (P := P) (w := w) _ vs e2 e3
  have hrun : (results fn a.tmps).run P w = .ok (if h : vs.toArray.size = 1 then vs.toArray[0] else .tuple vs.toArray) w := by
    rw [results_eq, Array.mapM_eq_mapM_toList]
    simp only [map_eq_pure_bind, bind_assoc, Sem.run_bind]
    rw [hm]
    simp only [Result.andThen_ok, Sem.run_bind, Sem.run_pure]
  refine ⟨_, hrun, ?_⟩
  match vs, xs, e1, e4 with
  | [], [], _, _ => exact ⟨[], rfl, rfl, fun i x v h => by simp at h⟩
  | [v], [x], _, e4 => exact e4 0 x v rfl rfl
  | v1 :: v2 :: vs, x1 :: x2 :: xs, e1, e4 =>
    rw [dif_neg (by simp)]
    exact ⟨v1 :: v2 :: vs, rfl, e1.symm, e4⟩
/-- the state in which a function begins. -/
def start (n : Nat) (args : List AV) : AS := ⟨n, fun t => args[t]?, fun _ => none⟩
theorem pcall_of_body {f : FuncId} {fn : Func} {c : Code} {args : List AV} {r : AV} (hf : P.funcs[f]? = some fn) (hb : fn.body = some c) (hn : args.length ≤ fn.ntmps) (ca : ∀ x ∈ args, x.closed) (cr : r.closed)
    (h : AWp P c (apost P fn r) (start fn.ntmps args)) : PCall P f args r := by
  refine ⟨ca, cr, fun U W vs hvs => ?_⟩
  have hl := hvs.1
  -- what the arguments' facts hang on is kept apart from all blocks that the call makes
  refine calls_of_wp hf hb ?_
  have ok : (start fn.ntmps args).Ok := ⟨fun t av j ht hj => absurd hj (ca av (List.mem_of_getElem? ht) j), fun k cs x j hk => by cases hk⟩
  have hR : Rel W (fun b => U b ∨ W.heap.size ≤ b) (start fn.ntmps args) id { tmps := vs.toArray ++ Array.replicate (fn.ntmps - vs.toArray.size) undef, defers := [] } W := by
    refine ⟨rfl, by simp [start]; omega, fun t av ht => ?_, (fun k cs hk => by cases hk), (fun k k' cs cs' hk => by cases hk), Below.refl _ _, fun b hb => .inr hb⟩
    have hlt : t < vs.length := by rw [← hl]; exact (List.getElem?_eq_some_iff.1 ht).1
    refine ⟨vs[t], by simp [Array.getElem?_append, hlt], ?_⟩
    exact (hvs.2 t av _ ht (List.getElem?_eq_getElem hlt)).map (fun b hb _ => ⟨⟨.inl hb, fun k cs hk => by cases hk⟩, rfl⟩) fun _ _ => rfl
  refine wp_mono (h ok W _ id _ W hR) ?_
  rintro e a' w' ⟨s', ρ', ok', hR', hq⟩
  have fin : (∃ xs, fn.results.toList.map (resOf P s') = xs.map some ∧ (packed xs).Le r) → a'.defers = [] ∧ ∃ v, (results fn a'.tmps).run P w' = .ok v w' ∧ ∃ u, Ending.returned v = .returned u ∧ RpV (fun b => U b ∨ W.heap.size ≤ b) id w' r u ∧ Below W.heap.size W w' := by
    rintro ⟨xs, h1, h2⟩
    obtain ⟨v, q1, q2⟩ := results_sound hR' h1
    exact ⟨hR'.nodef, v, q1, v, rfl, (h2 _ _ _ _ q2).map (fun b hb _ => ⟨hb.1, rfl⟩) fun j hj => absurd hj (cr j), hR'.below⟩
  cases e with
  | normal => exact fin hq
  | ret => exact fin hq
  | _ => exact hq.elim
end
end Go.Proofs.Ytinjgiigmlikpaa
