/-
  Calls that turn what a caller holds: the function's side; other names; the operation in a walk. My own text.
-/
import Derived.Test.YtpopeipcjpfbaaaAbsK
namespace Go.Proofs.Ytpopeipcjpfbaaa
open Go.RowKit
set_option linter.unusedVariables false
set_option linter.unusedSimpArgs false
def mem1 (k : Nat) (cs : List AC) : Mem := upd noMem k cs
theorem mem1_iff {k j : Nat} {cs ds : List AC} (h : mem1 k cs j = some ds) : j = k ∧ ds = cs := by
  unfold mem1 at h
  by_cases e : j = k
  · subst e; rw [upd_same] at h; exact ⟨rfl, (Option.some.inj h).symm⟩
  · rw [upd_ne _ _ e] at h; cases h
theorem row1_iff {k j : Nat} {r q : HRow} (h : row1 k r j = some q) : j = k ∧ q = r := by
  unfold row1 at h
  by_cases e : j = k
  · subst e; rw [upd_same] at h; exact ⟨rfl, (Option.some.inj h).symm⟩
  · rw [upd_ne _ _ e] at h; cases h
theorem ovr_upd {α : Type} (f : Nat → Option α) (k : Nat) (x : α) : ovr (upd (fun _ => none) k x) f = upd f k x := by
  funext j
  by_cases e : j = k
  · subst e; rw [upd_same]; exact ovr_l (upd_same _ _ _)
  · rw [upd_ne _ _ e]; exact ovr_r (upd_ne _ _ e)
theorem ovr_none {α : Type} (f : Nat → Option α) : ovr (fun _ => none) f = f := by funext j; exact ovr_r rfl
/-- the state in which a function begins that is handed blocks. -/
def startM (n : Nat) (args : List AV) (m : Mem) : AS := ⟨n, fun t => args[t]?, m⟩
def hfin (P : Program) (fn : Func) (m0 : Mem) (R0 : Rws) (Post : AV → Mem → Rws → Prop) (R : Rws) (s : AS) : Prop :=
  ∃ xs r m' R', fn.results.toList.map (resOf P s) = xs.map some ∧ (packed xs).Le r ∧ Post r m' R' ∧ (∀ k cs, m' k = some cs → s.mem k = some cs) ∧ RLe R' R ∧ (∀ j, r.owns j → ∃ cs, m' j = some cs) ∧ (∀ k cs x j, m' k = some cs → x ∈ cs → x.owns j → ∃ cs', m' j = some cs') ∧ (∀ k cs, m0 k = some cs → ∃ cs', m' k = some cs') ∧ ∀ i r, R0 i = some r → ∃ r', R' i = some r'
def hpost (P : Program) (fn : Func) (m0 : Mem) (R0 : Rws) (Post : AV → Mem → Rws → Prop) : Exit → Rws → AS → Prop
  | .normal, R, s | .ret, R, s => hfin P fn m0 R0 Post R s
  | _, _, _ => False
section
variable {P : Program}
theorem hcall_of_body {f : FuncId} {fn : Func} {c : Code} {args : List AV} {m0 : Mem} {R0 : Rws} {Post : AV → Mem → Rws → Prop} (hf : P.funcs[f]? = some fn) (hb : fn.body = some c) (hn : args.length ≤ fn.ntmps) (hbig : ∀ k cs, m0 k = some cs → fn.ntmps ≤ k)
    (h : RWp P c (hpost P fn m0 R0 Post) R0 (startM fn.ntmps args m0)) : HCall P f args m0 R0 Post := by
  refine ⟨fun U ρ W vs hH hown hvs => ?_⟩
  have hl := hvs.1
  refine calls_of_wp hf hb ?_
  have ok : (startM fn.ntmps args m0).Ok := ⟨fun t av j ht hj => hown av (List.mem_of_getElem? ht) j hj, fun k cs x j hk hx hj => hH.mo k cs x j hk hx hj⟩
  let B0 : Base := ⟨W, fun b => b < W.heap.size ∧ ¬ HotAt ρ m0 R0 b, fun _ h => h.1, fun k => match m0 k with | some _ => some (ρ k) | none => none⟩
  have hlt : ∀ b, HotAt ρ m0 R0 b → b < W.heap.size := by
    rintro b (⟨k, cs, hk, rfl⟩ | ⟨i, r, hi, hg⟩)
    · obtain ⟨vs, ty, h1, _⟩ := hH.mm k cs hk
      exact (Array.getElem?_eq_some_iff.1 h1).1
    · obtain ⟨⟨xs, ho, _⟩, _, _⟩ := hH.rows i r hi
      exact (ho.lt b hg).2
  have hUh : ∀ b, U b → ¬ HotAt ρ m0 R0 b := by
    rintro b hu (⟨k, cs, hk, rfl⟩ | ⟨i, r, hi, hg⟩)
    · obtain ⟨_, _, _, _, h⟩ := hH.mm k cs hk; exact h hu
    · exact ((hH.rows i r hi).2.2 b hg).1 hu
  have han : Anch B0 (startM fn.ntmps args m0) ρ := fun k b hk => by
    cases hm : m0 k with
    | none => simp only [B0, hm] at hk; cases hk
    | some cs => simp only [B0, hm, Option.some.injEq] at hk; exact ⟨hbig k cs hm, hk⟩
  have hfree : ∀ b, U b → b < W.heap.size → (startM fn.ntmps args m0).free (fun b => U b ∨ W.heap.size ≤ b) ρ b ∧ W.heap[b]? = W.heap[b]? := fun b hu _ => ⟨⟨.inl hu, fun k cs hk e => hUh b hu (.inl ⟨k, cs, hk, e⟩)⟩, rfl⟩
  have hR : RR B0 (fun b => U b ∨ W.heap.size ≤ b ∨ HotAt ρ m0 R0 b) R0 (startM fn.ntmps args m0) { tmps := vs.toArray ++ Array.replicate (fn.ntmps - vs.toArray.size) undef, defers := [] } W (fun b => U b ∨ W.heap.size ≤ b) ρ := by
    refine ⟨fun b hb => .inr (.inl hb), fun b hb => hb.elim .inl fun h => .inr (.inl h), ?_, fun k cs hk hf => hf.2 (.inl ⟨k, cs, hk, rfl⟩), ⟨rfl, rfl, rfl, Nat.le_refl _, fun _ _ => rfl⟩, fun i r hi => ?_, hH.apart, fun i r g hi hg => ⟨fun hf => hf.2 (.inr ⟨i, r, hi, hg⟩), .inr (.inr (.inr ⟨i, r, hi, hg⟩))⟩, han⟩
    · refine ⟨rfl, by simp [startM]; omega, fun t av ht => ?_, fun k cs hk => ?_, hH.inj, BelowB.refl _, fun b hb => .inr hb, hbase_anch _ _ _⟩
      · have hlt' : t < vs.length := by rw [← hl]; exact (List.getElem?_eq_some_iff.1 ht).1
        refine ⟨vs[t], by simp [Array.getElem?_append, hlt'], ?_⟩
        exact (hvs.2 t av _ ht (List.getElem?_eq_getElem hlt')).map hfree fun _ _ => rfl
      · obtain ⟨us, ty, h1, h2, h3⟩ := hH.mm k cs hk
        exact ⟨us, ty, h1, h2.map hfree fun _ _ _ _ => rfl, fun hf => hf.2 k cs hk rfl⟩
    · obtain ⟨⟨xs, ho, hl'⟩, hc, hg⟩ := hH.rows i r hi
      refine ⟨⟨xs, ho, hl'.closed_map hc hfree⟩, hc, fun g q => ⟨?_, fun k cs hk => (hg g q).2 k cs hk⟩⟩
      rintro (hu | hu)
      · exact (hg g q).1 hu
      · have := hlt g (.inr ⟨i, r, hi, q⟩); omega
  refine wp_mono (h ok B0 _ _ W ⟨_, ρ, hR⟩) ?_
  rintro e a' w' ⟨R2, s', ok', ⟨A', ρ', hR'⟩, hq⟩
  have fin : hfin P fn m0 R0 Post R2 s' → a'.defers = [] ∧ ∃ v, (results fn a'.tmps).run P w' = .ok v w' ∧ ∃ v' r m' R' ρ' U', Ending.returned v = .returned v' ∧ Post r m' R' ∧ HHeap U' ρ' w' m' R' ∧ RpV U' ρ' w' r v' ∧ (∀ j, r.owns j → ∃ cs, m' j = some cs) ∧
      (∀ k cs, m0 k = some cs → ρ' k = ρ k ∧ ∃ cs', m' k = some cs') ∧ (∀ i r, R0 i = some r → ∃ r', R' i = some r') ∧
      (∀ b, U' b → U b ∨ W.heap.size ≤ b ∨ HotAt ρ m0 R0 b) ∧ (∀ b, HotAt ρ' m' R' b → HotAt ρ m0 R0 b ∨ W.heap.size ≤ b) ∧ BelowB (hotBase ρ W m0 R0) w' := by
    rintro ⟨xs, r, m', R', h1, h2, h3, h4, h5, h6, h7, h8, h9⟩
    obtain ⟨v, q1, q2⟩ := results_sound hR'.rel h1
    refine ⟨hR'.rel.nodef, v, q1, v, r, m', R', ρ', s'.free A' ρ', rfl, h3, hR'.part h4 h5 h7, h2 _ _ _ _ q2, h6, fun k cs hk => ⟨(hR'.anch k (ρ k) (by simp [B0, hk])).2, h8 k cs hk⟩, h9, fun b hb => hR'.sub b hb.1, ?_, ⟨hR'.below.os, hR'.below.tape, hR'.below.output, hR'.below.size, fun b hb => hR'.below.block b hb⟩⟩
    rintro b (⟨k, cs, hk, rfl⟩ | ⟨i, q, hi, hg⟩)
    · have hnf := hR'.mine k cs (h4 k cs hk)
      rcases Nat.lt_or_ge (ρ' k) W.heap.size with hl2 | hl2
      · exact .inl (Classical.byContradiction fun hn => hnf ⟨hl2, hn⟩)
      · exact .inr hl2
    · have hnf := (hR'.hot i q b (h5 i q hi) hg).1
      rcases Nat.lt_or_ge b W.heap.size with hl2 | hl2
      · exact .inl (Classical.byContradiction fun hn => hnf ⟨hl2, hn⟩)
      · exact .inr hl2
  cases e with
  | normal => exact fin hq
  | ret => exact fin hq
  | _ => exact hq.elim
end
/-- other names. -/
def AC.ren (π : Nat → Nat) : AC → AC
  | .own k o => .own (π k) o
  | .c v => .c v
  | .p R => .p R
def AW.ren (π : Nat → Nat) : AW → AW
  | .one x => .one (x.ren π)
  | .agg xs => .agg (xs.map (AC.ren π))
def AV.ren (π : Nat → Nat) : AV → AV
  | .w x => .w (x.ren π)
  | .tup xs => .tup (xs.map (AW.ren π))
def Mem.ren (π : Nat → Nat) (m : Mem) : Mem := fun j => (m (π j)).map fun cs => cs.map (AC.ren π)
def Rws.ren (σ : Nat → Nat) (R : Rws) : Rws := fun j => R (σ j)
section
variable {P : Program} {U : Nat → Prop} {ρ : Nat → Nat} {W : World} {π σ τ : Nat → Nat}
theorem RpC.ren {x : AC} {v : Value} : RpC U ρ W (x.ren π) v ↔ RpC U (fun k => ρ (π k)) W x v := by cases x <;> exact Iff.rfl
theorem RpL.ren {xs : List AC} {vs : List Value} : RpL U ρ W (xs.map (AC.ren π)) vs ↔ RpL U (fun k => ρ (π k)) W xs vs := by
  constructor
  · rintro ⟨h1, h2⟩
    refine ⟨by simpa using h1, fun i x v hx hv => RpC.ren.1 (h2 i (x.ren π) v (by rw [List.getElem?_map, hx]; rfl) hv)⟩
  · rintro ⟨h1, h2⟩
    refine ⟨by simpa using h1, fun i x v hx hv => ?_⟩
    rw [List.getElem?_map] at hx
    cases hy : xs[i]? with
    | none => rw [hy] at hx; cases hx
    | some y => rw [hy] at hx; cases hx; exact RpC.ren.2 (h2 i y v hy hv)
theorem RpW.ren {x : AW} {v : Value} : RpW U ρ W (x.ren π) v ↔ RpW U (fun k => ρ (π k)) W x v := by
  cases x with
  | one x => exact RpC.ren
  | agg xs =>
    constructor
    · rintro ⟨vs, e, h⟩; exact ⟨vs, e, RpL.ren.1 h⟩
    · rintro ⟨vs, e, h⟩; exact ⟨vs, e, RpL.ren.2 h⟩
theorem RpV.ren {x : AV} {v : Value} : RpV U ρ W (x.ren π) v ↔ RpV U (fun k => ρ (π k)) W x v := by
  cases x with
  | w x => exact RpW.ren
  | tup xs =>
    constructor
    · rintro ⟨vs, e, hl, h⟩
      exact ⟨vs, e, by simpa using hl, fun i x v hx hv => RpW.ren.1 (h i (x.ren π) v (by rw [List.getElem?_map, hx]; rfl) hv)⟩
    · rintro ⟨vs, e, hl, h⟩
      refine ⟨vs, e, by simpa using hl, fun i x v hx hv => ?_⟩
      rw [List.getElem?_map] at hx
      cases hy : xs[i]? with
      | none => rw [hy] at hx; cases hx
      | some y => rw [hy] at hx; cases hx; exact RpW.ren.2 (h i y v hy hv)
theorem AC.ren_owns {x : AC} {j : Nat} (h : (x.ren π).owns j) : ∃ i, x.owns i ∧ j = π i := by
  cases x with
  | own k o => exact ⟨k, rfl, h⟩
  | c v => cases h
  | p R => cases h
theorem AC.owns_ren {x : AC} {j : Nat} (h : x.owns j) : (x.ren π).owns (π j) := by
  cases x with
  | own k o => cases h; rfl
  | c v => cases h
  | p R => cases h
theorem AW.cells_ren (x : AW) : (x.ren π).cells = x.cells.map (AC.ren π) := by cases x <;> rfl
theorem AV.ren_owns {x : AV} {j : Nat} (h : (x.ren π).owns j) : ∃ i, x.owns i ∧ j = π i := by
  have key : ∀ y : AW, (y.ren π).owns j → ∃ i, y.owns i ∧ j = π i := by
    rintro y ⟨z, hz, hj⟩
    rw [AW.cells_ren] at hz
    obtain ⟨u, hu, rfl⟩ := List.mem_map.1 hz
    obtain ⟨i, h1, h2⟩ := AC.ren_owns hj
    exact ⟨i, ⟨u, hu, h1⟩, h2⟩
  cases x with
  | w x => exact key x h
  | tup xs =>
    obtain ⟨y, hy, hj⟩ := h
    obtain ⟨u, hu, rfl⟩ := List.mem_map.1 hy
    obtain ⟨i, h1, h2⟩ := key u hj
    exact ⟨i, ⟨u, hu, h1⟩, h2⟩
theorem AV.owns_ren {x : AV} {j : Nat} (h : x.owns j) : (x.ren π).owns (π j) := by
  have key : ∀ y : AW, y.owns j → (y.ren π).owns (π j) := by
    rintro y ⟨z, hz, hj⟩
    exact ⟨z.ren π, by rw [AW.cells_ren]; exact List.mem_map.2 ⟨z, hz, rfl⟩, AC.owns_ren hj⟩
  cases x with
  | w x => exact key x h
  | tup xs =>
    obtain ⟨y, hy, hj⟩ := h
    exact ⟨y.ren π, List.mem_map.2 ⟨y, hy, rfl⟩, key y hj⟩
theorem Mem.ren_some {m : Mem} {j : Nat} {cs : List AC} (h : Mem.ren π m j = some cs) : ∃ ds, m (π j) = some ds ∧ cs = ds.map (AC.ren π) := by
  unfold Mem.ren at h
  cases hm : m (π j) with
  | none => rw [hm] at h; cases h
  | some ds => rw [hm] at h; exact ⟨ds, rfl, (Option.some.inj h).symm⟩
theorem Mem.ren_of (hπ : ∀ j, π (π j) = j) {m : Mem} {k : Nat} {cs : List AC} (h : m k = some cs) : Mem.ren π m (π k) = some (cs.map (AC.ren π)) := by
  unfold Mem.ren; rw [hπ, h]; rfl
theorem HotAt.ren (hπ : ∀ j, π (π j) = j) (hσ : ∀ j, σ (τ j) = j) {m : Mem} {R : Rws} {b : Nat} : HotAt ρ (m.ren π) (R.ren σ) b ↔ HotAt (fun k => ρ (π k)) m R b := by
  constructor
  · rintro (⟨k, cs, hk, e⟩ | ⟨i, r, hi, hg⟩)
    · obtain ⟨ds, h1, _⟩ := Mem.ren_some hk
      exact .inl ⟨π k, ds, h1, by simp only [hπ]; exact e⟩
    · exact .inr ⟨σ i, r, hi, hg⟩
  · rintro (⟨k, cs, hk, e⟩ | ⟨i, r, hi, hg⟩)
    · exact .inl ⟨π k, _, Mem.ren_of hπ hk, e⟩
    · exact .inr ⟨τ i, r, by unfold Rws.ren; rw [hσ]; exact hi, hg⟩
theorem HHeap.ren (hπ : ∀ j, π (π j) = j) (hσ : ∀ j, σ (τ j) = j) (hτ : ∀ j, τ (σ j) = j) {m : Mem} {R : Rws} : HHeap U ρ W (m.ren π) (R.ren σ) ↔ HHeap U (fun k => ρ (π k)) W m R := by
  have inj2 : ∀ {a b : Nat}, π a = π b → a = b := fun {a b} h => by rw [← hπ a, h, hπ]
  have injs : ∀ {a b : Nat}, σ a = σ b → a = b := fun {a b} h => by rw [← hτ a, h, hτ]
  have injt : ∀ {a b : Nat}, τ a = τ b → a = b := fun {a b} h => by rw [← hσ a, h, hσ]
  constructor
  · intro h
    refine ⟨fun k cs hk => ?_, fun k cs x j hk hx hj => ?_, fun k k' cs cs' hk hk' e => ?_, fun i r hi => ?_, fun i j r q hi hj hij g hg => h.apart (τ i) (τ j) r q (by unfold Rws.ren; rw [hσ]; exact hi) (by unfold Rws.ren; rw [hσ]; exact hj) (fun e => hij (injt e)) g hg⟩
    · obtain ⟨vs, ty, h1, h2, h3⟩ := h.mm (π k) _ (Mem.ren_of hπ hk)
      exact ⟨vs, ty, h1, RpL.ren.1 h2, h3⟩
    · obtain ⟨cs', h1⟩ := h.mo (π k) _ (x.ren π) (π j) (Mem.ren_of hπ hk) (List.mem_map.2 ⟨x, hx, rfl⟩) (AC.owns_ren hj)
      obtain ⟨ds, h2, _⟩ := Mem.ren_some h1
      rw [hπ] at h2
      exact ⟨ds, h2⟩
    · exact inj2 (h.inj (π k) (π k') _ _ (Mem.ren_of hπ hk) (Mem.ren_of hπ hk') e)
    · obtain ⟨⟨xs, h1, h2⟩, h3, h4⟩ := h.rows (τ i) r (by unfold Rws.ren; rw [hσ]; exact hi)
      exact ⟨⟨xs, h1, h2.closed_map h3 fun b hb _ => ⟨hb, rfl⟩⟩, h3, fun g hg => ⟨(h4 g hg).1, fun k cs hk => (h4 g hg).2 (π k) _ (Mem.ren_of hπ hk)⟩⟩
  · intro h
    refine ⟨fun k cs hk => ?_, fun k cs x j hk hx hj => ?_, fun k k' cs cs' hk hk' e => ?_, fun i r hi => ?_, fun i j r q hi hj hij g hg => h.apart (σ i) (σ j) r q hi hj (fun e => hij (injs e)) g hg⟩
    · obtain ⟨ds, h0, rfl⟩ := Mem.ren_some hk
      obtain ⟨vs, ty, h1, h2, h3⟩ := h.mm (π k) ds h0
      simp only [hπ] at h1 h3
      exact ⟨vs, ty, h1, RpL.ren.2 h2, h3⟩
    · obtain ⟨ds, h0, rfl⟩ := Mem.ren_some hk
      obtain ⟨y, hy, rfl⟩ := List.mem_map.1 hx
      obtain ⟨i, h1, rfl⟩ := AC.ren_owns hj
      obtain ⟨cs', h2⟩ := h.mo (π k) ds y i h0 hy h1
      exact ⟨_, Mem.ren_of hπ h2⟩
    · obtain ⟨ds, h0, _⟩ := Mem.ren_some hk
      obtain ⟨ds', h0', _⟩ := Mem.ren_some hk'
      exact inj2 (h.inj (π k) (π k') _ _ h0 h0' (by simp only [hπ]; exact e))
    · obtain ⟨⟨xs, h1, h2⟩, h3, h4⟩ := h.rows (σ i) r hi
      refine ⟨⟨xs, h1, h2.closed_map h3 fun b hb _ => ⟨hb, rfl⟩⟩, h3, fun g hg => ⟨(h4 g hg).1, fun k cs hk => ?_⟩⟩
      obtain ⟨ds, h0, _⟩ := Mem.ren_some hk
      have := (h4 g hg).2 (π k) ds h0
      simpa only [hπ] using this
/-- a contract, under other names. -/
theorem HCall.ren (hπ : ∀ j, π (π j) = j) (hσ : ∀ j, σ (τ j) = j) (hτ : ∀ j, τ (σ j) = j) {f : FuncId} {args : List AV} {m0 : Mem} {R0 : Rws} {Post : AV → Mem → Rws → Prop} (h : HCall P f args m0 R0 Post) :
    HCall P f (args.map (AV.ren π)) (m0.ren π) (R0.ren σ) fun r m' R' => ∃ r1 m1 R1, Post r1 m1 R1 ∧ r = r1.ren π ∧ m' = Mem.ren π m1 ∧ R' = Rws.ren σ R1 := by
  refine ⟨fun U ρ W vs hH hown hvs => ?_⟩
  have hvs' : RpVs U (fun k => ρ (π k)) W args vs := ⟨by simpa using hvs.1, fun i x v hx hv => RpV.ren.1 (hvs.2 i (x.ren π) v (by rw [List.getElem?_map, hx]; rfl) hv)⟩
  refine (h.call U (fun k => ρ (π k)) W vs ((HHeap.ren hπ hσ hτ).1 hH) (fun x hx j hj => ?_) hvs').mono ?_
  · obtain ⟨cs, h1⟩ := hown (x.ren π) (List.mem_map.2 ⟨x, hx, rfl⟩) (π j) (AV.owns_ren hj)
    obtain ⟨ds, h2, _⟩ := Mem.ren_some h1
    rw [hπ] at h2
    exact ⟨ds, h2⟩
  · rintro e W' ⟨v, r, m', R', ρ', U', rfl, h1, h2, h3, h4, h5, h6, h7, h8, h9⟩
    have e1 : (fun k => (fun k => ρ' (π k)) (π k)) = ρ' := by funext k; simp only [hπ]
    refine ⟨v, r.ren π, m'.ren π, R'.ren σ, fun k => ρ' (π k), U', rfl, ⟨r, m', R', h1, rfl, rfl, rfl⟩, (HHeap.ren hπ hσ hτ).2 (by rw [e1]; exact h2), RpV.ren.2 (by rw [e1]; exact h3), fun j hj => ?_, fun k cs hk => ?_, fun i q hi => ?_, fun b hb => ?_, fun b hb => ?_, ⟨h9.os, h9.tape, h9.output, h9.size, fun b hb => h9.block b ⟨hb.1, fun hh => hb.2 ((HotAt.ren hπ hσ).2 hh)⟩⟩⟩
    · obtain ⟨i, q1, rfl⟩ := AV.ren_owns hj
      obtain ⟨cs, q2⟩ := h4 i q1
      exact ⟨_, Mem.ren_of hπ q2⟩
    · obtain ⟨ds, q0, _⟩ := Mem.ren_some hk
      obtain ⟨q1, cs', q2⟩ := h5 (π k) ds q0
      refine ⟨by show ρ' (π k) = ρ k; rw [q1, hπ], ?_⟩
      have := Mem.ren_of hπ q2
      rw [hπ] at this
      exact ⟨_, this⟩
    · exact h6 (σ i) q hi
    · rcases h7 b hb with q | q | q
      · exact .inl q
      · exact .inr (.inl q)
      · exact .inr (.inr ((HotAt.ren hπ hσ).2 q))
    · have : HotAt (fun k => (fun k => ρ' (π k)) (π k)) m' R' b := (HotAt.ren hπ hσ).1 hb
      rw [e1] at this
      rcases h8 b this with q | q
      · exact .inl ((HotAt.ren hπ hσ).2 q)
      · exact .inr q
end
/-- two names changed. -/
def swp (a b j : Nat) : Nat := if j = a then b else if j = b then a else j
theorem swp_swp (a b j : Nat) : swp a b (swp a b j) = j := by
  unfold swp
  by_cases h1 : j = a
  · subst h1
    by_cases h2 : b = j
    · simp [h2]
    · simp [h2]
  · by_cases h2 : j = b
    · subst h2; simp [h1]
    · simp [h1, h2]
theorem swp_l (a b : Nat) : swp a b a = b := by simp [swp]
theorem swp_r (a b : Nat) : swp a b b = a := by unfold swp; by_cases h : b = a <;> simp [h]
theorem ren_closed {π : Nat → Nat} {x : AC} (h : x.closedB = true) : x.ren π = x := by cases x <;> first | rfl | cases h
theorem ren_closedL {π : Nat → Nat} {xs : List AC} (h : xs.all AC.closedB = true) : xs.map (AC.ren π) = xs := by
  rw [List.all_eq_true] at h
  conv => rhs; rw [← List.map_id xs]
  exact List.map_congr_left fun x hx => ren_closed (h x hx)
theorem ren_closedV {π : Nat → Nat} {x : AV} (h : x.closedB = true) : x.ren π = x := by
  have key : ∀ y : AW, y.closedB = true → y.ren π = y := fun y hy => by
    cases y with
    | one x => show AW.one (x.ren π) = _; rw [ren_closed hy]
    | agg xs => show AW.agg (xs.map _) = _; rw [ren_closedL hy]
  cases x with
  | w x => show AV.w (x.ren π) = _; rw [key x h]
  | tup xs =>
    show AV.tup (xs.map _) = _
    congr 1
    have h' : ∀ x ∈ xs, x.closedB = true := List.all_eq_true.1 h
    conv => rhs; rw [← List.map_id xs]
    exact List.map_congr_left fun x hx => key x (h' x hx)
theorem mem1_ren {k j : Nat} {cs : List AC} (h : cs.all AC.closedB = true) : Mem.ren (swp k j) (mem1 k cs) = mem1 j cs := by
  funext i
  unfold Mem.ren mem1
  by_cases e : i = j
  · subst e; rw [swp_r, upd_same, upd_same, Option.map_some, ren_closedL h]
  · rw [upd_ne _ _ e, upd_ne _ _ (fun e2 => e (by rw [← swp_swp k j i, e2, swp_l]))]; rfl
theorem row1_ren {k j : Nat} {r : HRow} : Rws.ren (swp k j) (row1 k r) = row1 j r := by
  funext i
  unfold Rws.ren row1
  by_cases e : i = j
  · subst e; rw [swp_r, upd_same, upd_same]
  · rw [upd_ne _ _ e, upd_ne _ _ (fun e2 => e (by rw [← swp_swp k j i, e2, swp_l]))]; rfl
/-- a method of a thing that is one block, with one row that hangs on it: whatever both are called. -/
def OCall (P : Program) (f : FuncId) (args : List AV) (cs : List AC) (r : HRow) (post : AV → List AC → HRow → Prop) : Prop :=
  ∀ k i, HCall P f (.w (.one (.own k 0)) :: args) (mem1 k cs) (row1 i r) fun v m' R' => ∃ cs' r', m' = mem1 k cs' ∧ R' = row1 i r' ∧ post v cs' r'
theorem ocall_of {P : Program} {f : FuncId} {args : List AV} {cs : List AC} {r : HRow} {post : AV → List AC → HRow → Prop} (ha : args.all AV.closedB = true) (hc : cs.all AC.closedB = true) (hp : ∀ v cs' r', post v cs' r' → v.closedB = true ∧ cs'.all AC.closedB = true)
    (h : HCall P f (.w (.one (.own 1000 0)) :: args) (mem1 1000 cs) (row1 0 r) fun v m' R' => ∃ cs' r', m' = mem1 1000 cs' ∧ R' = row1 0 r' ∧ post v cs' r') : OCall P f args cs r post := by
  intro k i
  have h1 := h.ren (π := swp 1000 k) (σ := swp 0 i) (τ := swp 0 i) (swp_swp _ _) (swp_swp _ _) (swp_swp _ _)
  have e1 : (AV.w (.one (.own 1000 0)) :: args).map (AV.ren (swp 1000 k)) = .w (.one (.own k 0)) :: args := by
    have e2 : args.map (AV.ren (swp 1000 k)) = args := by
      rw [List.all_eq_true] at ha
      conv => rhs; rw [← List.map_id args]
      exact List.map_congr_left fun x hx => ren_closedV (ha x hx)
    rw [List.map_cons, e2]
    show AV.w (.one (.own (swp 1000 k 1000) 0)) :: args = _
    rw [swp_l]
  rw [e1, mem1_ren hc, row1_ren] at h1
  refine ⟨fun U ρ W vs hH hown hvs => (h1.call U ρ W vs hH hown hvs).mono ?_⟩
  rintro e W' ⟨v, r1, m', R', ρ', U', q0, ⟨r2, m2, R2, ⟨cs', r', rfl, rfl, hq⟩, rfl, rfl, rfl⟩, q⟩
  obtain ⟨c1, c2⟩ := hp _ _ _ hq
  rw [mem1_ren c2, row1_ren, ren_closedV c1] at q
  exact ⟨v, r2, mem1 k cs', row1 i r', ρ', U', q0, ⟨cs', r', rfl, rfl, hq⟩, q⟩
/-- from two numbers of rows to two others. -/
def per (i j x : Nat) : Nat := swp 0 i (swp 1 (swp 0 i j) x)
def rep2 (i j x : Nat) : Nat := swp 1 (swp 0 i j) (swp 0 i x)
theorem per_rep (i j x : Nat) : per i j (rep2 i j x) = x := by unfold per rep2; rw [swp_swp, swp_swp]
theorem rep_per (i j x : Nat) : rep2 i j (per i j x) = x := by unfold per rep2; rw [swp_swp, swp_swp]
theorem per_0 {i j : Nat} (h : i ≠ j) : per i j 0 = i := by
  unfold per
  have : swp 0 i j ≠ 0 := fun e => h (by rw [← swp_swp 0 i j, e, swp_l])
  rw [show swp 1 (swp 0 i j) 0 = 0 by unfold swp at this ⊢; simp; intro e; exact absurd e.symm this, swp_l]
theorem per_1 (i j : Nat) : per i j 1 = j := by unfold per; rw [swp_l, swp_swp]
theorem row2_ren {i j : Nat} (h : i ≠ j) {r q : HRow} : Rws.ren (rep2 i j) (upd (row1 0 r) 1 q) = upd (row1 i r) j q := by
  funext x
  unfold Rws.ren
  by_cases e : x = j
  · subst e
    have : rep2 i x x = 1 := by
      have := rep_per i x 1
      rwa [per_1] at this
    rw [this, upd_same, upd_same]
  · rw [upd_ne _ _ e, upd_ne _ _ (fun e2 => e (by rw [← per_rep i j x, e2, per_1]))]
    unfold row1
    by_cases e1 : x = i
    · subst e1
      have : rep2 x j x = 0 := by
        have := rep_per x j 0
        rwa [per_0 h] at this
      rw [this, upd_same, upd_same]
    · rw [upd_ne _ _ e1, upd_ne _ _ (fun e2 => e1 (by rw [← per_rep i j x, e2, per_0 h]))]; rfl
theorem row1_ren2 {i j : Nat} (h : i ≠ j) {r : HRow} : Rws.ren (rep2 i j) (row1 0 r) = row1 i r := by
  funext x
  unfold Rws.ren row1
  by_cases e1 : x = i
  · subst e1
    have : rep2 x j x = 0 := by
      have := rep_per x j 0
      rwa [per_0 h] at this
    rw [this, upd_same, upd_same]
  · rw [upd_ne _ _ e1, upd_ne _ _ (fun e2 => e1 (by rw [← per_rep i j x, e2, per_0 h]))]; rfl
/-- a method that makes a row, too. -/
def OCall2 (P : Program) (f : FuncId) (args : List AV) (cs : List AC) (r : HRow) (post : AV → List AC → HRow → HRow → Prop) : Prop :=
  ∀ k i j, i ≠ j → HCall P f (.w (.one (.own k 0)) :: args) (mem1 k cs) (row1 i r) fun v m' R' => ∃ cs' r' q, m' = mem1 k cs' ∧ R' = upd (row1 i r') j q ∧ post v cs' r' q
theorem ocall2_of {P : Program} {f : FuncId} {args : List AV} {cs : List AC} {r : HRow} {post : AV → List AC → HRow → HRow → Prop} (ha : args.all AV.closedB = true) (hc : cs.all AC.closedB = true) (hp : ∀ v cs' r' q, post v cs' r' q → v.closedB = true ∧ cs'.all AC.closedB = true)
    (h : HCall P f (.w (.one (.own 1000 0)) :: args) (mem1 1000 cs) (row1 0 r) fun v m' R' => ∃ cs' r' q, m' = mem1 1000 cs' ∧ R' = upd (row1 0 r') 1 q ∧ post v cs' r' q) : OCall2 P f args cs r post := by
  intro k i j hij
  have h1 := h.ren (π := swp 1000 k) (σ := rep2 i j) (τ := per i j) (swp_swp _ _) (rep_per i j) (per_rep i j)
  have e1 : (AV.w (.one (.own 1000 0)) :: args).map (AV.ren (swp 1000 k)) = .w (.one (.own k 0)) :: args := by
    have e2 : args.map (AV.ren (swp 1000 k)) = args := by
      rw [List.all_eq_true] at ha
      conv => rhs; rw [← List.map_id args]
      exact List.map_congr_left fun x hx => ren_closedV (ha x hx)
    rw [List.map_cons, e2]
    show AV.w (.one (.own (swp 1000 k 1000) 0)) :: args = _
    rw [swp_l]
  rw [e1, mem1_ren hc, row1_ren2 hij] at h1
  refine ⟨fun U ρ W vs hH hown hvs => (h1.call U ρ W vs hH hown hvs).mono ?_⟩
  rintro e W' ⟨v, r1, m', R', ρ', U', q0, ⟨r2, m2, R2, ⟨cs', r', q, rfl, rfl, hq⟩, rfl, rfl, rfl⟩, qq⟩
  obtain ⟨c1, c2⟩ := hp _ _ _ _ hq
  rw [mem1_ren c2, row2_ren hij, ren_closedV c1] at qq
  exact ⟨v, r2, mem1 k cs', upd (row1 i r') j q, ρ', U', q0, ⟨cs', r', q, rfl, rfl, hq⟩, qq⟩
section
variable {P : Program} {R : Rws} {s : AS} {ops : Array Oper} {dr : Option (List Nat)} {ty : Nat} {pos : String} {after : Array Edge} {guard : Option (Nat × Bool)} {K : Rws → AS → Prop} {rest : List Oper}
def dstB (dst : Option Nat) (n : Nat) : Bool := match dst with
  | some d => Nat.blt d n
  | none => true
theorem dstB_ok {dst : Option Nat} {n : Nat} (h : dstB dst n = true) : ∀ d, dst = some d → d < n := fun d e => by subst e; simpa [dstB, Nat.blt_eq] using h
/-- such a call in a walk. -/
theorem hs_h {dst : Option Nat} {f : FuncId} {g : Operand} {ts : Array TypeId} {l : List Operand} {args : List AV} {m0 : Mem} {R0 : Rws} {Post : AV → Mem → Rws → Prop} [E : Enters P f] (hw : want ops ⟨dst, .call ⟨.value g, l.toArray, ts⟩, ty, pos, after, guard⟩ s = some true) (hm : hotM dr ⟨dst, .call ⟨.value g, l.toArray, ts⟩, ty, pos, after, guard⟩ = true)
    (hg : s.look g = some (vC (.func (.func f) #[] #[]))) (ha : l.map s.look = args.map some) (hp : HCall P f args m0 R0 Post) (ho : ∀ x ∈ args, ∀ j, x.owns j → ∃ cs, m0 j = some cs) (hmem : ∀ k cs, m0 k = some cs → s.mem k = some cs ∧ tch dr k = true) (hr : RLe R0 R) (mo : ∀ k cs x j, m0 k = some cs → x ∈ cs → x.owns j → ∃ cs', m0 j = some cs') (hd : dstB dst s.n = true)
    (h : ∀ r m' R', Post r m' R' → (∀ k cs', m' k = some cs' → (∃ cs, m0 k = some cs) ∨ (s.mem k = none ∧ k < s.n)) ∧ hList P ops dr K rest (ovr R' R) ((s.over m').put dst r)) : hList P ops dr K (⟨dst, .call ⟨.value g, l.toArray, ts⟩, ty, pos, after, guard⟩ :: rest) R s := by
  refine ⟨true, hw, dstB_ok hd, .inr (.inr (.inr (.inr (.inl ⟨rfl, hm, f, args, m0, R0, Post, ⟨⟨_, g, rfl, rfl, .inl ⟨[], hg, ?_, rfl⟩⟩, E.h⟩, hp, ho, hmem, hr, mo, fun r m' R' h1 _ _ _ => h r m' R' h1⟩))))⟩
  simpa using ha
theorem hs_h1 (k i : Nat) {dst : Option Nat} {f : FuncId} {g : Operand} {ts : Array TypeId} {l : List Operand} {args : List AV} {cs : List AC} {r : HRow} {post : AV → List AC → HRow → Prop} [E : Enters P f] (hw : want ops ⟨dst, .call ⟨.value g, l.toArray, ts⟩, ty, pos, after, guard⟩ s = some true) (hm : hotM dr ⟨dst, .call ⟨.value g, l.toArray, ts⟩, ty, pos, after, guard⟩ = true)
    (hg : s.look g = some (vC (.func (.func f) #[] #[]))) (ha : l.map s.look = (AV.w (.one (.own k 0)) :: args).map some) (hp : OCall P f args cs r post) (hk : s.mem k = some cs) (htk : tch dr k = true) (hi : R i = some r) (hc : cs.all AC.closedB = true) (hac : args.all AV.closedB = true) (hd : dstB dst s.n = true)
    (h : ∀ v cs' r', post v cs' r' → hList P ops dr K rest (upd R i r') ((s.setm k cs').put dst v)) : hList P ops dr K (⟨dst, .call ⟨.value g, l.toArray, ts⟩, ty, pos, after, guard⟩ :: rest) R s := by
  refine hs_h hw hm hg ha (hp k i) (fun x hx j hj => ?_) (fun k' cs' h' => ?_) (fun i' r' h' => ?_) (fun k' cs' x j h' hx hj => ?_) hd ?_
  · rcases List.mem_cons.1 hx with rfl | hx
    · obtain ⟨y, hy, hj⟩ := hj
      simp [AW.cells] at hy
      subst hy
      cases hj
      exact ⟨cs, by unfold mem1; exact upd_same _ _ _⟩
    · exact absurd hj (AV.closed_of (List.all_eq_true.1 hac x hx) j)
  · obtain ⟨rfl, rfl⟩ := mem1_iff h'; exact ⟨hk, htk⟩
  · obtain ⟨rfl, rfl⟩ := row1_iff h'; exact hi
  · obtain ⟨rfl, rfl⟩ := mem1_iff h'
    exact absurd hj (AC.closed_of (List.all_eq_true.1 hc x hx) j)
  · rintro v m' R' ⟨cs', r', rfl, rfl, hq⟩
    refine ⟨fun k' c h' => ?_, ?_⟩
    · obtain ⟨rfl, rfl⟩ := mem1_iff h'
      exact .inl ⟨cs, by unfold mem1; exact upd_same _ _ _⟩
    · have e1 : ovr (row1 i r') R = upd R i r' := ovr_upd R i r'
      have e2 : s.over (mem1 k cs') = s.setm k cs' := by
        show ({ s with mem := ovr (upd noMem k cs') s.mem } : AS) = { s with mem := upd s.mem k cs' }
        rw [show ovr (upd noMem k cs') s.mem = upd s.mem k cs' from ovr_upd s.mem k cs']
      rw [e1, e2]
      exact h v cs' r' hq
theorem hs_h2' (k i j : Nat) (hij : i ≠ j) {o : Oper} {f : FuncId} {g : Operand} {ts : Array TypeId} {l : List Operand} {args : List AV} {cs : List AC} {r : HRow} {post : AV → List AC → HRow → HRow → Prop} [E : Enters P f] (eo : o.op = .call ⟨.value g, l.toArray, ts⟩)
    (hg : s.look g = some (vC (.func (.func f) #[] #[]))) (ha : l.map s.look = (AV.w (.one (.own k 0)) :: args).map some) (hp : OCall2 P f args cs r post) (hk : s.mem k = some cs) {T : Nat → Bool} (htk : T k = true) (hi : R i = some r) (hc : cs.all AC.closedB = true) (hac : args.all AV.closedB = true) {K : Rws → AS → Prop}
    (h : ∀ v cs' r' q, post v cs' r' q → K (upd (upd R i r') j q) ((s.setm k cs').put o.dst v)) : HotCall P T R s o K := by
  refine ⟨f, AV.w (.one (.own k 0)) :: args, mem1 k cs, row1 i r, _, ⟨⟨_, g, eo, rfl, .inl ⟨[], hg, by simpa using ha, rfl⟩⟩, E.h⟩, hp k i j hij, fun x hx j hj => ?_, fun k' cs' h' => ?_, fun i' r' h' => ?_, fun k' cs' x j h' hx hj => ?_, ?_⟩
  · rcases List.mem_cons.1 hx with rfl | hx
    · obtain ⟨y, hy, hj⟩ := hj
      simp [AW.cells] at hy
      subst hy
      cases hj
      exact ⟨cs, by unfold mem1; exact upd_same _ _ _⟩
    · exact absurd hj (AV.closed_of (List.all_eq_true.1 hac x hx) j)
  · obtain ⟨rfl, rfl⟩ := mem1_iff h'; exact ⟨hk, htk⟩
  · obtain ⟨rfl, rfl⟩ := row1_iff h'; exact hi
  · obtain ⟨rfl, rfl⟩ := mem1_iff h'
    exact absurd hj (AC.closed_of (List.all_eq_true.1 hc x hx) j)
  · rintro v m' R' ⟨cs', r', q, rfl, rfl, hq⟩ _ _ _
    refine ⟨fun k' c h' => ?_, ?_⟩
    · obtain ⟨rfl, rfl⟩ := mem1_iff h'
      exact .inl ⟨cs, by unfold mem1; exact upd_same _ _ _⟩
    · have e1 : ovr (upd (row1 i r') j q) R = upd (upd R i r') j q := by
        funext x
        unfold row1
        by_cases e : x = j
        · subst e; rw [upd_same]; exact ovr_l (upd_same _ _ _)
        · by_cases e2 : x = i
          · subst e2; rw [upd_ne _ _ e, upd_same]; exact ovr_l (by rw [upd_ne _ _ e, upd_same])
          · rw [upd_ne _ _ e, upd_ne _ _ e2]; exact ovr_r (by rw [upd_ne _ _ e, upd_ne _ _ e2]; rfl)
      have e2 : s.over (mem1 k cs') = s.setm k cs' := by
        show ({ s with mem := ovr (upd noMem k cs') s.mem } : AS) = { s with mem := upd s.mem k cs' }
        rw [show ovr (upd noMem k cs') s.mem = upd s.mem k cs' from ovr_upd s.mem k cs']
      rw [e1, e2]
      exact h v cs' r' q hq
theorem hs_h2 (k i j : Nat) (hij : i ≠ j) {dst : Option Nat} {f : FuncId} {g : Operand} {ts : Array TypeId} {l : List Operand} {args : List AV} {cs : List AC} {r : HRow} {post : AV → List AC → HRow → HRow → Prop} [E : Enters P f] (hw : want ops ⟨dst, .call ⟨.value g, l.toArray, ts⟩, ty, pos, after, guard⟩ s = some true) (hm : hotM dr ⟨dst, .call ⟨.value g, l.toArray, ts⟩, ty, pos, after, guard⟩ = true)
    (hg : s.look g = some (vC (.func (.func f) #[] #[]))) (ha : l.map s.look = (AV.w (.one (.own k 0)) :: args).map some) (hp : OCall2 P f args cs r post) (hk : s.mem k = some cs) (htk : tch dr k = true) (hi : R i = some r) (hc : cs.all AC.closedB = true) (hac : args.all AV.closedB = true) (hd : dstB dst s.n = true)
    (h : ∀ v cs' r' q, post v cs' r' q → hList P ops dr K rest (upd (upd R i r') j q) ((s.setm k cs').put dst v)) : hList P ops dr K (⟨dst, .call ⟨.value g, l.toArray, ts⟩, ty, pos, after, guard⟩ :: rest) R s :=
  ⟨true, hw, dstB_ok hd, .inr (.inr (.inr (.inr (.inl ⟨rfl, hm, hs_h2' k i j hij rfl hg ha hp hk htk hi hc hac h⟩))))⟩
/-- and the row that was made is given up at once. -/
theorem hs_h2c (k i j : Nat) (hij : i ≠ j) {d : Nat} {f : FuncId} {g : Operand} {ts : Array TypeId} {l : List Operand} {args : List AV} {cs : List AC} {r : HRow} {post : AV → List AC → HRow → HRow → Prop} [E : Enters P f] (hw : want ops ⟨some d, .call ⟨.value g, l.toArray, ts⟩, ty, pos, after, guard⟩ s = some true) (hm : hotM dr ⟨some d, .call ⟨.value g, l.toArray, ts⟩, ty, pos, after, guard⟩ = true)
    (hg : s.look g = some (vC (.func (.func f) #[] #[]))) (ha : l.map s.look = (AV.w (.one (.own k 0)) :: args).map some) (hp : OCall2 P f args cs r post) (hk : s.mem k = some cs) (htk : tch dr k = true) (hi : R i = some r) (hc : cs.all AC.closedB = true) (hac : args.all AV.closedB = true) (hd : Nat.blt d s.n = true)
    (h : ∀ v cs' r' q, post v cs' r' q → v = vC q.v ∧ hList P ops dr K rest (fun x => if x = j then none else upd R i r' x) ((s.setm k cs').put (some d) (vS q.sz q.n q.ys))) : hList P ops dr K (⟨some d, .call ⟨.value g, l.toArray, ts⟩, ty, pos, after, guard⟩ :: rest) R s := by
  refine ⟨true, hw, dst_ok hd, .inr (.inr (.inr (.inr (.inr ⟨rfl, hm, hs_h2' k i j hij rfl hg ha hp hk htk hi hc hac fun v cs' r' q hq => ?_⟩))))⟩
  obtain ⟨rfl, h'⟩ := h v cs' r' q hq
  refine ⟨j, d, q, rfl, upd_same _ _ _, upd_same _ _ _, by simpa [Nat.blt_eq, AS.put, AS.setm] using hd, ?_⟩
  have e1 : (fun x => if x = j then none else upd (upd R i r') j q x) = fun x => if x = j then none else upd R i r' x := by
    funext x
    by_cases e : x = j
    · rw [if_pos e, if_pos e]
    · rw [if_neg e, if_neg e, upd_ne _ _ e]
  rw [e1, put_put]
  exact h'
/-- a pointer into a block of the frame's own is not nil. -/
theorem al_nilck {x : Operand} {d k off : Nat} {K : AS → Prop} (hw : want ops ⟨some d, .nilCheck x, ty, pos, after, guard⟩ s = some true) (hx : s.look x = some (.w (.one (.own k off)))) (hd : Nat.blt d s.n = true) (h : aList P ops K rest (s.put (some d) (.w (.one (.own k off))))) : aList P ops K (⟨some d, .nilCheck x, ty, pos, after, guard⟩ :: rest) s := by
  refine al_quiet hw ⟨fun _ _ h => (by cases h), fun y hy => ?_, fun U ρ W env he => ?_, fun j hj => ⟨x, by simp [Op.operands], _, hx, hj⟩⟩ hd h
  · simp [Op.operands] at hy
    subst hy
    exact ⟨_, hx⟩
  · have hv : env x = .pointer (some ⟨ρ k, off, none⟩) := he x (by simp [Op.operands]) _ hx
    exact ⟨_, by simp only [execOp, hv]; rfl, rfl⟩
end
section
variable {P : Program}
theorem big1 {n : Nat} {cs : List AC} (h : Nat.ble n 1000 = true) : ∀ k cs', mem1 1000 cs k = some cs' → n ≤ k := fun k cs' hk => by
  obtain ⟨rfl, _⟩ := mem1_iff hk
  exact Nat.le_of_ble_eq_true h
theorem big0 {n : Nat} : ∀ k cs', noMem k = some cs' → n ≤ k := fun k cs' hk => by cases hk
/-- the end of a function that is handed one thing: a block, and a row. -/
theorem hfin_o1 {fn : Func} {l : List ResultVar} {xs : List AW} {R : Rws} {s : AS} {cs cs' : List AC} {r r' : HRow} {post : AV → List AC → HRow → Prop} (hr : fn.results = l.toArray) (h : l.map (resOf P s) = xs.map some) (hk : s.mem 1000 = some cs') (hi : R 0 = some r') (hc : cs'.all AC.closedB = true) (hx : (packed xs).closedB = true)
    (hp : post (packed xs) cs' r') : hfin P fn (mem1 1000 cs) (row1 0 r) (fun v m' R' => ∃ cs' r', m' = mem1 1000 cs' ∧ R' = row1 0 r' ∧ post v cs' r') R s := by
  refine ⟨xs, packed xs, mem1 1000 cs', row1 0 r', by rw [hr]; exact h, .refl _, ⟨cs', r', rfl, rfl, hp⟩, fun k c h => ?_, fun i q h => ?_, fun j hj => absurd hj (AV.closed_of hx j), fun k c x j h hx hj => ?_, fun k c h => ?_, fun i q h => ?_⟩
  · obtain ⟨rfl, rfl⟩ := mem1_iff h; exact hk
  · obtain ⟨rfl, rfl⟩ := row1_iff h; exact hi
  · obtain ⟨rfl, rfl⟩ := mem1_iff h; exact absurd hj (AC.closed_of (List.all_eq_true.1 hc x hx) j)
  · obtain ⟨rfl, rfl⟩ := mem1_iff h; exact ⟨cs', by unfold mem1; exact upd_same _ _ _⟩
  · obtain ⟨rfl, rfl⟩ := row1_iff h; exact ⟨r', by unfold row1; exact upd_same _ _ _⟩
/-- and makes a row. -/
theorem hfin_o2 {fn : Func} {l : List ResultVar} {xs : List AW} {R : Rws} {s : AS} {cs cs' : List AC} {r r' q : HRow} {post : AV → List AC → HRow → HRow → Prop} (hr : fn.results = l.toArray) (h : l.map (resOf P s) = xs.map some) (hk : s.mem 1000 = some cs') (hi : R 0 = some r') (hj : R 1 = some q) (hc : cs'.all AC.closedB = true) (hx : (packed xs).closedB = true)
    (hp : post (packed xs) cs' r' q) : hfin P fn (mem1 1000 cs) (row1 0 r) (fun v m' R' => ∃ cs' r' q, m' = mem1 1000 cs' ∧ R' = upd (row1 0 r') 1 q ∧ post v cs' r' q) R s := by
  refine ⟨xs, packed xs, mem1 1000 cs', upd (row1 0 r') 1 q, by rw [hr]; exact h, .refl _, ⟨cs', r', q, rfl, rfl, hp⟩, fun k c h => ?_, fun i p h => ?_, fun j hj => absurd hj (AV.closed_of hx j), fun k c x j h hx hj => ?_, fun k c h => ?_, fun i p h => ?_⟩
  · obtain ⟨rfl, rfl⟩ := mem1_iff h; exact hk
  · by_cases e : i = 1
    · subst e; rw [upd_same] at h; cases h; exact hj
    · rw [upd_ne _ _ e] at h; obtain ⟨rfl, rfl⟩ := row1_iff h; exact hi
  · obtain ⟨rfl, rfl⟩ := mem1_iff h; exact absurd hj (AC.closed_of (List.all_eq_true.1 hc x hx) j)
  · obtain ⟨rfl, rfl⟩ := mem1_iff h; exact ⟨cs', by unfold mem1; exact upd_same _ _ _⟩
  · obtain ⟨rfl, rfl⟩ := row1_iff h; exact ⟨r', by rw [upd_ne _ _ (by decide)]; unfold row1; exact upd_same _ _ _⟩
/-- does it point to no block of the frame's own but k? -/
def AC.ownB (k : Nat) : AC → Bool
  | .own j _ => Nat.beq j k
  | _ => true
def AV.ownB (k : Nat) : AV → Bool
  | .w x => x.cells.all (AC.ownB k)
  | .tup xs => xs.all fun x => x.cells.all (AC.ownB k)
theorem AV.ownB_spec {k j : Nat} {x : AV} (h : x.ownB k = true) (hj : x.owns j) : j = k := by
  have key : ∀ y : AW, y.cells.all (AC.ownB k) = true → y.owns j → j = k := by
    rintro y hy ⟨z, hz, hzj⟩
    have := List.all_eq_true.1 hy z hz
    cases z with
    | own i o => cases hzj; exact Nat.eq_of_beq_eq_true this
    | c v => cases hzj
    | p R => cases hzj
  cases x with
  | w y => exact key y h hj
  | tup xs =>
    obtain ⟨y, hy, hyj⟩ := hj
    exact key y (List.all_eq_true.1 h y hy) hyj
/-- the end of a function that makes a thing: block k, and a row. -/
theorem hfin_new (k : Nat) {fn : Func} {l : List ResultVar} {xs : List AW} {R : Rws} {s : AS} {cs' : List AC} {r' : HRow} {post : AV → List AC → HRow → Prop} (hr : fn.results = l.toArray) (h : l.map (resOf P s) = xs.map some) (hk : s.mem k = some cs') (hi : R 0 = some r') (hc : cs'.all AC.closedB = true) (hx : (packed xs).ownB k = true)
    (hp : post (packed xs) cs' r') : hfin P fn noMem noRows (fun v m' R' => ∃ cs' r', m' = mem1 k cs' ∧ R' = row1 0 r' ∧ post v cs' r') R s := by
  refine ⟨xs, packed xs, mem1 k cs', row1 0 r', by rw [hr]; exact h, .refl _, ⟨cs', r', rfl, rfl, hp⟩, fun k c h => ?_, fun i q h => ?_, fun j hj => ?_, fun k c x j h hxc hj => ?_, fun k c h => (by cases h), fun i q h => (by cases h)⟩
  · obtain ⟨rfl, rfl⟩ := mem1_iff h; exact hk
  · obtain ⟨rfl, rfl⟩ := row1_iff h; exact hi
  · rw [AV.ownB_spec hx hj]; exact ⟨cs', by unfold mem1; exact upd_same _ _ _⟩
  · obtain ⟨rfl, rfl⟩ := mem1_iff h; exact absurd hj (AC.closed_of (List.all_eq_true.1 hc x hxc) j)
end
theorem rle1 {R : Rws} {i : Nat} {r : HRow} (h0 : R i = some r) : RLe (row1 i r) R := fun j q h => by
  obtain ⟨rfl, rfl⟩ := row1_iff h; exact h0
theorem rle2 {R : Rws} {i j : Nat} {r q : HRow} (h0 : R i = some r) (h1 : R j = some q) : RLe (upd (row1 i r) j q) R := fun k u h => by
  by_cases e : k = j
  · subst e; rw [upd_same] at h; cases h; exact h1
  · rw [upd_ne _ _ e] at h; exact rle1 h0 k u h
/-- less is told of a slot. -/
theorem rwp_tell (d : Nat) {P : Program} {R : Rws} {s : AS} {c : Code} {Q : Exit → Rws → AS → Prop} {av bv : AV} (hd : s.tmps d = some bv) (hle : bv.Le av) (hc : av.closedB = true) (h : RWp P c Q R (s.put (some d) av)) : RWp P c Q R s := by
  intro ok B0 A0 a w hR
  obtain ⟨A, ρ, hR⟩ := hR
  exact h (ok.put fun j hj => absurd hj (AV.closed_of hc j)) B0 A0 a w ⟨A, ρ, hR.next (hR.rel.retell hd fun v _ hv => hle _ _ _ _ hv)⟩
abbrev vNilS : AV := vC (.slice none 0 0)
theorem nilS_le (z : Nat) : vNilS.Le (vS z 0 []) := fun U ρ W v h => by
  obtain ⟨rfl, _⟩ := h
  exact ⟨⟨none, 0, rfl, Nat.le_refl _, by simp, fun h => absurd h (Nat.lt_irrefl _)⟩, fun b ⟨c, a, q, hn, _⟩ => absurd hn (Nat.lt_irrefl _)⟩
/-- a function that makes a thing: v tells what it hands back, of the thing's name. -/
def NCall (P : Program) (f : FuncId) (args : List AV) (v : Nat → AV) (post : List AC → HRow → Prop) : Prop :=
  ∀ k i, HCall P f args noMem noRows fun r m' R' => ∃ cs' r', m' = mem1 k cs' ∧ R' = row1 i r' ∧ r = v k ∧ post cs' r'
theorem ncall_of (k0 : Nat) {P : Program} {f : FuncId} {args : List AV} {v : Nat → AV} {post : List AC → HRow → Prop} (ha : args.all AV.closedB = true) (hv : ∀ k, (v k0).ren (swp k0 k) = v k) (hp : ∀ cs' r', post cs' r' → cs'.all AC.closedB = true)
    (h : HCall P f args noMem noRows fun r m' R' => ∃ cs' r', m' = mem1 k0 cs' ∧ R' = row1 0 r' ∧ r = v k0 ∧ post cs' r') : NCall P f args v post := by
  intro k i
  have h1 := h.ren (π := swp k0 k) (σ := swp 0 i) (τ := swp 0 i) (swp_swp _ _) (swp_swp _ _) (swp_swp _ _)
  have e2 : args.map (AV.ren (swp k0 k)) = args := by
    rw [List.all_eq_true] at ha
    conv => rhs; rw [← List.map_id args]
    exact List.map_congr_left fun x hx => ren_closedV (ha x hx)
  rw [e2, show Mem.ren (swp k0 k) noMem = noMem from rfl, show Rws.ren (swp 0 i) noRows = noRows from rfl] at h1
  refine ⟨fun U ρ W vs hH hown hvs => (h1.call U ρ W vs hH hown hvs).mono ?_⟩
  rintro e W' ⟨v1, r1, m', R', ρ', U', q0, ⟨r2, m2, R2, ⟨cs', r', rfl, rfl, rfl, hq⟩, rfl, rfl, rfl⟩, q⟩
  rw [mem1_ren (hp _ _ hq), row1_ren, hv] at q
  exact ⟨v1, v k, mem1 k cs', row1 i r', ρ', U', q0, ⟨cs', r', rfl, rfl, rfl, hq⟩, q⟩
section
variable {P : Program} {R : Rws} {s : AS} {ops : Array Oper} {dr : Option (List Nat)} {ty : Nat} {pos : String} {after : Array Edge} {guard : Option (Nat × Bool)} {K : Rws → AS → Prop} {rest : List Oper}
theorem hs_hn (k i : Nat) {dst : Option Nat} {f : FuncId} {g : Operand} {ts : Array TypeId} {l : List Operand} {args : List AV} {v : Nat → AV} {post : List AC → HRow → Prop} [E : Enters P f] (hw : want ops ⟨dst, .call ⟨.value g, l.toArray, ts⟩, ty, pos, after, guard⟩ s = some true) (hm : hotM dr ⟨dst, .call ⟨.value g, l.toArray, ts⟩, ty, pos, after, guard⟩ = true)
    (hg : s.look g = some (vC (.func (.func f) #[] #[]))) (ha : l.map s.look = args.map some) (hp : NCall P f args v post) (hk : s.mem k = none) (hkn : Nat.blt k s.n = true) (hac : args.all AV.closedB = true) (hd : dstB dst s.n = true)
    (h : ∀ cs' r', post cs' r' → hList P ops dr K rest (upd R i r') ((s.setm k cs').put dst (v k))) : hList P ops dr K (⟨dst, .call ⟨.value g, l.toArray, ts⟩, ty, pos, after, guard⟩ :: rest) R s := by
  refine hs_h hw hm hg ha (hp k i) (fun x hx j hj => absurd hj (AV.closed_of (List.all_eq_true.1 hac x hx) j)) (fun k' cs' h' => by cases h') (fun i' r' h' => by cases h') (fun k' cs' x j h' hx hj => by cases h') hd ?_
  rintro v1 m' R' ⟨cs', r', rfl, rfl, rfl, hq⟩
  refine ⟨fun k' c h' => ?_, ?_⟩
  · obtain ⟨rfl, rfl⟩ := mem1_iff h'
    exact .inr ⟨hk, by simpa [Nat.blt_eq] using hkn⟩
  · have e1 : ovr (row1 i r') R = upd R i r' := ovr_upd R i r'
    have e2 : s.over (mem1 k cs') = s.setm k cs' := by
      show ({ s with mem := ovr (upd noMem k cs') s.mem } : AS) = { s with mem := upd s.mem k cs' }
      rw [show ovr (upd noMem k cs') s.mem = upd s.mem k cs' from ovr_upd s.mem k cs']
    rw [e1, e2]
    exact h cs' r' hq
end
end Go.Proofs.Ytpopeipcjpfbaaa
