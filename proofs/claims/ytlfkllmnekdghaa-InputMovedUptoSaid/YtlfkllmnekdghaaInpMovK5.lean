/-
  My own texts, without what this claim does not need. My own text.
-/
import Derived.Deep.SlicePairs
import Derived.ChangeSame
import Derived.Carry
import Derived.Test.YtlfkllmnekdghaaRows
import Derived.Test.YtlfkllmnekdghaaInpMovK4
namespace Go.Proofs.Ytlfkllmnekdghaa
open Go.ChangeShapes Go.WideShapes Go.ChangeAt Go.RowKit Go.Joins
set_option linter.unusedVariables false
set_option linter.unusedSimpArgs false
theorem laidOut : laidOutB Try.prog = true := by kernel_rfl
theorem cell_lt {W : World} {b : Addr} {v : Value} (h : W.cell? b = some v) : b.block < W.heap.size := by
  unfold World.cell? at h
  split at h
  · rename_i hh; exact (Array.getElem?_eq_some_iff.1 hh).1
  · cases h
theorem ringC_cons (p : Pt) (l : List Pt) : ringC (p :: l) = .c (.int .i64 p.1) :: .c (.int .i64 p.2) :: ringC l := rfl
theorem bulk_one {H : Type} (d : DataW H) : 1 ≤ Rows.uptoBulk d := by
  cases d with
  | lit l => cases l <;> simp [Rows.uptoBulk]
  | nil => simp [Rows.uptoBulk]
  | ptr d => simp [Rows.uptoBulk]
  | slice elems spare => simp [Rows.uptoBulk]
  | agg parts => simp [Rows.uptoBulk]
  | iface t d => simp [Rows.uptoBulk]
  | map entries => simp [Rows.uptoBulk]
  | held h => simp [Rows.uptoBulk]
theorem bulk_len {H : Type} (l : List (DataW H)) : l.length ≤ Rows.uptoBulkAll l := by
  induction l with
  | nil => simp [Rows.uptoBulkAll]
  | cons x r ih => have := bulk_one x; simp only [Rows.uptoBulkAll, List.length_cons]; omega
theorem bulk_slice {H : Type} (elems spare : List (DataW H)) : Rows.uptoBulkAll elems + 1 ≤ Rows.uptoBulk (.slice elems spare) := by
  simp only [Rows.uptoBulk]
  omega
theorem weightsAll_mem {H : Type} {P : Program} {e : TypeId} {d : DataW H} {w : Nat} : ∀ {l : List (DataW H)}, d ∈ l → w ∈ DataW.weights P e d → w ∈ DataW.weightsAll P e l
  | x :: l, h, hw => by
    rw [DataW.weightsAll]
    rcases List.mem_cons.1 h with rfl | h
    · exact List.mem_append_left _ hw
    · exact List.mem_append_right _ (weightsAll_mem h hw)
/-- a row of things of two numbers as an argument: what it reads as. -/
theorem open_ring {H : Type} {enc : TypeId × Value → H} {P : Program} {W : World} {t e : TypeId} {f0 f1 : Field} (ht : P.underlying t = some (.slice e)) (he : P.underlying e = some (.struct #[f0, f1])) (ce : P.cellsOf e = 2) (o0 : f0.offset = 0) (o1 : f1.offset = 1) (c0 : P.cellsOf f0.type = 1) (c1 : P.cellsOf f1.type = 1) (k0 : P.underlying f0.type = some (.int .i64)) (k1 : P.underlying f1.type = some (.int .i64))
    {v : Value} {d : DataW H} {p : List MemPlace} (hv : ∃ a len cap, v = .slice a len cap) (h0 : DataW.Trod enc P W 0 (fun _ => true) true t v d p) :
    ∃ l : List (Int × Int), (∀ n, (∀ w ∈ DataW.weights P t d, w ≤ n) → l.length * P.bytesOf e ≤ n) ∧ l.length + 1 ≤ Rows.uptoBulk d ∧ RpV (fun _ => True) id W ((.w (.one (ringA l)))) v := by
  obtain ⟨a0, len0, cap0, rfl⟩ := hv
  obtain ⟨fuel, hf⟩ := h0
  rcases Go.Deep.open_slice_pairs ht he ce o0 o1 c0 c1 hf with ⟨hcs, hx⟩ | ⟨a, len, cap, m, n, V0, V1, D0, D1, P0, P1, hcs, hb, hl, hm, hmm, hx, hi⟩
  · simp [Value.cells] at hcs
    obtain ⟨rfl, rfl, rfl⟩ := hcs
    obtain ⟨rfl, rfl⟩ := Prod.mk.inj hx
    exact ⟨[], (fun n _ => by simp), (by simp [Rows.uptoBulk]), ⟨none, 0, rfl, Nat.le_refl _, rfl, fun h => absurd h (Nat.lt_irrefl _)⟩, fun _ _ => trivial⟩
  · simp [Value.cells] at hcs
    obtain ⟨rfl, rfl, rfl⟩ := hcs
    simp only [if_true] at hmm
    subst hmm
    simp only [Prod.mk.injEq] at hx
    obtain ⟨hdd, rfl⟩ := hx
    have each : ∀ i, i < m → ∃ q : Int × Int, V0 i = .int .i64 q.1 ∧ V1 i = .int .i64 q.2 := fun i h => by
      obtain ⟨_, _, g0, g1⟩ := hi i h
      obtain ⟨x, hx, _, wx⟩ := DataW.trod_int k0 g0
      obtain ⟨y, hy, _, wy⟩ := DataW.trod_int k1 g1
      simp at hx hy
      exact ⟨(x, y), hx, hy⟩
    obtain ⟨q, hq⟩ := Go.Deep.choose_lt each
    have hcells : ∀ (l : List (Int × Int)) (k : Nat), (∀ i (p : Int × Int), l[i]? = some p → W.cell? (a.add ((k + i) * 2)) = some (.int .i64 p.1) ∧ W.cell? (a.add ((k + i) * 2 + 1)) = some (.int .i64 p.2)) →
        ∃ vs : List Value, RpL (fun _ => True) id W (ringC l) vs ∧ ∀ (j : Nat) v, vs[j]? = some v → W.cell? (a.add (k * 2 + j)) = some v := by
      intro l
      induction l with
      | nil => intro k _; exact ⟨[], ⟨rfl, fun i x v h => by simp [ringC] at h⟩, fun j v h => by simp at h⟩
      | cons p l ih =>
        intro k h
        obtain ⟨vs, g1, g2⟩ := ih (k + 1) (fun i p' hp' => by
          have := h (i + 1) p' (by simpa using hp')
          rw [show k + (i + 1) = k + 1 + i by omega] at this
          exact this)
        obtain ⟨h1, h2⟩ := h 0 p rfl
        refine ⟨.int .i64 p.1 :: .int .i64 p.2 :: vs, ⟨by simp [ringC_cons, g1.1], fun i x v hx hv => ?_⟩, fun j v hv => ?_⟩
        · match i with
          | 0 => simp [ringC_cons] at hx hv; subst hx; subst hv; exact ⟨rfl, rfl⟩
          | 1 => simp [ringC_cons] at hx hv; subst hx; subst hv; exact ⟨rfl, rfl⟩
          | i + 2 => exact g1.2 i x v (by simpa [ringC_cons] using hx) (by simpa using hv)
        · match j with
          | 0 => simp at hv; subst hv; simpa using h1
          | 1 => simp at hv; subst hv; simpa using h2
          | j + 2 =>
            have := g2 j v (by simpa using hv)
            rw [show (k + 1) * 2 + j = k * 2 + (j + 2) by omega] at this
            exact this
    obtain ⟨vs, g1, g2⟩ := hcells ((List.range len0).map q) 0 (fun i p hp => by
      rw [List.getElem?_map] at hp
      cases hr : (List.range len0)[i]? with
      | none => rw [hr] at hp; cases hp
      | some j =>
        rw [hr] at hp
        cases hp
        obtain ⟨h3, h4⟩ := List.getElem?_eq_some_iff.1 hr
        simp at h3 h4
        subst h4
        obtain ⟨e0, e1, _⟩ := hi i (by omega)
        obtain ⟨f0, f1⟩ := hq i (by omega)
        rw [f0] at e0
        rw [f1] at e1
        simpa using ⟨e0, e1⟩)
    have hlen : ∀ l : List (Int × Int), (ringC l).length = l.length * 2 := fun l => by
      induction l with
      | nil => rfl
      | cons p l ih => simp [ringC_cons, ih]; omega
    have hclo : ∀ l : List (Int × Int), ∀ y ∈ ringC l, y.closedB = true := fun l => by
      induction l with
      | nil => intro y hy; cases hy
      | cons p l ih =>
        intro y hy
        simp only [ringC_cons, List.mem_cons] at hy
        rcases hy with rfl | rfl | hy
        · rfl
        · rfl
        · exact ih y hy
    refine ⟨(List.range len0).map q, fun n hw => ?_, ?_, ?_⟩
    · rw [hdd] at hw
      unfold DataW.weights at hw
      rw [ht] at hw
      simp only at hw
      have := hw _ (List.mem_cons_self ..)
      refine Nat.le_trans (Nat.mul_le_mul_right _ ?_) this
      simp
    · rw [hdd]
      have h1 := bulk_slice (H := H) (List.map (fun i => DataW.agg [D0 i, D1 i]) (List.range len0)) (List.map (fun j => DataW.agg [D0 (len0 + j), D1 (len0 + j)]) (List.range (m - len0)))
      have h2 := bulk_len (H := H) (List.map (fun i => DataW.agg [D0 i, D1 i]) (List.range len0))
      simp only [List.length_map, List.length_range] at h2 ⊢
      omega
    refine ⟨⟨some a, m, by simp, by simpa using hl, hlen _, fun hn => ⟨a, vs, rfl, ?_, g1, fun j v hv => by have := g2 j v hv; rwa [Nat.zero_mul, Nat.zero_add] at this, hclo _⟩⟩, fun _ _ => trivial⟩
    have hn' : 0 < len0 := by simpa using hn
    have := cell_lt (hi 0 (by omega)).1
    rwa [block_add] at this
/-- a call that returns true, at values that are told. -/
theorem pcall_true' {P : Program} {f : FuncId} {args : List AV} (h : PCall P f args (vB true)) (vals : List Value) (W : World) (hl : args.length = vals.length) (hr : ∀ (i : Nat) (x : AV) (v : Value), args[i]? = some x → vals[i]? = some v → RpV (fun _ => True) id W x v) :
    Calls P f vals.toArray W fun e W' => e = .returned (.bool true) ∧ Below W.heap.size W W' :=
  (h.call (fun _ => True) W vals ⟨hl, hr⟩).mono fun e W' ⟨v, he, ⟨hv, _⟩, hb⟩ => by subst hv; exact ⟨he, hb⟩
theorem bulk_sum {H : Type} (D : Nat → DataW H) (q : Nat → List Pt) : ∀ (l : List Nat), (∀ i ∈ l, (q i).length + 1 ≤ Rows.uptoBulk (D i)) → l.length + sumL (l.map q) ≤ Rows.uptoBulkAll (l.map D)
  | [], _ => by simp [sumL, Rows.uptoBulkAll]
  | i :: l, h => by
    have h1 := h i (List.mem_cons_self ..)
    have h2 := bulk_sum D q l fun j hj => h j (List.mem_cons_of_mem _ hj)
    have e : sumL ((i :: l).map q) = (q i).length + sumL (l.map q) := by simp [sumL]
    rw [e, List.map_cons, Rows.uptoBulkAll, List.length_cons]
    omega
/-- rows of rings as an argument. -/
theorem open_rings {H : Type} {enc : TypeId × Value → H} {P : Program} {W : World} {tt t e : TypeId} {f0 f1 : Field} (hu : P.underlying tt = some (.slice t)) (cu : P.cellsOf t = 1) (ht : P.underlying t = some (.slice e)) (he : P.underlying e = some (.struct #[f0, f1])) (ce : P.cellsOf e = 2) (o0 : f0.offset = 0) (o1 : f1.offset = 1) (c0 : P.cellsOf f0.type = 1) (c1 : P.cellsOf f1.type = 1) (k0 : P.underlying f0.type = some (.int .i64)) (k1 : P.underlying f1.type = some (.int .i64))
    {v : Value} {d : DataW H} {p : List MemPlace} (hv : ∃ a len cap, v = .slice a len cap) (h0 : DataW.Trod enc P W 0 (fun _ => true) true tt v d p) :
    ∃ L : List (List Pt), (∀ n, (∀ w ∈ DataW.weights P tt d, w ≤ n) → L.length * P.bytesOf t ≤ n ∧ ∀ r ∈ L, r.length * P.bytesOf e ≤ n) ∧ L.length + sumL L + 1 ≤ Rows.uptoBulk d ∧ RpV (fun _ => True) id W (.w (.one (ringsA L))) v := by
  obtain ⟨a0, len0, cap0, rfl⟩ := hv
  obtain ⟨fuel, hf⟩ := h0
  rcases Go.Deep.open_slice1 hu cu hf with ⟨hcs, hx⟩ | ⟨a, len, cap, m, n, V0, D0, P0, hcs, hb, hl, hm, hmm, hx, hi⟩
  · simp [Value.cells] at hcs
    obtain ⟨rfl, rfl, rfl⟩ := hcs
    obtain ⟨rfl, rfl⟩ := Prod.mk.inj hx
    exact ⟨[], (fun n _ => ⟨by simp, fun r hr => by cases hr⟩), (by simp [Rows.uptoBulk, sumL]), ⟨none, 0, rfl, Nat.le_refl _, rfl, fun h => absurd h (Nat.lt_irrefl _)⟩, fun _ _ => trivial⟩
  · simp [Value.cells] at hcs
    obtain ⟨rfl, rfl, rfl⟩ := hcs
    simp only [if_true] at hmm
    subst hmm
    have each : ∀ i, i < m → ∃ q : List Pt, (∀ n, (∀ w ∈ DataW.weights P t (D0 i), w ≤ n) → q.length * P.bytesOf e ≤ n) ∧ q.length + 1 ≤ Rows.uptoBulk (D0 i) ∧ RpV (fun _ => True) id W (.w (.one (ringA q))) (V0 i) := fun i h => by
      obtain ⟨_, g0⟩ := hi i h
      generalize V0 i = x at g0
      have s0 : ∃ a len cap, x = .slice a len cap := by
        rcases Go.Deep.open_slice_pairs ht he ce o0 o1 c0 c1 g0 with ⟨hc, _⟩ | ⟨a, len, cap, _, _, _, _, _, _, _, _, hc, _⟩
        · exact ⟨none, 0, 0, List.head_eq_of_cons_eq hc⟩
        · exact ⟨some a, len, cap, List.head_eq_of_cons_eq hc⟩
      exact open_ring ht he ce o0 o1 c0 c1 k0 k1 s0 ⟨n, by obtain ⟨a, len, cap, rfl⟩ := s0; exact g0⟩
    obtain ⟨q, hq⟩ := Go.Deep.choose_lt each
    have hdd := congrArg Prod.fst hx
    simp only at hdd
    have hat : ∀ (j : Nat) u, ((List.range len0).map V0)[j]? = some u → W.cell? (a.add j) = some u ∧ j < len0 := fun j u hu => by
      rw [List.getElem?_map] at hu
      cases hr : (List.range len0)[j]? with
      | none => rw [hr] at hu; cases hu
      | some i =>
        rw [hr] at hu
        cases hu
        obtain ⟨h3, h4⟩ := List.getElem?_eq_some_iff.1 hr
        simp at h3 h4
        subst h4
        exact ⟨(hi j (by omega)).1, h3⟩
    refine ⟨(List.range len0).map q, fun k hw => ?_, ?_, ?_⟩
    · rw [hdd] at hw
      unfold DataW.weights at hw
      rw [hu] at hw
      simp only at hw
      refine ⟨?_, fun r hr => ?_⟩
      · have := hw _ (List.mem_cons_self ..)
        refine Nat.le_trans (Nat.mul_le_mul_right _ ?_) this
        simp
      · obtain ⟨i, hi', rfl⟩ := List.mem_map.1 hr
        have hil : i < len0 := by simpa using hi'
        exact (hq i (by omega)).1 k fun w hw' => hw w (List.mem_cons_of_mem _ (List.mem_append_left _ (weightsAll_mem (List.mem_map.2 ⟨i, hi', rfl⟩) hw')))
    · rw [hdd]
      have h1 := bulk_slice (H := H) ((List.range len0).map D0) ((List.range (m - len0)).map fun j => D0 (len0 + j))
      have h2 := bulk_sum D0 q (List.range len0) fun i hi' => (hq i (Nat.lt_of_lt_of_le (List.mem_range.1 hi') hl)).2.1
      simp only [List.length_map, List.length_range] at h2 ⊢
      omega
    refine ⟨⟨some a, m, by simp, by simpa using hl, by simp, fun hn => ⟨a, (List.range len0).map V0, rfl, ?_, ⟨by simp, fun i x u hx hu => ?_⟩, fun j u hu => (hat j u hu).1, fun y hy => ?_⟩⟩, fun _ _ => trivial⟩
    · have hn' : 0 < len0 := by simpa using hn
      have := cell_lt (hi 0 (by omega)).1
      rwa [block_add] at this
    · rw [List.getElem?_map] at hu
      rw [List.map_map, List.getElem?_map] at hx
      cases hr : (List.range len0)[i]? with
      | none => rw [hr] at hx; cases hx
      | some j =>
        rw [hr] at hx hu
        cases hx; cases hu
        have hjl : j < len0 := by have := List.mem_of_getElem? hr; simpa using this
        exact (hq j (by omega)).2.2
    · rw [List.map_map] at hy
      obtain ⟨j, _, rfl⟩ := List.mem_map.1 hy
      rfl
end Go.Proofs.Ytlfkllmnekdghaa

