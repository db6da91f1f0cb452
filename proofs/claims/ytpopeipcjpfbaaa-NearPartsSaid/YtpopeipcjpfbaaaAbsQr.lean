/-
  Rows of things that are numbers all through, that are handed in. My own text.
-/
import Derived.Test.YtpopeipcjpfbaaaAbsS
import Derived.Deep.SlicePairs
import Derived.Carry
import Derived.Test.YtpopeipcjpfbaaaAbsRow
namespace Go.Proofs.Ytpopeipcjpfbaaa
open Go.ChangeShapes Go.WideShapes Go.ChangeAt Go.RowKit Go.Joins
set_option linter.unusedVariables false
set_option linter.unusedSimpArgs false
def flC (L : List (List Int)) : List AC := L.flatten.map fun x => .c (.int .i64 x)
theorem cell_lt' {W : World} {b : Addr} {v : Value} (h : W.cell? b = some v) : b.block < W.heap.size := by
  unfold World.cell? at h
  split at h
  · rename_i hh; exact (Array.getElem?_eq_some_iff.1 hh).1
  · cases h
theorem flat_cells {W : World} {a : Addr} {z : Nat} : ∀ (L : List (List Int)) (k : Nat), (∀ (i : Nat) (x : List Int), L[i]? = some x → x.length = z ∧ ∀ (o : Nat) (y : Int), x[o]? = some y → W.cell? (a.add ((k + i) * z + o)) = some (.int .i64 y)) →
    ∀ (j : Nat) (u : Int), L.flatten[j]? = some u → W.cell? (a.add (k * z + j)) = some (.int .i64 u)
  | [], k, h, j, u, hu => by simp at hu
  | x :: L, k, h, j, u, hu => by
    obtain ⟨hl, hx⟩ := h 0 x rfl
    rw [List.flatten_cons] at hu
    rcases Nat.lt_or_ge j x.length with hj | hj
    · rw [List.getElem?_append_left hj] at hu
      have := hx j u hu
      rwa [Nat.add_zero] at this
    · rw [List.getElem?_append_right hj] at hu
      have := flat_cells L (k + 1) (fun i y hy => by
        have := h (i + 1) y (by simpa using hy)
        rw [show k + (i + 1) = k + 1 + i by omega] at this
        exact this) (j - x.length) u hu
      rw [show (k + 1) * z + (j - x.length) = k * z + j by rw [Nat.add_mul, Nat.one_mul]; omega] at this
      exact this
theorem open_flat {H : Type} {enc : TypeId × Value → H} {P : Program} {W : World} {t e : TypeId} (z : Nat) (ht : P.underlying t = some (.slice e)) (ce : P.cellsOf e = z)
    (hel : ∀ (n : Nat) (cs : List Value) d, DataW.trod enc P W 0 (fun _ => true) true n e cs = some d → ∃ xs : List Int, cs = xs.map (Value.int .i64))
    {v : Value} {d : DataW H} {p : List MemPlace} (hv : ∃ a len cap, v = .slice a len cap) (h0 : DataW.Trod enc P W 0 (fun _ => true) true t v d p) (hz : 0 < z) :
    ∃ L : List (List Int), (L.length : Int) ≤ 9223372036854775807 ∧ (∀ x ∈ L, x.length = z) ∧ RpV (fun _ => True) id W (vS z L.length (flC L)) v := by
  obtain ⟨a0, len0, cap0, rfl⟩ := hv
  obtain ⟨fuel, hf⟩ := h0
  rcases Go.Deep.open_slice ht hf with ⟨hcs, hx⟩ | ⟨a, len, cap, m, n, D, Pl, hcs, hb, hl, hm, hmm, hx, hi⟩
  · simp [Value.cells] at hcs
    obtain ⟨rfl, rfl, rfl⟩ := hcs
    exact ⟨[], by decide, fun x hx => (by cases hx), ⟨none, 0, rfl, Nat.le_refl _, by simp [flC], fun h => absurd h (Nat.lt_irrefl _)⟩, fun _ _ => trivial⟩
  · simp [Value.cells] at hcs
    obtain ⟨rfl, rfl, rfl⟩ := hcs
    simp only [if_true] at hmm
    subst hmm
    rw [ce] at hi
    have each : ∀ i, i < m → ∃ q : List Int, q.length = z ∧ ∀ (o : Nat) (y : Int), q[o]? = some y → W.cell? (a.add (i * z + o)) = some (.int .i64 y) := fun i h => by
      obtain ⟨cs', h1, h2⟩ := hi i h
      obtain ⟨_, hlen, hcell⟩ := World.cells?_some h1
      obtain ⟨xs, rfl⟩ := hel _ _ _ h2
      refine ⟨xs, by simpa using hlen, fun o y hy => ?_⟩
      have ho : o < z := by
        have := (List.getElem?_eq_some_iff.1 hy).1
        simp at hlen; omega
      have := hcell o ho
      rw [Go.Deep.add_add, List.getElem?_map, hy] at this
      exact this
    obtain ⟨q, hq⟩ := Go.Deep.choose_lt each
    have hall : ∀ (i : Nat) (x : List Int), ((List.range len0).map q)[i]? = some x → x.length = z ∧ ∀ (o : Nat) (y : Int), x[o]? = some y → W.cell? (a.add ((0 + i) * z + o)) = some (.int .i64 y) := by
      intro i x hx
      rw [List.getElem?_map] at hx
      cases hr : (List.range len0)[i]? with
      | none => rw [hr] at hx; cases hx
      | some j =>
        rw [hr] at hx
        cases hx
        obtain ⟨h3, h4⟩ := List.getElem?_eq_some_iff.1 hr
        simp at h3 h4
        subst h4
        rw [Nat.zero_add]
        exact hq i (by omega)
    have hat := flat_cells ((List.range len0).map q) 0 hall
    have hlz : ∀ x ∈ (List.range len0).map q, x.length = z := fun x hx => by
      obtain ⟨i, hi'⟩ := List.getElem?_of_mem hx
      exact (hall i x hi').1
    have hfl : ∀ L : List (List Int), (∀ x ∈ L, x.length = z) → L.flatten.length = L.length * z := by
      intro L
      induction L with
      | nil => intro _; simp
      | cons x L ih =>
        intro h
        rw [List.flatten_cons, List.length_append, ih (fun y hy => h y (by simp [hy])), h x (by simp), List.length_cons, Nat.add_mul]
        omega
    refine ⟨(List.range len0).map q, by simp; unfold maxLen at hm; omega, hlz, ?_⟩
    refine ⟨⟨some a, m, by simp, by simpa using hl, by rw [flC, List.length_map, hfl _ hlz], fun hn => ⟨a, ((List.range len0).map q).flatten.map fun x => Value.int .i64 x, rfl, ?_, ⟨by rw [flC, List.length_map, List.length_map], fun i x u hx hu => ?_⟩, fun j u hu => ?_, fun y hy => ?_⟩⟩, fun _ _ => trivial⟩
    · have hn' : 0 < len0 := by simpa using hn
      obtain ⟨h1, h2⟩ := hq 0 (by omega)
      have := cell_lt' (h2 0 _ (List.getElem?_eq_getElem (by omega)))
      rwa [block_add] at this
    · unfold flC at hx
      rw [List.getElem?_map] at hx hu
      cases hr : ((List.range len0).map q).flatten[i]? with
      | none => rw [hr] at hx; cases hx
      | some y =>
        rw [hr] at hx hu
        cases hx; cases hu
        exact ⟨rfl, rfl⟩
    · rw [List.getElem?_map] at hu
      cases hr : ((List.range len0).map q).flatten[j]? with
      | none => rw [hr] at hu; cases hu
      | some y =>
        rw [hr] at hu
        cases hu
        have := hat j y hr
        rwa [Nat.zero_mul, Nat.zero_add] at this
    · unfold flC at hy
      obtain ⟨x, _, rfl⟩ := List.mem_map.1 hy
      rfl
/-- a thing of one number. -/
theorem el_int {H : Type} {enc : TypeId × Value → H} {P : Program} {W : World} {e : TypeId} (k0 : P.underlying e = some (.int .i64)) {n : Nat} {cs : List Value} {d : DataW H × List MemPlace} (h : DataW.trod enc P W 0 (fun _ => true) true n e cs = some d) (hl : cs.length = 1) : ∃ x : Int, cs = [.int .i64 x] := by
  match cs, hl with
  | [v], _ =>
    obtain ⟨x, hx, _⟩ := DataW.trod_int k0 h
    simp at hx
    exact ⟨x, by rw [hx]⟩
/-- a thing of two numbers. -/
theorem el_2 {H : Type} {enc : TypeId × Value → H} {P : Program} {W : World} {e : TypeId} {f0 f1 : Field} (he : P.underlying e = some (.struct #[f0, f1])) (ce : P.cellsOf e = 2) (o0 : f0.offset = 0) (o1 : f1.offset = 1) (c0 : P.cellsOf f0.type = 1) (c1 : P.cellsOf f1.type = 1) (k0 : P.underlying f0.type = some (.int .i64)) (k1 : P.underlying f1.type = some (.int .i64))
    {n : Nat} {cs : List Value} {d : DataW H × List MemPlace} (h : DataW.trod enc P W 0 (fun _ => true) true n e cs = some d) : ∃ x y : Int, cs = [.int .i64 x, .int .i64 y] := by
  obtain ⟨xs, k, _, _, hcl, hxl, hf⟩ := DataW.trod_struct he h
  rw [ce] at hcl
  match cs, hcl, xs, hxl with
  | [u, v], _, [d0, d1], _ =>
    have g0 := hf 0 f0 rfl
    have g1 := hf 1 f1 rfl
    simp [o0, o1, c0, c1] at g0 g1
    obtain ⟨x, hx⟩ := el_int k0 g0 rfl
    obtain ⟨y, hy⟩ := el_int k1 g1 rfl
    cases hx; cases hy
    exact ⟨x, y, rfl⟩
/-- a thing of two numbers, and one. -/
theorem el_21 {H : Type} {enc : TypeId × Value → H} {P : Program} {W : World} {e : TypeId} {g0 g1 f0 f1 : Field} (he : P.underlying e = some (.struct #[g0, g1])) (ce : P.cellsOf e = 3) (p0 : g0.offset = 0) (p1 : g1.offset = 2) (d0 : P.cellsOf g0.type = 2) (d1 : P.cellsOf g1.type = 1) (k2 : P.underlying g1.type = some (.int .i64))
    (hg : P.underlying g0.type = some (.struct #[f0, f1])) (o0 : f0.offset = 0) (o1 : f1.offset = 1) (c0 : P.cellsOf f0.type = 1) (c1 : P.cellsOf f1.type = 1) (k0 : P.underlying f0.type = some (.int .i64)) (k1 : P.underlying f1.type = some (.int .i64))
    {n : Nat} {cs : List Value} {d : DataW H × List MemPlace} (h : DataW.trod enc P W 0 (fun _ => true) true n e cs = some d) : ∃ x y v : Int, cs = [.int .i64 x, .int .i64 y, .int .i64 v] := by
  obtain ⟨xs, k, _, _, hcl, hxl, hf⟩ := DataW.trod_struct he h
  rw [ce] at hcl
  match cs, hcl, xs, hxl with
  | [u, v, w], _, [e0, e1], _ =>
    have q0 := hf 0 g0 rfl
    have q1 := hf 1 g1 rfl
    simp [p0, p1, d0, d1] at q0 q1
    obtain ⟨x, y, hx⟩ := el_2 hg d0 o0 o1 c0 c1 k0 k1 q0
    obtain ⟨z, hz⟩ := el_int k2 q1 rfl
    cases hx; cases hz
    exact ⟨x, y, z, rfl⟩
end Go.Proofs.Ytpopeipcjpfbaaa
