/-
  Quotients of rows of digits: what the rounds keep, plain arithmetic; the memory of a division under way. My own text.
-/
import Derived.Test.YtinjgiigmlikpaaRefP
import Derived.Laws.OwnMore
namespace Go.Proofs.Ytinjgiigmlikpaa
open Go.RowKit
set_option linter.unusedVariables false

/-- what an outer round of a division keeps: the digits from k on are divided. -/
def DivO (ds qs : List Int) (k : Nat) (b r : Int) : Prop := hi ds k = hi qs k * b + r ∧ 0 ≤ r ∧ r < b ∧ (∀ j, j < k → qs.getD j 0 = 0)
theorem divO_start (ds : List Int) {b : Int} (hb : 0 < b) {qs : List Int} (hq : ∀ j, qs.getD j 0 = 0) (hl : qs.length = ds.length) : DivO ds qs ds.length b 0 := by
  refine ⟨?_, Int.le_refl _, hb, fun j _ => hq j⟩
  rw [hi_end ds (Nat.le_refl _), hi_end qs (by omega)]
  omega
/-- what an inner round keeps: d is a digit of the quotient that is still counted. -/
def DivI (ds qs : List Int) (k : Nat) (b r d : Int) : Prop := hi ds k = (d + 10000 * hi qs (k + 1)) * b + r ∧ 0 ≤ r ∧ r < (10000 - d) * b ∧ 0 ≤ d ∧ qs.getD k 0 = d ∧ (∀ j, j < k → qs.getD j 0 = 0)
theorem divI_start {ds qs : List Int} {k : Nat} {b r : Int} (h : DivO ds qs (k + 1) b r) (hd : IsD ds) : DivI ds qs k b (ds.getD k 0 + 10000 * r) 0 := by
  obtain ⟨h1, h2, h3, h4⟩ := h
  have g := hd.getD k
  refine ⟨?_, by omega, by omega, Int.le_refl _, h4 k (by omega), fun j hj => h4 j (by omega)⟩
  rw [hi_step ds k, h1, Int.zero_add, Int.mul_assoc]
  omega
theorem divI_step {ds qs : List Int} {k : Nat} {b r d : Int} (h : DivI ds qs k b r d) (hb : 0 < b) (hge : b ≤ r) (hk : k < qs.length) : DivI ds (qs.set k (d + 1)) k b (r + -b) (d + 1) ∧ d + 1 < 10000 := by
  obtain ⟨h1, h2, h3, h4, h5, h6⟩ := h
  have hd : d + 1 < 10000 := by
    rcases Int.lt_or_le (d + 1) 10000 with q | q
    · exact q
    · exfalso
      have : (10000 - d) * b ≤ 1 * b := Int.mul_le_mul_of_nonneg_right (by omega) (by omega)
      omega
  refine ⟨⟨?_, by omega, ?_, by omega, getD_set_self hk _, fun j hj => ?_⟩, hd⟩
  · rw [hi_set_lt (by omega), h1, Int.add_mul, Int.add_mul, Int.add_mul]
    omega
  · rw [show (10000 - (d + 1)) = (10000 - d) - 1 by omega, Int.sub_mul]
    omega
  · rw [getD_set_ne (by omega)]; exact h6 j hj
theorem divI_end {ds qs : List Int} {k : Nat} {b r d : Int} (h : DivI ds qs k b r d) (hlt : r < b) : DivO ds qs k b r := by
  obtain ⟨h1, h2, h3, h4, h5, h6⟩ := h
  refine ⟨?_, h2, hlt, h6⟩
  rw [hi_step qs k, h5]
  exact h1
theorem divO_end {ds qs : List Int} {b r : Int} (h : DivO ds qs 0 b r) : dval ds = dval qs * b + r ∧ 0 ≤ r ∧ r < b := ⟨h.1, h.2.1, h.2.2.1⟩
/-- whole parts, and what is left, of a number with a sign. -/
theorem fdiv_pos {a b q r : Int} (h : a = q * b + r) (h0 : 0 ≤ r) (h1 : r < b) : a / b = q ∧ a % b = r := by
  have hb : 0 < b := by omega
  refine ⟨?_, ?_⟩
  · rw [h, Int.add_comm, Int.add_mul_ediv_right _ _ (by omega), Int.ediv_eq_zero_of_lt h0 h1, Int.zero_add]
  · rw [h, Int.add_comm, Int.add_mul_emod_self_right, Int.emod_eq_of_lt h0 h1]
theorem fdiv_neg0 {a b q : Int} (h : a = q * b + 0) (hb : 0 < b) : -a / b = -q ∧ -a % b = 0 := fdiv_pos (by rw [h, Int.neg_mul]; omega) (Int.le_refl _) hb
theorem fdiv_neg {a b q r : Int} (h : a = q * b + r) (h0 : 0 < r) (h1 : r < b) : -a / b = -q + -1 ∧ -a % b = b + -r := fdiv_pos (by rw [h, Int.add_mul, Int.neg_mul]; omega) (by omega) (by omega)

/-- the memory of a division under way. -/
structure DivW (w : World) (g : Nat) (wr : World) (x : Bool) (A : Option Addr) (l c : Nat) (ds : List Int) (y : Bool) (B : Option Addr) (m d : Nat) (b : Int) (qs : List Int) (z : Bool) (C : Option Addr) (p e : Nat) (r : Int) : Prop where
  b0 : Box wr w.heap.size (.bool x) (.slice A l c)
  b1 : Box wr (w.heap.size + 1) (.bool y) (.slice B m d)
  b2 : Box wr (w.heap.size + 1 + 1) (.bool false) (.slice none 0 0)
  b3 : Box wr (w.heap.size + 1 + 1 + 1) (.bool false) (.slice none 0 0)
  own : wr.ownsRow (w.heap.size + 1 + 1 + 1 + 1) 3 1 (.slice (some ⟨w.heap.size + 1 + 1 + 1 + 1, 0, none⟩) l l) l (qs.map (Value.int .i64))
  dg : IsD qs
  br : Box wr (g) (.bool z) (.slice C p e)
  nb : IsN wr y B m d b
  nr : IsN wr z C p e r
  fb : ∀ a, B = some a → a.block ≠ w.heap.size + 1 + 1 + 1 + 1
  fr : ∀ a, C = some a → w.heap.size + 1 + 1 + 1 + 1 < a.block
  below : Below w.heap.size w wr
section
variable {w wr : World} {g : Nat} {x y z : Bool} {A B C : Option Addr} {l c m d p e : Nat} {ds qs : List Int} {b r : Int}
theorem DivW.len (h : DivW w g wr x A l c ds y B m d b qs z C p e r) : qs.length = l := by have := h.own.1; simpa using this
theorem DivW.cell (h : DivW w g wr x A l c ds y B m d b qs z C p e r) {j : Nat} (hj : j < l) : wr.cell? ⟨w.heap.size + 1 + 1 + 1 + 1, j, none⟩ = some (.int .i64 (qs.getD j 0)) ∧ wr.frozen? ⟨w.heap.size + 1 + 1 + 1 + 1, j, none⟩ = false := by
  refine ⟨?_, h.own.frozenAt j⟩
  have hl := h.len
  rw [h.own.cellAt j (by omega), List.getElem?_map, List.getElem?_eq_getElem (by omega), List.getD_eq_getElem?_getD, List.getElem?_eq_getElem (by omega)]
  rfl
/-- the remainder's block, and memory beyond, are written; all else stands. -/
theorem DivW.turn {w1 : World} {z' : Bool} {C' : Option Addr} {p' e' : Nat} {r' : Int} (h : DivW w g wr x A l c ds y B m d b qs z C p e r) (hg : w.heap.size + 1 + 1 + 1 + 1 < g) (hb : Below wr.heap.size wr w1) (hr : IsN w1 z' C' p' e' r') (hf : ∀ a, C' = some a → w.heap.size + 1 + 1 + 1 + 1 < a.block) :
    DivW w g ((w1.setCell ⟨g, 0, none⟩ (.bool z')).setCell ⟨g, 1, none⟩ (.slice C' p' e')) x A l c ds y B m d b qs z' C' p' e' r' := by
  have hbr := HasBB.of (h.br.call hb)
  refine ⟨((h.b0.call hb).set _ (by omega)).set _ (by omega), ((h.b1.call hb).set _ (by omega)).set _ (by omega), ((h.b2.call hb).set _ (by omega)).set _ (by omega), ((h.b3.call hb).set _ (by omega)).set _ (by omega), ?_, h.dg, Box.put (HasBox.of (h.br.call hb)), (h.nb.call hb).put hbr, hr.put hbr, h.fb, hf, below_set (below_set (below_call h.below hb) _ _ _ (by omega)) _ _ _ (by omega)⟩
  have k1 : w1.ownsRow (w.heap.size + 1 + 1 + 1 + 1) 3 1 (.slice (some ⟨w.heap.size + 1 + 1 + 1 + 1, 0, none⟩) l l) l (qs.map (Value.int .i64)) := h.own.kept (row := none) ⟨hb.os, hb.tape, hb.output, hb.size, fun i hi _ => hb.block i hi⟩ (.inr (by simp [Value.ownBlock]))
  have far : ∀ (W : World) (o : Nat) (u : Value), W.ownsRow (w.heap.size + 1 + 1 + 1 + 1) 3 1 (.slice (some ⟨w.heap.size + 1 + 1 + 1 + 1, 0, none⟩) l l) l (qs.map (Value.int .i64)) → (W.setCell ⟨g, o, none⟩ u).ownsRow (w.heap.size + 1 + 1 + 1 + 1) 3 1 (.slice (some ⟨w.heap.size + 1 + 1 + 1 + 1, 0, none⟩) l l) l (qs.map (Value.int .i64)) := fun W o u hW =>
    hW.kept (row := some g) ⟨rfl, rfl, rfl, by simp [World.setCell], fun k _ hk => Below.heap_setCell W ⟨g, o, none⟩ u k (fun e => hk (by rw [e]))⟩ (.inr (by simp [Value.ownBlock]; omega))
  exact far _ _ _ (far _ _ _ k1)
theorem DivW.call {w1 : World} (h : DivW w g wr x A l c ds y B m d b qs z C p e r) (hb : Below wr.heap.size wr w1) : DivW w g w1 x A l c ds y B m d b qs z C p e r :=
  ⟨h.b0.call hb, h.b1.call hb, h.b2.call hb, h.b3.call hb, h.own.kept (row := none) ⟨hb.os, hb.tape, hb.output, hb.size, fun i hi _ => hb.block i hi⟩ (.inr (by simp [Value.ownBlock])), h.dg, h.br.call hb, h.nb.call hb, h.nr.call hb, h.fb, h.fr, below_call h.below hb⟩
theorem DivW.row (h : DivW w g wr x A l c ds y B m d b qs z C p e r) : Dg wr (some ⟨w.heap.size + 1 + 1 + 1 + 1, 0, none⟩) l l qs := by
  obtain ⟨A', c', e', hD⟩ := Dg.own h.own
  cases e'
  exact hD
theorem DivW.drew (h : DivW w g wr x A l c ds y B m d b qs z C p e r) : DivW w g wr.drew x A l c ds y B m d b qs z C p e r :=
  ⟨h.b0.drew, h.b1.drew, h.b2.drew, h.b3.drew, h.own, h.dg, h.br.drew, h.nb.drew, h.nr.drew, h.fb, h.fr, h.below.drew⟩
theorem DivW.store (h : DivW w g wr x A l c ds y B m d b qs z C p e r) (hg : w.heap.size + 1 + 1 + 1 + 1 < g) {j : Nat} (hj : j < l) {s : Int} (h0 : 0 ≤ s) (h1 : s < 10000) :
    DivW w g (wr.setCell ⟨w.heap.size + 1 + 1 + 1 + 1, j, none⟩ (.int .i64 s)) x A l c ds y B m d b (qs.set j s) z C p e r := by
  have keepN : ∀ {z : Bool} {C : Option Addr} {p e : Nat} {r : Int}, IsN wr z C p e r → (∀ a, C = some a → a.block ≠ w.heap.size + 1 + 1 + 1 + 1) → IsN (wr.setCell ⟨w.heap.size + 1 + 1 + 1 + 1, j, none⟩ (.int .i64 s)) z C p e r := fun {z C p e r} hN hne => by
    obtain ⟨es, ⟨k1, k2, k3, k4⟩, hS⟩ := hN
    refine ⟨es, ⟨k1, k2, k3, fun hp => ?_⟩, hS⟩
    obtain ⟨g', e1, e2, e3⟩ := k4 hp
    refine ⟨g', e1, by simpa [World.setCell] using e2, fun i hi => ?_⟩
    rw [World.cell?_setCell_other _ _ _ _ (fun e => hne _ e1 (congrArg Addr.block e).symm)]
    exact e3 i hi
  refine ⟨h.b0.set _ (by omega), h.b1.set _ (by omega), h.b2.set _ (by omega), h.b3.set _ (by omega), ?_, h.dg.set j h0 h1, h.br.set _ (by omega), keepN h.nb h.fb, keepN h.nr (fun a e => by have := h.fr a e; omega), h.fb, h.fr, below_set h.below _ _ _ (by omega)⟩
  rw [List.map_set]
  exact (h.own.stored j _).1
end
theorem isN_zero (w : World) : IsN w false none 0 0 0 := ⟨[], Dg.nil (by omega), ⟨IsD.nil, nm_nil, fun h => (by cases h), rfl⟩⟩
theorem divW_made {w W w3 : World} {x y : Bool} {A B : Option Addr} {l c m d : Nat} {ds : List Int} {b : Int} {z : Value} (hz : z = .int .i64 0) (hsz : W.heap.size = w.heap.size + 1 + 1 + 1 + 1)
    (b0 : Box W w.heap.size (.bool x) (.slice A l c)) (b1 : Box W (w.heap.size + 1) (.bool y) (.slice B m d)) (b2 : Box W (w.heap.size + 1 + 1) (.bool false) (.slice none 0 0)) (b3 : Box W (w.heap.size + 1 + 1 + 1) (.bool false) (.slice none 0 0)) (hb : Below w.heap.size w W)
    (nb : IsN w y B m d b) (hm : 0 < m) (hown : w3.ownsRow (w.heap.size + 1 + 1 + 1 + 1) 3 1 (.slice (some ⟨W.heap.size, 0, none⟩) l l) l (madeCells z.cells (l * 1)).toList) (hg : W.grownBy w3 none) :
    w.heap.size + 1 + 1 + 1 + 1 < w3.heap.size ∧ DivW w w3.heap.size (w3.alloc (.cells #[.bool false, .slice none 0 0] 31)) x A l c ds y B m d b (List.replicate l 0) false none 0 0 0 := by
  have hB : Below W.heap.size W w3 := ⟨hg.os, hg.tape, hg.output, hg.size, fun i hi => hg.block i hi (by simp)⟩
  have hlt := (hown.lt W.heap.size rfl).2
  rw [hsz] at hown
  rw [hz] at hown
  have e : (madeCells (Value.int .i64 0).cells (l * 1)).toList = (List.replicate l (0 : Int)).map (Value.int .i64) := by
    rw [Nat.mul_one, List.map_replicate]
    exact toList_madeCells_one _ _
  rw [e] at hown
  have fbl : ∀ a, B = some a → a.block ≠ w.heap.size + 1 + 1 + 1 + 1 := by
    obtain ⟨es, ⟨_, _, _, k4⟩, _⟩ := nb
    obtain ⟨g, e1, e2, _⟩ := k4 hm
    rintro a rfl
    obtain rfl := Option.some.inj e1
    show g ≠ _
    omega
  refine ⟨by omega, ⟨(b0.call hB).alloc _, (b1.call hB).alloc _, (b2.call hB).alloc _, (b3.call hB).alloc _, hown.alloc _, isD_zeros _, Box.new rfl, ((nb.call hb).call hB).alloc _, isN_zero _, fbl, (fun a e => by cases e), below_alloc (below_call hb hB) _⟩⟩
/-- append onto a row of one's own, of a row of digits, nil let in. -/
theorem run_append_dg {P : Program} (w : World) (base : Nat) (t ty e : TypeId) (i : TypeInfo) (ht : P.underlying t = some (.slice e)) (hi : P.info? e = some i) (hz : i.zero = some (.int .i64 0)) (hsize : i.size = 1) (hby : i.bytes = 8)
    (v : Value) (n : Nat) (xs : List Value) (hown : w.ownsRow base e 1 v n xs) (A : Option Addr) (l c : Nat) (ds : List Int) (hD : Dg w A l c ds) (hn : n + l ≤ 2000) (hbase : base ≤ w.heap.size) :
    ∃ v' w', (Builtin.append_ #[t, t] ty #[v, .slice A l c]).run P w = .ok v' w' ∧ w'.ownsRow base e 1 v' (n + l) (xs ++ ds.map (Value.int .i64)) ∧ w.grownBy w' v.ownBlock := by
  obtain ⟨k1, k2, k3, k4⟩ := hD
  rcases A with _ | ad
  · have hl : l = 0 := by
      rcases Nat.eq_zero_or_pos l with h0 | h0
      · exact h0
      · obtain ⟨g, h, _⟩ := k4 h0
        cases h
    subst hl
    have hds : ds = [] := List.eq_nil_of_length_eq_zero k1
    subst hds
    refine ⟨v, w, ?_, by simpa using hown, ⟨rfl, rfl, rfl, Nat.le_refl _, fun _ _ _ => rfl⟩⟩
    rcases hown.2 with ⟨rfl, rfl⟩ | ⟨g, cap, cur, rfl, _, _, hnc, _⟩
    · simp [Builtin.append_, run_underlying ht, sizeOf, typeInfo, hi, Builtin.lenOf, Builtin.firstCells]
    · simp [Builtin.append_, run_underlying ht, sizeOf, typeInfo, hi, Builtin.lenOf, Builtin.firstCells, hnc, storeCells]
  · have hnews : ∀ j u, (ds.map (Value.int .i64))[j]? = some u → w.cell? (ad.add j) = some u := by
      intro j u hu
      rw [List.getElem?_map] at hu
      obtain ⟨q, hq, rfl⟩ := Option.map_eq_some_iff.1 hu
      have hj : j < ds.length := (List.getElem?_eq_some_iff.1 hq).1
      obtain ⟨g, e1, _, hc⟩ := k4 (by omega)
      obtain rfl := Option.some.inj e1
      have hadd : (⟨g, 0, none⟩ : Addr).add j = ⟨g, j, none⟩ := by unfold Addr.add; split <;> simp_all
      rw [hadd, hc j (by omega), List.getD_eq_getElem?_getD, hq]
      rfl
    obtain ⟨v', w', r1, r2, r3, _⟩ := run_append_own (P := P) w base t ty e i (.int .i64 0) 1 8 ht hi hz hsize hby rfl (by decide) v n xs hown ad l c (ds.map (Value.int .i64)) (by simp [k1]) hnews (ints_oneCell .i64 ds) (by simp only [maxLen]; omega) (by omega) hbase
    exact ⟨v', w', r1, r2, r3⟩
/-- the same, at a step of a drawn region. -/
theorem step_append_dg {P : Program} (w : World) {ops : Array Oper} {o : Oper} {a : Act} {K : Act → World → Prop} {Q : Exit → Act → World → Prop} {E : Prop} (hgd : o.guard = none) (s x : Operand) (t : TypeId)
    (ho : o.op = .call { callee := .builtin .append, args := #[s, x], argTypes := #[t, t] }) (base : Nat) (e : TypeId) (i : TypeInfo) (ht : P.underlying t = some (.slice e)) (hi : P.info? e = some i) (hz : i.zero = some (.int .i64 0)) (hsize : i.size = 1) (hby : i.bytes = 8)
    (v : Value) (n : Nat) (xs : List Value) (hs : a.eval s = v) (hown : w.ownsRow base e 1 v n xs) (A : Option Addr) (l c : Nat) (ds : List Int) (hx : a.eval x = .slice A l c) (hD : Dg w A l c ds) (hn : n + l ≤ 2000) (hbase : base ≤ w.heap.size)
    (h : ∀ v' w', w'.ownsRow base e 1 v' (n + l) (xs ++ ds.map (Value.int .i64)) → w.grownBy w' v.ownBlock → K (a.put o.dst v') w') :
    if Region.wanted o (yielded ops a.tmps) = true then Oper.wp P o a w K Q else E := by
  rw [if_pos (by simp [Region.wanted, hgd])]
  obtain ⟨v', w', hrun, h2, h3⟩ := run_append_dg (P := P) w base t o.type e i ht hi hz hsize hby v n xs hown A l c ds hD hn hbase
  unfold Oper.wp execOp
  simp only [ho, resolve, invoke, builtin, Sem.run_bind, Sem.run_pure, Result.andThen_ok, List.map_toArray, List.map_cons, List.map_nil, hs, hx, hrun]
  exact h v' w' h2 h3
end Go.Proofs.Ytinjgiigmlikpaa
