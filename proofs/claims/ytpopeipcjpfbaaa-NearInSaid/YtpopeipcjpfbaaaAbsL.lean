/-
  States without addresses: slices of slices; slices that have no room behind them, and what is put behind them. My own text.
-/
import Derived.Test.YtpopeipcjpfbaaaAbsJ
import Derived.Test.YtpopeipcjpfbaaaAbsF
import Derived.Laws.Slices
namespace Go.Proofs.Ytpopeipcjpfbaaa
open Go.RowKit
set_option linter.unusedVariables false
set_option linter.unusedSimpArgs false
/-- a slice of n things of z cells each that has no room behind them. -/
def SlF (z n : Nat) (xs : List AC) : SP where
  holds w v := (SlP z n xs).holds w v ∧ ∃ A, v = .slice A n n
  foot := (SlP z n xs).foot
  frame w w' v := by
    rintro ⟨h1, h2⟩ hf
    have := (SlP z n xs).frame w w' v h1 hf
    exact ⟨⟨this.1, h2⟩, this.2⟩
  old w v b := by
    rintro ⟨h1, h2⟩ hf
    exact (SlP z n xs).old w v b h1 hf
  cell w v := by
    rintro ⟨h1, h2⟩
    exact (SlP z n xs).cell w v h1
theorem le_maxLen {n : Nat} (h : n ≤ 1000000) : n ≤ maxLen := Nat.le_trans h (by decide)
abbrev vSF (z n : Nat) (xs : List AC) : AV := .w (.one (.p (SlF z n xs)))
section
variable {P : Program} {U : Nat → Prop} {ρ : Nat → Nat} {W W' : World}
theorem slice_tell {z n l h c c' : Nat} {xs : List AC} {A : Option Addr} (hx : RpV U ρ W (vS z n xs) (.slice A n c)) (h1 : l ≤ h) (h2 : h ≤ n) (h3 : h ≤ c') : RpV U ρ W (vS z (h - l) ((xs.drop (l * z)).take ((h - l) * z))) (sliced A l h c' z) := by
  obtain ⟨⟨A', c0, e1, hc, hl, hA⟩, hU⟩ := hx
  cases e1
  have hm : (h - l) * z ≤ n * z - l * z := by rw [← Nat.sub_mul]; exact Nat.mul_le_mul_right _ (by omega)
  refine ⟨⟨if c' = l then A else A.map (·.add (l * z)), c' - l, rfl, by omega, by rw [List.length_take, List.length_drop, hl]; exact Nat.min_eq_left hm, fun hn => ?_⟩, ?_⟩
  · obtain ⟨a, vs, rfl, hcs⟩ := hA (by omega)
    have hne : ¬ c' = l := by omega
    rw [if_neg hne]
    exact ⟨a.add (l * z), _, rfl, hcs.sub (l * z) ((h - l) * z)⟩
  · rintro b ⟨c2, a', q, hn, hf⟩
    obtain ⟨a, vs, rfl, hcs⟩ := hA (by omega)
    have hne : ¬ c' = l := by omega
    unfold sliced at q
    rw [if_neg hne] at q
    simp at q
    obtain ⟨rfl, _⟩ := q
    exact hU b ⟨c, a, rfl, by omega, footL.sub (off := l * z) (n := (h - l) * z) hf⟩
theorem slice_tellF {z n l h c : Nat} {xs : List AC} {A : Option Addr} (hx : RpV U ρ W (vS z n xs) (.slice A n c)) (h1 : l ≤ h) (h2 : h ≤ n) : RpV U ρ W (vSF z (h - l) ((xs.drop (l * z)).take ((h - l) * z))) (sliced A l h h z) := by
  obtain ⟨g1, g2⟩ := slice_tell (c' := h) hx h1 h2 (Nat.le_refl _)
  exact ⟨⟨g1, _, rfl⟩, g2⟩
/-- what lies in a new block. -/
theorem fresh_slp {z n c : Nat} {xs : List AC} {vs : List Value} {cur : Array Value} {e : TypeId} (hl : RpL U id W xs vs) (hcl : ∀ y ∈ xs, y.closedB = true) (hlen : xs.length = n * z) (hnc : n ≤ c) (hold : ∀ b, b < W.heap.size → W'.heap[b]? = W.heap[b]?) (hnew : W'.heap[W.heap.size]? = some (.cells cur e (0, 0))) (hcur : cur.toList.take (n * z) = vs) : RpV (fun b => U b ∨ W.heap.size ≤ b) ρ W' (vS z n xs) (.slice (some ⟨W.heap.size, 0, none⟩) n c) := by
  have hlt : W.heap.size < W'.heap.size := (Array.getElem?_eq_some_iff.1 hnew).1
  have hl' : RpL U id W' xs vs := hl.map (fun b hb hlt => ⟨hb, hold b hlt⟩) (fun _ _ _ _ => rfl)
  have hat : ∀ (j : Nat) v, vs[j]? = some v → W'.cell? ((⟨W.heap.size, 0, none⟩ : Addr).add j) = some v := fun j v hv => by
    have hadd : (⟨W.heap.size, 0, none⟩ : Addr).add j = ⟨W.heap.size, j, none⟩ := by unfold Addr.add; split <;> simp_all
    rw [hadd, cell_of_row W' _ j cur e (0, 0) hnew]
    rw [← hcur, List.getElem?_take] at hv
    split at hv
    · simpa using hv
    · cases hv
  have hCA : CellsAt W' ⟨W.heap.size, 0, none⟩ xs vs := ⟨hlt, hl'.map (fun b _ _ => ⟨trivial, rfl⟩) (fun _ _ _ _ => rfl), hat, hcl⟩
  refine ⟨⟨some ⟨W.heap.size, 0, none⟩, c, rfl, hnc, hlen, fun hn => ⟨_, vs, rfl, hCA⟩⟩, ?_⟩
  rintro b ⟨c', a', q, hn, hf⟩
  cases q
  rcases hf with rfl | ⟨j, y, v, hy, hv, hfo⟩
  · exact .inr (Nat.le_refl _)
  · have hj : j < vs.length := by rw [← hl.1]; exact (List.getElem?_eq_some_iff.1 hy).1
    have h2 := hat j _ (List.getElem?_eq_getElem hj)
    rw [hv] at h2
    cases h2
    have h3 := hl'.2 j y _ hy (List.getElem?_eq_getElem hj)
    cases y with
    | c u => cases hfo
    | own k o => cases hfo
    | p S => exact .inl (h3.2 b hfo)
theorem rpl_id {xs : List AC} {vs : List Value} (h : RpL U ρ W xs vs) (hc : ∀ y ∈ xs, y.closedB = true) : RpL U id W xs vs :=
  ⟨h.1, fun i x v hx hv => (h.2 i x v hx hv).map (fun b hb _ => ⟨hb, rfl⟩) fun j hj => absurd hj (AC.closed_of (hc x (List.mem_of_getElem? hx)) j)⟩
theorem rpl_append {xs ys : List AC} {us vs : List Value} (h1 : RpL U ρ W xs us) (h2 : RpL U ρ W ys vs) : RpL U ρ W (xs ++ ys) (us ++ vs) := by
  refine ⟨by rw [List.length_append, List.length_append, h1.1, h2.1], fun i x v hx hv => ?_⟩
  rcases Nat.lt_or_ge i xs.length with hlt | hge
  · rw [List.getElem?_append_left hlt] at hx
    rw [List.getElem?_append_left (by rw [← h1.1]; exact hlt)] at hv
    exact h1.2 i x v hx hv
  · rw [List.getElem?_append_right hge] at hx
    rw [List.getElem?_append_right (by rw [← h1.1]; exact hge), ← h1.1] at hv
    exact h2.2 _ x v hx hv
/-- a slice's cells: those of none, too. -/
theorem slp_cells {z n : Nat} {xs : List AC} {v : Value} (h : RpV U ρ W (vS z n xs) v) : ∃ A c vs, v = .slice A n c ∧ n ≤ c ∧ xs.length = n * z ∧ RpL U id W xs vs ∧ (∀ y ∈ xs, y.closedB = true) ∧ (∀ b, A = some b → ∀ (j : Nat) u, vs[j]? = some u → W.cell? (b.add j) = some u) ∧ (A = none → n = 0) := by
  rcases Nat.eq_zero_or_pos n with rfl | hn
  · obtain ⟨⟨A, c, e, hc, hl, hA⟩, hU⟩ := h
    have : xs = [] := List.eq_nil_of_length_eq_zero (by rw [hl]; simp)
    subst this
    exact ⟨A, c, [], e, hc, hl, ⟨rfl, fun i x v hx => by simp at hx⟩, fun y hy => (by cases hy), fun b _ j u hu => by simp at hu, fun _ => rfl⟩
  · have h0 := h
    obtain ⟨b, c, vs, e, hc, hl, hat, hrp⟩ := SlP.cells_rp h hn
    obtain ⟨⟨A, c', e', _, _, hA⟩, _⟩ := h0
    rw [e] at e'
    cases e'
    obtain ⟨a, us, ea, hcs⟩ := hA hn
    exact ⟨some b, c, vs, e, hc, hl, rpl_id hrp hcs.cl, hcs.cl, fun b' e => by cases e; exact hat, fun e => by cases e⟩
theorem run_append_full {tt e z n m bytes ty : Nat} {xs ys : List AC} {x y : Value} (ht : rowTyB P tt e z bytes = true) (hx : RpV U ρ W (vSF z n xs) x) (hy : RpV U ρ W (vS z m ys) y) (h1 : n + m ≤ maxLen) (h2 : (n + m) * bytes ≤ 140737488355328) :
    ∃ v W', (Builtin.append_ #[tt, tt] ty #[x, y]).run P W = .ok v W' ∧ RpV (fun b => U b ∨ W.heap.size ≤ b) ρ W' (vS z (n + m) (xs ++ ys)) v ∧ Below W.heap.size W W' := by
  obtain ⟨ti, zv, hu, hti, hz, hsize, hby, hzs, hsz⟩ := rowTy_spec ht
  have hx' : RpV U ρ W (vS z n xs) x := ⟨hx.1.1, hx.2⟩
  obtain ⟨A0, eA⟩ := hx.1.2
  obtain ⟨A, c, us, ex, hnc, hlx, hrx, hcx, hax, hnx⟩ := slp_cells hx'
  rw [eA] at ex
  cases ex
  obtain ⟨Ay, cy, vs, rfl, hmc, hly, hry, hcy, hay, hny⟩ := slp_cells hy
  subst eA
  have h63 : n + m ≤ 9223372036854775807 := by simp only [maxLen] at h1; omega
  rcases Nat.eq_zero_or_pos m with rfl | hmp
  · have hys : ys = [] := List.eq_nil_of_length_eq_zero (by rw [hly]; simp)
    subst hys
    refine ⟨.slice A0 n n, W, ?_, ?_, Below.refl _ _⟩
    · cases A0 <;> cases Ay <;> simp [Builtin.append_, run_underlying hu, sizeOf, typeInfo, hti, Builtin.lenOf, Builtin.firstCells, storeCells, loadCells, loadCellsFrom]
    · rw [Nat.add_zero, List.append_nil]
      exact RpV.map hx' (fun b hb _ => ⟨.inl hb, rfl⟩) fun _ _ => rfl
  · obtain ⟨a, rfl⟩ : ∃ a, Ay = some a := by
      cases Ay with
      | none => have := hny rfl; omega
      | some a => exact ⟨a, rfl⟩
    have hvl : vs.length = m * ti.size := by rw [hsize, ← hry.1]; exact hly
    have hcl : ∀ q ∈ xs ++ ys, q.closedB = true := fun q hq => by
      rcases List.mem_append.1 hq with h | h
      · exact hcx q h
      · exact hcy q h
    have hlen : (xs ++ ys).length = (n + m) * z := by rw [List.length_append, hlx, hly, Nat.add_mul]
    cases A0 with
    | none =>
      have hn0 : n = 0 := hnx rfl
      subst hn0
      have hxs : xs = [] := List.eq_nil_of_length_eq_zero (by rw [hlx]; simp)
      subst hxs
      have hr := run_append_nil (P := P) W tt ty e ti zv hu hti hz a m cy vs hvl (hay a rfl) hmp (by omega) (by rw [hby]; simp only [Nat.zero_add] at h2; omega)
      refine ⟨_, _, hr, ?_, (Below.drew (Below.refl _ W)).alloc (Nat.le_refl _) _⟩
      have hlen' : ys.length = (0 + m) * z := by rw [hly, Nat.zero_add]
      rw [List.nil_append]
      have e0 : 0 + m = m := Nat.zero_add m
      rw [e0]
      refine fresh_slp (vs := vs) (e := e) hry hcy hly (grownCap_ge _ _ _ _) (fun b hb => heap_alloc_old W.drew _ b hb) (heap_alloc_new W.drew _) ?_
      rw [Array.toList_append, List.toList_toArray, List.take_append_of_le_length (by rw [hvl, hsize]; exact Nat.le_refl _), List.take_of_length_le (by rw [hvl, hsize]; exact Nat.le_refl _)]
    | some b =>
      have hul : us.length = n * ti.size := by rw [hsize, ← hrx.1]; exact hlx
      have hr := run_append_grow (P := P) W tt ty e ti zv hu hti hz b n n us hul (hax b rfl) a m cy vs hvl (hay a rfl) (by omega) (by omega) (growslice_fits (by omega) (by rw [hby]; exact h2))
      refine ⟨_, _, hr, ?_, (Below.drew (Below.refl _ W)).alloc (Nat.le_refl _) _⟩
      refine fresh_slp (vs := us ++ vs) (e := e) (rpl_append hrx hry) hcl hlen (grownCap_ge _ _ _ _) (fun b hb => heap_alloc_old W.drew _ b hb) (heap_alloc_new W.drew _) ?_
      have hl2 : (us ++ vs).length = (n + m) * z := by rw [List.length_append, hul, hvl, hsize, Nat.add_mul]
      rw [Array.toList_append, Array.toList_append, List.toList_toArray, List.toList_toArray, List.take_append_of_le_length (by rw [hl2]; exact Nat.le_refl _), List.take_of_length_le (by rw [hl2]; exact Nat.le_refl _)]
end
section
variable {P : Program} {s : AS} {ops : Array Oper} {K : AS → Prop} {rest : List Oper} {ty : Nat} {pos : String} {after : Array Edge} {guard : Option (Nat × Bool)} {d : Nat}
theorem al_appF {tt e z n m k bytes : Nat} {x y : Operand} {xs ys zs : List AC} [T : RowTy P tt e z bytes] (hw : want ops ⟨some d, .call ⟨.builtin .append, #[x, y], #[tt, tt]⟩, ty, pos, after, guard⟩ s = some true) (hx : s.look x = some (vSF z n xs)) (hy : s.look y = some (vS z m ys)) (h1 : n + m ≤ maxLen) (h2 : (n + m) * bytes ≤ 140737488355328) (hk : n + m = k) (hz : xs ++ ys = zs) (hd : Nat.blt d s.n = true) (h : aList P ops K rest (s.put (some d) (vS z k zs))) : aList P ops K (⟨some d, .call ⟨.builtin .append, #[x, y], #[tt, tt]⟩, ty, pos, after, guard⟩ :: rest) s := by
  subst hk hz
  refine al_fresh (av := vS z (n + m) (xs ++ ys)) hw ⟨fun q hq => ?_, fun j hj => noownp _ j hj, fun U ρ W env he => ?_⟩ hd h
  · simp [Op.operands, Call.operands] at hq
    rcases hq with rfl | rfl
    · exact ⟨_, hx⟩
    · exact ⟨_, hy⟩
  · obtain ⟨v, W', hr, h3, h4⟩ := run_append_full (ty := ty) T.h (he x (by simp [Op.operands, Call.operands]) _ hx) (he y (by simp [Op.operands, Call.operands]) _ hy) h1 h2
    exact ⟨v, W', by simp only [execOp, resolve, invoke, builtin, Sem.run_bind, Sem.run_pure, Result.andThen_ok, List.map_toArray, List.map_cons, List.map_nil, hr], h3, h4⟩
/-- behind nil. -/
theorem al_appN {tt e z m bytes : Nat} {x y : Operand} {ys : List AC} [T : RowTy P tt e z bytes] (hw : want ops ⟨some d, .call ⟨.builtin .append, #[x, y], #[tt, tt]⟩, ty, pos, after, guard⟩ s = some true) (hx : s.look x = some (vC (.slice none 0 0))) (hy : s.look y = some (vS z m ys)) (h1 : m ≤ maxLen) (h2 : m * bytes ≤ 140737488355328) (hd : Nat.blt d s.n = true) (h : aList P ops K rest (s.put (some d) (vS z m ys))) : aList P ops K (⟨some d, .call ⟨.builtin .append, #[x, y], #[tt, tt]⟩, ty, pos, after, guard⟩ :: rest) s := by
  refine al_fresh (av := vS z m ys) hw ⟨fun q hq => ?_, fun j hj => noownp _ j hj, fun U ρ W env he => ?_⟩ hd h
  · simp [Op.operands, Call.operands] at hq
    rcases hq with rfl | rfl
    · exact ⟨_, hx⟩
    · exact ⟨_, hy⟩
  · have hv : env x = .slice none 0 0 := (he x (by simp [Op.operands, Call.operands]) _ hx).1
    have hF : RpV U ρ W (vSF z 0 []) (env x) := by
      rw [hv]
      exact ⟨⟨⟨none, 0, rfl, Nat.le_refl _, by simp, fun h => absurd h (Nat.lt_irrefl _)⟩, none, rfl⟩, fun b ⟨c, a, q, hn, _⟩ => absurd hn (Nat.lt_irrefl _)⟩
    obtain ⟨v, W', hr, h3, h4⟩ := run_append_full (ty := ty) T.h hF (he y (by simp [Op.operands, Call.operands]) _ hy) (by rw [Nat.zero_add]; exact h1) (by rw [Nat.zero_add]; exact h2)
    rw [Nat.zero_add, List.nil_append] at h3
    exact ⟨v, W', by simp only [execOp, resolve, invoke, builtin, Sem.run_bind, Sem.run_pure, Result.andThen_ok, List.map_toArray, List.map_cons, List.map_nil, hr], h3, h4⟩
theorem al_new0F {t sz e bytes : Nat} [S : SliOf P t sz] [T : RowTy P t e sz bytes] (hw : want ops ⟨some d, .buildSlice t 0 #[], ty, pos, after, guard⟩ s = some true) (hd : Nat.blt d s.n = true) (h : aList P ops K rest (s.put (some d) (vSF sz 0 []))) : aList P ops K (⟨some d, .buildSlice t 0 #[], ty, pos, after, guard⟩ :: rest) s := by
  refine al_fresh (av := vSF sz 0 []) hw ⟨fun q hq => ?_, fun j hj => noownp _ j hj, fun U ρ W env he => ?_⟩ hd h
  · simp [Op.operands] at hq
  · obtain ⟨ti, zv, hu, hti, hz, hsize, hby, hzs, hsz⟩ := rowTy_spec T.h
    refine ⟨.slice (some ⟨W.heap.size, 0, none⟩) 0 0, W.alloc (.cells #[] e), ?_, ⟨⟨⟨_, 0, rfl, Nat.le_refl _, by simp, fun h => absurd h (Nat.lt_irrefl _)⟩, _, rfl⟩, fun b ⟨c, a, q, hn, _⟩ => absurd hn (Nat.lt_irrefl _)⟩, (Below.refl _ _).alloc (Nat.le_refl _) _⟩
    simp [execOp, Instr.buildSlice, Sem.run_bind, run_underlying hu, run_sizeOf' hti, Instr.fill, newRow, newObj, Sem.run, Array.range_zero']
theorem al_sl_l {tt z n m : Nat} {x y : Operand} {l : Int} {xs ys : List AC} [S : SliOf P tt z] (hw : want ops ⟨some d, .slice tt x (some y) none none, ty, pos, after, guard⟩ s = some true) (hx : s.look x = some (vS z n xs)) (hy : s.look y = some (vI l)) (h0 : 0 ≤ l) (h1 : l ≤ n) (hm : n - l.toNat = m) (he : (xs.drop (l.toNat * z)).take (m * z) = ys) (hd : Nat.blt d s.n = true) (h : aList P ops K rest (s.put (some d) (vS z m ys))) : aList P ops K (⟨some d, .slice tt x (some y) none none, ty, pos, after, guard⟩ :: rest) s := by
  subst hm he
  refine al_quiet (av := vS z (n - l.toNat) ((xs.drop (l.toNat * z)).take ((n - l.toNat) * z))) hw ⟨fun _ _ h => (by cases h), fun q hq => ?_, fun U ρ W env he => ?_, fun j hj => absurd hj (noownp _ j)⟩ hd h
  · simp [Op.operands] at hq
    rcases hq with rfl | rfl
    · exact ⟨_, hx⟩
    · exact ⟨_, hy⟩
  · have hv := he x (by simp [Op.operands]) _ hx
    obtain ⟨A, c, us, ex, hnc, _⟩ := slp_cells hv
    rw [ex] at hv
    have ey : env y = .int .i64 l := (he y (by simp [Op.operands]) _ hy).1
    obtain ⟨e', i', hu, hi', hs⟩ := sliOf_spec S.h
    have hu' : P.underlying tt = some (.slice (P.elem tt)) := by rw [elem_slice hu]; exact hu
    refine ⟨_, ?_, slice_tell (c' := c) hv (by omega) (by omega) (by omega)⟩
    simp only [execOp, ex, Option.map_some, Option.map_none, ey, Sem.run_bind, run_sliceAt_slice W tt _ _ _ _ hu', run_slice_l W tt A n c hu' .i64 l h0 h1, elem_slice hu, run_sizeOf' hi', Result.andThen_ok, hs, Sem.run_pure]
theorem al_sl_h {tt z n m : Nat} {x y : Operand} {r : Int} {xs ys : List AC} [S : SliOf P tt z] (hw : want ops ⟨some d, .slice tt x none (some y) none, ty, pos, after, guard⟩ s = some true) (hx : s.look x = some (vS z n xs)) (hy : s.look y = some (vI r)) (h0 : 0 ≤ r) (h1 : r ≤ n) (hm : r.toNat - 0 = m) (he : (xs.drop (0 * z)).take (m * z) = ys) (hd : Nat.blt d s.n = true) (h : aList P ops K rest (s.put (some d) (vS z m ys))) : aList P ops K (⟨some d, .slice tt x none (some y) none, ty, pos, after, guard⟩ :: rest) s := by
  subst hm he
  refine al_quiet (av := vS z (r.toNat - 0) ((xs.drop (0 * z)).take ((r.toNat - 0) * z))) hw ⟨fun _ _ h => (by cases h), fun q hq => ?_, fun U ρ W env he => ?_, fun j hj => absurd hj (noownp _ j)⟩ hd h
  · simp [Op.operands] at hq
    rcases hq with rfl | rfl
    · exact ⟨_, hx⟩
    · exact ⟨_, hy⟩
  · have hv := he x (by simp [Op.operands]) _ hx
    obtain ⟨A, c, us, ex, hnc, _⟩ := slp_cells hv
    rw [ex] at hv
    have ey : env y = .int .i64 r := (he y (by simp [Op.operands]) _ hy).1
    obtain ⟨e', i', hu, hi', hs⟩ := sliOf_spec S.h
    have hu' : P.underlying tt = some (.slice (P.elem tt)) := by rw [elem_slice hu]; exact hu
    refine ⟨_, ?_, slice_tell (c' := c) hv (by omega) (by omega) (by omega)⟩
    simp only [execOp, ex, Option.map_some, Option.map_none, ey, Sem.run_bind, run_sliceAt_slice W tt _ _ _ _ hu', run_slice_h W tt A n c hu' .i64 r h0 (by omega), elem_slice hu, run_sizeOf' hi', Result.andThen_ok, hs, Sem.run_pure]
theorem al_sl_lh {tt z n m : Nat} {x y u : Operand} {l r : Int} {xs ys : List AC} [S : SliOf P tt z] (hw : want ops ⟨some d, .slice tt x (some y) (some u) none, ty, pos, after, guard⟩ s = some true) (hx : s.look x = some (vS z n xs)) (hy : s.look y = some (vI l)) (hu : s.look u = some (vI r)) (h0 : 0 ≤ l) (h1 : l ≤ r) (h2 : r ≤ n) (hm : r.toNat - l.toNat = m) (he : (xs.drop (l.toNat * z)).take (m * z) = ys) (hd : Nat.blt d s.n = true) (h : aList P ops K rest (s.put (some d) (vS z m ys))) : aList P ops K (⟨some d, .slice tt x (some y) (some u) none, ty, pos, after, guard⟩ :: rest) s := by
  subst hm he
  refine al_quiet (av := vS z (r.toNat - l.toNat) ((xs.drop (l.toNat * z)).take ((r.toNat - l.toNat) * z))) hw ⟨fun _ _ h => (by cases h), fun q hq => ?_, fun U ρ W env he => ?_, fun j hj => absurd hj (noownp _ j)⟩ hd h
  · simp [Op.operands] at hq
    rcases hq with rfl | rfl | rfl
    · exact ⟨_, hx⟩
    · exact ⟨_, hy⟩
    · exact ⟨_, hu⟩
  · have hv := he x (by simp [Op.operands]) _ hx
    obtain ⟨A, c, us, ex, hnc, _⟩ := slp_cells hv
    rw [ex] at hv
    have ey : env y = .int .i64 l := (he y (by simp [Op.operands]) _ hy).1
    have eu : env u = .int .i64 r := (he u (by simp [Op.operands]) _ hu).1
    obtain ⟨e', i', hu, hi', hs⟩ := sliOf_spec S.h
    have hu' : P.underlying tt = some (.slice (P.elem tt)) := by rw [elem_slice hu]; exact hu
    refine ⟨_, ?_, slice_tell (c' := c) hv (by omega) (by omega) (by omega)⟩
    simp only [execOp, ex, Option.map_some, Option.map_none, ey, eu, Sem.run_bind, run_sliceAt_slice W tt _ _ _ _ hu', run_slice_lh W tt A n c hu' .i64 .i64 l r h0 h1 (by omega), elem_slice hu, run_sizeOf' hi', Result.andThen_ok, hs, Sem.run_pure]
theorem al_sl_hm {tt z n m : Nat} {x y u : Operand} {r k : Int} {xs ys : List AC} [S : SliOf P tt z] (hw : want ops ⟨some d, .slice tt x none (some y) (some u), ty, pos, after, guard⟩ s = some true) (hx : s.look x = some (vS z n xs)) (hy : s.look y = some (vI r)) (hu : s.look u = some (vI k)) (h0 : 0 ≤ r) (h1 : r ≤ k) (h2 : k ≤ n) (hm : r.toNat - 0 = m) (he : (xs.drop (0 * z)).take (m * z) = ys) (hd : Nat.blt d s.n = true) (h : aList P ops K rest (s.put (some d) (vS z m ys))) : aList P ops K (⟨some d, .slice tt x none (some y) (some u), ty, pos, after, guard⟩ :: rest) s := by
  subst hm he
  refine al_quiet (av := vS z (r.toNat - 0) ((xs.drop (0 * z)).take ((r.toNat - 0) * z))) hw ⟨fun _ _ h => (by cases h), fun q hq => ?_, fun U ρ W env he => ?_, fun j hj => absurd hj (noownp _ j)⟩ hd h
  · simp [Op.operands] at hq
    rcases hq with rfl | rfl | rfl
    · exact ⟨_, hx⟩
    · exact ⟨_, hy⟩
    · exact ⟨_, hu⟩
  · have hv := he x (by simp [Op.operands]) _ hx
    obtain ⟨A, c, us, ex, hnc, _⟩ := slp_cells hv
    rw [ex] at hv
    have ey : env y = .int .i64 r := (he y (by simp [Op.operands]) _ hy).1
    have eu : env u = .int .i64 k := (he u (by simp [Op.operands]) _ hu).1
    obtain ⟨e', i', hu, hi', hs⟩ := sliOf_spec S.h
    have hu' : P.underlying tt = some (.slice (P.elem tt)) := by rw [elem_slice hu]; exact hu
    refine ⟨_, ?_, slice_tell (c' := k.toNat) hv (by omega) (by omega) (by omega)⟩
    simp only [execOp, ex, Option.map_some, Option.map_none, ey, eu, Sem.run_bind, run_sliceAt_slice W tt _ _ _ _ hu', run_slice_hm W tt A n c hu' .i64 .i64 r k h0 h1 (by omega), elem_slice hu, run_sizeOf' hi', Result.andThen_ok, hs, Sem.run_pure]
theorem al_sl_lhm {tt z n m : Nat} {x y u q : Operand} {l r k : Int} {xs ys : List AC} [S : SliOf P tt z] (hw : want ops ⟨some d, .slice tt x (some y) (some u) (some q), ty, pos, after, guard⟩ s = some true) (hx : s.look x = some (vS z n xs)) (hy : s.look y = some (vI l)) (hu : s.look u = some (vI r)) (hq : s.look q = some (vI k)) (h0 : 0 ≤ l) (h1 : l ≤ r) (h2 : r ≤ k) (h3 : k ≤ n) (hm : r.toNat - l.toNat = m) (he : (xs.drop (l.toNat * z)).take (m * z) = ys) (hd : Nat.blt d s.n = true) (h : aList P ops K rest (s.put (some d) (vS z m ys))) : aList P ops K (⟨some d, .slice tt x (some y) (some u) (some q), ty, pos, after, guard⟩ :: rest) s := by
  subst hm he
  refine al_quiet (av := vS z (r.toNat - l.toNat) ((xs.drop (l.toNat * z)).take ((r.toNat - l.toNat) * z))) hw ⟨fun _ _ h => (by cases h), fun q hq => ?_, fun U ρ W env he => ?_, fun j hj => absurd hj (noownp _ j)⟩ hd h
  · simp [Op.operands] at hq
    rcases hq with rfl | rfl | rfl | rfl
    · exact ⟨_, hx⟩
    · exact ⟨_, hy⟩
    · exact ⟨_, hu⟩
    · exact ⟨_, hq⟩
  · have hv := he x (by simp [Op.operands]) _ hx
    obtain ⟨A, c, us, ex, hnc, _⟩ := slp_cells hv
    rw [ex] at hv
    have ey : env y = .int .i64 l := (he y (by simp [Op.operands]) _ hy).1
    have eu : env u = .int .i64 r := (he u (by simp [Op.operands]) _ hu).1
    have eq : env q = .int .i64 k := (he q (by simp [Op.operands]) _ hq).1
    obtain ⟨e', i', hu, hi', hs⟩ := sliOf_spec S.h
    have hu' : P.underlying tt = some (.slice (P.elem tt)) := by rw [elem_slice hu]; exact hu
    refine ⟨_, ?_, slice_tell (c' := k.toNat) hv (by omega) (by omega) (by omega)⟩
    simp only [execOp, ex, Option.map_some, Option.map_none, ey, eu, eq, Sem.run_bind, run_sliceAt_slice W tt _ _ _ _ hu', run_slice_lhm W tt A n c hu' .i64 .i64 .i64 l r k h0 h1 h2 (by omega), elem_slice hu, run_sizeOf' hi', Result.andThen_ok, hs, Sem.run_pure]
theorem al_sl_hmF {tt z n m : Nat} {x y u : Operand} {r : Int} {xs ys : List AC} [S : SliOf P tt z] (hw : want ops ⟨some d, .slice tt x none (some y) (some u), ty, pos, after, guard⟩ s = some true) (hx : s.look x = some (vS z n xs)) (hy : s.look y = some (vI r)) (hu : s.look u = some (vI r)) (h0 : 0 ≤ r) (h1 : r ≤ n) (hm : r.toNat - 0 = m) (he : (xs.drop (0 * z)).take (m * z) = ys) (hd : Nat.blt d s.n = true) (h : aList P ops K rest (s.put (some d) (vSF z m ys))) : aList P ops K (⟨some d, .slice tt x none (some y) (some u), ty, pos, after, guard⟩ :: rest) s := by
  subst hm he
  refine al_quiet (av := vSF z (r.toNat - 0) ((xs.drop (0 * z)).take ((r.toNat - 0) * z))) hw ⟨fun _ _ h => (by cases h), fun q hq => ?_, fun U ρ W env he => ?_, fun j hj => absurd hj (noownp _ j)⟩ hd h
  · simp [Op.operands] at hq
    rcases hq with rfl | rfl | rfl
    · exact ⟨_, hx⟩
    · exact ⟨_, hy⟩
    · exact ⟨_, hu⟩
  · have hv := he x (by simp [Op.operands]) _ hx
    obtain ⟨A, c, us, ex, hnc, _⟩ := slp_cells hv
    rw [ex] at hv
    have ey : env y = .int .i64 r := (he y (by simp [Op.operands]) _ hy).1
    have eu : env u = .int .i64 r := (he u (by simp [Op.operands]) _ hu).1
    obtain ⟨e', i', hu, hi', hs⟩ := sliOf_spec S.h
    have hu' : P.underlying tt = some (.slice (P.elem tt)) := by rw [elem_slice hu]; exact hu
    refine ⟨_, ?_, slice_tellF hv (by omega) (by omega)⟩
    simp only [execOp, ex, Option.map_some, Option.map_none, ey, eu, Sem.run_bind, run_sliceAt_slice W tt _ _ _ _ hu', run_slice_hm W tt A n c hu' .i64 .i64 r r h0 (Int.le_refl _) (by omega), elem_slice hu, run_sizeOf' hi', Result.andThen_ok, hs, Sem.run_pure]
theorem al_sl_lhmF {tt z n m : Nat} {x y u q : Operand} {l r : Int} {xs ys : List AC} [S : SliOf P tt z] (hw : want ops ⟨some d, .slice tt x (some y) (some u) (some q), ty, pos, after, guard⟩ s = some true) (hx : s.look x = some (vS z n xs)) (hy : s.look y = some (vI l)) (hu : s.look u = some (vI r)) (hq : s.look q = some (vI r)) (h0 : 0 ≤ l) (h1 : l ≤ r) (h2 : r ≤ n) (hm : r.toNat - l.toNat = m) (he : (xs.drop (l.toNat * z)).take (m * z) = ys) (hd : Nat.blt d s.n = true) (h : aList P ops K rest (s.put (some d) (vSF z m ys))) : aList P ops K (⟨some d, .slice tt x (some y) (some u) (some q), ty, pos, after, guard⟩ :: rest) s := by
  subst hm he
  refine al_quiet (av := vSF z (r.toNat - l.toNat) ((xs.drop (l.toNat * z)).take ((r.toNat - l.toNat) * z))) hw ⟨fun _ _ h => (by cases h), fun q hq => ?_, fun U ρ W env he => ?_, fun j hj => absurd hj (noownp _ j)⟩ hd h
  · simp [Op.operands] at hq
    rcases hq with rfl | rfl | rfl | rfl
    · exact ⟨_, hx⟩
    · exact ⟨_, hy⟩
    · exact ⟨_, hu⟩
    · exact ⟨_, hq⟩
  · have hv := he x (by simp [Op.operands]) _ hx
    obtain ⟨A, c, us, ex, hnc, _⟩ := slp_cells hv
    rw [ex] at hv
    have ey : env y = .int .i64 l := (he y (by simp [Op.operands]) _ hy).1
    have eu : env u = .int .i64 r := (he u (by simp [Op.operands]) _ hu).1
    have eq : env q = .int .i64 r := (he q (by simp [Op.operands]) _ hq).1
    obtain ⟨e', i', hu, hi', hs⟩ := sliOf_spec S.h
    have hu' : P.underlying tt = some (.slice (P.elem tt)) := by rw [elem_slice hu]; exact hu
    refine ⟨_, ?_, slice_tellF hv (by omega) (by omega)⟩
    simp only [execOp, ex, Option.map_some, Option.map_none, ey, eu, eq, Sem.run_bind, run_sliceAt_slice W tt _ _ _ _ hu', run_slice_lhm W tt A n c hu' .i64 .i64 .i64 l r r h0 h1 (Int.le_refl _) (by omega), elem_slice hu, run_sizeOf' hi', Result.andThen_ok, hs, Sem.run_pure]
end
end Go.Proofs.Ytpopeipcjpfbaaa
