/-
  Calls on a row alone: the function is told the row's slice, and hands back what it made of it. My own text.
-/
import Derived.Test.YtpopeipcjpfbaaaAbsZ
namespace Go.Proofs.Ytpopeipcjpfbaaa
open Go.RowKit
set_option linter.unusedVariables false
set_option linter.unusedSimpArgs false
/-- a function that is handed a row by its slice. -/
def RCall (P : Program) (f : FuncId) (args : List AV) (r : HRow) (post : AV → HRow → Prop) : Prop :=
  ∀ i, HCall P f args noMem (row1 i r) fun v m' R' => ∃ r', m' = noMem ∧ R' = row1 i r' ∧ post v r'
/-- and that leaves it as it is, and makes another one. -/
def RCall2 (P : Program) (f : FuncId) (args : List AV) (r : HRow) (post : AV → HRow → Prop) : Prop :=
  ∀ i j, i ≠ j → HCall P f args noMem (row1 i r) fun v m' R' => ∃ q, m' = noMem ∧ R' = upd (row1 i r) j q ∧ post v q
theorem renId {args : List AV} (ha : args.all AV.closedB = true) : args.map (AV.ren fun j => j) = args := by
  rw [List.all_eq_true] at ha
  conv => rhs; rw [← List.map_id args]
  exact List.map_congr_left fun x hx => ren_closedV (ha x hx)
theorem rcall_of {P : Program} {f : FuncId} {args : List AV} {r : HRow} {post : AV → HRow → Prop} (ha : args.all AV.closedB = true) (hp : ∀ v r', post v r' → v.closedB = true)
    (h : HCall P f args noMem (row1 0 r) fun v m' R' => ∃ r', m' = noMem ∧ R' = row1 0 r' ∧ post v r') : RCall P f args r post := by
  intro i
  have h1 := h.ren (π := fun j => j) (σ := swp 0 i) (τ := swp 0 i) (fun _ => rfl) (swp_swp _ _) (swp_swp _ _)
  rw [renId ha, show Mem.ren (fun j => j) noMem = noMem from rfl, row1_ren] at h1
  refine ⟨fun U ρ W vs hH hown hvs => (h1.call U ρ W vs hH hown hvs).mono ?_⟩
  rintro e W' ⟨v, r1, m', R', ρ', U', q0, ⟨r2, m2, R2, ⟨r', rfl, rfl, hq⟩, rfl, rfl, rfl⟩, q⟩
  rw [show Mem.ren (fun j => j) noMem = noMem from rfl, row1_ren, ren_closedV (hp _ _ hq)] at q
  exact ⟨v, r2, noMem, row1 i r', ρ', U', q0, ⟨r', rfl, rfl, hq⟩, q⟩
/-- the end of such a function. -/
theorem hfin_r1 {P : Program} {fn : Func} {l : List ResultVar} {xs : List AW} {R : Rws} {s : AS} {r r' : HRow} {post : AV → HRow → Prop} (hr : fn.results = l.toArray) (h : l.map (resOf P s) = xs.map some) (hi : R 0 = some r') (hx : (packed xs).closedB = true)
    (hp : post (packed xs) r') : hfin P fn noMem (row1 0 r) (fun v m' R' => ∃ r', m' = noMem ∧ R' = row1 0 r' ∧ post v r') R s := by
  refine ⟨xs, packed xs, noMem, row1 0 r', by rw [hr]; exact h, .refl _, ⟨r', rfl, rfl, hp⟩, fun k c h => (by cases h), fun i q h => ?_, fun j hj => absurd hj (AV.closed_of hx j), fun k c x j h => (by cases h), fun k c h => (by cases h), fun i q h => ?_⟩
  · obtain ⟨rfl, rfl⟩ := row1_iff h; exact hi
  · obtain ⟨rfl, rfl⟩ := row1_iff h; exact ⟨r', by unfold row1; exact upd_same _ _ _⟩
section
variable {P : Program} {R : Rws} {s : AS} {ops : Array Oper} {dr : Option (List Nat)} {ty : Nat} {pos : String} {after : Array Edge} {guard : Option (Nat × Bool)} {K : Rws → AS → Prop} {rest : List Oper}
theorem over_noMem (s : AS) : s.over noMem = s := by
  show ({ s with mem := ovr (fun _ => none) s.mem } : AS) = s
  rw [ovr_none]
/-- such a call in a walk. -/
theorem hs_r1 (i : Nat) {dst : Option Nat} {f : FuncId} {g : Operand} {ts : Array TypeId} {l : List Operand} {args : List AV} {r : HRow} {post : AV → HRow → Prop} [E : Enters P f] (hw : want ops ⟨dst, .call ⟨.value g, l.toArray, ts⟩, ty, pos, after, guard⟩ s = some true) (hm : hotM dr ⟨dst, .call ⟨.value g, l.toArray, ts⟩, ty, pos, after, guard⟩ = true)
    (hg : s.look g = some (vC (.func (.func f) #[] #[]))) (ha : l.map s.look = args.map some) (hp : RCall P f args r post) (hi : R i = some r) (hac : args.all AV.closedB = true) (hd : dstB dst s.n = true)
    (h : ∀ v r', post v r' → hList P ops dr K rest (upd R i r') (s.put dst v)) : hList P ops dr K (⟨dst, .call ⟨.value g, l.toArray, ts⟩, ty, pos, after, guard⟩ :: rest) R s := by
  refine hs_h hw hm hg ha (hp i) (fun x hx j hj => absurd hj (AV.closed_of (List.all_eq_true.1 hac x hx) j)) (fun k' cs' h' => by cases h') (fun i' r' h' => ?_) (fun k' cs' x j h' hx hj => by cases h') hd ?_
  · obtain ⟨rfl, rfl⟩ := row1_iff h'; exact hi
  · rintro v m' R' ⟨r', rfl, rfl, hq⟩
    refine ⟨fun k' c h' => (by cases h'), ?_⟩
    rw [show ovr (row1 i r') R = upd R i r' from ovr_upd R i r', over_noMem]
    exact h v r' hq
theorem hs_r2 (i j : Nat) (hij : i ≠ j) {dst : Option Nat} {f : FuncId} {g : Operand} {ts : Array TypeId} {l : List Operand} {args : List AV} {r : HRow} {post : AV → HRow → Prop} [E : Enters P f] (hw : want ops ⟨dst, .call ⟨.value g, l.toArray, ts⟩, ty, pos, after, guard⟩ s = some true) (hm : hotM dr ⟨dst, .call ⟨.value g, l.toArray, ts⟩, ty, pos, after, guard⟩ = true)
    (hg : s.look g = some (vC (.func (.func f) #[] #[]))) (ha : l.map s.look = args.map some) (hp : RCall2 P f args r post) (hi : R i = some r) (hac : args.all AV.closedB = true) (hd : dstB dst s.n = true)
    (h : ∀ v q, post v q → hList P ops dr K rest (upd R j q) (s.put dst v)) : hList P ops dr K (⟨dst, .call ⟨.value g, l.toArray, ts⟩, ty, pos, after, guard⟩ :: rest) R s := by
  refine hs_h hw hm hg ha (hp i j hij) (fun x hx j hj => absurd hj (AV.closed_of (List.all_eq_true.1 hac x hx) j)) (fun k' cs' h' => by cases h') (fun i' r' h' => ?_) (fun k' cs' x j h' hx hj => by cases h') hd ?_
  · obtain ⟨rfl, rfl⟩ := row1_iff h'; exact hi
  · rintro v m' R' ⟨q, rfl, rfl, hq⟩
    refine ⟨fun k' c h' => (by cases h'), ?_⟩
    have e1 : ovr (upd (row1 i r) j q) R = upd R j q := by
      funext x
      unfold row1
      by_cases e : x = j
      · subst e; rw [upd_same]; exact ovr_l (upd_same _ _ _)
      · by_cases e2 : x = i
        · subst e2; rw [upd_ne _ _ e, hi]; exact ovr_l (by rw [upd_ne _ _ e, upd_same])
        · rw [upd_ne _ _ e]; exact ovr_r (by rw [upd_ne _ _ e, upd_ne _ _ e2]; rfl)
    rw [e1, over_noMem]
    exact h v q hq
/-- the address of a field of a row's thing. -/
theorem hs_fld {x : Operand} {t f fo off : Nat} {r : HRow} (i : Nat) [S : FldOf P t f fo] {d : Nat} (hi : R i = some r) (hw : want ops ⟨some d, .fieldAddr t x f, ty, pos, after, guard⟩ s = some true) (hx : s.look x = some (vC (rowPtr r.v off))) (hn : 0 < r.n) (hr : rdD ops dr (some d) = true) (hd : Nat.blt d s.n = true) (h : hList P ops dr K rest R (s.put (some d) (vC (rowPtr r.v (off + fo))))) : hList P ops dr K (⟨some d, .fieldAddr t x f, ty, pos, after, guard⟩ :: rest) R s :=
  hs_read hw (.fld i r off t f fo x hi hn rfl hx S.h) rfl hr hd h
/-- a slice of a row from a thing on, its length, its things. -/
theorem hs_slL {x y : Operand} {t z lo d : Nat} {r : HRow} (i : Nat) [S : SliOf P t z] (hi : R i = some r) (hw : want ops ⟨some d, .slice t x (some y) none none, ty, pos, after, guard⟩ s = some true) (hx : s.look x = some (vC r.v)) (hy : s.look y = some (vC (.int .i64 lo))) (hz : z = r.sz) (h1 : lo ≤ r.n) (hone : (rowSl r.v r.sz lo r.n).oneCell' = true) (hr : rdD ops dr (some d) = true) (hd : Nat.blt d s.n = true) (h : hList P ops dr K rest R (s.put (some d) (vC (rowSl r.v r.sz lo r.n)))) : hList P ops dr K (⟨some d, .slice t x (some y) none none, ty, pos, after, guard⟩ :: rest) R s := by
  subst hz
  exact hs_read hw (.sl i r t lo r.n x (some y) none hi rfl hx (.inr ⟨y, rfl, hy⟩) (.inl ⟨rfl, rfl⟩) h1 (Nat.le_refl _) S.h) rfl hr hd h
theorem hs_lenS {x : Operand} {t z lo hi d : Nat} {r : HRow} (i : Nat) [S : SliOf P t z] (hi' : R i = some r) (hw : want ops ⟨some d, .call ⟨.builtin .len, #[x], #[t]⟩, ty, pos, after, guard⟩ s = some true) (hx : s.look x = some (vC (rowSl r.v r.sz lo hi))) (hr : rdD ops dr (some d) = true) (hd : Nat.blt d s.n = true) (h : hList P ops dr K rest R (s.put (some d) (vI ((hi - lo : Nat) : Int)))) : hList P ops dr K (⟨some d, .call ⟨.builtin .len, #[x], #[t]⟩, ty, pos, after, guard⟩ :: rest) R s :=
  hs_read hw (.lenS i r t z lo hi x hi' rfl hx S.h) rfl hr hd h
theorem hs_idxS {x y : Operand} {t z lo hi d : Nat} {r : HRow} {ik : IntKind} {j : Int} (i : Nat) [S : SliOf P t z] (hi' : R i = some r) (hw : want ops ⟨some d, .indexAddr t x y, ty, pos, after, guard⟩ s = some true) (hx : s.look x = some (vC (rowSl r.v r.sz lo hi))) (hy : s.look y = some (vC (.int ik j))) (hz : z = r.sz) (h0 : 0 ≤ j) (h1 : j < ((hi - lo : Nat) : Int)) (h2 : hi ≤ r.n) (hr : rdD ops dr (some d) = true) (hd : Nat.blt d s.n = true) (h : hList P ops dr K rest R (s.put (some d) (vC (rowPtr r.v ((lo + j.toNat) * r.sz))))) : hList P ops dr K (⟨some d, .indexAddr t x y, ty, pos, after, guard⟩ :: rest) R s := by
  subst hz
  exact hs_read hw (.idxS i r t lo hi x y ik j hi' rfl hx hy h0 h1 h2 S.h) rfl hr hd h
def row2 (r q : HRow) : Rws := fun i => if i = 0 then some r else if i = 1 then some q else none
theorem row2_le {R : Rws} {r q : HRow} (h0 : R 0 = some r) (h1 : R 1 = some q) : RLe (row2 r q) R := by
  intro i p h
  unfold row2 at h
  by_cases e0 : i = 0
  · subst e0; simp at h; subst h; exact h0
  · by_cases e1 : i = 1
    · subst e1; simp at h; subst h; exact h1
    · simp [e0, e1] at h
end
/-- of a world: what becomes of the row that was handed in. -/
structure RowTo (W W' : World) (r r' : HRow) (U : Nat → Prop) : Prop where
  grown : W.grownBy W' r.v.ownBlock
  row : ∃ xs, W'.ownsRow 0 r'.e r'.sz r'.v r'.n xs ∧ RpL U id W r'.ys xs
  cl : ∀ y ∈ r'.ys, y.closedB = true
  blk : ∀ g, r'.v.ownBlock = some g → r.v.ownBlock = some g ∨ W.heap.size ≤ g
theorem RpL.toId {U : Nat → Prop} {ρ ρ' : Nat → Nat} {W : World} {xs : List AC} {vs : List Value} (hc : ∀ y ∈ xs, y.closedB = true) (h : RpL U ρ W xs vs) : RpL U ρ' W xs vs := h.closed_map hc fun b hb _ => ⟨hb, rfl⟩
theorem RpVs.toId {U : Nat → Prop} {ρ : Nat → Nat} {W : World} {args : List AV} {vs : List Value} (hc : args.all AV.closedB = true) (h : RpVs U ρ W args vs) : RpVs U id W args vs :=
  ⟨h.1, fun i x v hx hv => Rel.id_of_closed (AV.closed_of (List.all_eq_true.1 hc x (List.mem_of_getElem? hx))) (h.2 i x v hx hv)⟩
theorem kept_free {U : Nat → Prop} {W W' : World} {row : Option Nat} (hg : W.grownBy W' row) (hr : ∀ g, row = some g → ¬ U g) : ∀ b, U b → b < W.heap.size → (U b ∧ b < W.heap.size) ∧ W'.heap[b]? = W.heap[b]? := fun b hb hl =>
  ⟨⟨hb, hl⟩, hg.block b hl fun e => hr b e.symm hb⟩
theorem rcall_world {P : Program} {f : FuncId} {args : List AV} {r : HRow} {post : AV → HRow → Prop} (hac : args.all AV.closedB = true)
    (h : ∀ (U : Nat → Prop) (W : World) (vs : List Value) (xs : List Value), W.ownsRow 0 r.e r.sz r.v r.n xs → RpL U id W r.ys xs → (∀ y ∈ r.ys, y.closedB = true) → (∀ g, r.v.ownBlock = some g → ¬ U g) → RpVs U id W args vs →
      Calls P f vs.toArray W fun e W' => ∃ v rv r', e = .returned v ∧ post rv r' ∧ RowTo W W' r r' U ∧ RpV U id W rv v ∧ rv.closedB = true) : RCall P f args r post := by
  intro i
  refine ⟨fun U ρ W vs hH hown hvs => ?_⟩
  obtain ⟨⟨xs, ho, hl⟩, hcl, hnu⟩ := hH.rows i r (by unfold row1; exact upd_same _ _ _)
  refine (h U W vs xs ho (hl.toId hcl) hcl (fun g hg => (hnu g hg).1) (hvs.toId hac)).mono ?_
  rintro e W' ⟨v, rv, r', rfl, hp, ⟨hgr, ⟨ys, ho', hl'⟩, hcl', hblk⟩, hrv, hrc⟩
  have kf := kept_free hgr fun g hg => (hnu g hg).1
  have hat : ∀ b, HotAt ρ noMem (row1 i r) b ↔ r.v.ownBlock = some b := fun b => by
    constructor
    · rintro (⟨k, cs, hk, _⟩ | ⟨j, q, hj, hg⟩)
      · cases hk
      · obtain ⟨rfl, rfl⟩ := row1_iff hj; exact hg
    · intro hg; exact .inr ⟨i, r, by unfold row1; exact upd_same _ _ _, hg⟩
  refine ⟨v, rv, noMem, row1 i r', ρ, fun b => U b ∧ b < W.heap.size, rfl, ⟨r', rfl, rfl, hp⟩, ⟨fun k cs hk => (by cases hk), fun k cs x j hk => (by cases hk), fun k k' cs cs' hk => (by cases hk), fun j q hj => ?_, fun j k q q' hj hk hjk => ?_⟩, ?_, fun j hj => absurd hj (AV.closed_of hrc j), fun k cs hk => (by cases hk), fun j q hj => ?_, fun b hb => .inl hb.1, ?_, ⟨hgr.os, hgr.tape, hgr.output, hgr.size, fun b hb => hgr.block b hb.1 fun e => hb.2 ((hat b).2 e.symm)⟩⟩
  · obtain ⟨rfl, rfl⟩ := row1_iff hj
    refine ⟨⟨ys, ho', hl'.closed_map hcl' kf⟩, hcl', fun g hg => ⟨fun hu => ?_, fun k cs hk => (by cases hk)⟩⟩
    rcases hblk g hg with q | q
    · exact (hnu g q).1 hu.1
    · omega
  · obtain ⟨rfl, _⟩ := row1_iff hj
    obtain ⟨rfl, _⟩ := row1_iff hk
    exact absurd rfl hjk
  · exact hrv.map kf fun j hj => absurd hj (AV.closed_of hrc j)
  · obtain ⟨rfl, rfl⟩ := row1_iff hj
    exact ⟨r', by unfold row1; exact upd_same _ _ _⟩
  · rintro b (⟨k, cs, hk, _⟩ | ⟨j, q, hj, hg⟩)
    · cases hk
    · obtain ⟨rfl, rfl⟩ := row1_iff hj
      rcases hblk b hg with z | z
      · exact .inl ((hat b).2 z)
      · exact .inr z
/-- of a world: another row is made. -/
structure RowNew (W W' : World) (q : HRow) (U : Nat → Prop) : Prop where
  grown : W.grownBy W' none
  row : ∃ xs, W'.ownsRow 0 q.e q.sz q.v q.n xs ∧ RpL U id W q.ys xs
  cl : ∀ y ∈ q.ys, y.closedB = true
  blk : ∀ g, q.v.ownBlock = some g → W.heap.size ≤ g
theorem rcall2_world {P : Program} {f : FuncId} {args : List AV} {r : HRow} {post : AV → HRow → Prop} (hac : args.all AV.closedB = true)
    (h : ∀ (U : Nat → Prop) (W : World) (vs : List Value) (xs : List Value), W.ownsRow 0 r.e r.sz r.v r.n xs → RpL U id W r.ys xs → (∀ y ∈ r.ys, y.closedB = true) → RpVs U id W args vs →
      Calls P f vs.toArray W fun e W' => ∃ v rv q, e = .returned v ∧ post rv q ∧ RowNew W W' q U ∧ RpV U id W rv v ∧ rv.closedB = true) : RCall2 P f args r post := by
  intro i j hij
  refine ⟨fun U ρ W vs hH hown hvs => ?_⟩
  have hi : row1 i r i = some r := by unfold row1; exact upd_same _ _ _
  obtain ⟨⟨xs, ho, hl⟩, hcl, hnu⟩ := hH.rows i r hi
  refine (h U W vs xs ho (hl.toId hcl) hcl (hvs.toId hac)).mono ?_
  rintro e W' ⟨v, rv, q, rfl, hp, ⟨hgr, ⟨ys, ho', hl'⟩, hcl', hblk⟩, hrv, hrc⟩
  have kf := kept_free (U := U) hgr fun g hg => by cases hg
  have two : ∀ {k : Nat} {p : HRow}, upd (row1 i r) j q k = some p → (k = j ∧ p = q) ∨ (k = i ∧ p = r) := fun {k p} h => by
    by_cases e : k = j
    · subst e; rw [upd_same] at h; cases h; exact .inl ⟨rfl, rfl⟩
    · rw [upd_ne _ _ e] at h; exact .inr (row1_iff h)
  have rl : ∀ g, r.v.ownBlock = some g → g < W.heap.size := fun g hg => (ho.lt g hg).2
  refine ⟨v, rv, noMem, upd (row1 i r) j q, ρ, fun b => U b ∧ b < W.heap.size, rfl, ⟨q, rfl, rfl, hp⟩, ⟨fun k cs hk => (by cases hk), fun k cs x j hk => (by cases hk), fun k k' cs cs' hk => (by cases hk), fun k p hk => ?_, fun k k' p p' hk hk' hne => ?_⟩, ?_, fun j hj => absurd hj (AV.closed_of hrc j), fun k cs hk => (by cases hk), fun k p hk => ?_, fun b hb => .inl hb.1, ?_, ⟨hgr.os, hgr.tape, hgr.output, hgr.size, fun b hb => hgr.block b hb.1 fun e => by cases e⟩⟩
  · rcases two hk with ⟨rfl, rfl⟩ | ⟨rfl, rfl⟩
    · exact ⟨⟨ys, ho', hl'.closed_map hcl' kf⟩, hcl', fun g hg => ⟨fun hu => by have := hblk g hg; omega, fun k cs hk => (by cases hk)⟩⟩
    · exact ⟨⟨xs, ownsRow_kept ho fun g hg => hgr.block g (rl g hg) fun e => (by cases e), hl.closed_map hcl kf⟩, hcl, fun g hg => ⟨fun hu => (hnu g hg).1 hu.1, fun k cs hk => (by cases hk)⟩⟩
  · intro g hg hg'
    rcases two hk with ⟨rfl, rfl⟩ | ⟨rfl, rfl⟩
    · rcases two hk' with ⟨rfl, rfl⟩ | ⟨rfl, rfl⟩
      · exact hne rfl
      · have := hblk g hg; have := rl g hg'; omega
    · rcases two hk' with ⟨rfl, rfl⟩ | ⟨rfl, rfl⟩
      · have := hblk g hg'; have := rl g hg; omega
      · exact hne rfl
  · exact hrv.map kf fun j hj => absurd hj (AV.closed_of hrc j)
  · obtain ⟨rfl, rfl⟩ := row1_iff hk
    exact ⟨p, by rw [upd_ne _ _ hij]; exact hi⟩
  · rintro b (⟨k, cs, hk, _⟩ | ⟨k, p, hk, hg⟩)
    · cases hk
    · rcases two hk with ⟨rfl, rfl⟩ | ⟨rfl, rfl⟩
      · exact .inr (hblk b hg)
      · exact .inl (.inr ⟨_, _, hi, hg⟩)
/-- what a row's slice looks like. -/
theorem rwp_shape (i : Nat) {P : Program} {R : Rws} {s : AS} {c : Code} {Q : Exit → Rws → AS → Prop} {r : HRow} (hi : R i = some r) (h : ∀ A k, r.v = .slice A r.n k → r.n ≤ k → k ≤ maxLen → (0 < r.n → ∃ g, A = some ⟨g, 0, none⟩) → r.ys.length = r.n * r.sz → RWp P c Q R s) : RWp P c Q R s := by
  rintro ok B0 A0 a w ⟨A, ρ, hR⟩
  obtain ⟨⟨xs, ho, hl⟩, _, _⟩ := hR.rows i r hi
  have hlen : r.ys.length = r.n * r.sz := hl.1.trans ho.1
  rcases ho.2 with ⟨e, e0⟩ | ⟨g, cap, cur, e, _, _, hnc, hcm, _⟩
  · exact h none 0 (by rw [e, e0]) (by omega) (Nat.zero_le _) (fun h => by omega) hlen ok B0 A0 a w ⟨A, ρ, hR⟩
  · exact h _ cap e hnc hcm (fun _ => ⟨g, rfl⟩) hlen ok B0 A0 a w ⟨A, ρ, hR⟩
end Go.Proofs.Ytpopeipcjpfbaaa
