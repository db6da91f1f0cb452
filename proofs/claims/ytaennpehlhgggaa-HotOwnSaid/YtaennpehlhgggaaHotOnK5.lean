/-
  My own texts, without what this claim does not need. My own text.
-/
import Derived.Shelf.Spec.SlicesInsert
import Derived.Lib.AppendZerosOnto
import Derived.Deep.SlicePairs
import Derived.Carry
import Derived.Test.YtaennpehlhgggaaHotOnK4
namespace Go.Proofs.Ytaennpehlhgggaa
open Go.RowKit Go.Lib
set_option linter.unusedVariables false
set_option linter.unusedSimpArgs false
section
variable {P : Program}
/-- copy into a row of plain memory, of things of some cells each. -/
theorem run_copy_rowz (w : World) (dT sT ty elem : TypeId) (g o dLen dCap z : Nat) (a : Addr) (sLen sCap : Nat) (cur : Array Value) (t : TypeId) (cs : List Value)
    (hu : P.underlying dT = some (.slice elem)) (hs : (P.info? elem).map (·.size) = some z)
    (hg : w.heap[g]? = some (.cells cur t (0, 0))) (hn : cs.length = Nat.min sLen dLen * z)
    (hsrc : ∀ j v, cs[j]? = some v → w.cell? (a.add j) = some v) (hfit : o + cs.length ≤ cur.size) (h1 : ∀ v ∈ cs, v.oneCell' = true) :
    (Builtin.copy_ #[dT, sT] ty #[.slice (some ⟨g, o, none⟩) dLen dCap, .slice (some a) sLen sCap]).run P w =
      .ok (goInt (Nat.min sLen dLen)) (w.setRow g (cur.toList.take o ++ cs ++ cur.toList.drop (o + cs.length)).toArray) := by
  have hl := run_loadCells_list (P := P) w a cs hsrc
  have hst := run_storeCells_at P g o t cs 0 cur w hg (by simpa using hfit) h1
  cases hq : P.info? elem with
  | none => simp [hq] at hs
  | some i =>
    have hi : i.size = z := by simpa [hq] using hs
    simp [Builtin.copy_, run_underlying hu, Builtin.lenOf, Builtin.firstCells, sizeOf, typeInfo, hq, hi, ← hn, hl, hst]
end
theorem cell_shape {w : World} {a : Addr} {v : Value} (h : w.cell? a = some v) : ∃ t k, w.shape? a.block = some (t, k) ∧ k ≠ 0 := by
  unfold World.cell? at h
  unfold World.shape?
  cases hb : w.heap[a.block]? with
  | none => rw [hb] at h; cases h
  | some o =>
    rw [hb] at h
    cases o with
    | cells c t fr =>
      refine ⟨t, c.size, rfl, fun e => ?_⟩
      simp only at h
      split at h
      · cases h
      · have := (Array.getElem?_eq_some_iff.1 h).1; omega
    | _ => cases h
/-- two rows in two blocks, the second one plain memory. -/
theorem run_overlaps_two {P : Program} (w : World) (tS tR e : TypeId) (ht : P.underlying tS = some (.slice e)) (size : Nat) (hz : ∀ w, (Go.sizeOf e).run P w = .ok size w)
    (a b : Addr) (la ca lb cb : Nat) (hne : a.block ≠ b.block) (v : Value) (ha : w.cell? a = some v) (cur : Array Value) (tB : TypeId) (hb : w.heap[b.block]? = some (.cells cur tB (0, 0))) (hc : cur.size ≠ 0) :
    (Extern.SlicesOverlaps.overlaps #[tS, tS] #[tR] #[.slice (some a) la ca, .slice (some b) lb cb]).run P w = .ok (.bool false) w := by
  obtain ⟨tA, kA, hsa, hkA⟩ := cell_shape ha
  have hsb : w.shape? b.block = some (tB, cur.size) := by unfold World.shape?; rw [hb]
  have hfb : ∀ x : Addr, x.block = b.block → w.frozen? x = false := fun x hx => by unfold World.frozen?; rw [hx, hb]; simp
  have hnb : (a.block != b.block) = true := by simpa using hne
  have hnb' : (a.block == b.block) = false := by simpa using hne
  have f1 := hfb b rfl
  have f2 := hfb { block := b.block, off := cur.size } rfl
  have key : ∀ (m : Sem Value), m = Extern.SlicesOverlaps.overlaps #[tS, tS] #[tR] #[.slice (some a) la ca, .slice (some b) lb cb] → m.run P w = .ok (.bool false) w := by
    intro m hm
    conv at hm => rhs; whnf
    subst hm
    have eb : ∀ {α β : Type} (x : Sem α) (f : α → Sem β), x.bind f = x >>= f := fun _ _ => rfl
    have ep : ∀ {α : Type} (x : α), Sem.pure x = (pure x : Sem α) := fun _ => rfl
    have er : ∀ {α : Type} (f : Program → Sem α), (Sem.program f).run P w = (f P).run P w := fun _ => rfl
    rw [er]
    simp only [eb, ep, Sem.run_bind, Sem.run_pure, Result.andThen_ok, List.getElem_toArray, List.getElem_cons_zero, ht]
    by_cases h0 : la = 0 ∨ lb = 0 ∨ size = 0
    · simp [hz, h0]
    · obtain ⟨kA, rfl⟩ : ∃ k, kA = k + 1 := ⟨kA - 1, by omega⟩
      generalize cur.size = kB at *
      obtain ⟨kB, rfl⟩ : ∃ k, kB = k + 1 := ⟨kB - 1, by omega⟩
      cases hfa : w.frozen? a <;> cases hfe : w.frozen? { block := a.block, off := kA + 1 } <;>
        simp [hz, h0, hnb, hnb', frozen, noView, viewAt, mayBeOne, stringish, shape, Sem.run, hsa, hsb, f1, f2, hfa, hfe]
  exact key _ rfl
/-- what stands there when one thing is put in, in place. -/
theorem ins_list (cur news : List Value) {i n cap : Nat} (hi : i < n) (hroom : n + 1 ≤ cap) (hc : cur.length = cap * 3) (hnl : news.length = 3) :
    let c1 := cur.take ((i + 1) * 3) ++ (cur.drop (i * 3)).take ((n - i) * 3) ++ cur.drop ((i + 1) * 3 + ((cur.drop (i * 3)).take ((n - i) * 3)).length)
    let c2 := c1.take (i * 3) ++ news ++ c1.drop (i * 3 + news.length)
    c1.length = cap * 3 ∧ c2.length = cap * 3 ∧ c2.take ((n + 1) * 3) = (cur.take (n * 3)).take (i * 3) ++ news ++ (cur.take (n * 3)).drop (i * 3) := by
  have e0 : ((cur.drop (i * 3)).take ((n - i) * 3)).length = (n - i) * 3 := by rw [List.length_take, List.length_drop]; omega
  intro c1 c2
  have e1 : c1.length = cap * 3 := by simp only [c1, List.length_append, List.length_take, List.length_drop, e0]; omega
  have e2 : c2.length = cap * 3 := by simp only [c2, List.length_append, List.length_take, List.length_drop, e1, hnl]; omega
  have g1 : ∀ j, c1[j]? = if j < (i + 1) * 3 then cur[j]? else if j < (n + 1) * 3 then cur[j - 3]? else cur[j]? := fun j => by
    simp only [c1]
    have t1 : (cur.take ((i + 1) * 3)).length = (i + 1) * 3 := by rw [List.length_take]; omega
    by_cases q1 : j < (i + 1) * 3
    · rw [if_pos q1, List.append_assoc, List.getElem?_append_left (by omega), List.getElem?_take_of_lt q1]
    · rw [if_neg q1]
      by_cases q2 : j < (n + 1) * 3
      · rw [if_pos q2, List.getElem?_append_left (by rw [List.length_append]; omega), List.getElem?_append_right (by omega), List.getElem?_take_of_lt (by omega), List.getElem?_drop, t1]
        congr 1; omega
      · rw [if_neg q2, List.getElem?_append_right (by rw [List.length_append]; omega), List.getElem?_drop, List.length_append, t1, e0]
        congr 1; omega
  refine ⟨e1, e2, ?_⟩
  have t2 : (c1.take (i * 3)).length = i * 3 := by rw [List.length_take]; omega
  have t3 : ((cur.take (n * 3)).take (i * 3)).length = i * 3 := by rw [List.length_take, List.length_take]; omega
  apply List.ext_getElem?
  intro j
  by_cases q0 : j < (n + 1) * 3
  · rw [List.getElem?_take_of_lt q0]
    simp only [c2]
    by_cases q1 : j < i * 3
    · rw [List.append_assoc, List.getElem?_append_left (by omega), List.getElem?_take_of_lt q1, g1, if_pos (by omega), List.append_assoc, List.getElem?_append_left (by omega), List.getElem?_take_of_lt q1, List.getElem?_take_of_lt (by omega)]
    · by_cases q2 : j < (i + 1) * 3
      · rw [List.append_assoc, List.getElem?_append_right (by omega), List.getElem?_append_left (by omega), List.append_assoc, List.getElem?_append_right (by omega), List.getElem?_append_left (by omega), t2, t3]
      · rw [List.getElem?_append_right (by rw [List.length_append]; omega), List.getElem?_drop, g1, List.getElem?_append_right (by rw [List.length_append]; omega), List.getElem?_drop, List.length_append, List.length_append, t2, t3, hnl, if_neg (by omega), if_pos (by omega), List.getElem?_take_of_lt (by omega)]
        congr 1; omega
  · rw [List.getElem?_eq_none (by rw [List.length_take]; omega), List.getElem?_eq_none]
    simp only [List.length_append, t3, hnl, List.length_drop, List.length_take]
    omega
section
variable (W : World) (g n cap i : Nat) (cur : Array Value) (news : List Value) (vb : Addr) (vc : Nat)
set_option maxHeartbeats 4000000 in
set_option maxRecDepth 100000 in
/-- there is room, and it is not the end. -/
theorem ins_room (hg : W.heap[g]? = some (.cells cur 69 (0, 0))) (hi : i < n) (hroom : n + 1 ≤ cap) (hcap : cap ≤ 9223372036854775807) (hcs : cur.size = cap * 3) (hone : ∀ v ∈ cur.toList.take (n * 3), v.oneCell' = true)
    (hnl : news.length = 3) (hnews : ∀ j v, news[j]? = some v → W.cell? (vb.add j) = some v) (h1 : ∀ v ∈ news, v.oneCell' = true) (hne : vb.block ≠ g) :
    Calls Try.prog 50 #[.slice (some ⟨g, 0, none⟩) n cap, .int .i64 i, .slice (some vb) 1 vc] W fun e W' =>
      e = .returned (.slice (some ⟨g, 0, none⟩) (n + 1) cap) ∧ ∃ cur' : Array Value, W' = W.drew.setRow g cur' ∧ cur'.size = cap * 3 ∧ cur'.toList.take ((n + 1) * 3) = (cur.toList.take (n * 3)).take (i * 3) ++ news ++ (cur.toList.take (n * 3)).drop (i * 3) := by
  obtain ⟨ti, z, hu, hti, hzz, hsize, hby, hzs, hsz⟩ := rowTy_spec (P := Try.prog) (tt := 42) (e := 69) (sz := 3) (bytes := 24) (by kernel_rfl)
  have hs3 : (Try.prog.info? 69).map (·.size) = some 3 := by rw [hti]; simp [hsize]
  have hz2 : ¬ ((i : Int) = (n : Int)) := by omega
  have hw1 : IntKind.i64.wrap ((i : Int) + 1) = (i : Int) + 1 := by rw [IntKind.wrap_i64]; omega
  have hw2 : IntKind.i64.wrap ((n : Int) + 1) = (n : Int) + 1 := by rw [IntKind.wrap_i64]; omega
  have hb1 : (0 : Int) ≤ (i : Int) + 1 := by omega
  have hin : i ≤ n := by omega
  have hb2 : ¬ (cap = i + 1) := by omega
  have hb3 : (i : Int) ≤ (n : Int) + 1 := by omega
  have hb4 : ¬ (cap = i) := by omega
  have hov : (callFunc 70 #[.slice (some vb) 1 vc, .slice (some ⟨g, (i + 1) * 3, none⟩) (n - i) (cap - (i + 1))]).run Try.prog W = .ok (.value (.bool false)) W := by
    rw [run_callFunc_extern Try.func70 (by kernel_rfl) (by kernel_rfl) (by kernel_rfl) (e := Extern.SlicesOverlaps.overlaps #[42, 42] #[4]) (by kernel_rfl),
      run_overlaps_two W _ _ 69 hu 3 (fun w => by rw [run_sizeOf' hti, hsize]) vb ⟨g, (i + 1) * 3, none⟩ 1 vc _ _ hne news[0] (by have := hnews 0 news[0] (List.getElem?_eq_getElem (by omega)); rwa [show vb.add 0 = vb from by unfold Addr.add; split <;> simp_all] at this) cur _ hg (by omega)]
    rfl
  obtain ⟨k1, k2, k3⟩ := ins_list cur.toList news hi hroom (by simpa using hcs) hnl
  generalize hcc : (cur.toList.drop (i * 3)).take ((n - i) * 3) = cc at *
  have hcl : cc.length = (n - i) * 3 := by rw [← hcc, List.length_take, List.length_drop, Array.length_toList]; omega
  have hcp1 : ∀ ty dc sc, (Builtin.copy_ #[42, 42] ty #[.slice (some ⟨g, (i + 1) * 3, none⟩) (n - i) dc, .slice (some ⟨g, i * 3, none⟩) (n + 1 - i) sc]).run Try.prog W.drew = .ok (goInt ((n - i : Nat) : Int)) (W.drew.setRow g (cur.toList.take ((i + 1) * 3) ++ cc ++ cur.toList.drop ((i + 1) * 3 + cc.length)).toArray) := fun ty dc sc => by
    have hm : Nat.min (n + 1 - i) (n - i) = n - i := Nat.min_eq_right (by omega)
    have := run_copy_rowz (P := Try.prog) W.drew 42 42 ty 69 g ((i + 1) * 3) (n - i) dc 3 ⟨g, i * 3, none⟩ (n + 1 - i) sc cur 69 cc hu hs3 hg (by rw [hm, hcl]) (fun j v hj => ?_) (by rw [hcl]; omega) (fun v hv => ?_)
    · rw [hm] at this; exact this
    · rw [Addr.add_lit]
      have hl : j < (n - i) * 3 := by rw [← hcl]; exact (List.getElem?_eq_some_iff.1 hj).1
      rw [← hcc, List.getElem?_take_of_lt hl, List.getElem?_drop] at hj
      show (W.drew.cell? _) = _
      unfold World.cell?
      rw [show W.drew.heap[(⟨g, i * 3 + j, none⟩ : Addr).block]? = some (.cells cur 69 (0, 0)) from hg]
      simpa using hj
    · refine hone v ?_
      obtain ⟨j, hj⟩ := List.getElem?_of_mem hv
      have hl : j < (n - i) * 3 := by rw [← hcl]; exact (List.getElem?_eq_some_iff.1 hj).1
      rw [← hcc, List.getElem?_take_of_lt hl, List.getElem?_drop] at hj
      exact List.mem_of_getElem? (i := i * 3 + j) (by rw [List.getElem?_take_of_lt (by omega)]; exact hj)
  generalize hc1 : cur.toList.take ((i + 1) * 3) ++ cc ++ cur.toList.drop ((i + 1) * 3 + cc.length) = c1 at *
  have hr1 := setRow_heap W.drew g cur c1.toArray _ (0, 0) hg
  have hcp2 : ∀ ty dc, (Builtin.copy_ #[42, 42] ty #[.slice (some ⟨g, i * 3, none⟩) (n + 1 - i) dc, .slice (some vb) 1 vc]).run Try.prog (W.drew.setRow g c1.toArray) = .ok (goInt ((1 : Nat) : Int)) ((W.drew.setRow g c1.toArray).setRow g (c1.take (i * 3) ++ news ++ c1.drop (i * 3 + news.length)).toArray) := fun ty dc => by
    have hm : Nat.min 1 (n + 1 - i) = 1 := Nat.min_eq_left (by omega)
    have := run_copy_rowz (P := Try.prog) (W.drew.setRow g c1.toArray) 42 42 ty 69 g (i * 3) (n + 1 - i) dc 3 vb 1 vc c1.toArray 69 news hu hs3 hr1 (by rw [hm, hnl]) (fun j v hj => ?_) (by rw [hnl]; simp [k1]; omega) h1
    · rw [hm] at this; simpa using this
    rw [← hnews j v hj]
    refine World.cell?_of_block (w := W) ?_
    show (World.setRow _ _ _).heap[(vb.add j).block]? = _
    rw [block_add]
    simp only [World.setRow, Array.getElem?_modify]
    rw [if_neg (fun e => hne e.symm)]
    rfl
  generalize hc2 : c1.take (i * 3) ++ news ++ c1.drop (i * 3 + news.length) = c2 at *
  clear hg hcc hc1 hc2 hone hnews h1 hr1 hti hzz
  go_enter Try.func50, Try.ntmps50
  go_wp2_with (simp only [hov])
  have mixed : Try.prog.follows .mixedOrders = true := by kernel_rfl
  go_region_law_o (refine step_copy_runI rfl _ _ 42 42 rfl _ _ (by simp [Act.eval, Act.put]) (by simp [Act.eval, Act.put]) (hcp1 _ _ _) ?_)
  go_wp2_with (at_builtin; refine wpList_copy_runI _ rfl _ _ 42 42 rfl _ _ rfl rfl (hcp2 _ _) ?_)
  go_ret
  exact ⟨rfl, c2.toArray, setRow_setRow _ _ _ _, by simpa using k2, by simpa using k3⟩
/-- what stands in a new row when one thing is put in. -/
theorem ins_list2 (R xs news : List Value) {i n G : Nat} (hi : i < n) (hG : n + 1 ≤ G) (hR : R.length = G * 3) (hx : xs.length = n * 3) (hRx : R.take (i * 3) = xs.take (i * 3)) (hnl : news.length = 3) :
    let c1 := R.take (i * 3) ++ news ++ R.drop (i * 3 + news.length)
    let c2 := c1.take ((i + 1) * 3) ++ xs.drop (i * 3) ++ c1.drop ((i + 1) * 3 + (xs.drop (i * 3)).length)
    c1.length = G * 3 ∧ c2.length = G * 3 ∧ c2.take ((n + 1) * 3) = xs.take (i * 3) ++ news ++ xs.drop (i * 3) := by
  have t1 : (xs.take (i * 3)).length = i * 3 := by rw [List.length_take]; omega
  have t2 : (xs.drop (i * 3)).length = (n - i) * 3 := by rw [List.length_drop]; omega
  intro c1 c2
  have e1 : c1.length = G * 3 := by simp only [c1, hRx, List.length_append, t1, List.length_drop, hR, hnl]; omega
  have e3 : c1.take ((i + 1) * 3) = xs.take (i * 3) ++ news := by
    simp only [c1, hRx]
    rw [List.take_append_of_le_length (by rw [List.length_append, t1, hnl]; omega), List.take_of_length_le (by rw [List.length_append, t1, hnl]; omega)]
  have e2 : c2.length = G * 3 := by simp only [c2, e3, List.length_append, t1, t2, List.length_drop, e1, hnl]; omega
  refine ⟨e1, e2, ?_⟩
  simp only [c2, e3]
  rw [List.take_append_of_le_length (by simp only [List.length_append, t1, t2, hnl]; omega), List.take_of_length_le (by simp only [List.length_append, t1, t2, hnl]; omega)]
set_option maxHeartbeats 4000000 in
set_option maxRecDepth 100000 in
/-- there is no room, and it is not the end: a new row. -/
theorem ins_grow (xs : List Value) (hg : W.heap[g]? = some (.cells cur 69 (0, 0))) (hxs : cur.toList.take (n * 3) = xs) (hxl : xs.length = n * 3) (hi : i < n) (hnc : n ≤ cap) (hroom : cap < n + 1) (hbig : (n + 1) * 24 ≤ 140737488355328) (hone : ∀ v ∈ xs, v.oneCell' = true)
    (hnl : news.length = 3) (hnews : ∀ j v, news[j]? = some v → W.cell? (vb.add j) = some v) (h1 : ∀ v ∈ news, v.oneCell' = true) :
    Calls Try.prog 50 #[.slice (some ⟨g, 0, none⟩) n cap, .int .i64 i, .slice (some vb) 1 vc] W fun e W' =>
      ∃ G cur' o, e = .returned (.slice (some ⟨W.heap.size, 0, none⟩) (n + 1) G) ∧ W'.heap = ((W.alloc o).setRow W.heap.size cur').heap ∧ W'.os = W.os ∧ W'.tape = W.tape ∧ W'.output = W.output ∧ (∃ c0, o = .cells c0 69 (0, 0)) ∧ n + 1 ≤ G ∧ G ≤ maxLen ∧ cur'.size = G * 3 ∧ cur'.toList.take ((n + 1) * 3) = xs.take (i * 3) ++ news ++ xs.drop (i * 3) := by
  obtain ⟨ti, z, hu, hti, hzz, hsize, hby, hzs, hsz⟩ := rowTy_spec (P := Try.prog) (tt := 42) (e := 69) (sz := 3) (bytes := 24) (by kernel_rfl)
  have hs3 : (Try.prog.info? 69).map (·.size) = some 3 := by rw [hti]; simp [hsize]
  have hcell : ∀ j v, xs[j]? = some v → W.cell? ⟨g, j, none⟩ = some v := fun j v hj => by
    have hl : j < n * 3 := by rw [← hxl]; exact (List.getElem?_eq_some_iff.1 hj).1
    rw [← hxs, List.getElem?_take_of_lt hl] at hj
    unfold World.cell?
    rw [show W.heap[(⟨g, j, none⟩ : Addr).block]? = some (.cells cur 69 (0, 0)) from hg]
    simpa using hj
  have hgl : g < W.heap.size := (Array.getElem?_eq_some_iff.1 hg).1
  have hvl : vb.block < W.heap.size := by
    have := hnews 0 news[0] (List.getElem?_eq_getElem (by omega))
    obtain ⟨t, k, h, _⟩ := cell_shape this
    rw [block_add] at h
    unfold World.shape? at h
    cases hq : W.heap[vb.block]? with
    | none => rw [hq] at h; cases h
    | some o => exact (Array.getElem?_eq_some_iff.1 hq).1
  have hz2 : ¬ ((i : Int) = (n : Int)) := by omega
  have hz3 : (cap : Int) < (n : Int) + 1 := by omega
  have hw1 : IntKind.i64.wrap ((i : Int) + 1) = (i : Int) + 1 := by rw [IntKind.wrap_i64]; omega
  have hw2 : IntKind.i64.wrap ((n : Int) + 1) = (n : Int) + 1 := by rw [IntKind.wrap_i64]; omega
  have hkk : (n : Int) + 1 - (i : Int) = ((n + 1 - i : Nat) : Int) := by omega
  have hw3 : IntKind.i64.wrap ((n : Int) + 1 - (i : Int)) = (n : Int) + 1 - (i : Int) := by rw [IntKind.wrap_i64]; omega
  have hik : i + (n + 1 - i) = n + 1 := by omega
  have hold : (Builtin.firstCells ti.size i (.slice (some ⟨g, 0, none⟩) i cap)).run Try.prog W.drew = .ok (xs.take (i * 3)).toArray W.drew := by
    rw [hsize]
    exact run_firstCells_some W.drew 3 i ⟨g, 0, none⟩ i cap (xs.take (i * 3)) (by rw [List.length_take]; omega) (fun j v hj => by
      rw [Addr.add_lit, Nat.zero_add]
      rw [List.getElem?_take] at hj
      split at hj
      · exact hcell j v hj
      · cases hj)
  obtain ⟨G, hG⟩ : ∃ G, G = grownCap W (n + 1) cap 69 := ⟨_, rfl⟩
  have hGn : n + 1 ≤ G := by rw [hG]; exact grownCap_ge W _ _ _
  have hGm : G ≤ maxLen := by rw [hG]; exact grownCap_le_maxLen W (n + 1) cap _ (by unfold maxLen; omega)
  have hG63 : G ≤ 9223372036854775807 := by unfold maxLen at hGm; omega
  obtain ⟨ROW, hROW⟩ : ∃ ROW : Array Value, ROW = (xs.take (i * 3)).toArray ++ Builtin.zeroCells z.cells (n + 1 - i) ++ Builtin.zeroCells z.cells (G - (n + 1)) := ⟨_, rfl⟩
  have hrz : ∀ ty, (Builtin.append_ #[42, 3] ty #[.slice (some ⟨g, 0, none⟩) i cap, .int .i64 ((n : Int) + 1 - (i : Int))]).run Try.prog W =
      .ok (.slice (some ⟨W.heap.size, 0, none⟩) (n + 1) G) (W.drew.alloc (.cells ROW 69)) := fun ty => by
    have h := Lib.run_append_grow_zeros W 42 3 ty 69 ti z .i64 .i64 hu Try.underlying3 hti hzz (some ⟨g, 0, none⟩) i cap _ hold (n + 1 - i) (by omega) (by omega) (by omega) (by omega) (by rw [hby]; omega) (by rw [hby, hik]; exact growslice_fits hroom hbig)
    rw [hik, ← hG, ← hROW] at h
    rw [hkk]
    exact h
  have hRl : ROW.size = G * 3 := by
    rw [hROW]
    simp [Builtin.zeroCells, hzs, List.length_take]
    omega
  have hRx : ROW.toList.take (i * 3) = xs.take (i * 3) := by
    rw [hROW, Array.toList_append, Array.toList_append, List.append_assoc, List.take_append_of_le_length (by simp [List.length_take]; omega), List.take_of_length_le (by simp [List.length_take]; omega)]
  obtain ⟨k1, k2, k3⟩ := ins_list2 ROW.toList xs news hi hGn (by simpa using hRl) hxl hRx hnl
  generalize hdx : xs.drop (i * 3) = dx at *
  have hdl : dx.length = (n - i) * 3 := by rw [← hdx, List.length_drop]; omega
  obtain ⟨N, hN⟩ : ∃ N, N = W.heap.size := ⟨_, rfl⟩
  obtain ⟨W1, hW1⟩ : ∃ W1, W1 = W.drew.alloc (.cells ROW 69) := ⟨_, rfl⟩
  have hN1 : W1.heap[N]? = some (.cells ROW 69 (0, 0)) := by rw [hW1, hN]; show (W.heap.push _)[W.heap.size]? = _; simp
  have hO1 : ∀ b, b < W.heap.size → W1.heap[b]? = W.heap[b]? := fun b hb => by rw [hW1]; show (W.heap.push _)[b]? = _; rw [Array.getElem?_push_lt hb, Array.getElem?_eq_getElem hb]
  generalize hc1 : ROW.toList.take (i * 3) ++ news ++ ROW.toList.drop (i * 3 + news.length) = c1 at *
  have hcpA : ∀ Wx : World, Wx.heap = W1.heap → ∀ ty dc, (Builtin.copy_ #[42, 42] ty #[.slice (some ⟨N, i * 3, none⟩) (n + 1 - i) dc, .slice (some vb) 1 vc]).run Try.prog Wx = .ok (goInt ((1 : Nat) : Int)) (Wx.setRow N c1.toArray) := fun Wx hW ty dc => by
    have hm : Nat.min 1 (n + 1 - i) = 1 := Nat.min_eq_left (by omega)
    have := run_copy_rowz (P := Try.prog) Wx 42 42 ty 69 N (i * 3) (n + 1 - i) dc 3 vb 1 vc ROW 69 news hu hs3 (by rw [hW]; exact hN1) (by rw [hm, hnl]) (fun j v hj => ?_) (by rw [hnl, hRl]; omega) h1
    · rw [hm, hc1] at this; exact this
    · rw [← hnews j v hj]
      refine World.cell?_of_block (w := W) ?_
      rw [block_add, hW, hO1 _ hvl]
  generalize hc2 : c1.take ((i + 1) * 3) ++ dx ++ c1.drop ((i + 1) * 3 + dx.length) = c2 at *
  have hgN : g ≠ N := by omega
  have hcpB : ∀ Wx : World, Wx.heap = (W1.setRow N c1.toArray).heap → ∀ ty dc sc, (Builtin.copy_ #[42, 42] ty #[.slice (some ⟨N, (i + 1) * 3, none⟩) (n - i) dc, .slice (some ⟨g, i * 3, none⟩) (n - i) sc]).run Try.prog Wx = .ok (goInt ((n - i : Nat) : Int)) (Wx.setRow N c2.toArray) := fun Wx hW ty dc sc => by
    have hm : Nat.min (n - i) (n - i) = n - i := Nat.min_self _
    have := run_copy_rowz (P := Try.prog) Wx 42 42 ty 69 N ((i + 1) * 3) (n - i) dc 3 ⟨g, i * 3, none⟩ (n - i) sc c1.toArray 69 dx hu hs3 (by rw [hW]; exact setRow_heap W1 N ROW _ _ (0, 0) hN1) (by rw [hm, hdl]) (fun j v hj => ?_) (by rw [hdl]; simp [k1]; omega) (fun v hv => hone v (by rw [← hdx] at hv; exact List.mem_of_mem_drop hv))
    · rw [hm] at this; simpa [hc2] using this
    · rw [Addr.add_lit]
      rw [← hdx, List.getElem?_drop] at hj
      rw [← hcell _ v hj]
      refine World.cell?_of_block (w := W) ?_
      rw [hW]
      simp only [World.setRow, Array.getElem?_modify]
      rw [if_neg (fun e => hgN e.symm), hO1 _ hgl]
  rw [← hW1] at hrz
  rw [← hN] at hrz ⊢
  have fin : ∀ Wx : World, Wx.heap = W1.heap → Wx.heap = (W.alloc (.cells ROW 69)).heap := fun Wx h => by rw [h, hW1]; rfl
  have hb1 : (0 : Int) ≤ (i : Int) + 1 := by omega
  have hin : i ≤ n := by omega
  have hbN : ¬ (G = i) := by omega
  have hbM : ¬ (G = i + 1) := by omega
  have hb3 : (i : Int) ≤ (n : Int) + 1 := by omega
  have hb4 : ¬ (cap = i) := by omega
  have hos : W1.os = W.os := by rw [hW1]; rfl
  have hta : W1.tape = W.tape := by rw [hW1]; rfl
  have hou : W1.output = W.output := by rw [hW1]; rfl
  have hhe : W1.heap = (W.alloc (.cells ROW 69)).heap := by rw [hW1]; rfl
  have mixed : Try.prog.follows .mixedOrders = true := by kernel_rfl
  clear hg hxs hxl hnews h1 hone hti hzz hold hG hROW hRx hdx hW1 hN1 hO1 hc1 hc2 hcell hkk hik fin hN hgl hvl
  go_enter Try.func50, Try.ntmps50
  go_wp2_with (first
    | (at_builtin; refine Lib.wpList_append_run _ rfl _ _ _ _ rfl _ _ rfl rfl _ _ (hrz _) ?_)
    | (at_builtin; refine wpList_copy_runI _ rfl _ _ 42 42 rfl _ _ rfl rfl (hcpA _ rfl _ _) ?_))
  go_region_law_o (refine step_copy_runI rfl _ _ 42 42 rfl (.slice (some ⟨N, (i + 1) * 3, none⟩) (n - i) (G - (i + 1))) (.slice (some ⟨g, i * 3, none⟩) (n - i) (cap - i)) (by simp [Act.eval, Act.put]) (by simp [Act.eval, Act.put]) (hcpB (W1.setRow N c1.toArray).drew rfl 3 (G - (i + 1)) (cap - i)) ?_)
  go_wp2
  go_ret
  refine ⟨G, c2.toArray, .cells ROW 69 (0, 0), rfl, ?_, hos, hta, hou, ⟨_, rfl⟩, hGn, hGm, by simpa using k2, by simpa using k3⟩
  show ((W1.setRow N c1.toArray).setRow N c2.toArray).heap = _
  rw [setRow_setRow]
  simp only [World.setRow, hhe]
end
set_option maxHeartbeats 4000000 in
set_option maxRecDepth 100000 in
/-- at the end. -/
theorem ins_end (W : World) (v : Value) (n : Nat) (xs news : List Value) (vb : Addr) (vc : Nat) (hown : W.ownsRow 0 69 3 v n xs) (hbig : (n + 1) * 24 ≤ 140737488355328)
    (hnl : news.length = 3) (hnews : ∀ j v, news[j]? = some v → W.cell? (vb.add j) = some v) (h1 : ∀ v ∈ news, v.oneCell' = true) :
    Calls Try.prog 50 #[v, .int .i64 n, .slice (some vb) 1 vc] W fun e W' =>
      ∃ v', e = .returned v' ∧ W'.ownsRow 0 69 3 v' (n + 1) (xs ++ news) ∧ W.grownBy W' v.ownBlock ∧ (∀ g, v'.ownBlock = some g → v.ownBlock = some g ∨ W.heap.size ≤ g) ∧ v'.oneCell' = true := by
  obtain ⟨ti, z, hu, hti, hzz, hsize, hby, hzs, hsz⟩ := rowTy_spec (P := Try.prog) (tt := 42) (e := 69) (sz := 3) (bytes := 24) (by kernel_rfl)
  obtain ⟨v', w', hr, q⟩ := run_append_own2 (P := Try.prog) W 0 42 42 69 ti z 3 24 hu hti hzz hsize hby hzs hsz v n xs hown vb 1 vc news (by rw [hnl]) hnews h1 (by unfold maxLen; omega) hbig (Nat.zero_le _) (by decide)
  rcases hown.2 with ⟨rfl, rfl⟩ | ⟨g, cap, cur, rfl, hbg, hg, hnc, hcm, hcs, htake⟩
  · clear hti hzz hown hnews
    go_enter Try.func50, Try.ntmps50
    go_wp2_with (at_builtin; refine Lib.wpList_append_run _ rfl _ _ _ _ rfl _ _ rfl rfl _ _ hr ?_)
    go_ret
    exact ⟨v', rfl, q⟩
  · have hcap : cap ≤ 9223372036854775807 := by unfold maxLen at hcm; omega
    clear hti hzz hown hnews hg hcs htake hcm
    go_enter Try.func50, Try.ntmps50
    go_wp2_with (at_builtin; refine Lib.wpList_append_run _ rfl _ _ _ _ rfl _ _ rfl rfl _ _ hr ?_)
    all_goals go_ret
    all_goals exact ⟨v', rfl, q⟩
set_option maxHeartbeats 4000000 in
set_option maxRecDepth 100000 in
/-- slices.Clone. -/
theorem w_Clone (W : World) (v : Value) (n : Nat) (xs : List Value) (hown : W.ownsRow 0 69 3 v n xs) (hbig : n * 24 ≤ 140737488355328) (hone : ∀ v ∈ xs, v.oneCell' = true) :
    Calls Try.prog 52 #[v] W fun e W' =>
      ∃ v', e = .returned v' ∧ W'.ownsRow 0 69 3 v' n xs ∧ W.grownBy W' none ∧ (∀ g, v'.ownBlock = some g → W.heap.size ≤ g) ∧ v'.oneCell' = true := by
  obtain ⟨ti, z, hu, hti, hzz, hsize, hby, hzs, hsz⟩ := rowTy_spec (P := Try.prog) (tt := 42) (e := 69) (sz := 3) (bytes := 24) (by kernel_rfl)
  have q22 : ∀ (w : World) (a : Option Addr) (n c n' c' : Nat), (binOp .eql 42 (.slice a n c) (.slice none n' c')).run Try.prog w = .ok (.bool a.isNone) w := fun w a n c n' c' => Lib.run_eql_slice_nil w _ _ a n c n' c' hu
  rcases hown.2 with ⟨rfl, rfl⟩ | ⟨g, cap, cur, rfl, hbg, hg, hnc, hcm, hcs, htake⟩
  · clear hti hzz
    go_enter Try.func52, Try.ntmps52
    go_wp2
    go_ret
    exact ⟨_, rfl, hown, ⟨rfl, rfl, rfl, Nat.le_refl _, fun _ _ _ => rfl⟩, fun g hg => (by cases hg), rfl⟩
  · have hgl : g < W.heap.size := (Array.getElem?_eq_some_iff.1 hg).1
    have hown1 : (W.alloc (.cells #[] 69 (0, 0))).ownsRow 0 69 3 (.slice (some ⟨W.heap.size, 0, none⟩) 0 0) 0 [] :=
      ⟨rfl, .inr ⟨W.heap.size, 0, #[], rfl, Nat.zero_le _, by show (W.heap.push _)[W.heap.size]? = _; simp, Nat.le_refl _, Nat.zero_le _, rfl, rfl⟩⟩
    have hal : W.grownBy (W.alloc (.cells #[] 69 (0, 0))) none := World.grownBy_alloc W _ none
    have hcell : ∀ j u, xs[j]? = some u → (W.alloc (.cells #[] 69 (0, 0))).cell? ((⟨g, 0, none⟩ : Addr).add j) = some u := fun j u hj => by
      rw [← hown.cells (g := g) rfl j u hj]
      exact World.cell?_of_block (w := W) (by rw [block_add]; exact hal.block g hgl fun e => by cases e)
    obtain ⟨v', w', hr, q⟩ : ∃ v' w', (Builtin.append_ #[42, 42] 42 #[.slice (some ⟨W.heap.size, 0, none⟩) 0 0, .slice (some ⟨g, 0, none⟩) n cap]).run Try.prog (W.alloc (.cells #[] 69 (0, 0))) = .ok v' w' ∧
        w'.ownsRow 0 69 3 v' n xs ∧ W.grownBy w' none ∧ (∀ g, v'.ownBlock = some g → W.heap.size ≤ g) ∧ v'.oneCell' = true := by
      by_cases h0 : n = 0
      · subst h0
        have hx : xs = [] := List.eq_nil_of_length_eq_zero (by simpa using hown.1)
        subst hx
        have hr := run_append_room (P := Try.prog) (W.alloc (.cells #[] 69 (0, 0))) 42 42 69 ti hu hti W.heap.size 0 0 #[] (by show (W.heap.push _)[W.heap.size]? = _; simp) ⟨g, 0, none⟩ 0 cap [] (by simp) (by simp) (by simp) (by simp) (by simp)
        rw [show ∀ X : Array Value, X = #[] → (W.alloc (.cells #[] 69 (0, 0))).setRow W.heap.size X = W.alloc (.cells #[] 69 (0, 0)) from fun X e => by rw [e]; exact setRow_self _ _ #[] 69 (0, 0) (by show (W.heap.push _)[W.heap.size]? = _; simp)] at hr
        · exact ⟨_, _, hr, hown1, hal, fun g' hg' => by simp [Value.ownBlock] at hg'; omega, rfl⟩
        · simp
      · obtain ⟨v', w', hr, q1, q2, q3, q4⟩ := run_append_own2 (P := Try.prog) (W.alloc (.cells #[] 69 (0, 0))) 0 42 42 69 ti z 3 24 hu hti hzz hsize hby hzs hsz _ 0 [] hown1 ⟨g, 0, none⟩ n cap xs hown.1 hcell hone (by unfold maxLen; omega) (by omega) (Nat.zero_le _) (by omega)
        rw [Nat.zero_add, List.nil_append] at q1
        refine ⟨v', w', hr, q1, ⟨q2.os, q2.tape, q2.output, Nat.le_trans hal.size q2.size, fun k hk _ => ?_⟩, fun g' hg' => ?_, q4⟩
        · rw [q2.block k (Nat.lt_of_lt_of_le hk hal.size) (by simp [Value.ownBlock]; omega)]
          exact hal.block k hk fun e => by cases e
        · rcases q3 g' hg' with h | h
          · simp [Value.ownBlock] at h; omega
          · exact Nat.le_trans hal.size h
    clear hti hzz hown1 hal hcell hown hg hcs htake
    go_enter Try.func52, Try.ntmps52
    go_wp2_with (at_builtin; refine Lib.wpList_append_run _ rfl _ _ _ _ rfl _ _ rfl rfl _ _ hr ?_)
    go_ret
    exact ⟨v', rfl, q⟩
end Go.Proofs.Ytaennpehlhgggaa

namespace Go.Proofs.Ytaennpehlhgggaa
open Go.RowKit Go.Lib
set_option linter.unusedVariables false
set_option linter.unusedSimpArgs false
theorem enC_take : ∀ (l : List Ent) (i : Nat), (enC l).take (i * 3) = enC (l.take i)
  | [], i => by simp [enC]
  | e :: l, 0 => by simp [enC]
  | e :: l, i + 1 => by
    rw [show (i + 1) * 3 = i * 3 + 1 + 1 + 1 by omega]
    simp only [enC, List.take_succ_cons, enC_take l i]
theorem enC_drop : ∀ (l : List Ent) (i : Nat), (enC l).drop (i * 3) = enC (l.drop i)
  | [], i => by simp [enC]
  | e :: l, 0 => by simp
  | e :: l, i + 1 => by
    rw [show (i + 1) * 3 = i * 3 + 1 + 1 + 1 by omega]
    simp only [enC, List.drop_succ_cons, enC_drop l i]
theorem RpL.take {U : Nat → Prop} {ρ : Nat → Nat} {W : World} {xs : List AC} {vs : List Value} (h : RpL U ρ W xs vs) (k : Nat) : RpL U ρ W (xs.take k) (vs.take k) := by
  have := h.sub 0 k
  simpa using this
theorem RpL.drop {U : Nat → Prop} {ρ : Nat → Nat} {W : World} {xs : List AC} {vs : List Value} (h : RpL U ρ W xs vs) (k : Nat) : RpL U ρ W (xs.drop k) (vs.drop k) := by
  refine ⟨by rw [List.length_drop, List.length_drop, h.1], fun i x v hx hv => ?_⟩
  rw [List.getElem?_drop] at hx hv
  exact h.2 _ x v hx hv
theorem RpL.ones {U : Nat → Prop} {ρ : Nat → Nat} {W : World} {xs : List AC} {vs : List Value} (h : RpL U ρ W xs vs) : ∀ v ∈ vs, v.oneCell' = true := fun v hv => by
  obtain ⟨j, hj⟩ := List.getElem?_of_mem hv
  have hlt : j < xs.length := by rw [h.1]; exact (List.getElem?_eq_some_iff.1 hj).1
  exact (h.2 j _ v (List.getElem?_eq_getElem hlt) hj).cell
theorem own_one {W : World} {b e sz n : Nat} {v : Value} {xs : List Value} (h : W.ownsRow b e sz v n xs) : v.oneCell' = true := by
  rcases h.2 with ⟨rfl, _⟩ | ⟨g, cap, cur, rfl, _⟩ <;> rfl
/-- the row with one thing put in. -/
abbrev insE (l : List Ent) (i : Nat) (e : Ent) : List Ent := l.take i ++ e :: l.drop i
theorem insE_len {l : List Ent} {i : Nat} {e : Ent} (hi : i ≤ l.length) : (insE l i e).length = l.length + 1 := by
  unfold insE; rw [List.length_append, List.length_cons, List.length_take, List.length_drop]; omega
theorem insE_rp {U : Nat → Prop} {ρ : Nat → Nat} {W : World} {l : List Ent} {xs news : List Value} {e : Ent} (i : Nat) (h : RpL U ρ W (enC l) xs) (hn : RpL U ρ W (enC [e]) news) : RpL U ρ W (enC (insE l i e)) (xs.take (i * 3) ++ news ++ xs.drop (i * 3)) := by
  have : enC (insE l i e) = (enC l).take (i * 3) ++ enC [e] ++ (enC l).drop (i * 3) := by
    rw [enC_take, enC_drop, ← enC_append, ← enC_append, List.append_assoc]; rfl
  rw [this]
  exact ((h.take _).append hn).append (h.drop _)
theorem enC_c : ∀ (l : List Ent) (y : AC), y ∈ enC l → ∃ u, y = .c u
  | [], y, h => by cases h
  | e :: l, y, h => by
    simp only [enC, List.mem_cons] at h
    rcases h with h | h | h | h
    · exact ⟨_, h⟩
    · exact ⟨_, h⟩
    · exact ⟨_, h⟩
    · exact enC_c l y h
/-- numbers alone: told of any memory. -/
theorem enC_any {U U' : Nat → Prop} {ρ ρ' : Nat → Nat} {W W' : World} {l : List Ent} {vs : List Value} (h : RpL U ρ W (enC l) vs) : RpL U' ρ' W' (enC l) vs := by
  refine ⟨h.1, fun i x v hx hv => ?_⟩
  have := h.2 i x v hx hv
  obtain ⟨u, rfl⟩ := enC_c l x (List.mem_of_getElem? hx)
  exact this
set_option maxRecDepth 100000 in
theorem c_Insert {l : List Ent} {v : Value} {i : Nat} {x y w : Int} (hi : i ≤ l.length) (hl : l.length ≤ 1000000) :
    RCall Try.prog 50 [vC v, vI i, vS 3 1 [.c (.int .i64 x), .c (.int .i64 y), .c (.int .i64 w)]] (nxRow v l) fun rv r' => ∃ v', v'.oneCell' = true ∧ rv = vC v' ∧ r' = nxRow v' (insE l i (x, y, w)) := by
  refine rcall_world rfl (Nat.zero_lt_succ _) (fun rv r' ⟨v', _, _, e⟩ => by rw [e]; exact Nat.zero_lt_succ _) ?_
  intro U W vs xs ho hrl hcl hnu hvs
  obtain ⟨hlen, hv⟩ := hvs
  match vs, hlen with
  | [a, b, c], _ =>
    have e0 : a = v := (hv 0 _ a rfl rfl).1
    have e1 : b = .int .i64 i := (hv 1 _ b rfl rfl).1
    obtain ⟨⟨A, cc, e2, hc1, hc2, hc3⟩, hfoot⟩ := hv 2 _ c rfl rfl
    obtain ⟨vb, news, rfl, hat⟩ := hc3 (by decide)
    subst e0 e1 e2
    have hnl : news.length = 3 := hat.rp.1.symm
    have hnw : RpL U id W (enC [(x, y, w)]) news := enC_any (U := fun _ => True) (ρ := id) (W := W) hat.rp
    have hnew := insE_rp i hrl hnw
    have hll : (insE l i (x, y, w)).length = l.length + 1 := insE_len hi
    have hxl : xs.length = l.length * 3 := ho.1
    have hvb : U vb.block := hfoot _ ⟨cc, vb, rfl, by decide, .inl rfl⟩
    have hcl' : ∀ q ∈ enC (insE l i (x, y, w)), q.closedB = true := fun q hq => List.all_eq_true.1 (enC_closed _) q hq
    have fin : ∀ (e : Ending) (W' : World) (v' : Value), e = .returned v' → W'.ownsRow 0 69 3 v' (l.length + 1) (xs.take (i * 3) ++ news ++ xs.drop (i * 3)) → W.grownBy W' a.ownBlock → (∀ g, v'.ownBlock = some g → a.ownBlock = some g ∨ W.heap.size ≤ g) →
        ∃ u rv r', e = .returned u ∧ (∃ v', v'.oneCell' = true ∧ rv = vC v' ∧ r' = nxRow v' (insE l i (x, y, w))) ∧ RowTo W W' (nxRow a l) r' U ∧ RpV U id W rv u ∧ rv.closedB = true := by
      rintro e W' v' rfl h1 h2 h3
      have h1c := own_one h1
      refine ⟨v', _, _, rfl, ⟨v', h1c, rfl, rfl⟩, ⟨h2, ⟨_, ?_, hnew⟩, hcl', h3⟩, ⟨rfl, h1c⟩, rfl⟩
      show W'.ownsRow 0 69 3 v' (insE l i (x, y, w)).length _
      rw [hll]; exact h1
    by_cases hend : i = l.length
    · subst hend
      refine (ins_end W a l.length xs news vb cc ho (by omega) hnl hat.at_ hnw.ones).mono ?_
      rintro e W' ⟨v', rfl, h1, h2, h3, _⟩
      refine fin _ _ v' rfl ?_ h2 h3
      rw [List.take_of_length_le (by omega), List.drop_of_length_le (by omega), List.append_nil]
      exact h1
    · have hlt : i < l.length := by omega
      obtain ⟨g, cap, cur, rfl, hbg, hg, hnc, hcm, hcs, htake⟩ : ∃ g cap cur, a = .slice (some ⟨g, 0, none⟩) l.length cap ∧ 0 ≤ g ∧ W.heap[g]? = some (.cells cur 69 (0, 0)) ∧ l.length ≤ cap ∧ cap ≤ maxLen ∧ cur.size = cap * 3 ∧ cur.toList.take (l.length * 3) = xs := by
        rcases ho.2 with ⟨_, h0⟩ | h
        · have : l.length = 0 := h0
          omega
        · exact h
      have hgne : vb.block ≠ g := fun e => hnu g rfl (by rw [← e]; exact hvb)
      by_cases hroom : l.length + 1 ≤ cap
      · refine (ins_room W g l.length cap i cur news vb cc hg hlt hroom (by unfold maxLen at hcm; omega) hcs (by rw [htake]; exact hrl.ones) hnl hat.at_ hnw.ones hgne).mono ?_
        rintro e W' ⟨rfl, cur', rfl, k1, k2⟩
        rw [htake] at k2
        have hh := setRow_heap W.drew g cur cur' _ (0, 0) hg
        refine fin _ _ _ rfl ⟨?_, .inr ⟨g, cap, cur', rfl, Nat.zero_le _, hh, hroom, hcm, k1, k2⟩⟩ ⟨rfl, rfl, rfl, by (show W.heap.size ≤ (Array.modify W.heap g _).size; rw [Array.size_modify]; exact Nat.le_refl _), fun k _ hk => ?_⟩ fun g' hg' => .inl hg'
        · simp only [List.length_append, List.length_take, List.length_drop, hnl]; omega
        · show (Array.modify W.heap g _)[k]? = _
          rw [Array.getElem?_modify]
          rw [if_neg (fun e => hk (by rw [e]; rfl))]
      · refine (ins_grow W g l.length cap i cur news vb cc xs hg htake hxl hlt hnc (by omega) (by omega) hrl.ones hnl hat.at_ hnw.ones).mono ?_
        rintro e W' ⟨G, cur', o, rfl, q1, q2, q3, q4, ⟨c0, rfl⟩, k1, k2, k3, k4⟩
        have hn0 : (W.alloc (.cells c0 69 (0, 0))).heap[W.heap.size]? = some (.cells c0 69 (0, 0)) := by show (W.heap.push _)[W.heap.size]? = _; simp
        have hh := setRow_heap _ W.heap.size c0 cur' _ (0, 0) hn0
        rw [← q1] at hh
        refine fin _ _ _ rfl ⟨?_, .inr ⟨W.heap.size, G, cur', rfl, Nat.zero_le _, hh, k1, k2, k3, k4⟩⟩ ⟨q2, q3, q4, ?_, fun k hk _ => ?_⟩ fun g' hg' => .inr (by simp [Value.ownBlock] at hg'; omega)
        · simp only [List.length_append, List.length_take, List.length_drop, hnl]; omega
        · rw [q1]
          show W.heap.size ≤ (Array.modify (W.heap.push _) _ _).size
          rw [Array.size_modify, Array.size_push]; omega
        · rw [q1]
          simp only [World.setRow, Array.getElem?_modify]
          rw [if_neg (by omega)]
          show (W.heap.push _)[k]? = _
          rw [Array.getElem?_push_lt hk, Array.getElem?_eq_getElem hk]
set_option maxRecDepth 100000 in
theorem c_Clone {l : List Ent} {v : Value} (hl : l.length ≤ 1000000) :
    RCall2 Try.prog 52 [vC v] (nxRow v l) fun rv q => ∃ v', v'.oneCell' = true ∧ rv = vC v' ∧ q = nxRow v' l := by
  refine rcall2_world rfl (Nat.zero_lt_succ _) (fun rv r' ⟨v', _, _, e⟩ => by rw [e]; exact Nat.zero_lt_succ _) ?_
  intro U W vs xs ho hrl hcl hvs
  obtain ⟨hlen, hv⟩ := hvs
  match vs, hlen with
  | [a], _ =>
    have e0 : a = v := (hv 0 _ a rfl rfl).1
    subst e0
    refine (w_Clone W a l.length xs ho (by omega) hrl.ones).mono ?_
    rintro e W' ⟨v', rfl, h1, h2, h3, h4⟩
    exact ⟨v', vC v', nxRow v' l, rfl, ⟨v', h4, rfl, rfl⟩, ⟨h2, ⟨xs, h1, hrl⟩, hcl, h3⟩, ⟨rfl, h4⟩, rfl⟩
end Go.Proofs.Ytaennpehlhgggaa

namespace Go.Proofs.Ytaennpehlhgggaa
open Go.RowKit
set_option linter.unusedVariables false
set_option linter.unusedSimpArgs false
theorem pcmp_lt {x y a b : Int} : pcmp x y a b < 0 ↔ pLt x y a b = true := by
  rw [pLt_iff]
  unfold pcmp icmp
  split <;> split <;> first | omega | (split <;> omega)
theorem pcmp_eq {x y a b : Int} : pcmp x y a b = 0 ↔ x = a ∧ y = b := by
  unfold pcmp icmp
  split <;> split <;> first | omega | (split <;> omega)
set_option maxRecDepth 100000 in
set_option maxHeartbeats 4000000 in
theorem p_place1 {x y v a b : Int} : PCall Try.prog 68 [.w (.agg [.c (.int .i64 x), .c (.int .i64 y), .c (.int .i64 v)]), vP a b] (vI (pcmp x y a b)) := by
  have C1 := p_gCmp (x := x) (y := y) (x' := a) (y' := b)
  refine pcall_body (f := 68) Try.func68 rfl rfl rfl rfl ?_
  (repeat (first | ((with_reducible apply al_q); exact rfl) | (refine al_call2 rfl rfl rfl rfl (by (first | exact C1)) rfl ?_) | ((with_reducible apply awp_seq)) | ((with_reducible apply athen_normal)) | ((with_reducible apply awp_region)) | ((with_reducible apply al_nil)) | ((with_reducible apply awp_ret))))
  (first | (refine apost_ret rfl (resl_tmp rfl resl_nil) ?_))
  exact AV.Le.refl _
abbrev vFn25 : AV := vC (.func (.func 68) #[] #[])
def BSI (l : List Ent) (v : Value) (a b : Int) (n : Nat) (R : Rws) (ts : List (Nat × AV)) (ms : List (Nat × List AC)) : Prop :=
  ∃ (lo hi : Nat) (li hj : Int), lo ≤ posE l a b ∧ posE l a b ≤ hi ∧ hi ≤ l.length ∧ n = hi - lo ∧ li = lo ∧ hj = hi ∧ R = row1 0 (nxRow v l) ∧ ms = [(4, mPx a b)] ∧ ts = [(0, vC v), (2, vFn25), (4, vOw 4), (8, vI l.length), (9, vI li), (10, vI hj)]
set_option maxRecDepth 100000 in
set_option maxHeartbeats 8000000 in
theorem c_Search {l : List Ent} {v : Value} {a b : Int} (hr : Rises l) (hl : l.length ≤ 1000000) :
    RCall Try.prog 67 [vC v, vP a b, vFn25] (nxRow v l) fun rv r' => rv = .tup [.one (.c (.int .i64 (posE l a b))), .one (.c (.bool (hasE l a b)))] ∧ r' = nxRow v l := by
  refine rcall_of rfl (fun v r' h => by rw [h.1]; rfl) ?_
  refine hcall_of_body (f := 67) Try.func67 rfl (Nat.le_of_ble_eq_true rfl) (by first | exact big0 | exact big1 rfl) ?_
  (repeat (first | ((with_reducible apply rwp_seq)) | ((with_reducible apply rthen_normal)) | ((with_reducible apply rwp_region)) | ((with_reducible apply hs_nil)) | ((with_reducible apply rwp_block)) | ((with_reducible apply hs_c); exact rfl; (repeat (first | ((with_reducible apply al_q); exact rfl))); (with_reducible apply al_nil)) | ((with_reducible apply hs_len 0); (iterate 4 exact rfl); kernel_rfl; exact rfl)))
  refine rwp_loopL 49 (BSI l v a b) l.length (row1 0 (nxRow v l)) _ [(4, mPx a b)] ⟨0, l.length, 0, l.length, Nat.zero_le _, posE_len l a b, Nat.le_refl _, rfl, rfl, rfl, rfl, rfl, rfl⟩ (RLe.refl _) rfl ⟨rfl, rfl, rfl, rfl, rfl, rfl, trivial⟩ ⟨rfl, trivial⟩ rfl ?_
  rintro n R ts ms ⟨lo, hi, li, hj, h1, h2, h3, rfl, h4, h5, rfl, rfl, rfl⟩ hok
  clear hok
  by_cases hq : lo < hi
  · subst h4 h5
    have q2 : (lo : Int) < (hi : Int) := by omega
    obtain ⟨h, hh⟩ : ∃ h, h = (lo + hi) / 2 := ⟨_, rfl⟩
    have e1 : ((lo : Int) + (hi : Int)) / 2 = (h : Int) := by omega
    have hhl : h < l.length := by omega
    obtain ⟨x, y, w, g1⟩ : ∃ x y w, l[h]? = some (x, y, w) := ⟨_, _, _, List.getElem?_eq_getElem hhl⟩
    have q5 : 0 < l.length := by omega
    have E1 : (((lo : Int) + (hi : Int)) / 2).toNat * 3 + 3 ≤ (enC l).length ∧ ((enC l).drop ((((lo : Int) + (hi : Int)) / 2).toNat * 3)).take 3 = [.c (.int .i64 x), .c (.int .i64 y), .c (.int .i64 w)] := ⟨by rw [enC_len]; omega, enC_xyv e1 g1⟩
    have W1 : IntKind.i64.wrap ((lo : Int) + hi) = (lo : Int) + hi := i64_wrap (by omega)
    have W2 : IntKind.u64.wrap ((lo : Int) + hi) = (lo : Int) + hi := by rw [IntKind.wrap_u64]; omega
    have C1 := p_place1 (x := x) (y := y) (v := w) (a := a) (b := b)
    have P1 : h < posE l a b ↔ pcmp x y a b < 0 := (posE_spec hr a b h (x, y, w) g1).trans pcmp_lt.symm
    generalize pcmp x y a b = c at *
    have q6 : ((lo : Int) + (hi : Int)) / 2 < (l.length : Int) := by omega
    clear g1
    replace e1 := Lib.hid e1
    replace hh := Lib.hid hh
    by_cases hc : c < 0
    · (repeat (first | ((with_reducible apply hs_nilS); kernel_rfl) | ((with_reducible apply rwp_draw (id := 5) [0,1,2,3,4,5,6,7]); kernel_rfl; kernel_rfl; exact rfl) | ((with_reducible apply rwp_seq)) | ((with_reducible apply rthen_normal)) | ((with_reducible apply rwp_region)) | ((with_reducible apply hs_nil)) | ((with_reducible apply rwp_skip)) | ((with_reducible apply rwp_block)) | ((with_reducible apply rblock_normal)) | ((with_reducible apply rwp_cond_1); exact rfl; (first | assumption | exact decide_eq_true (by omega) | (simp only [Bool.not_eq_true', decide_eq_false_iff_not, decide_eq_true_eq, Bool.not_eq_false']; (first | done | omega)) | exact rfl)) | ((with_reducible apply hs_c); exact rfl; (repeat (first | ((with_reducible apply al_q); exact rfl) | ((with_reducible apply al_add); (iterate 3 exact rfl); (first | exact i64_wrap (by omega) | assumption | rfl); exact rfl) | ((with_reducible apply al_convI); exact rfl; exact rfl; (first | exact i64_wrap (by omega) | assumption | rfl); exact rfl) | (refine al_call2 rfl rfl rfl rfl (by (first | exact C1)) rfl ?_) | ((with_reducible apply al_bin); (iterate 5 exact rfl); (intro W; go_simp; try rfl); (intro W; go_simp; try rfl); exact rfl; exact rfl))); (with_reducible apply al_nil)) | ((with_reducible apply hs_idx 0); (iterate 4 exact rfl); (first | omega); (first | assumption | omega); exact rfl; kernel_rfl; exact rfl) | ((with_reducible apply hs_loadN 0); (iterate 3 exact rfl); (first | assumption | omega); assumption; exact rfl; kernel_rfl; exact rfl)))
      have hh := hh.out
      have e1 := e1.out
      refine ⟨hi - (h + 1), row1 0 (nxRow v l), _, [(4, mPx a b)], by omega, ⟨h + 1, hi, _, hi, P1.2 hc, h2, h3, rfl, ?_, rfl, rfl, rfl, rfl⟩, RLe.refl _, rfl, ⟨rfl, rfl, rfl, rfl, rfl, rfl, trivial⟩, ⟨rfl, trivial⟩, rfl⟩
      omega
    · have P2 : posE l a b ≤ h := by have := mt P1.1 hc; omega
      (repeat (first | ((with_reducible apply hs_nilS); kernel_rfl) | ((with_reducible apply rwp_draw (id := 5) [0,1,2,3,4,5,6,7]); kernel_rfl; kernel_rfl; exact rfl) | ((with_reducible apply rwp_seq)) | ((with_reducible apply rthen_normal)) | ((with_reducible apply rwp_region)) | ((with_reducible apply hs_nil)) | ((with_reducible apply rwp_skip)) | ((with_reducible apply rwp_block)) | ((with_reducible apply rblock_normal)) | ((with_reducible apply rwp_cond_1); exact rfl; (first | assumption | exact decide_eq_true (by omega) | (simp only [Bool.not_eq_true', decide_eq_false_iff_not, decide_eq_true_eq, Bool.not_eq_false']; (first | done | omega)) | exact rfl)) | ((with_reducible apply rwp_cond_0); exact rfl; (first | assumption | exact decide_eq_false (by omega) | (simp only [Bool.not_eq_true', decide_eq_false_iff_not, decide_eq_true_eq, Bool.not_eq_false']; (first | done | omega)) | exact rfl)) | ((with_reducible apply hs_c); exact rfl; (repeat (first | ((with_reducible apply al_q); exact rfl) | ((with_reducible apply al_add); (iterate 3 exact rfl); (first | exact i64_wrap (by omega) | assumption | rfl); exact rfl) | ((with_reducible apply al_convI); exact rfl; exact rfl; (first | exact i64_wrap (by omega) | assumption | rfl); exact rfl) | (refine al_call2 rfl rfl rfl rfl (by (first | exact C1)) rfl ?_) | ((with_reducible apply al_bin); (iterate 5 exact rfl); (intro W; go_simp; try rfl); (intro W; go_simp; try rfl); exact rfl; exact rfl))); (with_reducible apply al_nil)) | ((with_reducible apply hs_idx 0); (iterate 4 exact rfl); (first | omega); (first | assumption | omega); exact rfl; kernel_rfl; exact rfl) | ((with_reducible apply hs_loadN 0); (iterate 3 exact rfl); (first | assumption | omega); assumption; exact rfl; kernel_rfl; exact rfl)))
      have hh := hh.out
      have e1 := e1.out
      refine ⟨h - lo, row1 0 (nxRow v l), _, [(4, mPx a b)], by omega, ⟨lo, h, lo, _, h1, P2, by omega, rfl, rfl, e1, rfl, rfl, rfl⟩, RLe.refl _, rfl, ⟨rfl, rfl, rfl, rfl, rfl, rfl, trivial⟩, ⟨rfl, trivial⟩, rfl⟩
  · have e0 : lo = posE l a b := by omega
    subst e0
    have q2 : ¬ li < hj := by omega
    clear h5 hq h2 h3 h1
    generalize hp : posE l a b = p at *
    by_cases hn : p < l.length
    · subst h4
      have q3 : (p : Int) < (l.length : Int) := by omega
      have q5 : 0 < l.length := by omega
      obtain ⟨x, y, w, g1⟩ : ∃ x y w, l[p]? = some (x, y, w) := ⟨_, _, _, List.getElem?_eq_getElem hn⟩
      have E1 : ((p : Int)).toNat * 3 + 3 ≤ (enC l).length ∧ ((enC l).drop (((p : Int)).toNat * 3)).take 3 = [.c (.int .i64 x), .c (.int .i64 y), .c (.int .i64 w)] := ⟨by rw [enC_len]; omega, enC_xyv rfl g1⟩
      have C1 := p_place1 (x := x) (y := y) (v := w) (a := a) (b := b)
      have P1 : hasE l a b = decide (pcmp x y a b = 0) := by
        rw [Bool.eq_iff_iff, has_pos hr, hp, g1, decide_eq_true_iff, pcmp_eq]
        constructor
        · rintro ⟨u, hu⟩; cases hu; exact ⟨rfl, rfl⟩
        · rintro ⟨rfl, rfl⟩; exact ⟨w, rfl⟩
      generalize pcmp x y a b = c at *
      (repeat (first | ((with_reducible apply hs_nilS); kernel_rfl) | ((with_reducible apply rwp_draw (id := 8) [0,1,2,3,4,5,6,7,8,9,10,11,12,13,14,15]); kernel_rfl; kernel_rfl; exact rfl) | ((with_reducible apply rwp_seq)) | ((with_reducible apply rthen_normal)) | ((with_reducible apply rwp_region)) | ((with_reducible apply hs_nil)) | ((with_reducible apply rwp_ret)) | ((with_reducible apply rblock_same)) | ((with_reducible apply rwp_exit)) | ((with_reducible apply rthen_exit)) | ((with_reducible apply rwp_cond_0); exact rfl; (first | assumption | exact decide_eq_false (by omega) | (simp only [Bool.not_eq_true', decide_eq_false_iff_not, decide_eq_true_eq, Bool.not_eq_false']; (first | done | omega)) | exact rfl)) | ((with_reducible apply hs_c); exact rfl; (repeat (first | ((with_reducible apply al_q); exact rfl) | (refine al_call2 rfl rfl rfl rfl (by (first | exact C1)) rfl ?_) | ((with_reducible apply al_guard_b (c := true)); exact rfl; exact rfl; (first | assumption | exact decide_eq_true (by omega) | (simp only [Bool.not_eq_true', decide_eq_false_iff_not, decide_eq_true_eq, Bool.not_eq_false']; (first | done | omega)))))); (with_reducible apply al_nil)) | ((with_reducible apply hs_idx 0); (iterate 4 exact rfl); (first | omega); (first | assumption | omega); exact rfl; kernel_rfl; exact rfl) | ((with_reducible apply hs_loadN 0); (iterate 3 exact rfl); (first | assumption | omega); assumption; exact rfl; kernel_rfl; exact rfl)))
      (first | (refine hfin_r1 rfl (resl_tmp rfl (resl_tmp rfl resl_nil)) rfl rfl ?_))
      exact ⟨by rw [P1]; rfl, rfl⟩
    · subst h4
      have q3 : ¬ (p : Int) < (l.length : Int) := by omega
      have P1 : hasE l a b = false := by
        cases hh : hasE l a b with
        | false => rfl
        | true =>
          obtain ⟨u, hu⟩ := (has_pos hr).1 hh
          rw [hp] at hu
          have := (List.getElem?_eq_some_iff.1 hu).1
          omega
      (repeat (first | ((with_reducible apply hs_nilS); kernel_rfl) | ((with_reducible apply rwp_draw (id := 8) [0,1,2,3,4,5,6,7,8,9,10,11,12,13,14,15]); kernel_rfl; kernel_rfl; exact rfl) | ((with_reducible apply rwp_seq)) | ((with_reducible apply rthen_normal)) | ((with_reducible apply rwp_region)) | ((with_reducible apply hs_nil)) | ((with_reducible apply rwp_ret)) | ((with_reducible apply rblock_same)) | ((with_reducible apply rwp_exit)) | ((with_reducible apply rthen_exit)) | ((with_reducible apply rwp_cond_0); exact rfl; (first | assumption | exact decide_eq_false (by omega) | (simp only [Bool.not_eq_true', decide_eq_false_iff_not, decide_eq_true_eq, Bool.not_eq_false']; (first | done | omega)) | exact rfl)) | ((with_reducible apply hs_c); exact rfl; (repeat (first | ((with_reducible apply al_q); exact rfl) | ((with_reducible apply al_guard_b (c := false)); exact rfl; exact rfl; (first | assumption | exact decide_eq_false (by omega) | (simp only [Bool.not_eq_true', decide_eq_false_iff_not, decide_eq_true_eq, Bool.not_eq_false']; (first | done | omega)))))); (with_reducible apply al_nil))))
      (first | (refine hfin_r1 rfl (resl_tmp rfl (resl_tmp rfl resl_nil)) rfl rfl ?_))
      exact ⟨by rw [P1]; rfl, rfl⟩
end Go.Proofs.Ytaennpehlhgggaa

namespace Go.Proofs.Ytaennpehlhgggaa
open Go.RowKit
set_option linter.unusedVariables false
set_option linter.unusedSimpArgs false
theorem splice_one {l : List Ent} {p : Nat} {x y u w : Int} (hu : l[p]? = some (x, y, u)) : splice (enC l) ((p : Int).toNat * 3 + 2) [.c (.int .i64 w)] = enC (l.take p ++ (x, y, w) :: l.drop (p + 1)) := by
  have hlt := (List.getElem?_eq_some_iff.1 hu).1
  have he := (List.getElem?_eq_some_iff.1 hu).2
  have e1 : l = l.take p ++ (x, y, u) :: l.drop (p + 1) := by
    conv => lhs; rw [← List.take_append_drop p l, List.drop_eq_getElem_cons hlt, he]
  have t1 : (enC (l.take p)).length = p * 3 := by rw [enC_len, List.length_take]; omega
  rw [Int.toNat_natCast]
  conv => lhs; rw [e1]
  unfold splice
  rw [enC_append, enC_append]
  simp only [enC]
  rw [List.take_append, List.drop_append, t1, show (enC (l.take p)).take (p * 3 + 2) = enC (l.take p) from List.take_of_length_le (by omega), show (enC (l.take p)).drop (p * 3 + 2 + [AC.c (.int .i64 w)].length) = [] from List.drop_of_length_le (by rw [t1, List.length_singleton]; omega)]
  rw [show p * 3 + 2 - p * 3 = 2 by omega, show p * 3 + 2 + [AC.c (.int .i64 w)].length - p * 3 = 3 by simp; omega]
  simp
theorem nxRow_one (v : Value) (l : List Ent) (x y w : Int) : nxRow v (l ++ [(x, y, w)]) = ⟨69, 3, v, l.length + 1, enC l ++ [.c (.int .i64 x), .c (.int .i64 y), .c (.int .i64 w)]⟩ := by
  unfold nxRow; rw [← enC_one, List.length_append]; rfl
theorem rowSl_one {v : Value} {z a b : Nat} (hv : v.oneCell' = true) : (rowSl v z a b).oneCell' = true := by
  unfold rowSl
  split
  · rfl
  · exact hv
def INI (l : List Ent) (v : Value) (p : Nat) (a b c d : Int) (n : Nat) (R : Rws) (ts : List (Nat × AV)) (ms : List (Nat × List AC)) : Prop :=
  ∃ (k : Nat) (u : Value) (ki : Int), k ≤ l.length - p ∧ n = l.length - p - k ∧ ki = k ∧ u.oneCell' = true ∧ R = rowTwo (nxRow v l) (nxRow u (inL ((l.drop p).take k) a b c d)) ∧ ms = [(4, mPx a b), (5, mPx c d), (1000, [.c v])] ∧ ts = [(4, vOw 4), (5, vOw 5), (7, vC u), (23, vC (rowSl v 3 p l.length)), (24, vI ((l.length - p : Nat) : Int)), (25, vI ki)]
end Go.Proofs.Ytaennpehlhgggaa

namespace Go.Proofs.Ytaennpehlhgggaa
open Go.RowKit
set_option linter.unusedVariables false
set_option linter.unusedSimpArgs false
def CPutZ (n : Nat) : Prop := ∀ (u9 : Value) l v (x y w : Int), v.oneCell' = true → Rises l → l.length ≤ n → OCall Try.prog 31 [vP x y, vI w] [.c v, .c u9] (nxRow v l) fun r cs' r' => r = vB (!hasE l x y) ∧ ∃ v', v'.oneCell' = true ∧ cs' = [.c v', .c u9] ∧ r' = nxRow v' (putL l x y w)
def CGetZ (n : Nat) : Prop := ∀ (u9 : Value) l v (x y : Int), v.oneCell' = true → Rises l → l.length ≤ n → OCall Try.prog 32 [vP x y] [.c v, .c u9] (nxRow v l) fun r cs' r' => r = .tup [.one (.c (.int .i64 (valE l x y))), .one (.c (.bool (hasE l x y)))] ∧ cs' = [.c v, .c u9] ∧ r' = nxRow v l
def CLenZ (n : Nat) : Prop := ∀ (u9 : Value) l v, v.oneCell' = true → Rises l → l.length ≤ n → OCall Try.prog 17 [] [.c v, .c u9] (nxRow v l) fun r cs' r' => r = vI l.length ∧ cs' = [.c v, .c u9] ∧ r' = nxRow v l
def CAllZ (n : Nat) : Prop := ∀ (u9 : Value) l v, v.oneCell' = true → Rises l → l.length ≤ n → OCall2 Try.prog 35 [] [.c v, .c u9] (nxRow v l) fun r cs' r' q => cs' = [.c v, .c u9] ∧ r' = nxRow v l ∧ r = vC q.v ∧ q = nxRow q.v l
def CInZ (n : Nat) : Prop := ∀ (u9 : Value) l v (a b c d : Int), v.oneCell' = true → Rises l → l.length ≤ n → OCall2 Try.prog 38 [vP a b, vP c d] [.c v, .c u9] (nxRow v l) fun r cs' r' q => cs' = [.c v, .c u9] ∧ r' = nxRow v l ∧ r = vC q.v ∧ q = nxRow q.v (inL l a b c d)
def CCopyZ (n : Nat) : Prop := ∀ (u9 : Value) l v, v.oneCell' = true → Rises l → l.length ≤ n → OCall2 Try.prog 45 [] [.c v, .c u9] (nxRow v l) fun r cs' r' q => cs' = [.c v, .c u9] ∧ r' = nxRow v l ∧ r = .w (.agg [.c q.v]) ∧ q = nxRow q.v l ∧ q.v.oneCell' = true
set_option maxRecDepth 100000 in
set_option maxHeartbeats 4000000 in
theorem c_placeZ {u9 : Value} {l : List Ent} {v : Value} {a b : Int} (hv : v.oneCell' = true) (hr : Rises l) (hl : l.length ≤ 1000000) : OCall Try.prog 49 [vP a b] [.c v, .c u9] (nxRow v l) fun rv cs' r' => rv = .tup [.one (.c (.int .i64 (posE l a b))), .one (.c (.bool (hasE l a b)))] ∧ cs' = [.c v, .c u9] ∧ r' = nxRow v l := by
  have C1 := c_Search (v := v) (a := a) (b := b) hr hl
  refine ocall_of rfl rfl (fun v cs' r' h => by obtain ⟨rfl, rfl, rfl⟩ := h; exact ⟨rfl, rfl⟩) ?_
  refine hcall_of_body (f := 49) Try.func49 rfl (Nat.le_of_ble_eq_true rfl) (by first | exact big0 | exact big1 rfl) ?_
  (repeat (first | ((with_reducible apply rwp_drawH (id := 1) [0,1,2,3,4,5,6,7,8,9] [11]); kernel_rfl; kernel_rfl; exact rfl) | ((with_reducible apply rwp_seq)) | ((with_reducible apply rthen_normal)) | ((with_reducible apply rwp_region)) | ((with_reducible apply hs_nil)) | ((with_reducible apply hs_c); exact rfl; (repeat (first | ((with_reducible apply al_q); exact rfl) | ((with_reducible apply al_nilck); (iterate 3 exact rfl)))); (with_reducible apply al_nil))))
  refine hs_r1 0 rfl rfl rfl rfl C1 rfl rfl rfl (fun rv r' h => ?_)
  obtain ⟨rfl, rfl⟩ := h
  (repeat (first | ((with_reducible apply hs_nilS); kernel_rfl) | ((with_reducible apply rthen_normal)) | ((with_reducible apply rwp_ret)) | ((with_reducible apply hs_c); exact rfl; (repeat (first | ((with_reducible apply al_q); exact rfl))); (with_reducible apply al_nil))))
  (first | (refine hfin_o1 rfl (resl_tmp rfl (resl_tmp rfl resl_nil)) rfl rfl rfl rfl ?_))
  exact ⟨rfl, rfl, rfl⟩
set_option maxRecDepth 100000 in
set_option maxHeartbeats 4000000 in
theorem k_LenZ : CLenZ 300 := by
  intro u9 l v hv hr hl
  refine ocall_of rfl rfl (fun v cs' r' h => by obtain ⟨rfl, rfl, rfl⟩ := h; exact ⟨rfl, rfl⟩) ?_
  refine hcall_of_body (f := 17) Try.func17 rfl (Nat.le_of_ble_eq_true rfl) (by first | exact big0 | exact big1 rfl) ?_
  (repeat (first | ((with_reducible apply rwp_seq)) | ((with_reducible apply rthen_normal)) | ((with_reducible apply rwp_region)) | ((with_reducible apply hs_nil)) | ((with_reducible apply rwp_ret)) | ((with_reducible apply hs_c); exact rfl; (repeat (first | ((with_reducible apply al_q); exact rfl) | ((with_reducible apply al_nilck); (iterate 3 exact rfl)))); (with_reducible apply al_nil)) | ((with_reducible apply hs_len 0); (iterate 4 exact rfl); kernel_rfl; exact rfl)))
  (first | (refine hfin_o1 rfl (resl_tmp rfl resl_nil) rfl rfl rfl rfl ?_))
  exact ⟨rfl, rfl, rfl⟩
set_option maxRecDepth 100000 in
set_option maxHeartbeats 4000000 in
theorem k_GetZ : CGetZ 300 := by
  intro u9 l v x y hv hr hl
  have C1 := c_placeZ (u9 := u9) (v := v) (a := x) (b := y) hv hr (by omega)
  have hp := has_pos (l := l) hr (x := x) (y := y)
  refine ocall_of rfl rfl (fun v cs' r' h => by obtain ⟨rfl, rfl, rfl⟩ := h; exact ⟨rfl, rfl⟩) ?_
  cases hh : hasE l x y with
  | false =>
    rw [hh] at C1
    rw [valE_none hh]
    refine hcall_of_body (f := 32) Try.func32 rfl (Nat.le_of_ble_eq_true rfl) (by first | exact big0 | exact big1 rfl) ?_
    (repeat (first | ((with_reducible apply rwp_seq)) | ((with_reducible apply rthen_normal)) | ((with_reducible apply rwp_region)) | ((with_reducible apply hs_nil)) | ((with_reducible apply hs_c); exact rfl; (repeat (first | ((with_reducible apply al_q); exact rfl))); (with_reducible apply al_nil))))
    refine hs_h1 1000 0 rfl rfl rfl rfl C1 rfl rfl rfl rfl rfl rfl (fun r cs' r' h => ?_)
    obtain ⟨rfl, rfl, rfl⟩ := h
    (repeat (first | ((with_reducible apply rwp_seq)) | ((with_reducible apply rthen_normal)) | ((with_reducible apply rwp_region)) | ((with_reducible apply hs_nil)) | ((with_reducible apply rwp_ret)) | ((with_reducible apply rthen_ret)) | ((with_reducible apply rwp_cond_1); exact rfl; (first | assumption | exact decide_eq_true (by omega) | (simp only [Bool.not_eq_true', decide_eq_false_iff_not, decide_eq_true_eq, Bool.not_eq_false']; (first | done | omega)) | exact rfl)) | ((with_reducible apply hs_c); exact rfl; (repeat (first | ((with_reducible apply al_q); exact rfl))); (with_reducible apply al_nil))))
    (first | (refine hfin_o1 rfl (resl_tmp rfl (resl_tmp rfl resl_nil)) rfl rfl rfl rfl ?_))
    exact ⟨rfl, rfl, rfl⟩
  | true =>
    rw [hh] at C1
    obtain ⟨u, hu⟩ := hp.1 hh
    rw [(valE_pos hr hu).2]
    have hlt := (List.getElem?_eq_some_iff.1 hu).1
    generalize posE l x y = p at *
    clear hp
    have q3 : (p : Int) < (l.length : Int) := by omega
    have q5 : 0 < l.length := by omega
    have E1 : (enC l)[(p : Int).toNat * 3 + 2]? = some (.c (.int .i64 u)) := by
      have h1 := enC_at l p (x, y, u) hu
      have h2 : ((((enC l).drop (p * 3)).take 3))[2]? = some (.c (.int .i64 u)) := by rw [h1]; rfl
      rw [List.getElem?_take_of_lt (by decide), List.getElem?_drop] at h2
      exact h2
    refine hcall_of_body (f := 32) Try.func32 rfl (Nat.le_of_ble_eq_true rfl) (by first | exact big0 | exact big1 rfl) ?_
    (repeat (first | ((with_reducible apply rwp_seq)) | ((with_reducible apply rthen_normal)) | ((with_reducible apply rwp_region)) | ((with_reducible apply hs_nil)) | ((with_reducible apply hs_c); exact rfl; (repeat (first | ((with_reducible apply al_q); exact rfl))); (with_reducible apply al_nil))))
    refine hs_h1 1000 0 rfl rfl rfl rfl C1 rfl rfl rfl rfl rfl rfl (fun r cs' r' h => ?_)
    obtain ⟨rfl, rfl, rfl⟩ := h
    (repeat (first | ((with_reducible apply rwp_seq)) | ((with_reducible apply rthen_normal)) | ((with_reducible apply rwp_region)) | ((with_reducible apply hs_nil)) | ((with_reducible apply rwp_ret)) | ((with_reducible apply rwp_skip)) | ((with_reducible apply rwp_cond_0); exact rfl; (first | assumption | exact decide_eq_false (by omega) | (simp only [Bool.not_eq_true', decide_eq_false_iff_not, decide_eq_true_eq, Bool.not_eq_false']; (first | done | omega)) | exact rfl)) | ((with_reducible apply hs_c); exact rfl; (repeat (first | ((with_reducible apply al_q); exact rfl) | ((with_reducible apply al_nilck); (iterate 3 exact rfl)))); (with_reducible apply al_nil)) | ((with_reducible apply hs_idx 0); (iterate 4 exact rfl); (first | omega); (first | assumption | omega); exact rfl; kernel_rfl; exact rfl) | ((with_reducible apply hs_fld 0); (iterate 3 exact rfl); (first | assumption | omega); kernel_rfl; exact rfl) | ((with_reducible apply hs_load1 0); (iterate 3 exact rfl); (first | assumption | omega); assumption; exact rfl; kernel_rfl; exact rfl)))
    (first | (refine hfin_o1 rfl (resl_tmp rfl (resl_tmp rfl resl_nil)) rfl rfl rfl rfl ?_))
    exact ⟨rfl, rfl, rfl⟩
set_option maxRecDepth 100000 in
set_option maxHeartbeats 4000000 in
theorem k_AllZ' (u9 : Value) (l : List Ent) (v : Value) (hv : v.oneCell' = true) (hr : Rises l) (hl : l.length ≤ 300) : OCall2 Try.prog 35 [] [.c v, .c u9] (nxRow v l) fun r cs' r' q => cs' = [.c v, .c u9] ∧ r' = nxRow v l ∧ r = vC q.v ∧ q = nxRow q.v l ∧ q.v.oneCell' = true := by
  have C1 := c_Clone (l := l) (v := v) (by omega)
  refine ocall2_of rfl rfl (fun v cs' r' q h => by obtain ⟨rfl, rfl, rfl, e, _⟩ := h; exact ⟨rfl, rfl, by rw [e]; exact Nat.zero_lt_succ _⟩) ?_
  refine hcall_of_body (f := 35) Try.func35 rfl (Nat.le_of_ble_eq_true rfl) (by first | exact big0 | exact big1 rfl) ?_
  (repeat (first | ((with_reducible apply rwp_seq)) | ((with_reducible apply rthen_normal)) | ((with_reducible apply rwp_region)) | ((with_reducible apply hs_nil)) | ((with_reducible apply hs_c); exact rfl; (repeat (first | ((with_reducible apply al_q); exact rfl) | ((with_reducible apply al_nilck); (iterate 3 exact rfl)))); (with_reducible apply al_nil))))
  refine hs_r2 0 1 (by decide) rfl rfl rfl rfl C1 rfl rfl rfl (fun rv q h => ?_)
  obtain ⟨v', hv', rfl, rfl⟩ := h
  (repeat (first | ((with_reducible apply rthen_normal)) | ((with_reducible apply hs_nil)) | ((with_reducible apply rwp_ret)) | ((with_reducible apply hs_c); exact rfl; (repeat (first | ((with_reducible apply al_q); exact rfl))); (with_reducible apply al_nil))))
  (first | (refine hfin_o2 rfl (resl_tmp rfl resl_nil) rfl rfl rfl rfl rfl (Nat.zero_lt_succ _) ?_))
  exact ⟨rfl, rfl, rfl, rfl, hv'⟩
theorem k_AllZ : CAllZ 300 := by
  intro u9 l v hv hr hl k i j hij
  refine ⟨fun U ρ W vs hH hown hvs => (((k_AllZ' u9 l v hv hr hl) k i j hij).call U ρ W vs hH hown hvs).mono ?_⟩
  rintro e W' ⟨v1, r1, m', R', ρ', U', q0, ⟨cs', r', q, e1, e2, ez, e3, e4, e5, e6, _⟩, qq⟩
  exact ⟨v1, r1, m', R', ρ', U', q0, ⟨cs', r', q, e1, e2, ez, e3, e4, e5, e6⟩, qq⟩
set_option maxRecDepth 100000 in
set_option maxHeartbeats 4000000 in
theorem k_CopyZ : CCopyZ 300 := by
  intro u9 l v hv hr hl
  have C1 := k_AllZ' u9 l v hv hr hl
  refine ocall2_of rfl rfl (fun v cs' r' q h => by obtain ⟨rfl, rfl, rfl, e, _⟩ := h; exact ⟨rfl, rfl, by rw [e]; exact Nat.zero_lt_succ _⟩) ?_
  refine hcall_of_body (f := 45) Try.func45 rfl (Nat.le_of_ble_eq_true rfl) (by first | exact big0 | exact big1 rfl) ?_
  (repeat (first | ((with_reducible apply rwp_seq)) | ((with_reducible apply rthen_normal)) | ((with_reducible apply rwp_region)) | ((with_reducible apply hs_nil)) | ((with_reducible apply hs_c); exact rfl; (repeat (first | ((with_reducible apply al_q); exact rfl))); (with_reducible apply al_nil))))
  refine hs_h2 1000 0 1 (by decide) rfl rfl rfl rfl C1 rfl rfl rfl rfl rfl rfl (fun r cs' r' q h => ?_)
  obtain ⟨rfl, rfl, rfl, hq, hqc⟩ := h
  generalize hw : q.v = w at *
  subst hq
  clear hw
  (repeat (first | ((with_reducible apply rthen_normal)) | ((with_reducible apply hs_nil)) | ((with_reducible apply rwp_ret)) | ((with_reducible apply hs_c); exact rfl; (repeat (first | ((with_reducible apply al_q); exact rfl))); (with_reducible apply al_nil))))
  (first | (refine hfin_o2 rfl (resl_agg rfl rfl rfl resl_nil) rfl rfl rfl rfl rfl (Nat.zero_lt_succ _) ?_) | (refine hfin_o2 rfl (resl_one rfl rfl rfl resl_nil) rfl rfl rfl rfl rfl (Nat.zero_lt_succ _) ?_))
  exact ⟨rfl, rfl, rfl, rfl, hqc⟩
set_option maxRecDepth 100000 in
set_option maxHeartbeats 4000000 in
theorem k_PutZ : CPutZ 300 := by
  intro u9 l v x y w hv hr hl
  have C1 := c_placeZ (u9 := u9) (v := v) (a := x) (b := y) hv hr (by omega)
  have hp := has_pos (l := l) hr (x := x) (y := y)
  have hpl := posE_len l x y
  refine ocall_of rfl rfl (fun v cs' r' h => by obtain ⟨rfl, v', hv', rfl, rfl⟩ := h; exact ⟨rfl, rfl⟩) ?_
  cases hh : hasE l x y with
  | false =>
    rw [hh] at C1
    rw [putL_new hr hh]
    have C2 := c_Insert (l := l) (v := v) (i := posE l x y) (x := x) (y := y) (w := w) hpl (by omega)
    generalize posE l x y = p at *
    clear hp
    refine hcall_of_body (f := 31) Try.func31 rfl (Nat.le_of_ble_eq_true rfl) (by first | exact big0 | exact big1 rfl) ?_
    (repeat (first | ((with_reducible apply rwp_seq)) | ((with_reducible apply rthen_normal)) | ((with_reducible apply rwp_region)) | ((with_reducible apply hs_nil)) | ((with_reducible apply hs_c); exact rfl; (repeat (first | ((with_reducible apply al_q); exact rfl))); (with_reducible apply al_nil))))
    refine hs_h1 1000 0 rfl rfl rfl rfl C1 rfl rfl rfl rfl rfl rfl (fun r cs' r' h => ?_)
    obtain ⟨rfl, rfl, rfl⟩ := h
    (repeat (first | ((with_reducible apply rwp_drawH (id := 5) [0,1,2,3,4,5,6,7,8,9,10,11,12,13] [34]); kernel_rfl; kernel_rfl; exact rfl) | ((with_reducible apply rwp_seq)) | ((with_reducible apply rthen_normal)) | ((with_reducible apply rwp_region)) | ((with_reducible apply hs_nil)) | ((with_reducible apply rwp_skip)) | ((with_reducible apply rwp_cond_0); exact rfl; (first | assumption | exact decide_eq_false (by omega) | (simp only [Bool.not_eq_true', decide_eq_false_iff_not, decide_eq_true_eq, Bool.not_eq_false']; (first | done | omega)) | exact rfl)) | ((with_reducible apply hs_c); exact rfl; (repeat (first | ((with_reducible apply al_q); exact rfl) | ((with_reducible apply al_nilck); (iterate 3 exact rfl)) | ((with_reducible apply al_bslice); (iterate 10 exact rfl)))); (with_reducible apply al_nil))))
    refine hs_r1 0 rfl rfl rfl rfl C2 rfl rfl rfl (fun rv r' h => ?_)
    obtain ⟨v', hv', rfl, rfl⟩ := h
    (repeat (first | ((with_reducible apply hs_nilS); kernel_rfl) | ((with_reducible apply rwp_seq)) | ((with_reducible apply rthen_normal)) | ((with_reducible apply rwp_region)) | ((with_reducible apply hs_nil)) | ((with_reducible apply rwp_ret)) | ((with_reducible apply hs_c); exact rfl; (repeat (first | ((with_reducible apply al_q); exact rfl) | ((with_reducible apply al_nilck); (iterate 3 exact rfl)))); (with_reducible apply al_nil))))
    (first | (refine hfin_o1 rfl (resl_tmp rfl resl_nil) rfl rfl rfl rfl ?_))
    exact ⟨rfl, v', hv', rfl, rfl⟩
  | true =>
    rw [hh] at C1
    obtain ⟨u, hu⟩ := hp.1 hh
    rw [putL_has hr hu]
    have hlt := (List.getElem?_eq_some_iff.1 hu).1
    generalize posE l x y = p at *
    clear hp
    have q3 : (p : Int) < (l.length : Int) := by omega
    have q5 : 0 < l.length := by omega
    refine hcall_of_body (f := 31) Try.func31 rfl (Nat.le_of_ble_eq_true rfl) (by first | exact big0 | exact big1 rfl) ?_
    (repeat (first | ((with_reducible apply rwp_seq)) | ((with_reducible apply rthen_normal)) | ((with_reducible apply rwp_region)) | ((with_reducible apply hs_nil)) | ((with_reducible apply hs_c); exact rfl; (repeat (first | ((with_reducible apply al_q); exact rfl))); (with_reducible apply al_nil))))
    refine hs_h1 1000 0 rfl rfl rfl rfl C1 rfl rfl rfl rfl rfl rfl (fun r cs' r' h => ?_)
    obtain ⟨rfl, rfl, rfl⟩ := h
    (repeat (first | ((with_reducible apply rwp_seq)) | ((with_reducible apply rthen_normal)) | ((with_reducible apply rwp_region)) | ((with_reducible apply hs_nil)) | ((with_reducible apply rwp_cond_1); exact rfl; (first | assumption | exact decide_eq_true (by omega) | (simp only [Bool.not_eq_true', decide_eq_false_iff_not, decide_eq_true_eq, Bool.not_eq_false']; (first | done | omega)) | exact rfl)) | ((with_reducible apply hs_c); exact rfl; (repeat (first | ((with_reducible apply al_q); exact rfl) | ((with_reducible apply al_nilck); (iterate 3 exact rfl)))); (with_reducible apply al_nil)) | ((with_reducible apply hs_idx 0); (iterate 4 exact rfl); (first | omega); (first | assumption | omega); exact rfl; kernel_rfl; exact rfl) | ((with_reducible apply hs_fld 0); (iterate 3 exact rfl); (first | assumption | omega); kernel_rfl; exact rfl)))
    refine hs_store 0 rfl rfl rfl rfl q5 rfl rfl ?_ rfl ?_
    · show (p : Int).toNat * 3 + 2 + 1 ≤ (enC l).length
      rw [enC_len]; omega
    · have e1 := splice_one (w := w) hu
      have e2 : (l.take p ++ (x, y, w) :: l.drop (p + 1)).length = l.length := by
        rw [List.length_append, List.length_cons, List.length_take, List.length_drop]; omega
      have e3 : (⟨69, 3, v, l.length, splice (enC l) ((p : Int).toNat * 3 + 2) [.c (.int .i64 w)]⟩ : HRow) = nxRow v (l.take p ++ (x, y, w) :: l.drop (p + 1)) := by
        rw [e1]; unfold nxRow; rw [e2]
      (repeat (first | ((with_reducible apply rwp_seq)) | ((with_reducible apply rthen_normal)) | ((with_reducible apply rwp_region)) | ((with_reducible apply hs_nil)) | ((with_reducible apply rwp_ret)) | ((with_reducible apply rthen_ret)) | ((with_reducible apply hs_c); exact rfl; (repeat (first | ((with_reducible apply al_q); exact rfl))); (with_reducible apply al_nil))))
      (first | (refine hfin_o1 rfl (resl_tmp rfl resl_nil) rfl rfl rfl rfl ?_))
      exact ⟨rfl, v, hv, rfl, e3⟩
def INIZ (u9 : Value) (l : List Ent) (v : Value) (p : Nat) (a b c d : Int) (n : Nat) (R : Rws) (ts : List (Nat × AV)) (ms : List (Nat × List AC)) : Prop :=
  ∃ (k : Nat) (u : Value) (ki : Int), k ≤ l.length - p ∧ n = l.length - p - k ∧ ki = k ∧ u.oneCell' = true ∧ R = rowTwo (nxRow v l) (nxRow u (inL ((l.drop p).take k) a b c d)) ∧ ms = [(4, mPx a b), (5, mPx c d), (1000, [.c v, .c u9])] ∧ ts = [(4, vOw 4), (5, vOw 5), (7, vC u), (23, vC (rowSl v 3 p l.length)), (24, vI ((l.length - p : Nat) : Int)), (25, vI ki)]
set_option maxRecDepth 100000 in
set_option maxHeartbeats 8000000 in
theorem k_InZ : CInZ 300 := by
  intro u9 l v a b c d hv hr hl
  have C1 := c_placeZ (u9 := u9) (v := v) (a := a) (b := b) hv hr (by omega)
  refine ocall2_of rfl rfl (fun v cs' r' q h => by obtain ⟨rfl, rfl, rfl, e⟩ := h; exact ⟨rfl, rfl, by rw [e]; exact Nat.zero_lt_succ _⟩) ?_
  have hpl := posE_len l a b
  have hlow := fun k e => drop_low (l := l) hr (a := a) (b := b) (k := k) (e := e)
  have hdr : Rises (l.drop (posE l a b)) := hr.drop _
  rw [inL_drop hr a b c d]
  generalize posE l a b = p at *
  have hone := rowSl_one (v := v) (z := 3) (a := p) (b := l.length) hv
  generalize hh : hasE l a b = hb at *
  clear hh hr
  refine hcall_of_body (f := 38) Try.func38 rfl (Nat.le_of_ble_eq_true rfl) (by first | exact big0 | exact big1 rfl) ?_
  refine rwp_nil 1 69 3 rfl ?_
  (repeat (first | ((with_reducible apply rwp_seq)) | ((with_reducible apply rthen_normal)) | ((with_reducible apply rwp_region)) | ((with_reducible apply hs_nil)) | ((with_reducible apply hs_c); exact rfl; (repeat (first | ((with_reducible apply al_q); exact rfl))); (with_reducible apply al_nil))))
  refine hs_h1 1000 0 rfl rfl rfl rfl C1 rfl rfl rfl rfl rfl rfl (fun r cs' r' h => ?_)
  obtain ⟨rfl, rfl, rfl⟩ := h
  (repeat (first | ((with_reducible apply rwp_seq)) | ((with_reducible apply rthen_normal)) | ((with_reducible apply rwp_region)) | ((with_reducible apply hs_nil)) | ((with_reducible apply rwp_block)) | ((with_reducible apply hs_c); exact rfl; (repeat (first | ((with_reducible apply al_q); exact rfl) | ((with_reducible apply al_nilck); (iterate 3 exact rfl)))); (with_reducible apply al_nil)) | ((with_reducible apply hs_slL 0); (iterate 6 exact rfl); (first | assumption | omega); (first | assumption | exact rfl); kernel_rfl; exact rfl) | ((with_reducible apply hs_lenS 0); (iterate 4 exact rfl); kernel_rfl; exact rfl)))
  refine rwp_loopL 55 (INIZ u9 l v p a b c d) (l.length - p) (rowTwo (nxRow v l) (nxRow (.slice none 0 0) [])) _ [(4, mPx a b), (5, mPx c d), (1000, [.c v, .c u9])] ⟨0, .slice none 0 0, 0, Nat.zero_le _, rfl, rfl, rfl, rfl, rfl, rfl⟩ (rowTwo_le rfl rfl) rfl ⟨rfl, rfl, rfl, rfl, rfl, rfl, trivial⟩ ⟨rfl, rfl, rfl, trivial⟩ rfl ?_
  rintro n R ts ms ⟨k, u, ki, hk, rfl, hki, hu, rfl, rfl, rfl⟩ hok
  clear hok C1
  have hil := inL_len ((l.drop p).take k) a b c d
  have hil2 : ((l.drop p).take k).length ≤ k := by simp; omega
  by_cases hq : k < l.length - p
  · have q2 : ki < ((l.length - p : Nat) : Int) := by omega
    have q3 : 0 ≤ ki := by omega
    have q5 : 0 < l.length := by omega
    have hkd : k < (l.drop p).length := by rw [List.length_drop]; exact hq
    obtain ⟨x, y, w, g1⟩ : ∃ x y w, (l.drop p)[k]? = some (x, y, w) := ⟨_, _, _, List.getElem?_eq_getElem hkd⟩
    have hax : a ≤ x := hlow k _ g1
    have E1 : (p + ki.toNat) * 3 + 3 ≤ (enC l).length ∧ ((enC l).drop ((p + ki.toNat) * 3)).take 3 = [.c (.int .i64 x), .c (.int .i64 y), .c (.int .i64 w)] := by
      have hkk : ki.toNat = k := by omega
      rw [hkk]
      refine ⟨by rw [enC_len]; omega, enC_at l (p + k) (x, y, w) ?_⟩
      rw [List.getElem?_drop] at g1; exact g1
    have hstop : c < x → inL (l.drop p) a b c d = inL ((l.drop p).take k) a b c d := fun h => inL_stop hdr g1 h
    have hstep : x ≤ c → inL ((l.drop p).take (k + 1)) a b c d = inL ((l.drop p).take k) a b c d ++ if b ≤ y ∧ y ≤ d then [(x, y, w)] else [] := fun h => inL_step g1 hax h
    generalize hm : l.drop p = m at *
    clear hlow g1 hdr hax
    replace hm := Lib.hid hm
    by_cases h1 : c < x
    · rw [hstop h1]
      clear hstop hstep
      (repeat (first | ((with_reducible apply rwp_seq)) | ((with_reducible apply rthen_normal)) | ((with_reducible apply rwp_region)) | ((with_reducible apply hs_nil)) | ((with_reducible apply rwp_ret)) | ((with_reducible apply rwp_skip)) | ((with_reducible apply rwp_block)) | ((with_reducible apply rblock_same)) | ((with_reducible apply rwp_exit)) | ((with_reducible apply rthen_exit)) | ((with_reducible apply rblock_ne); exact rfl) | ((with_reducible apply rwp_cond_1); exact rfl; (first | assumption | exact decide_eq_true (by omega) | (simp only [Bool.not_eq_true', decide_eq_false_iff_not, decide_eq_true_eq, Bool.not_eq_false']; (first | done | omega)) | exact rfl)) | ((with_reducible apply hs_c); exact rfl; (repeat (first | ((with_reducible apply al_q); exact rfl))); (with_reducible apply al_nil)) | ((with_reducible apply hs_idxS 0); (iterate 5 exact rfl); (first | assumption | omega); (first | assumption | omega); (first | exact Nat.le_refl _ | assumption); kernel_rfl; exact rfl) | ((with_reducible apply hs_loadN 0); (iterate 3 exact rfl); (first | assumption | omega); assumption; exact rfl; kernel_rfl; exact rfl)))
      (first | (refine hfin_o2 rfl (resl_tmp rfl resl_nil) rfl rfl rfl rfl rfl (Nat.zero_lt_succ _) ?_))
      exact ⟨rfl, rfl, rfl, rfl⟩
    · have hs := hstep (by omega)
      clear hstop hstep
      have h1' : ¬ x > c := h1
      by_cases h2 : b ≤ y
      · by_cases h3 : y ≤ d
        · rw [if_pos ⟨h2, h3⟩] at hs
          (repeat (first | ((with_reducible apply rwp_seq)) | ((with_reducible apply rthen_normal)) | ((with_reducible apply rwp_region)) | ((with_reducible apply hs_nil)) | ((with_reducible apply rwp_skip)) | ((with_reducible apply rwp_block)) | ((with_reducible apply rwp_cond_1); exact rfl; (first | assumption | exact decide_eq_true (by omega) | (simp only [Bool.not_eq_true', decide_eq_false_iff_not, decide_eq_true_eq, Bool.not_eq_false']; (first | done | omega)) | exact rfl)) | ((with_reducible apply rwp_cond_0); exact rfl; (first | assumption | exact decide_eq_false (by omega) | (simp only [Bool.not_eq_true', decide_eq_false_iff_not, decide_eq_true_eq, Bool.not_eq_false']; (first | done | omega)) | exact rfl)) | ((with_reducible apply hs_c); exact rfl; (repeat (first | ((with_reducible apply al_q); exact rfl) | ((with_reducible apply al_bslice); (iterate 10 exact rfl)) | ((with_reducible apply al_guard_b (c := true)); exact rfl; exact rfl; (first | assumption | exact decide_eq_true (by omega) | (simp only [Bool.not_eq_true', decide_eq_false_iff_not, decide_eq_true_eq, Bool.not_eq_false']; (first | done | omega)))))); (with_reducible apply al_nil)) | ((with_reducible apply hs_idxS 0); (iterate 5 exact rfl); (first | assumption | omega); (first | assumption | omega); (first | exact Nat.le_refl _ | assumption); kernel_rfl; exact rfl) | ((with_reducible apply hs_loadN 0); (iterate 3 exact rfl); (first | assumption | omega); assumption; exact rfl; kernel_rfl; exact rfl)))
          refine hs_app0 1 rfl rfl rfl rfl ?q1 ?q2 rfl rfl (fun v' hv' => ?_)
          case q1 => exact le_maxLen (by show (inL (m.take k) a b c d).length + 1 ≤ 1000000; omega)
          case q2 => show ((inL (m.take k) a b c d).length + 1) * 24 ≤ 140737488355328; omega
          (repeat (first | ((with_reducible apply rthen_normal)) | ((with_reducible apply rwp_region)) | ((with_reducible apply hs_nil)) | ((with_reducible apply rblock_normal)) | ((with_reducible apply hs_c); exact rfl; (repeat (first | ((with_reducible apply al_q); exact rfl) | ((with_reducible apply al_add); (iterate 3 exact rfl); (first | exact i64_wrap (by omega) | assumption | rfl); exact rfl))); (with_reducible apply al_nil))))
          refine ⟨l.length - p - (k + 1), rowTwo (nxRow v l) (nxRow v' (inL (m.take (k + 1)) a b c d)), _, [(4, mPx a b), (5, mPx c d), (1000, [.c v, .c u9])], by omega, ⟨k + 1, v', ki + 1, by omega, rfl, by omega, hv', by rw [hm.out], rfl, rfl⟩, ?_, rfl, ⟨rfl, rfl, rfl, rfl, rfl, rfl, trivial⟩, ⟨rfl, rfl, rfl, trivial⟩, rfl⟩
          rw [hs, nxRow_one]
          exact rowTwo_le rfl rfl
        · rw [if_neg (fun h => h3 h.2), List.append_nil] at hs
          (repeat (first | ((with_reducible apply rwp_seq)) | ((with_reducible apply rthen_normal)) | ((with_reducible apply rwp_region)) | ((with_reducible apply hs_nil)) | ((with_reducible apply rwp_skip)) | ((with_reducible apply rwp_block)) | ((with_reducible apply rblock_normal)) | ((with_reducible apply rwp_cond_1); exact rfl; (first | assumption | exact decide_eq_true (by omega) | (simp only [Bool.not_eq_true', decide_eq_false_iff_not, decide_eq_true_eq, Bool.not_eq_false']; (first | done | omega)) | exact rfl)) | ((with_reducible apply rwp_cond_0); exact rfl; (first | assumption | exact decide_eq_false (by omega) | (simp only [Bool.not_eq_true', decide_eq_false_iff_not, decide_eq_true_eq, Bool.not_eq_false']; (first | done | omega)) | exact rfl)) | ((with_reducible apply hs_c); exact rfl; (repeat (first | ((with_reducible apply al_q); exact rfl) | ((with_reducible apply al_add); (iterate 3 exact rfl); (first | exact i64_wrap (by omega) | assumption | rfl); exact rfl) | ((with_reducible apply al_guard_b (c := true)); exact rfl; exact rfl; (first | assumption | exact decide_eq_true (by omega) | (simp only [Bool.not_eq_true', decide_eq_false_iff_not, decide_eq_true_eq, Bool.not_eq_false']; (first | done | omega)))))); (with_reducible apply al_nil)) | ((with_reducible apply hs_idxS 0); (iterate 5 exact rfl); (first | assumption | omega); (first | assumption | omega); (first | exact Nat.le_refl _ | assumption); kernel_rfl; exact rfl) | ((with_reducible apply hs_loadN 0); (iterate 3 exact rfl); (first | assumption | omega); assumption; exact rfl; kernel_rfl; exact rfl)))
          refine ⟨l.length - p - (k + 1), rowTwo (nxRow v l) (nxRow u (inL (m.take (k + 1)) a b c d)), _, [(4, mPx a b), (5, mPx c d), (1000, [.c v, .c u9])], by omega, ⟨k + 1, u, ki + 1, by omega, rfl, by omega, hu, by rw [hm.out], rfl, rfl⟩, ?_, rfl, ⟨rfl, rfl, rfl, rfl, rfl, rfl, trivial⟩, ⟨rfl, rfl, rfl, trivial⟩, rfl⟩
          rw [hs]
          exact rowTwo_le rfl rfl
      · rw [if_neg (fun h => h2 h.1), List.append_nil] at hs
        (repeat (first | ((with_reducible apply rwp_seq)) | ((with_reducible apply rthen_normal)) | ((with_reducible apply rwp_region)) | ((with_reducible apply hs_nil)) | ((with_reducible apply rwp_skip)) | ((with_reducible apply rwp_block)) | ((with_reducible apply rblock_normal)) | ((with_reducible apply rwp_cond_1); exact rfl; (first | assumption | exact decide_eq_true (by omega) | (simp only [Bool.not_eq_true', decide_eq_false_iff_not, decide_eq_true_eq, Bool.not_eq_false']; (first | done | omega)) | exact rfl)) | ((with_reducible apply rwp_cond_0); exact rfl; (first | assumption | exact decide_eq_false (by omega) | (simp only [Bool.not_eq_true', decide_eq_false_iff_not, decide_eq_true_eq, Bool.not_eq_false']; (first | done | omega)) | exact rfl)) | ((with_reducible apply hs_c); exact rfl; (repeat (first | ((with_reducible apply al_q); exact rfl) | ((with_reducible apply al_add); (iterate 3 exact rfl); (first | exact i64_wrap (by omega) | assumption | rfl); exact rfl) | ((with_reducible apply al_guard_b (c := false)); exact rfl; exact rfl; (first | assumption | exact decide_eq_false (by omega) | (simp only [Bool.not_eq_true', decide_eq_false_iff_not, decide_eq_true_eq, Bool.not_eq_false']; (first | done | omega)))))); (with_reducible apply al_nil)) | ((with_reducible apply hs_idxS 0); (iterate 5 exact rfl); (first | assumption | omega); (first | assumption | omega); (first | exact Nat.le_refl _ | assumption); kernel_rfl; exact rfl) | ((with_reducible apply hs_loadN 0); (iterate 3 exact rfl); (first | assumption | omega); assumption; exact rfl; kernel_rfl; exact rfl)))
        refine ⟨l.length - p - (k + 1), rowTwo (nxRow v l) (nxRow u (inL (m.take (k + 1)) a b c d)), _, [(4, mPx a b), (5, mPx c d), (1000, [.c v, .c u9])], by omega, ⟨k + 1, u, ki + 1, by omega, rfl, by omega, hu, by rw [hm.out], rfl, rfl⟩, ?_, rfl, ⟨rfl, rfl, rfl, rfl, rfl, rfl, trivial⟩, ⟨rfl, rfl, rfl, trivial⟩, rfl⟩
        rw [hs]
        exact rowTwo_le rfl rfl
  · have q2 : ¬ ki < ((l.length - p : Nat) : Int) := by omega
    have e0 : (l.drop p).take k = l.drop p := List.take_of_length_le (by rw [List.length_drop]; omega)
    rw [e0]
    (repeat (first | ((with_reducible apply rwp_seq)) | ((with_reducible apply rthen_normal)) | ((with_reducible apply rwp_region)) | ((with_reducible apply hs_nil)) | ((with_reducible apply rwp_ret)) | ((with_reducible apply rblock_same)) | ((with_reducible apply rwp_exit)) | ((with_reducible apply rthen_exit)) | ((with_reducible apply rwp_cond_0); exact rfl; (first | assumption | exact decide_eq_false (by omega) | (simp only [Bool.not_eq_true', decide_eq_false_iff_not, decide_eq_true_eq, Bool.not_eq_false']; (first | done | omega)) | exact rfl)) | ((with_reducible apply hs_c); exact rfl; (repeat (first | ((with_reducible apply al_q); exact rfl))); (with_reducible apply al_nil))))
    (first | (refine hfin_o2 rfl (resl_tmp rfl resl_nil) rfl rfl rfl rfl rfl (Nat.zero_lt_succ _) ?_))
    exact ⟨rfl, rfl, rfl, rfl⟩
end Go.Proofs.Ytaennpehlhgggaa

namespace Go.Proofs.Ytaennpehlhgggaa
open Go.RowKit
set_option linter.unusedVariables false
set_option linter.unusedSimpArgs false
abbrev setC (v : Value) (r : Int) : List AC := [.c v, .c (.int .i64 r)]
/-- what a set is: its block, its index' row. -/
def SetI : SIT := fun r L p S => ∃ (ρ : Nat → Nat) (v : Value) (es : List Ent), p = ptrV (ρ 1000) ∧ v.oneCell' = true ∧ IdxOf L es ∧ S = thingSP ρ (mem1 1000 (setC v r)) (row1 0 (nxRow v es)) 1000
theorem enC_plain : ∀ l, (enC l).all AC.plainB = true
  | [] => rfl
  | p :: l => by
    have := enC_plain l
    simp only [enC, List.all_cons, this]; rfl
theorem set_plain (v : Value) (r : Int) (es : List Ent) : plainM (mem1 1000 (setC v r)) (row1 0 (nxRow v es)) := by
  refine ⟨fun k cs h => ?_, fun i q h => ?_⟩
  · obtain ⟨rfl, rfl⟩ := mem1_iff h; rfl
  · obtain ⟨rfl, rfl⟩ := row1_iff h; exact ⟨Nat.zero_lt_succ _, enC_plain es⟩
theorem mem1_some (k : Nat) (cs : List AC) : ∃ ds, mem1 k cs k = some ds := ⟨cs, by unfold mem1; exact upd_same _ _ _⟩
theorem ptr_b {b c : Nat} (h : ptrV b = ptrV c) : b = c := by cases h; rfl
theorem upd_row10 {r q : HRow} : upd (row1 0 r) 0 q = row1 0 q := by
  funext i
  unfold row1
  by_cases e : i = 0
  · subst e; rw [upd_same, upd_same]
  · rw [upd_ne _ _ e, upd_ne _ _ e, upd_ne _ _ e]
set_option maxRecDepth 100000 in
set_option maxHeartbeats 4000000 in
theorem k_Room9 : CRoom9 SetI := by
  intro r L b S h hl
  obtain ⟨ρ, v, es, hp, hv, hI, rfl⟩ := h
  obtain rfl := ptr_b hp
  refine th_of (mem1_some _ _) rfl (Post := fun w m1 R1 => w = vI r ∧ m1 = mem1 1000 (setC v r) ∧ R1 = row1 0 (nxRow v es)) ?_ (fun w m1 R1 h => ?_)
  · refine hcall_of_body (f := 12) Try.func12 rfl (Nat.le_of_ble_eq_true rfl) (by first | exact big0 | exact big1 rfl) ?_
    (repeat (first | ((with_reducible apply rwp_seq)) | ((with_reducible apply rthen_normal)) | ((with_reducible apply rwp_region)) | ((with_reducible apply hs_nil)) | ((with_reducible apply rwp_ret)) | ((with_reducible apply hs_c); exact rfl; (repeat (first | ((with_reducible apply al_q); exact rfl) | ((with_reducible apply al_nilck); (iterate 3 exact rfl)))); (with_reducible apply al_nil))))
    (first | (refine hfin_g rfl (resl_tmp rfl resl_nil) rfl (RLe.refl _) rfl rfl (fun i r h => ⟨r, h⟩) ?_))
    exact ⟨rfl, rfl, rfl⟩
  · obtain ⟨rfl, rfl, rfl⟩ := h
    exact ⟨rfl, set_plain _ _ _, fun ρ1 hρ => ⟨rfl, ρ1, v, es, by rw [hρ], hv, hI, rfl⟩⟩
set_option maxRecDepth 100000 in
set_option maxHeartbeats 4000000 in
theorem k_New9 : CNew9 SetI := by
  intro n
  refine th_new (Post := fun w m1 R1 => w = .w (.one (.own 7 0)) ∧ m1 = mem1 7 (setC (.slice none 0 0) (room9 n)) ∧ R1 = row1 0 (nxRow (.slice none 0 0) [])) ?_ (fun w m1 R1 h => ?_)
  · have e : room9 n = if 1024 < if 1 > n then 1 else n then 1024 else if 1 > n then 1 else n := by unfold room9; (repeat split) <;> omega
    rw [e]
    refine hcall_of_body (f := 10) Try.func10 rfl (Nat.le_of_ble_eq_true rfl) (by first | exact big0 | exact big1 rfl) ?_
    refine rwp_nil 0 69 3 rfl ?_
    (repeat (first | ((with_reducible apply rwp_seq)) | ((with_reducible apply rthen_normal)) | ((with_reducible apply rwp_region)) | ((with_reducible apply hs_nil)) | ((with_reducible apply rwp_ret)) | ((with_reducible apply hs_c); exact rfl; (repeat (first | ((with_reducible apply al_q); exact rfl) | ((with_reducible apply al_min); (iterate 4 exact rfl)) | ((with_reducible apply al_max); (iterate 4 exact rfl)))); (with_reducible apply al_nil))))
    (first | (refine hfin_gn 7 rfl (resl_tmp rfl resl_nil) rfl (RLe.refl _) rfl rfl ?_))
    exact ⟨rfl, rfl, rfl⟩
  · obtain ⟨rfl, rfl, rfl⟩ := h
    refine ⟨7, rfl, ⟨fun k cs h => ?_, (set_plain (.slice none 0 0) 0 []).2⟩, fun ρ1 => ⟨ρ1 7, rfl, fun j => ρ1 (swp 1000 7 j), .slice none 0 0, [], rfl, rfl, .nil, ?_⟩⟩
    · obtain ⟨rfl, rfl⟩ := mem1_iff h; rfl
    · have h1 := thingSP_ren (swp_swp 1000 7) (σ := fun j => j) (τ := fun j => j) (fun _ => rfl) (fun _ => rfl) (ρ := ρ1) (m := mem1 1000 (setC (.slice none 0 0) (room9 n))) (R := row1 0 (nxRow (.slice none 0 0) [])) (k := 1000)
      rw [mem1_ren rfl] at h1
      exact h1
set_option maxRecDepth 100000 in
set_option maxHeartbeats 4000000 in
theorem k_Len9 : CLen9 SetI := by
  intro r L b S h hl
  obtain ⟨ρ, v, es, hp, hv, hI, rfl⟩ := h
  obtain rfl := ptr_b hp
  refine th_of (mem1_some _ _) rfl (Post := fun w m1 R1 => w = vI L.length ∧ m1 = mem1 1000 (setC v r) ∧ R1 = row1 0 (nxRow v es)) ?_ (fun w m1 R1 h => ?_)
  · rw [← hI.len]
    refine hcall_of_body (f := 17) Try.func17 rfl (Nat.le_of_ble_eq_true rfl) (by first | exact big0 | exact big1 rfl) ?_
    (repeat (first | ((with_reducible apply rwp_seq)) | ((with_reducible apply rthen_normal)) | ((with_reducible apply rwp_region)) | ((with_reducible apply hs_nil)) | ((with_reducible apply rwp_ret)) | ((with_reducible apply hs_c); exact rfl; (repeat (first | ((with_reducible apply al_q); exact rfl) | ((with_reducible apply al_nilck); (iterate 3 exact rfl)))); (with_reducible apply al_nil)) | ((with_reducible apply hs_len 0); (iterate 4 exact rfl); kernel_rfl; exact rfl)))
    (first | (refine hfin_g rfl (resl_tmp rfl resl_nil) rfl (RLe.refl _) rfl rfl (fun i r h => ⟨r, h⟩) ?_))
    exact ⟨rfl, rfl, rfl⟩
  · obtain ⟨rfl, rfl, rfl⟩ := h
    exact ⟨rfl, set_plain _ _ _, fun ρ1 hρ => ⟨rfl, ρ1, v, es, by rw [hρ], hv, hI, rfl⟩⟩
set_option maxRecDepth 100000 in
set_option maxHeartbeats 4000000 in
/-- Number, of a set's block and row. -/
theorem o_Num9 {r : Int} {L : List Px} {v : Value} {es : List Ent} (x y : Int) (hv : v.oneCell' = true) (hI : IdxOf L es) (hl : L.length ≤ 300) : OCall Try.prog 15 [vP x y] (setC v r) (nxRow v es) fun w cs' r' => w = .tup [.one (.c (.int .i64 (valE es x y))), .one (.c (.bool (hasE es x y)))] ∧ cs' = setC v r ∧ r' = nxRow v es := by
  have C1 := k_GetZ (.int .i64 r) es v x y hv hI.1 (by rw [hI.len]; exact hl)
  refine ocall_of rfl rfl (fun v cs' r' h => by obtain ⟨rfl, rfl, rfl⟩ := h; exact ⟨rfl, rfl⟩) ?_
  generalize valE es x y = a at *
  generalize hasE es x y = c at *
  refine hcall_of_body (f := 15) Try.func15 rfl (Nat.le_of_ble_eq_true rfl) (by first | exact big0 | exact big1 rfl) ?_
  (repeat (first | ((with_reducible apply rwp_drawH (id := 1) [0,1,2,3,4,5,6,7,8] [10]); kernel_rfl; kernel_rfl; exact rfl) | ((with_reducible apply rwp_seq)) | ((with_reducible apply rthen_normal)) | ((with_reducible apply rwp_region)) | ((with_reducible apply hs_nil)) | ((with_reducible apply hs_c); exact rfl; (repeat (first | ((with_reducible apply al_q); exact rfl) | ((with_reducible apply al_nilck); (iterate 3 exact rfl)))); (with_reducible apply al_nil))))
  refine hs_h1u 1000 0 rfl rfl rfl rfl C1 rfl (fun v cs' r' h => h.2.1) rfl rfl rfl rfl (fun rv cs' r' h => ?_)
  obtain ⟨rfl, rfl, rfl⟩ := h
  (repeat (first | ((with_reducible apply hs_nilS); kernel_rfl) | ((with_reducible apply rthen_normal)) | ((with_reducible apply rwp_ret)) | ((with_reducible apply hs_c); exact rfl; (repeat (first | ((with_reducible apply al_q); exact rfl))); (with_reducible apply al_nil))))
  (first | (refine hfin_o1 rfl (resl_tmp rfl (resl_tmp rfl resl_nil)) rfl rfl rfl rfl ?_))
  exact ⟨rfl, rfl, rfl⟩
/-- what a call on a set's block and row tells, told of the set. -/
theorem set_of {f : FuncId} {args : List AV} {r : Int} {L L' : List Px} {b : Nat} {S : SP} {post : AV → Prop} (hac : args.all AV.closedB = true) (h : SetI r L (ptrV b) S)
    (hc : ∀ v es, v.oneCell' = true → IdxOf L es → OCall Try.prog f args (setC v r) (nxRow v es) fun w cs' r' => w.closedB = true ∧ post w ∧ ∃ v' es', v'.oneCell' = true ∧ IdxOf L' es' ∧ cs' = setC v' r ∧ r' = nxRow v' es') : ThCall Try.prog f (vC (ptrV b) :: args) (ptrV b) S fun w S' => post w ∧ SetI r L' (ptrV b) S' := by
  obtain ⟨ρ, v, es, hp, hv, hI, rfl⟩ := h
  obtain rfl := ptr_b hp
  refine th_of (mem1_some _ _) hac (hc v es hv hI 1000 0) (fun w m1 R1 h => ?_)
  obtain ⟨cs', r', rfl, rfl, hw, hpo, v', es', hv', hI', rfl, rfl⟩ := h
  exact ⟨hw, set_plain _ _ _, fun ρ1 hρ => ⟨hpo, ρ1, v', es', by rw [hρ], hv', hI', rfl⟩⟩
theorem ocall_mono {P : Program} {f : FuncId} {args : List AV} {cs : List AC} {r : HRow} {post post' : AV → List AC → HRow → Prop} (h : OCall P f args cs r post) (hp : ∀ v cs' r', post v cs' r' → post' v cs' r') : OCall P f args cs r post' := by
  intro k i
  refine ⟨fun U ρ W vs hH hown hvs => ((h k i).call U ρ W vs hH hown hvs).mono ?_⟩
  rintro e W' ⟨v1, r1, m', R', ρ', U', q0, ⟨cs', r', e1, e2, e3⟩, qq⟩
  exact ⟨v1, r1, m', R', ρ', U', q0, ⟨cs', r', e1, e2, hp _ _ _ e3⟩, qq⟩
theorem k_Num9 : CNum9 SetI := by
  intro r L b S x y h hl
  have h1 := set_of (f := 15) (args := [vP x y]) (post := fun w => ∃ k : Int, w = .tup [.one (.c (.int .i64 k)), .one (.c (.bool (decide (0 ≤ numI L x y))))] ∧ (0 ≤ numI L x y → k = numI L x y)) rfl h fun v es hv hI => ocall_mono (o_Num9 x y hv hI hl) fun w cs' r' h => by
    obtain ⟨rfl, rfl, rfl⟩ := h
    have hn := hI.num x y
    exact ⟨rfl, ⟨_, by rw [hn.1], hn.2⟩, v, es, hv, hI, rfl, rfl⟩
  intro i
  refine ⟨fun U ρ W vs hH hown hvs => ((h1 i).call U ρ W vs hH hown hvs).mono ?_⟩
  rintro e W' ⟨v1, r1, m', R', ρ', U', q0, ⟨S', e1, e2, ⟨k, e3, e4⟩, e5⟩, qq⟩
  exact ⟨v1, r1, m', R', ρ', U', q0, ⟨S', e1, e2, k, e3, e4, e5⟩, qq⟩
end Go.Proofs.Ytaennpehlhgggaa

namespace Go.Proofs.Ytaennpehlhgggaa
open Go.RowKit
set_option linter.unusedVariables false
set_option linter.unusedSimpArgs false
abbrev vAdd (b : Bool) (e : Int) : AV := .tup [.one (.c (.bool b)), .one (.c (.int .i64 e))]
set_option maxRecDepth 100000 in
set_option maxHeartbeats 8000000 in
theorem k_Add9 : CAdd9 SetI := by
  intro r L b S x y h hl
  refine set_of (L' := addL r L x y) (post := fun w => w = vAdd (addB r L x y) (addE r L x y)) rfl h fun v es hv hI => ?_
  have hel := hI.len
  have hn := hI.num x y
  have C1 := o_Num9 (r := r) x y hv hI hl
  by_cases hh : 0 ≤ numI L x y
  · obtain ⟨e1, e2, e3⟩ := addL_had (r := r) hh
    rw [e1, e2, e3]
    rw [hn.1, decide_eq_true hh] at C1
    refine ocall_of rfl rfl (fun w cs' r' h => by obtain ⟨c1, _, v', es', _, _, rfl, _⟩ := h; exact ⟨c1, rfl⟩) ?_
    generalize valE es x y = a at *
    refine hcall_of_body (f := 14) Try.func14 rfl (Nat.le_of_ble_eq_true rfl) (by first | exact big0 | exact big1 rfl) ?_
    (repeat (first | ((with_reducible apply rwp_seq)) | ((with_reducible apply rthen_normal)) | ((with_reducible apply rwp_region)) | ((with_reducible apply hs_nil)) | ((with_reducible apply hs_c); exact rfl; (repeat (first | ((with_reducible apply al_q); exact rfl))); (with_reducible apply al_nil))))
    refine hs_h1 1000 0 rfl rfl rfl rfl C1 rfl rfl rfl rfl rfl rfl (fun rv cs' r' h => ?_)
    obtain ⟨rfl, rfl, rfl⟩ := h
    rw [upd_row10]
    (repeat (first | ((with_reducible apply rwp_seq)) | ((with_reducible apply rthen_normal)) | ((with_reducible apply rwp_region)) | ((with_reducible apply hs_nil)) | ((with_reducible apply rwp_ret)) | ((with_reducible apply rthen_ret)) | ((with_reducible apply rwp_cond_1); exact rfl; (first | assumption | exact decide_eq_true (by omega) | (simp only [Bool.not_eq_true', decide_eq_false_iff_not, decide_eq_true_eq, Bool.not_eq_false']; (first | done | omega)) | exact rfl)) | ((with_reducible apply hs_c); exact rfl; (repeat (first | ((with_reducible apply al_q); exact rfl))); (with_reducible apply al_nil))))
    (first | (refine hfin_o1 rfl (resl_tmp rfl (resl_tmp rfl resl_nil)) rfl rfl rfl rfl ?_))
    exact ⟨rfl, rfl, v, es, hv, hI, rfl, rfl⟩
  · have hf := hn.1
    rw [decide_eq_false hh] at hf
    rw [hf] at C1
    have C2 := k_LenZ (.int .i64 r) es v hv hI.1 (by omega)
    rw [hel] at C2
    by_cases h2 : r ≤ (L.length : Int)
    · obtain ⟨e1, e2, e3⟩ := addL_full (r := r) hh h2
      rw [e1, e2, e3]
      refine ocall_of rfl rfl (fun w cs' r' h => by obtain ⟨c1, _, v', es', _, _, rfl, _⟩ := h; exact ⟨c1, rfl⟩) ?_
      generalize valE es x y = a at *
      have h2' : (L.length : Int) ≥ r := h2
      refine hcall_of_body (f := 14) Try.func14 rfl (Nat.le_of_ble_eq_true rfl) (by first | exact big0 | exact big1 rfl) ?_
      (repeat (first | ((with_reducible apply rwp_seq)) | ((with_reducible apply rthen_normal)) | ((with_reducible apply rwp_region)) | ((with_reducible apply hs_nil)) | ((with_reducible apply hs_c); exact rfl; (repeat (first | ((with_reducible apply al_q); exact rfl))); (with_reducible apply al_nil))))
      refine hs_h1 1000 0 rfl rfl rfl rfl C1 rfl rfl rfl rfl rfl rfl (fun rv cs' r' h => ?_)
      obtain ⟨rfl, rfl, rfl⟩ := h
      rw [upd_row10]
      (repeat (first | ((with_reducible apply rwp_drawH (id := 4) [0,1,2,4,5,6,7,3,8] [18]); kernel_rfl; kernel_rfl; exact rfl) | ((with_reducible apply rwp_seq)) | ((with_reducible apply rthen_normal)) | ((with_reducible apply rwp_region)) | ((with_reducible apply hs_nil)) | ((with_reducible apply rwp_skip)) | ((with_reducible apply rwp_cond_0); exact rfl; (first | assumption | exact decide_eq_false (by omega) | (simp only [Bool.not_eq_true', decide_eq_false_iff_not, decide_eq_true_eq, Bool.not_eq_false']; (first | done | omega)) | exact rfl)) | ((with_reducible apply hs_c); exact rfl; (repeat (first | ((with_reducible apply al_q); exact rfl) | ((with_reducible apply al_nilck); (iterate 3 exact rfl)))); (with_reducible apply al_nil))))
      refine hs_h1u 1000 0 rfl rfl rfl rfl C2 rfl (fun v cs' r' h => h.2.1) rfl rfl rfl rfl (fun rv cs' r' h => ?_)
      obtain ⟨rfl, rfl, rfl⟩ := h
      rw [upd_row10]
      (repeat (first | ((with_reducible apply hs_nilS); kernel_rfl) | ((with_reducible apply rwp_seq)) | ((with_reducible apply rthen_normal)) | ((with_reducible apply rwp_region)) | ((with_reducible apply hs_nil)) | ((with_reducible apply rwp_ret)) | ((with_reducible apply rthen_ret)) | ((with_reducible apply rwp_cond_1); exact rfl; (first | assumption | exact decide_eq_true (by omega) | (simp only [Bool.not_eq_true', decide_eq_false_iff_not, decide_eq_true_eq, Bool.not_eq_false']; (first | done | omega)) | exact rfl)) | ((with_reducible apply hs_c); exact rfl; (repeat (first | ((with_reducible apply al_q); exact rfl))); (with_reducible apply al_nil))))
      (first | (refine hfin_o1 rfl (resl_tmp rfl (resl_tmp rfl resl_nil)) rfl rfl rfl rfl ?_))
      exact ⟨rfl, rfl, v, es, hv, hI, rfl, rfl⟩
    · obtain ⟨e1, e2, e3⟩ := addL_new (r := r) hh h2
      rw [e1, e2, e3]
      have hI' := hI.add hh
      have C3 := k_PutZ (.int .i64 r) es v x y L.length hv hI.1 (by omega)
      rw [hf] at C3
      refine ocall_of rfl rfl (fun w cs' r' h => by obtain ⟨c1, _, v', es', _, _, rfl, _⟩ := h; exact ⟨c1, rfl⟩) ?_
      generalize valE es x y = a at *
      generalize putL es x y L.length = es2 at *
      have h2' : ¬ (L.length : Int) ≥ r := h2
      refine hcall_of_body (f := 14) Try.func14 rfl (Nat.le_of_ble_eq_true rfl) (by first | exact big0 | exact big1 rfl) ?_
      (repeat (first | ((with_reducible apply rwp_seq)) | ((with_reducible apply rthen_normal)) | ((with_reducible apply rwp_region)) | ((with_reducible apply hs_nil)) | ((with_reducible apply hs_c); exact rfl; (repeat (first | ((with_reducible apply al_q); exact rfl))); (with_reducible apply al_nil))))
      refine hs_h1 1000 0 rfl rfl rfl rfl C1 rfl rfl rfl rfl rfl rfl (fun rv cs' r' h => ?_)
      obtain ⟨rfl, rfl, rfl⟩ := h
      rw [upd_row10]
      (repeat (first | ((with_reducible apply rwp_drawH (id := 4) [0,1,2,4,5,6,7,3,8] [18]); kernel_rfl; kernel_rfl; exact rfl) | ((with_reducible apply rwp_seq)) | ((with_reducible apply rthen_normal)) | ((with_reducible apply rwp_region)) | ((with_reducible apply hs_nil)) | ((with_reducible apply rwp_skip)) | ((with_reducible apply rwp_cond_0); exact rfl; (first | assumption | exact decide_eq_false (by omega) | (simp only [Bool.not_eq_true', decide_eq_false_iff_not, decide_eq_true_eq, Bool.not_eq_false']; (first | done | omega)) | exact rfl)) | ((with_reducible apply hs_c); exact rfl; (repeat (first | ((with_reducible apply al_q); exact rfl) | ((with_reducible apply al_nilck); (iterate 3 exact rfl)))); (with_reducible apply al_nil))))
      refine hs_h1u 1000 0 rfl rfl rfl rfl C2 rfl (fun v cs' r' h => h.2.1) rfl rfl rfl rfl (fun rv cs' r' h => ?_)
      obtain ⟨rfl, rfl, rfl⟩ := h
      rw [upd_row10]
      (repeat (first | ((with_reducible apply hs_nilS); kernel_rfl) | ((with_reducible apply rwp_drawH (id := 6) [0,1,2,3,4,5,6,7,8,9,10] [31,32,2001000]); kernel_rfl; kernel_rfl; exact rfl) | ((with_reducible apply rwp_seq)) | ((with_reducible apply rthen_normal)) | ((with_reducible apply rwp_skip)) | ((with_reducible apply rwp_cond_0); exact rfl; (first | assumption | exact decide_eq_false (by omega) | (simp only [Bool.not_eq_true', decide_eq_false_iff_not, decide_eq_true_eq, Bool.not_eq_false']; (first | done | omega)) | exact rfl)) | ((with_reducible apply hs_c); exact rfl; (repeat (first | ((with_reducible apply al_q); exact rfl) | ((with_reducible apply al_nilck); (iterate 3 exact rfl)))); (with_reducible apply al_nil))))
      refine hs_h1 1000 0 rfl rfl rfl rfl C2 rfl rfl rfl rfl rfl rfl (fun rv cs' r' h => ?_)
      obtain ⟨rfl, rfl, rfl⟩ := h
      rw [upd_row10]
      skip
      refine hs_h1 1000 0 rfl rfl rfl rfl C3 rfl rfl rfl rfl rfl rfl (fun rv cs' r' h => ?_)
      obtain ⟨rfl, v', hv', rfl, rfl⟩ := h
      rw [upd_row10]
      (repeat (first | ((with_reducible apply hs_nilS); kernel_rfl) | ((with_reducible apply rthen_normal)) | ((with_reducible apply rwp_ret)) | ((with_reducible apply hs_c); exact rfl; (repeat (first | ((with_reducible apply al_q); exact rfl))); (with_reducible apply al_nil))))
      (first | (refine hfin_o1 rfl (resl_tmp rfl (resl_tmp rfl resl_nil)) rfl rfl rfl rfl ?_))
      exact ⟨rfl, rfl, v', es2, hv', hI', rfl, rfl⟩
end Go.Proofs.Ytaennpehlhgggaa

namespace Go.Proofs.Ytaennpehlhgggaa
open Go.RowKit
set_option linter.unusedVariables false
set_option linter.unusedSimpArgs false
theorem pxRow_one (v : Value) (l : List Px) (p : Px) : pxRow v (l ++ [p]) = ⟨32, 2, v, l.length + 1, itC l ++ [.c (.int .i64 p.1), .c (.int .i64 p.2)]⟩ := by
  unfold pxRow; rw [← itC_one, List.length_append]; rfl
def PxI (l : List Ent) (n : Nat) (R : Rws) (ts : List (Nat × AV)) (ms : List (Nat × List AC)) : Prop :=
  ∃ (k : Nat) (v : Value) (ki : Int), k ≤ l.length ∧ n = l.length - k ∧ ki = k ∧ R = row1 0 (pxRow v ((l.take k).map pixE)) ∧ ms = [] ∧ ts = [(3, vC v), (6, vEn l), (7, vI l.length), (8, vI ki)]
set_option maxRecDepth 100000 in
set_option maxHeartbeats 8000000 in
theorem a_pix {l : List Ent} (hl : l.length ≤ 50000) : ACall Try.prog 33 [vEn l] fun v q => ∃ v', v = vC v' ∧ q = pxRow v' (l.map pixE) := by
  refine acall_of rfl (fun v q h => by obtain ⟨v', rfl, _⟩ := h; rfl) ?_
  refine hcall_of_body (f := 33) Try.func33 rfl (Nat.le_of_ble_eq_true rfl) (by first | exact big0 | exact big1 rfl) ?_
  refine rwp_nil 0 32 2 rfl ?_
  (repeat (first | ((with_reducible apply rwp_seq)) | ((with_reducible apply rthen_normal)) | ((with_reducible apply rwp_region)) | ((with_reducible apply hs_nil)) | ((with_reducible apply rwp_block)) | ((with_reducible apply hs_c); exact rfl; (repeat (first | ((with_reducible apply al_q); exact rfl) | ((with_reducible apply al_len); (iterate 3 exact rfl)))); (with_reducible apply al_nil))))
  refine rwp_loopL 19 (PxI l) l.length (row1 0 (pxRow (.slice none 0 0) [])) _ [] ⟨0, .slice none 0 0, 0, Nat.zero_le _, rfl, rfl, rfl, rfl, rfl⟩ (row1_le _ _ _) rfl ⟨rfl, rfl, rfl, rfl, trivial⟩ trivial rfl ?_
  rintro n R ts ms ⟨k, v, ki, hk, rfl, hki, rfl, rfl, rfl⟩ hok
  clear hok
  have htl : ((l.take k).map pixE).length ≤ k := by rw [List.length_map, List.length_take]; omega
  by_cases hq : k < l.length
  · have q2 : ki < (l.length : Int) := by omega
    have q3 : 0 ≤ ki := by omega
    obtain ⟨x, y, w, g1⟩ : ∃ x y w, l[k]? = some (x, y, w) := ⟨_, _, _, List.getElem?_eq_getElem hq⟩
    have E1 := enC_xyv hki g1
    have ht : (l.take (k + 1)).map pixE = (l.take k).map pixE ++ [(x, y)] := by
      rw [List.take_succ_eq_append_getElem hq, (List.getElem?_eq_some_iff.1 g1).2, List.map_append]; rfl
    (repeat (first | ((with_reducible apply rwp_seq)) | ((with_reducible apply rthen_normal)) | ((with_reducible apply rwp_region)) | ((with_reducible apply hs_nil)) | ((with_reducible apply rwp_skip)) | ((with_reducible apply rwp_block)) | ((with_reducible apply rwp_cond_1); exact rfl; (first | assumption | exact decide_eq_true (by omega) | (simp only [Bool.not_eq_true', decide_eq_false_iff_not, decide_eq_true_eq, Bool.not_eq_false']; (first | done | omega)) | exact rfl)) | ((with_reducible apply hs_c); exact rfl; (repeat (first | ((with_reducible apply al_q); exact rfl) | ((with_reducible apply al_loadPN); (iterate 5 exact rfl)) | ((with_reducible apply al_idxS); (iterate 3 exact rfl); (first | decide | omega); (first | decide | omega); (first | assumption | rfl); exact rfl) | ((with_reducible apply al_bslice); (iterate 10 exact rfl)))); (with_reducible apply al_nil))))
    refine hs_app0 0 rfl rfl rfl rfl ?q1 ?q2 rfl rfl (fun v' hv' => ?_)
    case q1 => exact le_maxLen (by show ((l.take k).map pixE).length + 1 ≤ 1000000; omega)
    case q2 => show (((l.take k).map pixE).length + 1) * 16 ≤ 140737488355328; omega
    (repeat (first | ((with_reducible apply rthen_normal)) | ((with_reducible apply rwp_region)) | ((with_reducible apply hs_nil)) | ((with_reducible apply rblock_normal)) | ((with_reducible apply hs_c); exact rfl; (repeat (first | ((with_reducible apply al_q); exact rfl) | ((with_reducible apply al_add); (iterate 3 exact rfl); (first | exact i64_wrap (by omega) | assumption | rfl); exact rfl))); (with_reducible apply al_nil))))
    refine ⟨l.length - (k + 1), row1 0 (pxRow v' ((l.take (k + 1)).map pixE)), _, [], by omega, ⟨k + 1, v', ki + 1, by omega, rfl, by omega, rfl, rfl, rfl⟩, ?_, rfl, ⟨rfl, rfl, rfl, rfl, trivial⟩, trivial, rfl⟩
    rw [ht, pxRow_one]; exact row1_le _ _ _
  · have q2 : ¬ ki < (l.length : Int) := by omega
    have e0 : l.take k = l := List.take_of_length_le (by omega)
    rw [e0]
    (repeat (first | ((with_reducible apply rwp_seq)) | ((with_reducible apply rthen_normal)) | ((with_reducible apply rwp_region)) | ((with_reducible apply hs_nil)) | ((with_reducible apply rwp_ret)) | ((with_reducible apply rblock_same)) | ((with_reducible apply rwp_exit)) | ((with_reducible apply rthen_exit)) | ((with_reducible apply rwp_cond_0); exact rfl; (first | assumption | exact decide_eq_false (by omega) | (simp only [Bool.not_eq_true', decide_eq_false_iff_not, decide_eq_true_eq, Bool.not_eq_false']; (first | done | omega)) | exact rfl)) | ((with_reducible apply hs_c); exact rfl; (repeat (first | ((with_reducible apply al_q); exact rfl))); (with_reducible apply al_nil))))
    (first | (refine hfin_a rfl (resl_tmp rfl resl_nil) rfl rfl (Nat.zero_lt_succ _) ?_))
    exact ⟨v, rfl, rfl⟩
/-- what a call on a set's block and row that makes a row tells, told of the set. -/
theorem set_row {f : FuncId} {args : List AV} {r : Int} {L : List Px} {b : Nat} {S : SP} {post : AV → HRow → Prop} (hac : args.all AV.closedB = true) (h : SetI r L (ptrV b) S)
    (hc : ∀ v es, v.oneCell' = true → IdxOf L es → HCall Try.prog f (.w (.one (.own 1000 0)) :: args) (mem1 1000 (setC v r)) (row1 0 (nxRow v es)) fun w m1 R1 => ∃ q, w.closedB = true ∧ m1 = mem1 1000 (setC v r) ∧ R1 = upd (row1 0 (nxRow v es)) 1 q ∧ 0 < q.sz ∧ post w q) : ThCall2 Try.prog f (vC (ptrV b) :: args) (ptrV b) S fun w S' q => post w q ∧ SetI r L (ptrV b) S' := by
  obtain ⟨ρ, v, es, hp, hv, hI, rfl⟩ := h
  obtain rfl := ptr_b hp
  refine th_row (mem1_some _ _) hac (hc v es hv hI) (fun w m1 R1 h => ?_)
  obtain ⟨q, hw, rfl, rfl, hz, hpo⟩ := h
  exact ⟨row1 0 (nxRow v es), 1, q, hw, rle1 rfl, rfl, rfl, hz, set_plain _ _ _, fun ρ1 hρ => ⟨hpo, ρ1, v, es, by rw [hρ], hv, hI, rfl⟩⟩
theorem thcall2_mono {P : Program} {f : FuncId} {args : List AV} {p : Value} {S : SP} {post post' : AV → SP → HRow → Prop} (h : ThCall2 P f args p S post) (hp : ∀ v S' q, post v S' q → post' v S' q) : ThCall2 P f args p S post' := by
  intro i j hij
  refine ⟨fun U ρ W vs hH hown hvs => ((h i j hij).call U ρ W vs hH hown hvs).mono ?_⟩
  rintro e W' ⟨v1, r1, m', R', ρ', U', q0, ⟨S', q, e1, e2, e3, e4⟩, qq⟩
  exact ⟨v1, r1, m', R', ρ', U', q0, ⟨S', q, e1, e2, e3, hp _ _ _ e4⟩, qq⟩
set_option maxRecDepth 100000 in
set_option maxHeartbeats 8000000 in
theorem k_All9 : CAll9 SetI := by
  intro r L b S h hl
  refine thcall2_mono (set_row (post := fun w q => ∃ v', w = vC v' ∧ q = pxRow v' L) rfl h fun v es hv hI => ?_) (fun v S' q h => by obtain ⟨⟨v', h1, h2⟩, h3⟩ := h; exact ⟨v', h1, h2, h3⟩)
  have C1 := k_AllZ (.int .i64 r) es v hv hI.1 (by rw [hI.len]; exact hl)
  have C2 := p_SortE es.length es (Nat.le_refl _) (by rw [hI.len]; omega)
  rw [hI.srt] at C2
  have C3 := a_pix (l := numF 0 L) (by rw [numF_len]; omega)
  rw [numF_pix] at C3
  clear hI
  generalize numF 0 L = ns at *
  refine hcall_of_body (f := 20) Try.func20 rfl (Nat.le_of_ble_eq_true rfl) (by first | exact big0 | exact big1 rfl) ?_
  (repeat (first | ((with_reducible apply rwp_seq)) | ((with_reducible apply rthen_normal)) | ((with_reducible apply rwp_region)) | ((with_reducible apply hs_nil)) | ((with_reducible apply hs_c); exact rfl; (repeat (first | ((with_reducible apply al_q); exact rfl) | ((with_reducible apply al_nilck); (iterate 3 exact rfl)))); (with_reducible apply al_nil))))
  refine hs_h2c 1000 0 1 (by decide) rfl rfl rfl rfl C1 rfl rfl rfl rfl rfl rfl (fun rv cs' r' q h => ?_)
  obtain ⟨rfl, rfl, rfl, hq⟩ := h
  refine ⟨rfl, ?_⟩
  rw [hq]
  (repeat (first | ((with_reducible apply hs_c); exact rfl; (repeat (first | (refine al_call2 rfl rfl rfl rfl (by (first | exact C2)) rfl ?_))); (with_reducible apply al_nil))))
  refine hs_a 1 rfl rfl rfl rfl C3 rfl rfl (fun rv q h => ?_)
  obtain ⟨v', rfl, rfl⟩ := h
  (repeat (first | ((with_reducible apply rthen_normal)) | ((with_reducible apply hs_nil)) | ((with_reducible apply rwp_ret)) | ((with_reducible apply hs_c); exact rfl; (repeat (first | ((with_reducible apply al_q); exact rfl))); (with_reducible apply al_nil))))
  (first | (refine hfin_g rfl (resl_tmp rfl resl_nil) rfl (rle2 (i := 0) (j := 1) rfl rfl) rfl rfl (fun i r h => by obtain ⟨rfl, rfl⟩ := row1_iff h; exact ⟨_, rfl⟩) ?_))
  exact ⟨_, rfl, rfl, rfl, Nat.zero_lt_succ _, v', rfl, rfl⟩
end Go.Proofs.Ytaennpehlhgggaa

namespace Go.Proofs.Ytaennpehlhgggaa
open Go.RowKit
set_option linter.unusedVariables false
set_option linter.unusedSimpArgs false
theorem near_box (a1 a2 b1 b2 : Int) (m : Nat) (L : List Px) : (L.filter fun p => decide ((if gsn b1 m < gsn a1 m then gsn b1 m else gsn a1 m) ≤ p.1) && decide (p.1 ≤ (if gsn b1 m > gsn a1 m then gsn b1 m else gsn a1 m)) && decide ((if gsn b2 m < gsn a2 m then gsn b2 m else gsn a2 m) ≤ p.2) && decide (p.2 ≤ (if gsn b2 m > gsn a2 m then gsn b2 m else gsn a2 m))) = L.filter (nearF a1 a2 b1 b2 m) := by
  refine List.filter_congr fun p _ => ?_
  unfold nearF btw9
  generalize gsn a1 m = A
  generalize gsn b1 m = B
  generalize gsn a2 m = C
  generalize gsn b2 m = D
  rw [Bool.eq_iff_iff]
  simp only [Bool.and_eq_true, Bool.or_eq_true, decide_eq_true_eq]
  repeat' split
  all_goals omega
set_option maxRecDepth 100000 in
set_option maxHeartbeats 8000000 in
/-- Near, of a set's block and row. -/
theorem o_Near9 {r : Int} {L : List Px} {v : Value} {es : List Ent} {a1 a2 b1 b2 k : Int} {m : Nat} (hv : v.oneCell' = true) (hI : IdxOf L es) (hl : L.length ≤ 300) (hr : IsR k m) (ra : rB5 a1 a2 = true) (rb : rB5 b1 b2 = true) : OCall Try.prog 23 [vP a1 a2, vP b1 b2, vI k] (setC v r) (nxRow v es) fun w cs' r' => w = vIt (sortI (decide (b1 < a1)) (decide (b2 < a2)) (nearF a1 a2 b1 b2 m) L) ∧ cs' = setC v r ∧ r' = nxRow v es := by
  have qa := rB5_iff.1 ra
  have qb := rB5_iff.1 rb
  have C1 := p_gOf (x := a1) (y := a2) hr (by omega) (by omega) (by omega) (by omega)
  have C2 := p_gOf (x := b1) (y := b2) hr (by omega) (by omega) (by omega) (by omega)
  have C3 := k_InZ (.int .i64 r) es v (if gsn b1 m < gsn a1 m then gsn b1 m else gsn a1 m) (if gsn b2 m < gsn a2 m then gsn b2 m else gsn a2 m) (if gsn b1 m > gsn a1 m then gsn b1 m else gsn a1 m) (if gsn b2 m > gsn a2 m then gsn b2 m else gsn a2 m) hv hI.1 (by rw [hI.len]; exact hl)
  have hp := hI.box (if gsn b1 m < gsn a1 m then gsn b1 m else gsn a1 m) (if gsn b2 m < gsn a2 m then gsn b2 m else gsn a2 m) (if gsn b1 m > gsn a1 m then gsn b1 m else gsn a1 m) (if gsn b2 m > gsn a2 m then gsn b2 m else gsn a2 m)
  rw [near_box] at hp
  have hil := inL_len es (if gsn b1 m < gsn a1 m then gsn b1 m else gsn a1 m) (if gsn b2 m < gsn a2 m then gsn b2 m else gsn a2 m) (if gsn b1 m > gsn a1 m then gsn b1 m else gsn a1 m) (if gsn b2 m > gsn a2 m then gsn b2 m else gsn a2 m)
  rw [hI.len] at hil
  generalize hns : inL es (if gsn b1 m < gsn a1 m then gsn b1 m else gsn a1 m) (if gsn b2 m < gsn a2 m then gsn b2 m else gsn a2 m) (if gsn b1 m > gsn a1 m then gsn b1 m else gsn a1 m) (if gsn b2 m > gsn a2 m then gsn b2 m else gsn a2 m) = ns at *
  have C4 := a_pix (l := ns) (by omega)
  have C5 := p_Along (a1 := a1) (a2 := a2) (b1 := b1) (b2 := b2)
  have C6 := p_SortP (fx := decide (b1 < a1)) (fy := decide (b2 < a2)) (ns.map pixE).length (ns.map pixE) (Nat.le_refl _) (by rw [List.length_map]; omega)
  rw [srtL_sortI (fx := decide (b1 < a1)) (fy := decide (b2 < a2)) hI.2.2 hp] at C6
  refine ocall_of rfl rfl (fun w cs' r' h => by obtain ⟨rfl, rfl, rfl⟩ := h; exact ⟨rfl, rfl⟩) ?_
  generalize sortI (decide (b1 < a1)) (decide (b2 < a2)) (nearF a1 a2 b1 b2 m) L = T at *
  generalize ns.map pixE = ps at *
  generalize decide (b1 < a1) = fx at *
  generalize decide (b2 < a2) = fy at *
  clear hp hns hI qa qb
  generalize gsn a1 m = A1 at *
  generalize gsn a2 m = A2 at *
  generalize gsn b1 m = B1 at *
  generalize gsn b2 m = B2 at *
  refine hcall_of_body (f := 23) Try.func23 rfl (Nat.le_of_ble_eq_true rfl) (by first | exact big0 | exact big1 rfl) ?_
  (repeat (first | ((with_reducible apply hs_nilS); kernel_rfl) | ((with_reducible apply rwp_draw (id := 1) [6,7,0,1,2,3,4,5,8,9]); kernel_rfl; kernel_rfl; exact rfl) | ((with_reducible apply rwp_drawH (id := 4) [0,1,2,3,4,7,8,5,6,9,10,11] [46,47]); kernel_rfl; kernel_rfl; exact rfl) | ((with_reducible apply rwp_seq)) | ((with_reducible apply rthen_normal)) | ((with_reducible apply rwp_region)) | ((with_reducible apply hs_nil)) | ((with_reducible apply hs_c); exact rfl; (repeat (first | ((with_reducible apply al_q); exact rfl) | ((with_reducible apply al_nilck); (iterate 3 exact rfl)) | ((with_reducible apply al_min); (iterate 4 exact rfl)) | ((with_reducible apply al_max); (iterate 4 exact rfl)) | (refine al_call2 rfl rfl rfl rfl (by (first | exact C1 | exact C2 | exact C5 | exact C6)) rfl ?_))); (with_reducible apply al_nil))))
  refine hs_h2cu 1000 0 1 (by decide) rfl rfl rfl rfl C3 rfl (fun v cs' r' q h => h.1) rfl rfl rfl rfl (fun rv cs' r' q h => ?_)
  obtain ⟨rfl, rfl, rfl, hq⟩ := h
  refine ⟨rfl, ?_⟩
  rw [hq]
  skip
  refine hs_ac 1 rfl rfl rfl rfl C4 rfl rfl rfl (fun rv q h => ?_)
  obtain ⟨v', rfl, rfl⟩ := h
  refine ⟨rfl, ?_⟩
  change hList _ _ _ _ _ _ (AS.put _ _ (vIt ps))
  (repeat (first | ((with_reducible apply hs_nilS); kernel_rfl) | ((with_reducible apply rthen_normal)) | ((with_reducible apply rwp_ret)) | ((with_reducible apply hs_c); exact rfl; (repeat (first | ((with_reducible apply al_q); exact rfl) | (refine al_call2 rfl rfl rfl rfl (by (first | exact C5 | exact C6)) rfl ?_))); (with_reducible apply al_nil))))
  (first | (refine hfin_o1 rfl (resl_tmp rfl resl_nil) rfl rfl rfl rfl ?_))
  exact ⟨rfl, rfl, rfl⟩
theorem k_Near9 : CNear9 SetI := by
  intro s L b S a1 a2 b1 b2 k m h hl hn hin hr ra rb
  exact set_of (L' := L) (post := fun w => w = vIt (sortI (decide (b1 < a1)) (decide (b2 < a2)) (nearF a1 a2 b1 b2 m) L)) rfl h fun v es hv hI => ocall_mono (o_Near9 hv hI hl hr ra rb) fun w cs' r' h => by
    obtain ⟨rfl, rfl, rfl⟩ := h
    exact ⟨rfl, rfl, v, es, hv, hI, rfl, rfl⟩
def MtI (T : List Px) (g : Px → Bool) (v : Value) (r : Int) (es : List Ent) (a1 a2 b1 b2 k : Int) (n : Nat) (R : Rws) (ts : List (Nat × AV)) (ms : List (Nat × List AC)) : Prop :=
  ∃ (i : Nat) (u : Value) (ki : Int), i ≤ T.length ∧ n = T.length - i ∧ ki = i ∧ R = rowTwo (nxRow v es) (pxRow u ((T.take i).filter g)) ∧ ms = [(5, mPx a1 a2), (6, mPx b1 b2), (1000, setC v r)] ∧ ts = [(3, vI k), (5, vOw 5), (6, vOw 6), (9, vC u), (16, vIt T), (17, vI T.length), (18, vI ki)]
set_option maxRecDepth 100000 in
set_option maxHeartbeats 8000000 in
theorem k_Met9 : CMet9 SetI := by
  intro s L b S a1 a2 b1 b2 k h hl hn hin hk ra rb
  obtain ⟨m, hr⟩ := isR_ex k
  refine thcall2_mono (set_row (post := fun w q => ∃ v', w = vC v' ∧ q = pxRow v' (sortI (decide (b1 < a1)) (decide (b2 < a2)) (metF a1 a2 b1 b2 k) L)) rfl h fun v es hv hI => ?_) (fun v S' q h => by obtain ⟨⟨v', h1, h2⟩, h3⟩ := h; exact ⟨v', h1, h2, h3⟩)
  have C1 := o_Near9 (r := s) hv hI hl hr ra rb
  rw [← sortI_filter (f := nearF a1 a2 b1 b2 m) (g := metF a1 a2 b1 b2 k) hn fun p hp => met_near hr p hp]
  have hT := sortI_len (decide (b1 < a1)) (decide (b2 < a2)) (nearF a1 a2 b1 b2 m) L
  generalize sortI (decide (b1 < a1)) (decide (b2 < a2)) (nearF a1 a2 b1 b2 m) L = T at *
  clear hI hin hn h
  refine hcall_of_body (f := 25) Try.func25 rfl (Nat.le_of_ble_eq_true rfl) (by first | exact big0 | exact big1 rfl) ?_
  refine rwp_nil 1 32 2 rfl ?_
  (repeat (first | ((with_reducible apply rwp_seq)) | ((with_reducible apply rthen_normal)) | ((with_reducible apply rwp_region)) | ((with_reducible apply hs_nil)) | ((with_reducible apply hs_c); exact rfl; (repeat (first | ((with_reducible apply al_q); exact rfl))); (with_reducible apply al_nil))))
  refine hs_h1 1000 0 rfl rfl rfl rfl C1 rfl rfl rfl rfl rfl rfl (fun rv cs' r' h => ?_)
  obtain ⟨rfl, rfl, rfl⟩ := h
  (repeat (first | ((with_reducible apply rthen_normal)) | ((with_reducible apply hs_nil)) | ((with_reducible apply rwp_block)) | ((with_reducible apply hs_c); exact rfl; (repeat (first | ((with_reducible apply al_q); exact rfl) | ((with_reducible apply al_len); (iterate 3 exact rfl)))); (with_reducible apply al_nil))))
  refine rwp_loopL 33 (MtI T (metF a1 a2 b1 b2 k) v s es a1 a2 b1 b2 k) T.length (rowTwo (nxRow v es) (pxRow (.slice none 0 0) [])) _ [(5, mPx a1 a2), (6, mPx b1 b2), (1000, setC v s)] ⟨0, .slice none 0 0, 0, Nat.zero_le _, rfl, rfl, rfl, rfl, rfl⟩ (rowTwo_le rfl rfl) rfl ⟨rfl, rfl, rfl, rfl, rfl, rfl, rfl, trivial⟩ ⟨rfl, rfl, rfl, trivial⟩ rfl ?_
  clear C1
  rintro n R ts ms ⟨i, u, ki, hi, rfl, hki, rfl, rfl, rfl⟩ hok
  clear hok
  have hfl : ((T.take i).filter (metF a1 a2 b1 b2 k)).length ≤ i := Nat.le_trans (List.length_filter_le _ _) (by rw [List.length_take]; omega)
  by_cases hq : i < T.length
  · have q2 : ki < (T.length : Int) := by omega
    have q3 : 0 ≤ ki := by omega
    obtain ⟨x, y, g1⟩ : ∃ x y, T[i]? = some (x, y) := ⟨_, _, List.getElem?_eq_getElem hq⟩
    have E1 := itC_xy hki g1
    have C2 := p_Hits (a1 := a1) (a2 := a2) (b1 := b1) (b2 := b2) (x := x) (y := y) (k := k)
    have ht : (T.take (i + 1)).filter (metF a1 a2 b1 b2 k) = (T.take i).filter (metF a1 a2 b1 b2 k) ++ if metF a1 a2 b1 b2 k (x, y) then [(x, y)] else [] := by
      rw [List.take_succ_eq_append_getElem hq, (List.getElem?_eq_some_iff.1 g1).2, List.filter_append]
      congr 1
      by_cases hm : metF a1 a2 b1 b2 k (x, y) = true
      · simp [hm]
      · simp [hm]
    rw [show hiB a1 a2 b1 b2 x y k = metF a1 a2 b1 b2 k (x, y) from rfl] at C2
    generalize metF a1 a2 b1 b2 k = g at *
    cases hm : g (x, y) with
    | true =>
      rw [hm] at C2 ht
      rw [if_pos rfl] at ht
      (repeat (first | ((with_reducible apply rwp_seq)) | ((with_reducible apply rthen_normal)) | ((with_reducible apply rwp_region)) | ((with_reducible apply hs_nil)) | ((with_reducible apply rwp_skip)) | ((with_reducible apply rwp_block)) | ((with_reducible apply rwp_cond_1); exact rfl; (first | assumption | exact decide_eq_true (by omega) | (simp only [Bool.not_eq_true', decide_eq_false_iff_not, decide_eq_true_eq, Bool.not_eq_false']; (first | done | omega)) | exact rfl)) | ((with_reducible apply hs_c); exact rfl; (repeat (first | ((with_reducible apply al_q); exact rfl) | ((with_reducible apply al_loadPN); (iterate 5 exact rfl)) | ((with_reducible apply al_idxS); (iterate 3 exact rfl); (first | decide | omega); (first | decide | omega); (first | assumption | rfl); exact rfl) | ((with_reducible apply al_bslice); (iterate 10 exact rfl)) | (refine al_call4 rfl rfl rfl rfl rfl rfl (by (first | exact C2)) rfl ?_))); (with_reducible apply al_nil))))
      refine hs_app0 1 rfl rfl rfl rfl ?q1 ?q2 rfl rfl (fun v' hv' => ?_)
      case q1 => exact le_maxLen (by show ((T.take i).filter g).length + 1 ≤ 1000000; omega)
      case q2 => show (((T.take i).filter g).length + 1) * 16 ≤ 140737488355328; omega
      (repeat (first | ((with_reducible apply rthen_normal)) | ((with_reducible apply rwp_region)) | ((with_reducible apply hs_nil)) | ((with_reducible apply rblock_normal)) | ((with_reducible apply hs_c); exact rfl; (repeat (first | ((with_reducible apply al_q); exact rfl) | ((with_reducible apply al_add); (iterate 3 exact rfl); (first | exact i64_wrap (by omega) | assumption | rfl); exact rfl))); (with_reducible apply al_nil))))
      refine ⟨T.length - (i + 1), rowTwo (nxRow v es) (pxRow v' ((T.take (i + 1)).filter g)), _, [(5, mPx a1 a2), (6, mPx b1 b2), (1000, setC v s)], by omega, ⟨i + 1, v', ki + 1, by omega, rfl, by omega, rfl, rfl, rfl⟩, ?_, rfl, ⟨rfl, rfl, rfl, rfl, rfl, rfl, rfl, trivial⟩, ⟨rfl, rfl, rfl, trivial⟩, rfl⟩
      rw [ht, pxRow_one]
      exact rowTwo_le rfl rfl
    | false =>
      rw [hm] at C2 ht
      rw [if_neg (by decide), List.append_nil] at ht
      (repeat (first | ((with_reducible apply rwp_seq)) | ((with_reducible apply rthen_normal)) | ((with_reducible apply rwp_region)) | ((with_reducible apply hs_nil)) | ((with_reducible apply rwp_skip)) | ((with_reducible apply rwp_block)) | ((with_reducible apply rblock_normal)) | ((with_reducible apply rwp_cond_1); exact rfl; (first | assumption | exact decide_eq_true (by omega) | (simp only [Bool.not_eq_true', decide_eq_false_iff_not, decide_eq_true_eq, Bool.not_eq_false']; (first | done | omega)) | exact rfl)) | ((with_reducible apply rwp_cond_0); exact rfl; (first | assumption | exact decide_eq_false (by omega) | (simp only [Bool.not_eq_true', decide_eq_false_iff_not, decide_eq_true_eq, Bool.not_eq_false']; (first | done | omega)) | exact rfl)) | ((with_reducible apply hs_c); exact rfl; (repeat (first | ((with_reducible apply al_q); exact rfl) | ((with_reducible apply al_loadPN); (iterate 5 exact rfl)) | ((with_reducible apply al_idxS); (iterate 3 exact rfl); (first | decide | omega); (first | decide | omega); (first | assumption | rfl); exact rfl) | ((with_reducible apply al_add); (iterate 3 exact rfl); (first | exact i64_wrap (by omega) | assumption | rfl); exact rfl) | (refine al_call4 rfl rfl rfl rfl rfl rfl (by (first | exact C2)) rfl ?_))); (with_reducible apply al_nil))))
      refine ⟨T.length - (i + 1), rowTwo (nxRow v es) (pxRow u ((T.take (i + 1)).filter g)), _, [(5, mPx a1 a2), (6, mPx b1 b2), (1000, setC v s)], by omega, ⟨i + 1, u, ki + 1, by omega, rfl, by omega, rfl, rfl, rfl⟩, ?_, rfl, ⟨rfl, rfl, rfl, rfl, rfl, rfl, rfl, trivial⟩, ⟨rfl, rfl, rfl, trivial⟩, rfl⟩
      rw [ht]
      exact rowTwo_le rfl rfl
  · have q2 : ¬ ki < (T.length : Int) := by omega
    have e0 : T.take i = T := List.take_of_length_le (by omega)
    rw [e0]
    (repeat (first | ((with_reducible apply rwp_seq)) | ((with_reducible apply rthen_normal)) | ((with_reducible apply rwp_region)) | ((with_reducible apply hs_nil)) | ((with_reducible apply rwp_ret)) | ((with_reducible apply rblock_same)) | ((with_reducible apply rwp_exit)) | ((with_reducible apply rthen_exit)) | ((with_reducible apply rwp_cond_0); exact rfl; (first | assumption | exact decide_eq_false (by omega) | (simp only [Bool.not_eq_true', decide_eq_false_iff_not, decide_eq_true_eq, Bool.not_eq_false']; (first | done | omega)) | exact rfl)) | ((with_reducible apply hs_c); exact rfl; (repeat (first | ((with_reducible apply al_q); exact rfl))); (with_reducible apply al_nil))))
    (first | (refine hfin_g rfl (resl_tmp rfl resl_nil) rfl (rle2 (i := 0) (j := 1) rfl rfl) rfl rfl (fun i r h => by obtain ⟨rfl, rfl⟩ := row1_iff h; exact ⟨_, rfl⟩) ?_))
    exact ⟨_, rfl, rfl, rfl, Nat.zero_lt_succ _, u, rfl, rfl⟩
end Go.Proofs.Ytaennpehlhgggaa

namespace Go.Proofs.Ytaennpehlhgggaa
open Go.RowKit
set_option linter.unusedVariables false
set_option linter.unusedSimpArgs false
/-- the end of a function that is handed a thing's block and rows, and makes block k2, and rows, of another one. -/
theorem hfin_c (k2 : Nat) {P : Program} {fn : Func} {l : List ResultVar} {xs : List AW} {R R0 R1 : Rws} {s : AS} {cs cs' ds : List AC} {Post : AV → Mem → Rws → Prop} (hr : fn.results = l.toArray) (h : l.map (resOf P s) = xs.map some) (hk : s.mem 1000 = some cs') (hk2 : s.mem k2 = some ds) (hR : RLe R1 R) (hc : cs'.all AC.closedB = true) (hd : ds.all AC.closedB = true) (hx : (packed xs).ownB k2 = true) (hne : 1000 ≠ k2) (h0 : ∀ i r, R0 i = some r → ∃ r', R1 i = some r')
    (hp : Post (packed xs) (upd (mem1 1000 cs') k2 ds) R1) : hfin P fn (mem1 1000 cs) R0 Post R s := by
  have two : ∀ {k : Nat} {c : List AC}, upd (mem1 1000 cs') k2 ds k = some c → (k = k2 ∧ c = ds) ∨ (k = 1000 ∧ c = cs') := fun {k c} h => by
    by_cases e : k = k2
    · subst e; rw [upd_same] at h; cases h; exact .inl ⟨rfl, rfl⟩
    · rw [upd_ne _ _ e] at h; exact .inr (mem1_iff h)
  refine ⟨xs, packed xs, upd (mem1 1000 cs') k2 ds, R1, by rw [hr]; exact h, .refl _, hp, fun k c h => ?_, hR, fun j hj => ?_, fun k c x j h hxc hj => ?_, fun k c h => ?_, h0⟩
  · rcases two h with ⟨rfl, rfl⟩ | ⟨rfl, rfl⟩
    · exact hk2
    · exact hk
  · rw [AV.ownB_spec hx hj]; exact ⟨ds, upd_same _ _ _⟩
  · rcases two h with ⟨rfl, rfl⟩ | ⟨rfl, rfl⟩
    · exact absurd hj (AC.closed_of (List.all_eq_true.1 hd x hxc) j)
    · exact absurd hj (AC.closed_of (List.all_eq_true.1 hc x hxc) j)
  · obtain ⟨rfl, rfl⟩ := mem1_iff h; exact ⟨cs', by rw [upd_ne _ _ hne]; unfold mem1; exact upd_same _ _ _⟩
set_option maxRecDepth 100000 in
set_option maxHeartbeats 4000000 in
theorem k_Copy9 : CCopy9 SetI := by
  intro r L b S h hl
  obtain ⟨ρ, v, es, hp, hv, hI, rfl⟩ := h
  obtain rfl := ptr_b hp
  have C1 := k_CopyZ (.int .i64 r) es v hv hI.1 (by rw [hI.len]; exact hl)
  refine th_two (mem1_some _ _) rfl (Post := fun w m' R' => ∃ v2, v2.oneCell' = true ∧ w = .w (.one (.own 12 0)) ∧ m' = upd (mem1 1000 (setC v r)) 12 (setC v2 r) ∧ R' = upd (row1 0 (nxRow v es)) 1 (nxRow v2 es)) ?_ (fun w m' R' h => ?_)
  · refine hcall_of_body (f := 27) Try.func27 rfl (Nat.le_of_ble_eq_true rfl) (by first | exact big0 | exact big1 rfl) ?_
    (repeat (first | ((with_reducible apply rwp_drawH (id := 1) [0,1,2,4,5,6,7,3,8,9,10] [6]); kernel_rfl; kernel_rfl; exact rfl) | ((with_reducible apply rwp_seq)) | ((with_reducible apply rthen_normal)) | ((with_reducible apply rwp_region)) | ((with_reducible apply hs_nil)) | ((with_reducible apply hs_c); exact rfl; (repeat (first | ((with_reducible apply al_q); exact rfl) | ((with_reducible apply al_nilck); (iterate 3 exact rfl)))); (with_reducible apply al_nil))))
    refine hs_h2u 1000 0 1 (by decide) rfl rfl rfl rfl C1 rfl (fun v cs' r' q h => h.1) rfl rfl rfl rfl (fun rv cs' r' q h => ?_)
    obtain ⟨rfl, rfl, rfl, hq, hqc⟩ := h
    generalize hw : q.v = v2 at *
    subst hq
    clear hw
    (repeat (first | ((with_reducible apply hs_nilS); kernel_rfl) | ((with_reducible apply rthen_normal)) | ((with_reducible apply rwp_ret)) | ((with_reducible apply hs_c); exact rfl; (repeat (first | ((with_reducible apply al_q); exact rfl))); (with_reducible apply al_nil))))
    (first | (refine hfin_c 12 rfl (resl_tmp rfl resl_nil) rfl rfl (rle2 (i := 0) (j := 1) rfl rfl) rfl rfl rfl (by decide) (fun i r h => by obtain ⟨rfl, rfl⟩ := row1_iff h; exact ⟨_, rfl⟩) ?_))
    exact ⟨v2, hqc, rfl, rfl, rfl⟩
  · obtain ⟨v2, hv2, rfl, rfl, rfl⟩ := h
    refine ⟨mem1 1000 (setC v r), row1 0 (nxRow v es), mem1 12 (setC v2 r), row1 1 (nxRow v2 es), 12, rfl, fun k cs h => ?_, fun k cs h => ?_, rle1 rfl, rle1 rfl, fun k cs cs' h1 h2 => ?_, fun i q q' h1 h2 => ?_, fun k cs x j h hx hj => ?_, fun k cs x j h hx hj => ?_, set_plain _ _ _, ⟨fun k cs h => ?_, fun i q h => ?_⟩, fun ρ1 hρ => ⟨ρ1 12, rfl, ⟨ρ1, v, es, by rw [hρ], hv, hI, rfl⟩, fun j => ρ1 (swp 1000 12 j), v2, es, rfl, hv2, hI, ?_⟩⟩
    · obtain ⟨rfl, rfl⟩ := mem1_iff h; rfl
    · obtain ⟨rfl, rfl⟩ := mem1_iff h; rfl
    · obtain ⟨rfl, _⟩ := mem1_iff h1
      obtain ⟨e, _⟩ := mem1_iff h2
      exact absurd e (by decide)
    · obtain ⟨rfl, _⟩ := row1_iff h1
      obtain ⟨e, _⟩ := row1_iff h2
      exact absurd e (by decide)
    · obtain ⟨rfl, rfl⟩ := mem1_iff h
      exact absurd hj (AC.closed_of (List.all_eq_true.1 (show (setC v r).all AC.closedB = true from rfl) x hx) j)
    · obtain ⟨rfl, rfl⟩ := mem1_iff h
      exact absurd hj (AC.closed_of (List.all_eq_true.1 (show (setC v2 r).all AC.closedB = true from rfl) x hx) j)
    · obtain ⟨rfl, rfl⟩ := mem1_iff h; rfl
    · obtain ⟨rfl, rfl⟩ := row1_iff h; exact ⟨Nat.zero_lt_succ _, enC_plain es⟩
    · have h1 := thingSP_ren (swp_swp 1000 12) (σ := swp 0 1) (τ := swp 0 1) (swp_swp 0 1) (swp_swp 0 1) (ρ := ρ1) (m := mem1 1000 (setC v2 r)) (R := row1 0 (nxRow v2 es)) (k := 1000)
      rw [mem1_ren rfl, row1_ren] at h1
      exact h1
end Go.Proofs.Ytaennpehlhgggaa

namespace Go.Proofs.Ytaennpehlhgggaa
open Go.ChangeShapes Go.WideShapes Go.ChangeAt Go.RowKit Go.Joins
set_option linter.unusedVariables false
set_option linter.unusedSimpArgs false
theorem laidOut : laidOutB Try.prog = true := by kernel_rfl
theorem cell_lt {W : World} {b : Addr} {v : Value} (h : W.cell? b = some v) : b.block < W.heap.size := by
  unfold World.cell? at h
  split at h
  · rename_i hh; exact (Array.getElem?_eq_some_iff.1 hh).1
  · cases h
theorem wf_i64 {n : Int} (h : (Lit.int .i64 n).wf = true) : -9223372036854775808 ≤ n ∧ n ≤ 9223372036854775807 := by
  simpa [Lit.wf, IntKind.min, IntKind.max, IntKind.signed, IntKind.bits] using h
/-- a row of things of two numbers as an argument: what it reads as. -/
theorem open_pxs {H : Type} {enc : TypeId × Value → H} {P : Program} {W : World} {t e : TypeId} {f0 f1 : Field} (ht : P.underlying t = some (.slice e)) (he : P.underlying e = some (.struct #[f0, f1])) (ce : P.cellsOf e = 2) (o0 : f0.offset = 0) (o1 : f1.offset = 1) (c0 : P.cellsOf f0.type = 1) (c1 : P.cellsOf f1.type = 1) (k0 : P.underlying f0.type = some (.int .i64)) (k1 : P.underlying f1.type = some (.int .i64))
    {v : Value} {d : DataW H} {p : List MemPlace} (hv : ∃ a len cap, v = .slice a len cap) (h0 : DataW.Trod enc P W 0 (fun _ => true) true t v d p) :
    ∃ l : List (Int × Int), (l.length : Int) ≤ 9223372036854775807 ∧ (∀ p ∈ l, InI p) ∧ RpV (fun _ => True) id W (vIt l) v := by
  obtain ⟨a0, len0, cap0, rfl⟩ := hv
  obtain ⟨fuel, hf⟩ := h0
  rcases Go.Deep.open_slice_pairs ht he ce o0 o1 c0 c1 hf with ⟨hcs, hx⟩ | ⟨a, len, cap, m, n, V0, V1, D0, D1, P0, P1, hcs, hb, hl, hm, hmm, hx, hi⟩
  · simp [Value.cells] at hcs
    obtain ⟨rfl, rfl, rfl⟩ := hcs
    exact ⟨[], by decide, fun p hp => (by cases hp), ⟨none, 0, rfl, Nat.le_refl _, rfl, fun h => absurd h (Nat.lt_irrefl _)⟩, fun _ _ => trivial⟩
  · simp [Value.cells] at hcs
    obtain ⟨rfl, rfl, rfl⟩ := hcs
    simp only [if_true] at hmm
    subst hmm
    simp only [Prod.mk.injEq] at hx
    obtain ⟨_, rfl⟩ := hx
    have each : ∀ i, i < m → ∃ q : Int × Int, V0 i = .int .i64 q.1 ∧ V1 i = .int .i64 q.2 ∧ InI q := fun i h => by
      obtain ⟨_, _, g0, g1⟩ := hi i h
      obtain ⟨x, hx, _, wx⟩ := DataW.trod_int k0 g0
      obtain ⟨y, hy, _, wy⟩ := DataW.trod_int k1 g1
      simp at hx hy
      exact ⟨(x, y), hx, hy, wf_i64 wx, wf_i64 wy⟩
    obtain ⟨q, hq⟩ := Go.Deep.choose_lt each
    have hcells : ∀ (l : List (Int × Int)) (k : Nat), (∀ i (p : Int × Int), l[i]? = some p → W.cell? (a.add ((k + i) * 2)) = some (.int .i64 p.1) ∧ W.cell? (a.add ((k + i) * 2 + 1)) = some (.int .i64 p.2)) →
        ∃ vs : List Value, RpL (fun _ => True) id W (itC l) vs ∧ ∀ (j : Nat) v, vs[j]? = some v → W.cell? (a.add (k * 2 + j)) = some v := by
      intro l
      induction l with
      | nil => intro k _; exact ⟨[], ⟨rfl, fun i x v h => by simp [itC] at h⟩, fun j v h => by simp at h⟩
      | cons p l ih =>
        intro k h
        obtain ⟨vs, g1, g2⟩ := ih (k + 1) (fun i p' hp' => by
          have := h (i + 1) p' (by simpa using hp')
          rw [show k + (i + 1) = k + 1 + i by omega] at this
          exact this)
        obtain ⟨h1, h2⟩ := h 0 p rfl
        refine ⟨.int .i64 p.1 :: .int .i64 p.2 :: vs, ⟨by simp [itC, g1.1], fun i x v hx hv => ?_⟩, fun j v hv => ?_⟩
        · match i with
          | 0 => simp [itC] at hx hv; subst hx; subst hv; exact ⟨rfl, rfl⟩
          | 1 => simp [itC] at hx hv; subst hx; subst hv; exact ⟨rfl, rfl⟩
          | i + 2 => exact g1.2 i x v (by simpa [itC] using hx) (by simpa using hv)
        · match j with
          | 0 => simp at hv; subst hv; simpa using h1
          | 1 => simp at hv; subst hv; simpa using h2
          | j + 2 =>
            have := g2 j v (by simpa using hv)
            rw [show (k + 1) * 2 + j = k * 2 + (j + 2) by omega] at this
            exact this
    obtain ⟨vs, g1, g2⟩ := hcells ((List.range len0).map q) 0 (fun i p hp => by
      rw [List.getElem?_map] at hp
      cases hr : (List.range len0)[i]? with
      | none => rw [hr] at hp; cases hp
      | some j =>
        rw [hr] at hp
        cases hp
        obtain ⟨h3, h4⟩ := List.getElem?_eq_some_iff.1 hr
        simp at h3 h4
        subst h4
        obtain ⟨e0, e1, _⟩ := hi i (by omega)
        obtain ⟨f0, f1, _⟩ := hq i (by omega)
        rw [f0] at e0
        rw [f1] at e1
        simpa using ⟨e0, e1⟩)
    have hlen : ∀ l : List (Int × Int), (itC l).length = l.length * 2 := fun l => by
      induction l with
      | nil => rfl
      | cons p l ih => simp [itC, ih]; omega
    have hclo : ∀ l : List (Int × Int), ∀ y ∈ itC l, y.closedB = true := fun l => by
      induction l with
      | nil => intro y hy; cases hy
      | cons p l ih =>
        intro y hy
        simp only [itC, List.mem_cons] at hy
        rcases hy with rfl | rfl | hy
        · rfl
        · rfl
        · exact ih y hy
    refine ⟨(List.range len0).map q, by simp; unfold maxLen at hm; omega, fun p hp => ?_, ?_⟩
    · obtain ⟨i, hi1, rfl⟩ := List.mem_map.1 hp
      have h5 : i < len0 := by simpa using hi1
      exact (hq i (by omega)).2.2
    refine ⟨⟨some a, m, by simp, by simpa using hl, hlen _, fun hn => ⟨a, vs, rfl, ?_, g1, fun j v hv => by have := g2 j v hv; rwa [Nat.zero_mul, Nat.zero_add] at this, hclo _⟩⟩, fun _ _ => trivial⟩
    have hn' : 0 < len0 := by simpa using hn
    have := cell_lt (hi 0 (by omega)).1
    rwa [block_add] at this
/-- a call that returns true, at values that are told. -/
theorem pcall_true' {P : Program} {f : FuncId} {args : List AV} (h : PCall P f args (vB true)) (vals : List Value) (W : World) (hl : args.length = vals.length) (hr : ∀ (i : Nat) (x : AV) (v : Value), args[i]? = some x → vals[i]? = some v → RpV (fun _ => True) id W x v) :
    Calls P f vals.toArray W fun e W' => e = .returned (.bool true) ∧ Below W.heap.size W W' :=
  (h.call (fun _ => True) W vals ⟨hl, hr⟩).mono fun e W' ⟨v, he, ⟨hv, _⟩, hb⟩ => by subst hv; exact ⟨he, hb⟩
theorem k_alive9 : PCall Try.prog 9 [] (vB true) := p_alive9 k_New9 k_Add9 k_Num9 k_All9 k_Copy9 k_Len9 k_Room9 k_Met9 k_Near9
theorem own_walk (l : List Px) (x y : Int) (_ : (l.length : Int) ≤ 9223372036854775807) (hin : ∀ p ∈ l, InI p) (_ : -9223372036854775808 ≤ x ∧ x ≤ 9223372036854775807) (_ : -9223372036854775808 ≤ y ∧ y ≤ 9223372036854775807) : PCall Try.prog 7 [vIt l, vP x y] (vB true) := law_Own9 k_New9 k_Add9 k_Num9 k_All9 k_Copy9 hin k_alive9
end Go.Proofs.Ytaennpehlhgggaa

