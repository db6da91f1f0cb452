/-
  slices.Insert and slices.Clone over the program's rows, of a world. My own text.
-/
import Derived.Test.YtpopeipcjpfbaaaAbsC
import Derived.Test.YtpopeipcjpfbaaaNearO
import Derived.Shelf.Spec.SlicesInsert
import Derived.Lib.AppendZerosOnto
namespace Go.Proofs.Ytpopeipcjpfbaaa
open Go.RowKit Go.Lib
set_option linter.unusedVariables false
set_option linter.unusedSimpArgs false
section
variable {P : Program}
/-- copy into a row of plain memory, of things of some cells each. -/
theorem run_copy_rowz (w : World) (dT sT ty elem : TypeId) (g o dLen dCap z : Nat) (a : Addr) (sLen sCap : Nat) (cur : Array Value) (t : TypeId) (cs : List Value)
    (hu : P.underlying dT = some (.slice elem)) (hs : (P.info? elem).map (·.size) = some z)
    (hg : w.heap[g]? = some (.cells cur t (0, 0))) (hn : cs.length = Nat.min sLen dLen * z)
    (hsrc : ∀ j v, cs[j]? = some v → w.cell? (a.add j) = some v) (hfit : o + cs.length ≤ cur.size) (h1 : ∀ v ∈ cs, v.oneCell' = true) :
    (Builtin.copy_ #[dT, sT] ty #[.slice (some ⟨g, o, none⟩) dLen dCap, .slice (some a) sLen sCap]).run P w =
      .ok (goInt (Nat.min sLen dLen)) (w.setRow g (cur.toList.take o ++ cs ++ cur.toList.drop (o + cs.length)).toArray) := by
  have hl := run_loadCells_list (P := P) w a cs hsrc
  have hst := run_storeCells_at P g o t cs 0 cur w hg (by simpa using hfit) h1
  cases hq : P.info? elem with
  | none => simp [hq] at hs
  | some i =>
    have hi : i.size = z := by simpa [hq] using hs
    simp [Builtin.copy_, run_underlying hu, Builtin.lenOf, Builtin.firstCells, sizeOf, typeInfo, hq, hi, ← hn, hl, hst]
end
theorem cell_shape {w : World} {a : Addr} {v : Value} (h : w.cell? a = some v) : ∃ t k, w.shape? a.block = some (t, k) ∧ k ≠ 0 := by
  unfold World.cell? at h
  unfold World.shape?
  cases hb : w.heap[a.block]? with
  | none => rw [hb] at h; cases h
  | some o =>
    rw [hb] at h
    cases o with
    | cells c t fr =>
      refine ⟨t, c.size, rfl, fun e => ?_⟩
      simp only at h
      split at h
      · cases h
      · have := (Array.getElem?_eq_some_iff.1 h).1; omega
    | _ => cases h
/-- two rows in two blocks, the second one plain memory. -/
theorem run_overlaps_two {P : Program} (w : World) (tS tR e : TypeId) (ht : P.underlying tS = some (.slice e)) (size : Nat) (hz : ∀ w, (Go.sizeOf e).run P w = .ok size w)
    (a b : Addr) (la ca lb cb : Nat) (hne : a.block ≠ b.block) (v : Value) (ha : w.cell? a = some v) (cur : Array Value) (tB : TypeId) (hb : w.heap[b.block]? = some (.cells cur tB (0, 0))) (hc : cur.size ≠ 0) :
    (Extern.SlicesOverlaps.overlaps #[tS, tS] #[tR] #[.slice (some a) la ca, .slice (some b) lb cb]).run P w = .ok (.bool false) w := by
  obtain ⟨tA, kA, hsa, hkA⟩ := cell_shape ha
  have hsb : w.shape? b.block = some (tB, cur.size) := by unfold World.shape?; rw [hb]
  have hfb : ∀ x : Addr, x.block = b.block → w.frozen? x = false := fun x hx => by unfold World.frozen?; rw [hx, hb]; simp
  have hnb : (a.block != b.block) = true := by simpa using hne
  have hnb' : (a.block == b.block) = false := by simpa using hne
  have f1 := hfb b rfl
  have f2 := hfb { block := b.block, off := cur.size } rfl
  have key : ∀ (m : Sem Value), m = Extern.SlicesOverlaps.overlaps #[tS, tS] #[tR] #[.slice (some a) la ca, .slice (some b) lb cb] → m.run P w = .ok (.bool false) w := by
    intro m hm
    conv at hm => rhs; whnf
    subst hm
    have eb : ∀ {α β : Type} (x : Sem α) (f : α → Sem β), x.bind f = x >>= f := fun _ _ => rfl
    have ep : ∀ {α : Type} (x : α), Sem.pure x = (pure x : Sem α) := fun _ => rfl
    have er : ∀ {α : Type} (f : Program → Sem α), (Sem.program f).run P w = (f P).run P w := fun _ => rfl
    rw [er]
    simp only [eb, ep, Sem.run_bind, Sem.run_pure, Result.andThen_ok, List.getElem_toArray, List.getElem_cons_zero, ht]
    by_cases h0 : la = 0 ∨ lb = 0 ∨ size = 0
    · simp [hz, h0]
    · obtain ⟨kA, rfl⟩ : ∃ k, kA = k + 1 := ⟨kA - 1, by omega⟩
      generalize cur.size = kB at *
      obtain ⟨kB, rfl⟩ : ∃ k, kB = k + 1 := ⟨kB - 1, by omega⟩
      cases hfa : w.frozen? a <;> cases hfe : w.frozen? { block := a.block, off := kA + 1 } <;>
        simp [hz, h0, hnb, hnb', frozen, noView, viewAt, mayBeOne, stringish, shape, Sem.run, hsa, hsb, f1, f2, hfa, hfe]
  exact key _ rfl
/-- what stands there when one thing is put in, in place. -/
theorem ins_list (cur news : List Value) {i n cap : Nat} (hi : i < n) (hroom : n + 1 ≤ cap) (hc : cur.length = cap * 3) (hnl : news.length = 3) :
    let c1 := cur.take ((i + 1) * 3) ++ (cur.drop (i * 3)).take ((n - i) * 3) ++ cur.drop ((i + 1) * 3 + ((cur.drop (i * 3)).take ((n - i) * 3)).length)
    let c2 := c1.take (i * 3) ++ news ++ c1.drop (i * 3 + news.length)
    c1.length = cap * 3 ∧ c2.length = cap * 3 ∧ c2.take ((n + 1) * 3) = (cur.take (n * 3)).take (i * 3) ++ news ++ (cur.take (n * 3)).drop (i * 3) := by
  have e0 : ((cur.drop (i * 3)).take ((n - i) * 3)).length = (n - i) * 3 := by rw [List.length_take, List.length_drop]; omega
  intro c1 c2
  have e1 : c1.length = cap * 3 := by simp only [c1, List.length_append, List.length_take, List.length_drop, e0]; omega
  have e2 : c2.length = cap * 3 := by simp only [c2, List.length_append, List.length_take, List.length_drop, e1, hnl]; omega
  have g1 : ∀ j, c1[j]? = if j < (i + 1) * 3 then cur[j]? else if j < (n + 1) * 3 then cur[j - 3]? else cur[j]? := fun j => by
    simp only [c1]
    have t1 : (cur.take ((i + 1) * 3)).length = (i + 1) * 3 := by rw [List.length_take]; omega
    by_cases q1 : j < (i + 1) * 3
    · rw [if_pos q1, List.append_assoc, List.getElem?_append_left (by omega), List.getElem?_take_of_lt q1]
    · rw [if_neg q1]
      by_cases q2 : j < (n + 1) * 3
      · rw [if_pos q2, List.getElem?_append_left (by rw [List.length_append]; omega), List.getElem?_append_right (by omega), List.getElem?_take_of_lt (by omega), List.getElem?_drop, t1]
        congr 1; omega
      · rw [if_neg q2, List.getElem?_append_right (by rw [List.length_append]; omega), List.getElem?_drop, List.length_append, t1, e0]
        congr 1; omega
  refine ⟨e1, e2, ?_⟩
  have t2 : (c1.take (i * 3)).length = i * 3 := by rw [List.length_take]; omega
  have t3 : ((cur.take (n * 3)).take (i * 3)).length = i * 3 := by rw [List.length_take, List.length_take]; omega
  apply List.ext_getElem?
  intro j
  by_cases q0 : j < (n + 1) * 3
  · rw [List.getElem?_take_of_lt q0]
    simp only [c2]
    by_cases q1 : j < i * 3
    · rw [List.append_assoc, List.getElem?_append_left (by omega), List.getElem?_take_of_lt q1, g1, if_pos (by omega), List.append_assoc, List.getElem?_append_left (by omega), List.getElem?_take_of_lt q1, List.getElem?_take_of_lt (by omega)]
    · by_cases q2 : j < (i + 1) * 3
      · rw [List.append_assoc, List.getElem?_append_right (by omega), List.getElem?_append_left (by omega), List.append_assoc, List.getElem?_append_right (by omega), List.getElem?_append_left (by omega), t2, t3]
      · rw [List.getElem?_append_right (by rw [List.length_append]; omega), List.getElem?_drop, g1, List.getElem?_append_right (by rw [List.length_append]; omega), List.getElem?_drop, List.length_append, List.length_append, t2, t3, hnl, if_neg (by omega), if_pos (by omega), List.getElem?_take_of_lt (by omega)]
        congr 1; omega
  · rw [List.getElem?_eq_none (by rw [List.length_take]; omega), List.getElem?_eq_none]
    simp only [List.length_append, t3, hnl, List.length_drop, List.length_take]
    omega
section
variable (W : World) (g n cap i : Nat) (cur : Array Value) (news : List Value) (vb : Addr) (vc : Nat)
set_option maxHeartbeats 4000000 in
set_option maxRecDepth 100000 in
/-- there is room, and it is not the end. -/
theorem ins_room (hg : W.heap[g]? = some (.cells cur 52 (0, 0))) (hi : i < n) (hroom : n + 1 ≤ cap) (hcap : cap ≤ 9223372036854775807) (hcs : cur.size = cap * 3) (hone : ∀ v ∈ cur.toList.take (n * 3), v.oneCell' = true)
    (hnl : news.length = 3) (hnews : ∀ j v, news[j]? = some v → W.cell? (vb.add j) = some v) (h1 : ∀ v ∈ news, v.oneCell' = true) (hne : vb.block ≠ g) :
    Calls Try.prog 22 #[.slice (some ⟨g, 0, none⟩) n cap, .int .i64 i, .slice (some vb) 1 vc] W fun e W' =>
      e = .returned (.slice (some ⟨g, 0, none⟩) (n + 1) cap) ∧ ∃ cur' : Array Value, W' = W.drew.setRow g cur' ∧ cur'.size = cap * 3 ∧ cur'.toList.take ((n + 1) * 3) = (cur.toList.take (n * 3)).take (i * 3) ++ news ++ (cur.toList.take (n * 3)).drop (i * 3) := by
  obtain ⟨ti, z, hu, hti, hzz, hsize, hby, hzs, hsz⟩ := rowTy_spec (P := Try.prog) (tt := 25) (e := 52) (sz := 3) (bytes := 24) (by kernel_rfl)
  have hs3 : (Try.prog.info? 52).map (·.size) = some 3 := by rw [hti]; simp [hsize]
  have hz2 : ¬ ((i : Int) = (n : Int)) := by omega
  have hw1 : IntKind.i64.wrap ((i : Int) + 1) = (i : Int) + 1 := by rw [IntKind.wrap_i64]; omega
  have hw2 : IntKind.i64.wrap ((n : Int) + 1) = (n : Int) + 1 := by rw [IntKind.wrap_i64]; omega
  have hb1 : (0 : Int) ≤ (i : Int) + 1 := by omega
  have hin : i ≤ n := by omega
  have hb2 : ¬ (cap = i + 1) := by omega
  have hb3 : (i : Int) ≤ (n : Int) + 1 := by omega
  have hb4 : ¬ (cap = i) := by omega
  have hov : (callFunc 27 #[.slice (some vb) 1 vc, .slice (some ⟨g, (i + 1) * 3, none⟩) (n - i) (cap - (i + 1))]).run Try.prog W = .ok (.value (.bool false)) W := by
    rw [run_callFunc_extern Try.func27 (by kernel_rfl) (by kernel_rfl) (by kernel_rfl) (e := Extern.SlicesOverlaps.overlaps #[25, 25] #[4]) (by kernel_rfl),
      run_overlaps_two W _ _ 52 hu 3 (fun w => by rw [run_sizeOf' hti, hsize]) vb ⟨g, (i + 1) * 3, none⟩ 1 vc _ _ hne news[0] (by have := hnews 0 news[0] (List.getElem?_eq_getElem (by omega)); rwa [show vb.add 0 = vb from by unfold Addr.add; split <;> simp_all] at this) cur _ hg (by omega)]
    rfl
  obtain ⟨k1, k2, k3⟩ := ins_list cur.toList news hi hroom (by simpa using hcs) hnl
  generalize hcc : (cur.toList.drop (i * 3)).take ((n - i) * 3) = cc at *
  have hcl : cc.length = (n - i) * 3 := by rw [← hcc, List.length_take, List.length_drop, Array.length_toList]; omega
  have hcp1 : ∀ ty dc sc, (Builtin.copy_ #[25, 25] ty #[.slice (some ⟨g, (i + 1) * 3, none⟩) (n - i) dc, .slice (some ⟨g, i * 3, none⟩) (n + 1 - i) sc]).run Try.prog W.drew = .ok (goInt ((n - i : Nat) : Int)) (W.drew.setRow g (cur.toList.take ((i + 1) * 3) ++ cc ++ cur.toList.drop ((i + 1) * 3 + cc.length)).toArray) := fun ty dc sc => by
    have hm : Nat.min (n + 1 - i) (n - i) = n - i := Nat.min_eq_right (by omega)
    have := run_copy_rowz (P := Try.prog) W.drew 25 25 ty 52 g ((i + 1) * 3) (n - i) dc 3 ⟨g, i * 3, none⟩ (n + 1 - i) sc cur 52 cc hu hs3 hg (by rw [hm, hcl]) (fun j v hj => ?_) (by rw [hcl]; omega) (fun v hv => ?_)
    · rw [hm] at this; exact this
    · rw [Addr.add_lit]
      have hl : j < (n - i) * 3 := by rw [← hcl]; exact (List.getElem?_eq_some_iff.1 hj).1
      rw [← hcc, List.getElem?_take_of_lt hl, List.getElem?_drop] at hj
      show (W.drew.cell? _) = _
      unfold World.cell?
      rw [show W.drew.heap[(⟨g, i * 3 + j, none⟩ : Addr).block]? = some (.cells cur 52 (0, 0)) from hg]
      simpa using hj
    · refine hone v ?_
      obtain ⟨j, hj⟩ := List.getElem?_of_mem hv
      have hl : j < (n - i) * 3 := by rw [← hcl]; exact (List.getElem?_eq_some_iff.1 hj).1
      rw [← hcc, List.getElem?_take_of_lt hl, List.getElem?_drop] at hj
      exact List.mem_of_getElem? (i := i * 3 + j) (by rw [List.getElem?_take_of_lt (by omega)]; exact hj)
  generalize hc1 : cur.toList.take ((i + 1) * 3) ++ cc ++ cur.toList.drop ((i + 1) * 3 + cc.length) = c1 at *
  have hr1 := setRow_heap W.drew g cur c1.toArray _ (0, 0) hg
  have hcp2 : ∀ ty dc, (Builtin.copy_ #[25, 25] ty #[.slice (some ⟨g, i * 3, none⟩) (n + 1 - i) dc, .slice (some vb) 1 vc]).run Try.prog (W.drew.setRow g c1.toArray) = .ok (goInt ((1 : Nat) : Int)) ((W.drew.setRow g c1.toArray).setRow g (c1.take (i * 3) ++ news ++ c1.drop (i * 3 + news.length)).toArray) := fun ty dc => by
    have hm : Nat.min 1 (n + 1 - i) = 1 := Nat.min_eq_left (by omega)
    have := run_copy_rowz (P := Try.prog) (W.drew.setRow g c1.toArray) 25 25 ty 52 g (i * 3) (n + 1 - i) dc 3 vb 1 vc c1.toArray 52 news hu hs3 hr1 (by rw [hm, hnl]) (fun j v hj => ?_) (by rw [hnl]; simp [k1]; omega) h1
    · rw [hm] at this; simpa using this
    rw [← hnews j v hj]
    refine World.cell?_of_block (w := W) ?_
    show (World.setRow _ _ _).heap[(vb.add j).block]? = _
    rw [block_add]
    simp only [World.setRow, Array.getElem?_modify]
    rw [if_neg (fun e => hne e.symm)]
    rfl
  generalize hc2 : c1.take (i * 3) ++ news ++ c1.drop (i * 3 + news.length) = c2 at *
  clear hg hcc hc1 hc2 hone hnews h1 hr1 hti hzz
  go_enter Try.func22, Try.ntmps22
  go_wp2_with (simp only [hov])
  have mixed : Try.prog.follows .mixedOrders = true := by kernel_rfl
  go_region_law_o (refine step_copy_runI rfl _ _ 25 25 rfl _ _ (by simp [Act.eval, Act.put]) (by simp [Act.eval, Act.put]) (hcp1 _ _ _) ?_)
  go_wp2_with (at_builtin; refine wpList_copy_runI _ rfl _ _ 25 25 rfl _ _ rfl rfl (hcp2 _ _) ?_)
  go_ret
  exact ⟨rfl, c2.toArray, setRow_setRow _ _ _ _, by simpa using k2, by simpa using k3⟩
/-- what stands in a new row when one thing is put in. -/
theorem ins_list2 (R xs news : List Value) {i n G : Nat} (hi : i < n) (hG : n + 1 ≤ G) (hR : R.length = G * 3) (hx : xs.length = n * 3) (hRx : R.take (i * 3) = xs.take (i * 3)) (hnl : news.length = 3) :
    let c1 := R.take (i * 3) ++ news ++ R.drop (i * 3 + news.length)
    let c2 := c1.take ((i + 1) * 3) ++ xs.drop (i * 3) ++ c1.drop ((i + 1) * 3 + (xs.drop (i * 3)).length)
    c1.length = G * 3 ∧ c2.length = G * 3 ∧ c2.take ((n + 1) * 3) = xs.take (i * 3) ++ news ++ xs.drop (i * 3) := by
  have t1 : (xs.take (i * 3)).length = i * 3 := by rw [List.length_take]; omega
  have t2 : (xs.drop (i * 3)).length = (n - i) * 3 := by rw [List.length_drop]; omega
  intro c1 c2
  have e1 : c1.length = G * 3 := by simp only [c1, hRx, List.length_append, t1, List.length_drop, hR, hnl]; omega
  have e3 : c1.take ((i + 1) * 3) = xs.take (i * 3) ++ news := by
    simp only [c1, hRx]
    rw [List.take_append_of_le_length (by rw [List.length_append, t1, hnl]; omega), List.take_of_length_le (by rw [List.length_append, t1, hnl]; omega)]
  have e2 : c2.length = G * 3 := by simp only [c2, e3, List.length_append, t1, t2, List.length_drop, e1, hnl]; omega
  refine ⟨e1, e2, ?_⟩
  simp only [c2, e3]
  rw [List.take_append_of_le_length (by simp only [List.length_append, t1, t2, hnl]; omega), List.take_of_length_le (by simp only [List.length_append, t1, t2, hnl]; omega)]
set_option maxHeartbeats 4000000 in
set_option maxRecDepth 100000 in
/-- there is no room, and it is not the end: a new row. -/
theorem ins_grow (xs : List Value) (hg : W.heap[g]? = some (.cells cur 52 (0, 0))) (hxs : cur.toList.take (n * 3) = xs) (hxl : xs.length = n * 3) (hi : i < n) (hnc : n ≤ cap) (hroom : cap < n + 1) (hbig : (n + 1) * 24 ≤ 140737488355328) (hone : ∀ v ∈ xs, v.oneCell' = true)
    (hnl : news.length = 3) (hnews : ∀ j v, news[j]? = some v → W.cell? (vb.add j) = some v) (h1 : ∀ v ∈ news, v.oneCell' = true) :
    Calls Try.prog 22 #[.slice (some ⟨g, 0, none⟩) n cap, .int .i64 i, .slice (some vb) 1 vc] W fun e W' =>
      ∃ G cur' o, e = .returned (.slice (some ⟨W.heap.size, 0, none⟩) (n + 1) G) ∧ W'.heap = ((W.alloc o).setRow W.heap.size cur').heap ∧ W'.os = W.os ∧ W'.tape = W.tape ∧ W'.output = W.output ∧ (∃ c0, o = .cells c0 52 (0, 0)) ∧ n + 1 ≤ G ∧ G ≤ maxLen ∧ cur'.size = G * 3 ∧ cur'.toList.take ((n + 1) * 3) = xs.take (i * 3) ++ news ++ xs.drop (i * 3) := by
  obtain ⟨ti, z, hu, hti, hzz, hsize, hby, hzs, hsz⟩ := rowTy_spec (P := Try.prog) (tt := 25) (e := 52) (sz := 3) (bytes := 24) (by kernel_rfl)
  have hs3 : (Try.prog.info? 52).map (·.size) = some 3 := by rw [hti]; simp [hsize]
  have hcell : ∀ j v, xs[j]? = some v → W.cell? ⟨g, j, none⟩ = some v := fun j v hj => by
    have hl : j < n * 3 := by rw [← hxl]; exact (List.getElem?_eq_some_iff.1 hj).1
    rw [← hxs, List.getElem?_take_of_lt hl] at hj
    unfold World.cell?
    rw [show W.heap[(⟨g, j, none⟩ : Addr).block]? = some (.cells cur 52 (0, 0)) from hg]
    simpa using hj
  have hgl : g < W.heap.size := (Array.getElem?_eq_some_iff.1 hg).1
  have hvl : vb.block < W.heap.size := by
    have := hnews 0 news[0] (List.getElem?_eq_getElem (by omega))
    obtain ⟨t, k, h, _⟩ := cell_shape this
    rw [block_add] at h
    unfold World.shape? at h
    cases hq : W.heap[vb.block]? with
    | none => rw [hq] at h; cases h
    | some o => exact (Array.getElem?_eq_some_iff.1 hq).1
  have hz2 : ¬ ((i : Int) = (n : Int)) := by omega
  have hz3 : (cap : Int) < (n : Int) + 1 := by omega
  have hw1 : IntKind.i64.wrap ((i : Int) + 1) = (i : Int) + 1 := by rw [IntKind.wrap_i64]; omega
  have hw2 : IntKind.i64.wrap ((n : Int) + 1) = (n : Int) + 1 := by rw [IntKind.wrap_i64]; omega
  have hkk : (n : Int) + 1 - (i : Int) = ((n + 1 - i : Nat) : Int) := by omega
  have hw3 : IntKind.i64.wrap ((n : Int) + 1 - (i : Int)) = (n : Int) + 1 - (i : Int) := by rw [IntKind.wrap_i64]; omega
  have hik : i + (n + 1 - i) = n + 1 := by omega
  have hold : (Builtin.firstCells ti.size i (.slice (some ⟨g, 0, none⟩) i cap)).run Try.prog W.drew = .ok (xs.take (i * 3)).toArray W.drew := by
    rw [hsize]
    exact run_firstCells_some W.drew 3 i ⟨g, 0, none⟩ i cap (xs.take (i * 3)) (by rw [List.length_take]; omega) (fun j v hj => by
      rw [Addr.add_lit, Nat.zero_add]
      rw [List.getElem?_take] at hj
      split at hj
      · exact hcell j v hj
      · cases hj)
  obtain ⟨G, hG⟩ : ∃ G, G = grownCap W (n + 1) cap 52 := ⟨_, rfl⟩
  have hGn : n + 1 ≤ G := by rw [hG]; exact grownCap_ge W _ _ _
  have hGm : G ≤ maxLen := by rw [hG]; exact grownCap_le_maxLen W (n + 1) cap _ (by unfold maxLen; omega)
  have hG63 : G ≤ 9223372036854775807 := by unfold maxLen at hGm; omega
  obtain ⟨ROW, hROW⟩ : ∃ ROW : Array Value, ROW = (xs.take (i * 3)).toArray ++ Builtin.zeroCells z.cells (n + 1 - i) ++ Builtin.zeroCells z.cells (G - (n + 1)) := ⟨_, rfl⟩
  have hrz : ∀ ty, (Builtin.append_ #[25, 3] ty #[.slice (some ⟨g, 0, none⟩) i cap, .int .i64 ((n : Int) + 1 - (i : Int))]).run Try.prog W =
      .ok (.slice (some ⟨W.heap.size, 0, none⟩) (n + 1) G) (W.drew.alloc (.cells ROW 52)) := fun ty => by
    have h := Lib.run_append_grow_zeros W 25 3 ty 52 ti z .i64 .i64 hu Try.underlying3 hti hzz (some ⟨g, 0, none⟩) i cap _ hold (n + 1 - i) (by omega) (by omega) (by omega) (by omega) (by rw [hby]; omega) (by rw [hby, hik]; exact growslice_fits hroom hbig)
    rw [hik, ← hG, ← hROW] at h
    rw [hkk]
    exact h
  have hRl : ROW.size = G * 3 := by
    rw [hROW]
    simp [Builtin.zeroCells, hzs, List.length_take]
    omega
  have hRx : ROW.toList.take (i * 3) = xs.take (i * 3) := by
    rw [hROW, Array.toList_append, Array.toList_append, List.append_assoc, List.take_append_of_le_length (by simp [List.length_take]; omega), List.take_of_length_le (by simp [List.length_take]; omega)]
  obtain ⟨k1, k2, k3⟩ := ins_list2 ROW.toList xs news hi hGn (by simpa using hRl) hxl hRx hnl
  generalize hdx : xs.drop (i * 3) = dx at *
  have hdl : dx.length = (n - i) * 3 := by rw [← hdx, List.length_drop]; omega
  obtain ⟨N, hN⟩ : ∃ N, N = W.heap.size := ⟨_, rfl⟩
  obtain ⟨W1, hW1⟩ : ∃ W1, W1 = W.drew.alloc (.cells ROW 52) := ⟨_, rfl⟩
  have hN1 : W1.heap[N]? = some (.cells ROW 52 (0, 0)) := by rw [hW1, hN]; show (W.heap.push _)[W.heap.size]? = _; simp
  have hO1 : ∀ b, b < W.heap.size → W1.heap[b]? = W.heap[b]? := fun b hb => by rw [hW1]; show (W.heap.push _)[b]? = _; rw [Array.getElem?_push_lt hb, Array.getElem?_eq_getElem hb]
  generalize hc1 : ROW.toList.take (i * 3) ++ news ++ ROW.toList.drop (i * 3 + news.length) = c1 at *
  have hcpA : ∀ Wx : World, Wx.heap = W1.heap → ∀ ty dc, (Builtin.copy_ #[25, 25] ty #[.slice (some ⟨N, i * 3, none⟩) (n + 1 - i) dc, .slice (some vb) 1 vc]).run Try.prog Wx = .ok (goInt ((1 : Nat) : Int)) (Wx.setRow N c1.toArray) := fun Wx hW ty dc => by
    have hm : Nat.min 1 (n + 1 - i) = 1 := Nat.min_eq_left (by omega)
    have := run_copy_rowz (P := Try.prog) Wx 25 25 ty 52 N (i * 3) (n + 1 - i) dc 3 vb 1 vc ROW 52 news hu hs3 (by rw [hW]; exact hN1) (by rw [hm, hnl]) (fun j v hj => ?_) (by rw [hnl, hRl]; omega) h1
    · rw [hm, hc1] at this; exact this
    · rw [← hnews j v hj]
      refine World.cell?_of_block (w := W) ?_
      rw [block_add, hW, hO1 _ hvl]
  generalize hc2 : c1.take ((i + 1) * 3) ++ dx ++ c1.drop ((i + 1) * 3 + dx.length) = c2 at *
  have hgN : g ≠ N := by omega
  have hcpB : ∀ Wx : World, Wx.heap = (W1.setRow N c1.toArray).heap → ∀ ty dc sc, (Builtin.copy_ #[25, 25] ty #[.slice (some ⟨N, (i + 1) * 3, none⟩) (n - i) dc, .slice (some ⟨g, i * 3, none⟩) (n - i) sc]).run Try.prog Wx = .ok (goInt ((n - i : Nat) : Int)) (Wx.setRow N c2.toArray) := fun Wx hW ty dc sc => by
    have hm : Nat.min (n - i) (n - i) = n - i := Nat.min_self _
    have := run_copy_rowz (P := Try.prog) Wx 25 25 ty 52 N ((i + 1) * 3) (n - i) dc 3 ⟨g, i * 3, none⟩ (n - i) sc c1.toArray 52 dx hu hs3 (by rw [hW]; exact setRow_heap W1 N ROW _ _ (0, 0) hN1) (by rw [hm, hdl]) (fun j v hj => ?_) (by rw [hdl]; simp [k1]; omega) (fun v hv => hone v (by rw [← hdx] at hv; exact List.mem_of_mem_drop hv))
    · rw [hm] at this; simpa [hc2] using this
    · rw [Addr.add_lit]
      rw [← hdx, List.getElem?_drop] at hj
      rw [← hcell _ v hj]
      refine World.cell?_of_block (w := W) ?_
      rw [hW]
      simp only [World.setRow, Array.getElem?_modify]
      rw [if_neg (fun e => hgN e.symm), hO1 _ hgl]
  rw [← hW1] at hrz
  rw [← hN] at hrz ⊢
  have fin : ∀ Wx : World, Wx.heap = W1.heap → Wx.heap = (W.alloc (.cells ROW 52)).heap := fun Wx h => by rw [h, hW1]; rfl
  have hb1 : (0 : Int) ≤ (i : Int) + 1 := by omega
  have hin : i ≤ n := by omega
  have hbN : ¬ (G = i) := by omega
  have hbM : ¬ (G = i + 1) := by omega
  have hb3 : (i : Int) ≤ (n : Int) + 1 := by omega
  have hb4 : ¬ (cap = i) := by omega
  have hos : W1.os = W.os := by rw [hW1]; rfl
  have hta : W1.tape = W.tape := by rw [hW1]; rfl
  have hou : W1.output = W.output := by rw [hW1]; rfl
  have hhe : W1.heap = (W.alloc (.cells ROW 52)).heap := by rw [hW1]; rfl
  have mixed : Try.prog.follows .mixedOrders = true := by kernel_rfl
  clear hg hxs hxl hnews h1 hone hti hzz hold hG hROW hRx hdx hW1 hN1 hO1 hc1 hc2 hcell hkk hik fin hN hgl hvl
  go_enter Try.func22, Try.ntmps22
  go_wp2_with (first
    | (at_builtin; refine Lib.wpList_append_run _ rfl _ _ _ _ rfl _ _ rfl rfl _ _ (hrz _) ?_)
    | (at_builtin; refine wpList_copy_runI _ rfl _ _ 25 25 rfl _ _ rfl rfl (hcpA _ rfl _ _) ?_))
  go_region_law_o (refine step_copy_runI rfl _ _ 25 25 rfl (.slice (some ⟨N, (i + 1) * 3, none⟩) (n - i) (G - (i + 1))) (.slice (some ⟨g, i * 3, none⟩) (n - i) (cap - i)) (by simp [Act.eval, Act.put]) (by simp [Act.eval, Act.put]) (hcpB (W1.setRow N c1.toArray).drew rfl 3 (G - (i + 1)) (cap - i)) ?_)
  go_wp2
  go_ret
  refine ⟨G, c2.toArray, .cells ROW 52 (0, 0), rfl, ?_, hos, hta, hou, ⟨_, rfl⟩, hGn, hGm, by simpa using k2, by simpa using k3⟩
  show ((W1.setRow N c1.toArray).setRow N c2.toArray).heap = _
  rw [setRow_setRow]
  simp only [World.setRow, hhe]
end
set_option maxHeartbeats 4000000 in
set_option maxRecDepth 100000 in
/-- at the end. -/
theorem ins_end (W : World) (v : Value) (n : Nat) (xs news : List Value) (vb : Addr) (vc : Nat) (hown : W.ownsRow 0 52 3 v n xs) (hbig : (n + 1) * 24 ≤ 140737488355328)
    (hnl : news.length = 3) (hnews : ∀ j v, news[j]? = some v → W.cell? (vb.add j) = some v) (h1 : ∀ v ∈ news, v.oneCell' = true) :
    Calls Try.prog 22 #[v, .int .i64 n, .slice (some vb) 1 vc] W fun e W' =>
      ∃ v', e = .returned v' ∧ W'.ownsRow 0 52 3 v' (n + 1) (xs ++ news) ∧ W.grownBy W' v.ownBlock ∧ (∀ g, v'.ownBlock = some g → v.ownBlock = some g ∨ W.heap.size ≤ g) ∧ v'.oneCell' = true := by
  obtain ⟨ti, z, hu, hti, hzz, hsize, hby, hzs, hsz⟩ := rowTy_spec (P := Try.prog) (tt := 25) (e := 52) (sz := 3) (bytes := 24) (by kernel_rfl)
  obtain ⟨v', w', hr, q⟩ := run_append_own2 (P := Try.prog) W 0 25 25 52 ti z 3 24 hu hti hzz hsize hby hzs hsz v n xs hown vb 1 vc news (by rw [hnl]) hnews h1 (by unfold maxLen; omega) hbig (Nat.zero_le _) (by decide)
  rcases hown.2 with ⟨rfl, rfl⟩ | ⟨g, cap, cur, rfl, hbg, hg, hnc, hcm, hcs, htake⟩
  · clear hti hzz hown hnews
    go_enter Try.func22, Try.ntmps22
    go_wp2_with (at_builtin; refine Lib.wpList_append_run _ rfl _ _ _ _ rfl _ _ rfl rfl _ _ hr ?_)
    go_ret
    exact ⟨v', rfl, q⟩
  · have hcap : cap ≤ 9223372036854775807 := by unfold maxLen at hcm; omega
    clear hti hzz hown hnews hg hcs htake hcm
    go_enter Try.func22, Try.ntmps22
    go_wp2_with (at_builtin; refine Lib.wpList_append_run _ rfl _ _ _ _ rfl _ _ rfl rfl _ _ hr ?_)
    all_goals go_ret
    all_goals exact ⟨v', rfl, q⟩
set_option maxHeartbeats 4000000 in
set_option maxRecDepth 100000 in
/-- slices.Clone. -/
theorem w_Clone (W : World) (v : Value) (n : Nat) (xs : List Value) (hown : W.ownsRow 0 52 3 v n xs) (hbig : n * 24 ≤ 140737488355328) (hone : ∀ v ∈ xs, v.oneCell' = true) :
    Calls Try.prog 23 #[v] W fun e W' =>
      ∃ v', e = .returned v' ∧ W'.ownsRow 0 52 3 v' n xs ∧ W.grownBy W' none ∧ (∀ g, v'.ownBlock = some g → W.heap.size ≤ g) ∧ v'.oneCell' = true := by
  obtain ⟨ti, z, hu, hti, hzz, hsize, hby, hzs, hsz⟩ := rowTy_spec (P := Try.prog) (tt := 25) (e := 52) (sz := 3) (bytes := 24) (by kernel_rfl)
  have q22 : ∀ (w : World) (a : Option Addr) (n c n' c' : Nat), (binOp .eql 25 (.slice a n c) (.slice none n' c')).run Try.prog w = .ok (.bool a.isNone) w := fun w a n c n' c' => Lib.run_eql_slice_nil w _ _ a n c n' c' hu
  rcases hown.2 with ⟨rfl, rfl⟩ | ⟨g, cap, cur, rfl, hbg, hg, hnc, hcm, hcs, htake⟩
  · clear hti hzz
    go_enter Try.func23, Try.ntmps23
    go_wp2
    go_ret
    exact ⟨_, rfl, hown, ⟨rfl, rfl, rfl, Nat.le_refl _, fun _ _ _ => rfl⟩, fun g hg => (by cases hg), rfl⟩
  · have hgl : g < W.heap.size := (Array.getElem?_eq_some_iff.1 hg).1
    have hown1 : (W.alloc (.cells #[] 52 (0, 0))).ownsRow 0 52 3 (.slice (some ⟨W.heap.size, 0, none⟩) 0 0) 0 [] :=
      ⟨rfl, .inr ⟨W.heap.size, 0, #[], rfl, Nat.zero_le _, by show (W.heap.push _)[W.heap.size]? = _; simp, Nat.le_refl _, Nat.zero_le _, rfl, rfl⟩⟩
    have hal : W.grownBy (W.alloc (.cells #[] 52 (0, 0))) none := World.grownBy_alloc W _ none
    have hcell : ∀ j u, xs[j]? = some u → (W.alloc (.cells #[] 52 (0, 0))).cell? ((⟨g, 0, none⟩ : Addr).add j) = some u := fun j u hj => by
      rw [← hown.cells (g := g) rfl j u hj]
      exact World.cell?_of_block (w := W) (by rw [block_add]; exact hal.block g hgl fun e => by cases e)
    obtain ⟨v', w', hr, q⟩ : ∃ v' w', (Builtin.append_ #[25, 25] 25 #[.slice (some ⟨W.heap.size, 0, none⟩) 0 0, .slice (some ⟨g, 0, none⟩) n cap]).run Try.prog (W.alloc (.cells #[] 52 (0, 0))) = .ok v' w' ∧
        w'.ownsRow 0 52 3 v' n xs ∧ W.grownBy w' none ∧ (∀ g, v'.ownBlock = some g → W.heap.size ≤ g) ∧ v'.oneCell' = true := by
      by_cases h0 : n = 0
      · subst h0
        have hx : xs = [] := List.eq_nil_of_length_eq_zero (by simpa using hown.1)
        subst hx
        have hr := run_append_room (P := Try.prog) (W.alloc (.cells #[] 52 (0, 0))) 25 25 52 ti hu hti W.heap.size 0 0 #[] (by show (W.heap.push _)[W.heap.size]? = _; simp) ⟨g, 0, none⟩ 0 cap [] (by simp) (by simp) (by simp) (by simp) (by simp)
        rw [show ∀ X : Array Value, X = #[] → (W.alloc (.cells #[] 52 (0, 0))).setRow W.heap.size X = W.alloc (.cells #[] 52 (0, 0)) from fun X e => by rw [e]; exact setRow_self _ _ #[] 52 (0, 0) (by show (W.heap.push _)[W.heap.size]? = _; simp)] at hr
        · exact ⟨_, _, hr, hown1, hal, fun g' hg' => by simp [Value.ownBlock] at hg'; omega, rfl⟩
        · simp
      · obtain ⟨v', w', hr, q1, q2, q3, q4⟩ := run_append_own2 (P := Try.prog) (W.alloc (.cells #[] 52 (0, 0))) 0 25 25 52 ti z 3 24 hu hti hzz hsize hby hzs hsz _ 0 [] hown1 ⟨g, 0, none⟩ n cap xs hown.1 hcell hone (by unfold maxLen; omega) (by omega) (Nat.zero_le _) (by omega)
        rw [Nat.zero_add, List.nil_append] at q1
        refine ⟨v', w', hr, q1, ⟨q2.os, q2.tape, q2.output, Nat.le_trans hal.size q2.size, fun k hk _ => ?_⟩, fun g' hg' => ?_, q4⟩
        · rw [q2.block k (Nat.lt_of_lt_of_le hk hal.size) (by simp [Value.ownBlock]; omega)]
          exact hal.block k hk fun e => by cases e
        · rcases q3 g' hg' with h | h
          · simp [Value.ownBlock] at h; omega
          · exact Nat.le_trans hal.size h
    clear hti hzz hown1 hal hcell hown hg hcs htake
    go_enter Try.func23, Try.ntmps23
    go_wp2_with (at_builtin; refine Lib.wpList_append_run _ rfl _ _ _ _ rfl _ _ rfl rfl _ _ hr ?_)
    go_ret
    exact ⟨v', rfl, q⟩
end Go.Proofs.Ytpopeipcjpfbaaa
