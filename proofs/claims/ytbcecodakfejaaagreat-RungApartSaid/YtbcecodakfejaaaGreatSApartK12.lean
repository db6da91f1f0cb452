/-
  My own texts, without what this claim does not need. My own text.
-/
import Derived.Shelf.Spec.SlicesInsert
import Derived.Lib.AppendZerosOnto
import Derived.Test.YtbcecodakfejaaaGreatSApartK11
set_option maxRecDepth 100000
set_option maxHeartbeats 64000000
set_option linter.unusedVariables false
set_option linter.unusedSimpArgs false
set_option linter.unusedSectionVars false
open Go.Proofs.Tryz renaming prog → ag
namespace Go.Proofs.YtbcecodakfejaaaGreat
open Go.RowKit Go.Lib
section
variable {P : Program}
theorem Dr (w : World) (sG zS ty elem : TypeId) (g o qd x2 z : Nat) (a : Addr) (qQ zR : Nat) (cur : Array Value) (t : TypeId) (cs : List Value)
  (hu : P.underlying sG = some (.slice elem)) (hs : (P.info? elem).map (·.size) = some z)
  (ao : w.heap[g]? = some (.cells cur t (0, 0))) (au : cs.length = Nat.min qQ qd * z)
  (GF : ∀ j v, cs[j]? = some v → w.cell? (a.add j) = some v) (wm : o + cs.length ≤ cur.size) (h1 : ∀ v ∈ cs, v.oneCell' = true) :
  (Builtin.copy_ #[sG, zS] ty #[.slice (some ⟨g, o, none⟩) qd x2, .slice (some a) qQ zR]).run P w =
   .ok (goInt (Nat.min qQ qd)) (w.setRow g (cur.toList.take o ++ cs ++ cur.toList.drop (o + cs.length)).toArray) := by
 have hl := run_loadCells_list (P := P) w a cs GF;have iP := run_storeCells_at P g o t cs 0 cur w ao (by simpa using wm) h1;cases ak : P.info? elem with
 | none => simp [ak] at hs
 | some i =>
  have hi : i.size = z := by simpa [ak] using hs
  simp [Builtin.copy_, run_underlying hu, Builtin.lenOf, Builtin.firstCells, sizeOf, typeInfo, ak, hi, ← au, hl, iP]
end
theorem KD {w : World} {a : Addr} {v : Value} (h : w.cell? a = some v) : ∃ t k, w.shape? a.block = some (t, k) ∧ k ≠ 0 := by
 unfold World.cell? at h;unfold World.shape?;cases ab : w.heap[a.block]? with
 | none => rw [ab] at h; cases h
 | some o =>
  rw [ab] at h;cases o with
  | cells c t yd =>
   refine ⟨t, c.size, rfl, fun e => ?_⟩;simp only at h
   split at h
   ·cases h
   ·have := (jH.1 h).1; omega
  | _ => cases h
theorem aeB {P : Program} (w : World) (zY Ri e : TypeId) (ax : P.underlying zY = some (.slice e)) (size : Nat) (aI : ∀ w, (Go.sizeOf e).run P w = .ok size w)
  (a b : Addr) (qx jq G7 KB : Nat) (bX : a.block ≠ b.block) (v : Value) (aH : w.cell? a = some v) (cur : Array Value) (Rh : TypeId) (ab : w.heap[b.block]? = some (.cells cur Rh (0, 0))) (aj : cur.size ≠ 0) :
  (Extern.SlicesOverlaps.overlaps #[zY, zY] #[Ri] #[.slice (some a) qx jq, .slice (some b) G7 KB]).run P w = .ok (.bool false) w := by
 obtain ⟨aio, Cj, Yt, ahu⟩ := KD aH;have Yu : w.shape? b.block = some (Rh, cur.size) := by unfold World.shape?; rw [ab]
 have Mo : ∀ x : Addr, x.block = b.block → w.frozen? x = false := fun x aa => by unfold World.frozen?; rw [aa, ab]; simp
 have X2 : (a.block != b.block) = true := by simpa using bX
 have X3 : (a.block == b.block) = false := by simpa using bX
 have f1 := Mo b rfl;have f2 := Mo { block := b.block, off := cur.size } rfl
 have key : ∀ (m : Sem Value), m = Extern.SlicesOverlaps.overlaps #[zY, zY] #[Ri] #[.slice (some a) qx jq, .slice (some b) G7 KB] → m.run P w = .ok (.bool false) w := by
  intro m hm
  conv at hm => rhs; whnf
  subst hm;have ly : ∀ {α β : Type} (x : Sem α) (f : α → Sem β), x.bind f = x >>= f := fun _ _ => rfl;have rl : ∀ {α : Type} (x : α), Sem.pure x = (pure x : Sem α) := fun _ => rfl;have V9 : ∀ {α : Type} (f : Program → Sem α), (Sem.program f).run P w = (f P).run P w := fun _ => rfl;rw [V9];simp only [ly, rl, Sem.run_bind, Sem.run_pure, Result.andThen_ok, List.getElem_toArray, List.getElem_cons_zero, ax]
  by_cases aA : qx = 0 ∨ G7 = 0 ∨ size = 0
  ·simp [aI, aA]
  ·obtain ⟨Cj, rfl⟩ : ∃ k, Cj = k + 1 := ⟨Cj - 1, by omega⟩;generalize cur.size = GY at *;obtain ⟨GY, rfl⟩ : ∃ k, GY = k + 1 := ⟨GY - 1, by omega⟩
   cases XB : w.frozen? a <;> cases XC : w.frozen? { block := a.block, off := Cj + 1 } <;>
    simp [aI, aA, X2, X3, frozen, noView, viewAt, mayBeOne, stringish, shape, Sem.run, Yt, Yu, f1, f2, XB, XC]
 exact key _ rfl
theorem Y5 (cur news : List Value) {i n cap : Nat} (hi : i < n) (k9 : n + 1 ≤ cap) (aj : cur.length = cap * 3) (gw : news.length = 3) :
  let c1 := cur.take ((i + 1) * 3) ++ (cur.drop (i * 3)).take ((n - i) * 3) ++ cur.drop ((i + 1) * 3 + ((cur.drop (i * 3)).take ((n - i) * 3)).length)
  let c2 := c1.take (i * 3) ++ news ++ c1.drop (i * 3 + news.length)
  c1.length = cap * 3 ∧ c2.length = cap * 3 ∧ c2.take ((n + 1) * 3) = (cur.take (n * 3)).take (i * 3) ++ news ++ (cur.take (n * 3)).drop (i * 3) := by
 have cW : ((cur.drop (i * 3)).take ((n - i) * 3)).length = (n - i) * 3 := by rw [dS, hN]; omega
 intro c1 c2;have aF : c1.length = cap * 3 := by simp only [c1, cx, dS, hN, cW]; omega
 have aN : c2.length = cap * 3 := by simp only [c2, cx, dS, hN, aF, gw]; omega
 have g1 : ∀ j, c1[j]? = if j < (i + 1) * 3 then cur[j]? else if j < (n + 1) * 3 then cur[j - 3]? else cur[j]? := fun j => by
  simp only [c1];have t1 : (cur.take ((i + 1) * 3)).length = (i + 1) * 3 := by rw [dS]; omega
  by_cases q1 : j < (i + 1) * 3
  ·rw [if_pos q1, gQ, fK (by omega), fk q1]
  ·rw [if_neg q1]
   by_cases q2 : j < (n + 1) * 3
   ·rw [if_pos q2, fK (by rw [cx]; omega), gm (by omega), fk (by omega), fC, t1];congr 1; omega
   ·rw [if_neg q2, gm (by rw [cx]; omega), fC, cx, t1, cW];congr 1; omega
 refine ⟨aF, aN, ?_⟩;have t2 : (c1.take (i * 3)).length = i * 3 := by rw [dS]; omega
 have t3 : ((cur.take (n * 3)).take (i * 3)).length = i * 3 := by rw [dS, dS]; omega
 apply List.ext_getElem?;intro j
 by_cases q0 : j < (n + 1) * 3
 ·rw [fk q0];simp only [c2]
  by_cases q1 : j < i * 3
  ·rw [gQ, fK (by omega), fk q1, g1, if_pos (by omega), gQ, fK (by omega), fk q1, fk (by omega)]
  ·by_cases q2 : j < (i + 1) * 3
   ·rw [gQ, gm (by omega), fK (by omega), gQ, gm (by omega), fK (by omega), t2, t3]
   ·rw [gm (by rw [cx]; omega), fC, g1, gm (by rw [cx]; omega), fC, cx, cx, t2, t3, gw, if_neg (by omega), if_pos (by omega), fk (by omega)];congr 1; omega
 ·rw [lQ (by rw [dS]; omega), lQ];simp only [cx, t3, gw, hN, dS];omega
section
variable (W : World) (g n cap i : Nat) (cur : Array Value) (news : List Value) (fa : Addr) (pR : Nat)
theorem Y7 (ao : W.heap[g]? = some (.cells cur 214 (0, 0))) (hi : i < n) (k9 : n + 1 ≤ cap) (Xk : cap ≤ 9223372036854775807) (ej : cur.size = cap * 3) (nD : ∀ v ∈ cur.toList.take (n * 3), v.oneCell' = true)
  (gw : news.length = 3) (kJ : ∀ j v, news[j]? = some v → W.cell? (fa.add j) = some v) (h1 : ∀ v ∈ news, v.oneCell' = true) (bX : fa.block ≠ g) :
  Calls ag 160 #[.slice (some ⟨g, 0, none⟩) n cap, .int .i64 i, .slice (some fa) 1 pR] W fun e bb =>
   e = .returned (.slice (some ⟨g, 0, none⟩) (n + 1) cap) ∧ ∃ nv : Array Value, bb = W.drew.setRow g nv ∧ nv.size = cap * 3 ∧ nv.toList.take ((n + 1) * 3) = (cur.toList.take (n * 3)).take (i * 3) ++ news ++ (cur.toList.take (n * 3)).drop (i * 3) := by
 obtain ⟨ev, z, hu, eT, hh, hf, kG, ot, bB⟩ := qP (P := ag) (tt := 134) (e := 214) (sz := 3) (bytes := 24) (by kernel_rfl);have yK : (ag.info? 214).map (·.size) = some 3 := by rw [eT]; simp [hf]
 have jX : ¬ ((i : Int) = (n : Int)) := by omega
 have GK : IntKind.i64.wrap ((i : Int) + 1) = (i : Int) + 1 := by rw [IntKind.wrap_i64]; omega
 have GL : IntKind.i64.wrap ((n : Int) + 1) = (n : Int) + 1 := by rw [IntKind.wrap_i64]; omega
 have c9 : (0 : Int) ≤ (i : Int) + 1 := by omega
 have il : i ≤ n := by omega
 have da : ¬ (cap = i + 1) := by omega
 have FV : (i : Int) ≤ (n : Int) + 1 := by omega
 have ux : ¬ (cap = i) := by omega
 have Yd : (callFunc 183 #[.slice (some fa) 1 pR, .slice (some ⟨g, (i + 1) * 3, none⟩) (n - i) (cap - (i + 1))]).run ag W = .ok (.value (.bool false)) W := by
  rw [run_callFunc_extern Tryz.func183 (by kernel_rfl) (by kernel_rfl) (by kernel_rfl) (e := Extern.SlicesOverlaps.overlaps #[134, 134] #[4]) (by kernel_rfl),
   aeB W _ _ 214 hu 3 (fun w => by rw [ht eT, hf]) fa ⟨g, (i + 1) * 3, none⟩ 1 pR _ _ bX news[0] (by have := kJ 0 news[0] (bQ (by omega)); rwa [show fa.add 0 = fa from by unfold Addr.add; split <;> simp_all] at this) cur _ ao (by omega)]
  rfl
 obtain ⟨bd, bC, ez⟩ := Y5 cur.toList news hi k9 (by simpa using ej) gw;generalize ny : (cur.toList.drop (i * 3)).take ((n - i) * 3) = dc at *;have cA : dc.length = (n - i) * 3 := by rw [← ny, dS, hN, Array.length_toList]; omega
 have Xn : ∀ ty ja vg, (Builtin.copy_ #[134, 134] ty #[.slice (some ⟨g, (i + 1) * 3, none⟩) (n - i) ja, .slice (some ⟨g, i * 3, none⟩) (n + 1 - i) vg]).run ag W.drew = .ok (goInt ((n - i : Nat) : Int)) (W.drew.setRow g (cur.toList.take ((i + 1) * 3) ++ dc ++ cur.toList.drop ((i + 1) * 3 + dc.length)).toArray) := fun ty ja vg => by
  have hm : Nat.min (n + 1 - i) (n - i) = n - i := Nat.min_eq_right (by omega);have := Dr (P := ag) W.drew 134 134 ty 214 g ((i + 1) * 3) (n - i) ja 3 ⟨g, i * 3, none⟩ (n + 1 - i) vg cur 214 dc hu yK ao (by rw [hm, cA]) (fun j v ae => ?_) (by rw [cA]; omega) (fun v hv => ?_)
  ·rw [hm] at this; exact this
  ·rw [Addr.add_lit];have hl : j < (n - i) * 3 := by rw [← cA]; exact (bF.1 ae).1
   rw [← ny, fk hl, fC] at ae;show (W.drew.cell? _) = _;unfold World.cell?;rw [show W.drew.heap[(⟨g, i * 3 + j, none⟩ : Addr).block]? = some (.cells cur 214 (0, 0)) from ao];simpa using ae
  ·refine nD v ?_;obtain ⟨j, ae⟩ := jh hv;have hl : j < (n - i) * 3 := by rw [← cA]; exact (bF.1 ae).1
   rw [← ny, fk hl, fC] at ae;exact c5 (i := i * 3 + j) (by rw [fk (by omega)]; exact ae)
 generalize hG : cur.toList.take ((i + 1) * 3) ++ dc ++ cur.toList.drop ((i + 1) * 3 + dc.length) = c1 at *;have rF := setRow_heap W.drew g cur c1.toArray _ (0, 0) ao
 have Xo : ∀ ty ja, (Builtin.copy_ #[134, 134] ty #[.slice (some ⟨g, i * 3, none⟩) (n + 1 - i) ja, .slice (some fa) 1 pR]).run ag (W.drew.setRow g c1.toArray) = .ok (goInt ((1 : Nat) : Int)) ((W.drew.setRow g c1.toArray).setRow g (c1.take (i * 3) ++ news ++ c1.drop (i * 3 + news.length)).toArray) := fun ty ja => by
  have hm : Nat.min 1 (n + 1 - i) = 1 := oJ (by omega);have := Dr (P := ag) (W.drew.setRow g c1.toArray) 134 134 ty 214 g (i * 3) (n + 1 - i) ja 3 fa 1 pR c1.toArray 214 news hu yK rF (by rw [hm, gw]) (fun j v ae => ?_) (by rw [gw]; simp [bd]; omega) h1
  ·rw [hm] at this; simpa using this
  rw [← kJ j v ae];refine World.cell?_of_block (w := W) ?_;show (World.setRow _ _ _).heap[(fa.add j).block]? = _;rw [block_add];simp only [World.setRow, tw];rw [if_neg (fun e => bX e.symm)];rfl
 generalize gH : c1.take (i * 3) ++ news ++ c1.drop (i * 3 + news.length) = c2 at *;clear ao ny hG gH nD kJ h1 rF eT hh
 go_enter Tryz.func160, Tryz.ntmps160
 go_wp2_with (simp only [Yd])
 have mixed : ag.follows .mixedOrders = true := by kernel_rfl
 go_region_law_o (refine step_copy_runI rfl _ _ 134 134 rfl _ _ (by simp [Act.eval, Act.put]) (by simp [Act.eval, Act.put]) (Xn _ _ _) ?_)
 go_wp2_with (at_builtin; refine wpList_copy_runI _ rfl _ _ 134 134 rfl _ _ rfl rfl (Xo _ _) ?_)
 go_ret
 exact ⟨rfl, c2.toArray, setRow_setRow _ _ _ _, by simpa using bC, by simpa using ez⟩
theorem Y6 (R xs news : List Value) {i n G : Nat} (hi : i < n) (qj : n + 1 ≤ G) (ar : R.length = G * 3) (aa : xs.length = n * 3) (yj : R.take (i * 3) = xs.take (i * 3)) (gw : news.length = 3) :
  let c1 := R.take (i * 3) ++ news ++ R.drop (i * 3 + news.length)
  let c2 := c1.take ((i + 1) * 3) ++ xs.drop (i * 3) ++ c1.drop ((i + 1) * 3 + (xs.drop (i * 3)).length)
  c1.length = G * 3 ∧ c2.length = G * 3 ∧ c2.take ((n + 1) * 3) = xs.take (i * 3) ++ news ++ xs.drop (i * 3) := by
 have t1 : (xs.take (i * 3)).length = i * 3 := by rw [dS]; omega
 have t2 : (xs.drop (i * 3)).length = (n - i) * 3 := by rw [hN]; omega
 intro c1 c2;have aF : c1.length = G * 3 := by simp only [c1, yj, cx, t1, hN, ar, gw]; omega
 have b5 : c1.take ((i + 1) * 3) = xs.take (i * 3) ++ news := by
  simp only [c1, yj];rw [zz (by rw [cx, t1, gw]; omega), hq (by rw [cx, t1, gw]; omega)]
 have aN : c2.length = G * 3 := by simp only [c2, b5, cx, t1, t2, hN, aF, gw]; omega
 refine ⟨aF, aN, ?_⟩;simp only [c2, b5];rw [zz (by simp only [cx, t1, t2, gw]; omega), hq (by simp only [cx, t1, t2, gw]; omega)]
theorem Y4 (xs : List Value) (ao : W.heap[g]? = some (.cells cur 214 (0, 0))) (Ca : cur.toList.take (n * 3) = xs) (oo : xs.length = n * 3) (hi : i < n) (eI : n ≤ cap) (k9 : cap < n + 1) (we : (n + 1) * 24 ≤ 140737488355328) (nD : ∀ v ∈ xs, v.oneCell' = true)
  (gw : news.length = 3) (kJ : ∀ j v, news[j]? = some v → W.cell? (fa.add j) = some v) (h1 : ∀ v ∈ news, v.oneCell' = true) :
  Calls ag 160 #[.slice (some ⟨g, 0, none⟩) n cap, .int .i64 i, .slice (some fa) 1 pR] W fun e bb =>
   ∃ G nv o, e = .returned (.slice (some ⟨W.heap.size, 0, none⟩) (n + 1) G) ∧ bb.heap = ((W.alloc o).setRow W.heap.size nv).heap ∧ bb.os = W.os ∧ bb.tape = W.tape ∧ bb.output = W.output ∧ (∃ gr, o = .cells gr 214 (0, 0)) ∧ n + 1 ≤ G ∧ G ≤ maxLen ∧ nv.size = G * 3 ∧ nv.toList.take ((n + 1) * 3) = xs.take (i * 3) ++ news ++ xs.drop (i * 3) := by
 obtain ⟨ev, z, hu, eT, hh, hf, kG, ot, bB⟩ := qP (P := ag) (tt := 134) (e := 214) (sz := 3) (bytes := 24) (by kernel_rfl);have yK : (ag.info? 214).map (·.size) = some 3 := by rw [eT]; simp [hf]
 have jc : ∀ j v, xs[j]? = some v → W.cell? ⟨g, j, none⟩ = some v := fun j v ae => by
  have hl : j < n * 3 := by rw [← oo]; exact (bF.1 ae).1
  rw [← Ca, fk hl] at ae;unfold World.cell?;rw [show W.heap[(⟨g, j, none⟩ : Addr).block]? = some (.cells cur 214 (0, 0)) from ao];simpa using ae
 have Ms : g < W.heap.size := (jH.1 ao).1
 have ma : fa.block < W.heap.size := by
  have := kJ 0 news[0] (bQ (by omega));obtain ⟨t, k, h, _⟩ := KD this;rw [block_add] at h;unfold World.shape? at h;cases ak : W.heap[fa.block]? with
  | none => rw [ak] at h; cases h
  | some o => exact (jH.1 ak).1
 have jX : ¬ ((i : Int) = (n : Int)) := by omega
 have ahL : (cap : Int) < (n : Int) + 1 := by omega
 have GK : IntKind.i64.wrap ((i : Int) + 1) = (i : Int) + 1 := by rw [IntKind.wrap_i64]; omega
 have GL : IntKind.i64.wrap ((n : Int) + 1) = (n : Int) + 1 := by rw [IntKind.wrap_i64]; omega
 have oh : (n : Int) + 1 - (i : Int) = ((n + 1 - i : Nat) : Int) := by omega
 have M1 : IntKind.i64.wrap ((n : Int) + 1 - (i : Int)) = (n : Int) + 1 - (i : Int) := by rw [IntKind.wrap_i64]; omega
 have Ga : i + (n + 1 - i) = n + 1 := by omega
 have hold : (Builtin.firstCells ev.size i (.slice (some ⟨g, 0, none⟩) i cap)).run ag W.drew = .ok (xs.take (i * 3)).toArray W.drew := by
  rw [hf]
  exact run_firstCells_some W.drew 3 i ⟨g, 0, none⟩ i cap (xs.take (i * 3)) (by rw [dS]; omega) (fun j v ae => by
   rw [Addr.add_lit, jj];rw [List.getElem?_take] at ae
   split at ae
   ·exact jc j v ae
   ·cases ae)
 obtain ⟨G, qj⟩ : ∃ G, G = grownCap W (n + 1) cap 214 := ⟨_, rfl⟩;have L3 : n + 1 ≤ G := by rw [qj]; exact grownCap_ge W _ _ _
 have L2 : G ≤ maxLen := by rw [qj]; exact grownCap_le_maxLen W (n + 1) cap _ (by unfold maxLen; omega)
 have ahj : G ≤ 9223372036854775807 := by unfold maxLen at L2; omega
 obtain ⟨lZ, BE⟩ : ∃ lZ : Array Value, lZ = (xs.take (i * 3)).toArray ++ Builtin.zeroCells z.cells (n + 1 - i) ++ Builtin.zeroCells z.cells (G - (n + 1)) := ⟨_, rfl⟩
 have Gz : ∀ ty, (Builtin.append_ #[134, 3] ty #[.slice (some ⟨g, 0, none⟩) i cap, .int .i64 ((n : Int) + 1 - (i : Int))]).run ag W =
   .ok (.slice (some ⟨W.heap.size, 0, none⟩) (n + 1) G) (W.drew.alloc (.cells lZ 214)) := fun ty => by
  have h := Lib.run_append_grow_zeros W 134 3 ty 214 ev z .i64 .i64 hu Tryz.underlying3 eT hh (some ⟨g, 0, none⟩) i cap _ hold (n + 1 - i) (by omega) (by omega) (by omega) (by omega) (by rw [kG]; omega) (by rw [kG, Ga]; exact growslice_fits k9 we);rw [Ga, ← qj, ← BE] at h;rw [oh];exact h
 have Mb : lZ.size = G * 3 := by
  rw [BE];simp [Builtin.zeroCells, ot, dS];omega
 have yj : lZ.toList.take (i * 3) = xs.take (i * 3) := by
  rw [BE, Array.toList_append, Array.toList_append, gQ, zz (by simp [dS]; omega), hq (by simp [dS]; omega)]
 obtain ⟨bd, bC, ez⟩ := Y6 lZ.toList xs news hi L3 (by simpa using Mb) oo yj gw;generalize BM : xs.drop (i * 3) = Be at *;have BK : Be.length = (n - i) * 3 := by rw [← BM, hN]; omega
 obtain ⟨N, eC⟩ : ∃ N, N = W.heap.size := ⟨_, rfl⟩;obtain ⟨gX, rr⟩ : ∃ gX, gX = W.drew.alloc (.cells lZ 214) := ⟨_, rfl⟩;have FL : gX.heap[N]? = some (.cells lZ 214 (0, 0)) := by rw [rr, eC]; show (W.heap.push _)[W.heap.size]? = _; simp
 have FM : ∀ b, b < W.heap.size → gX.heap[b]? = W.heap[b]? := fun b ab => by rw [rr]; show (W.heap.push _)[b]? = _; rw [Array.getElem?_push_lt ab, Array.getElem?_eq_getElem ab]
 generalize hG : lZ.toList.take (i * 3) ++ news ++ lZ.toList.drop (i * 3 + news.length) = c1 at *
 have Xp : ∀ l4 : World, l4.heap = gX.heap → ∀ ty ja, (Builtin.copy_ #[134, 134] ty #[.slice (some ⟨N, i * 3, none⟩) (n + 1 - i) ja, .slice (some fa) 1 pR]).run ag l4 = .ok (goInt ((1 : Nat) : Int)) (l4.setRow N c1.toArray) := fun l4 dJ ty ja => by
  have hm : Nat.min 1 (n + 1 - i) = 1 := oJ (by omega);have := Dr (P := ag) l4 134 134 ty 214 N (i * 3) (n + 1 - i) ja 3 fa 1 pR lZ 214 news hu yK (by rw [dJ]; exact FL) (by rw [hm, gw]) (fun j v ae => ?_) (by rw [gw, Mb]; omega) h1
  ·rw [hm, hG] at this; exact this
  ·rw [← kJ j v ae];refine World.cell?_of_block (w := W) ?_;rw [block_add, dJ, FM _ ma]
 generalize gH : c1.take ((i + 1) * 3) ++ Be ++ c1.drop ((i + 1) * 3 + Be.length) = c2 at *;have XJ : g ≠ N := by omega
 have Xq : ∀ l4 : World, l4.heap = (gX.setRow N c1.toArray).heap → ∀ ty ja vg, (Builtin.copy_ #[134, 134] ty #[.slice (some ⟨N, (i + 1) * 3, none⟩) (n - i) ja, .slice (some ⟨g, i * 3, none⟩) (n - i) vg]).run ag l4 = .ok (goInt ((n - i : Nat) : Int)) (l4.setRow N c2.toArray) := fun l4 dJ ty ja vg => by
  have hm : Nat.min (n - i) (n - i) = n - i := Nat.min_self _;have := Dr (P := ag) l4 134 134 ty 214 N ((i + 1) * 3) (n - i) ja 3 ⟨g, i * 3, none⟩ (n - i) vg c1.toArray 214 Be hu yK (by rw [dJ]; exact setRow_heap gX N lZ _ _ (0, 0) FL) (by rw [hm, BK]) (fun j v ae => ?_) (by rw [BK]; simp [bd]; omega) (fun v hv => nD v (by rw [← BM] at hv; exact mm hv))
  ·rw [hm] at this; simpa [gH] using this
  ·rw [Addr.add_lit];rw [← BM, fC] at ae;rw [← jc _ v ae];refine World.cell?_of_block (w := W) ?_;rw [dJ];simp only [World.setRow, tw];rw [if_neg (fun e => XJ e.symm), FM _ Ms]
 rw [← rr] at Gz;rw [← eC] at Gz ⊢;have fin : ∀ l4 : World, l4.heap = gX.heap → l4.heap = (W.alloc (.cells lZ 214)).heap := fun l4 h => by rw [h, rr]; rfl
 have c9 : (0 : Int) ≤ (i : Int) + 1 := by omega
 have il : i ≤ n := by omega
 have ahm : ¬ (G = i) := by omega
 have ahl : ¬ (G = i + 1) := by omega
 have FV : (i : Int) ≤ (n : Int) + 1 := by omega
 have ux : ¬ (cap = i) := by omega
 have X9 : gX.os = W.os := by rw [rr]; rfl
 have Yx : gX.tape = W.tape := by rw [rr]; rfl
 have Yc : gX.output = W.output := by rw [rr]; rfl
 have XM : gX.heap = (W.alloc (.cells lZ 214)).heap := by rw [rr]; rfl
 have mixed : ag.follows .mixedOrders = true := by kernel_rfl
 clear ao Ca oo kJ h1 nD eT hh hold qj BE yj BM rr FL FM hG gH jc oh Ga fin eC Ms ma
 go_enter Tryz.func160, Tryz.ntmps160
 go_wp2_with (first
  | (at_builtin; refine Lib.wpList_append_run _ rfl _ _ _ _ rfl _ _ rfl rfl _ _ (Gz _) ?_)
  | (at_builtin; refine wpList_copy_runI _ rfl _ _ 134 134 rfl _ _ rfl rfl (Xp _ rfl _ _) ?_))
 go_region_law_o (refine step_copy_runI rfl _ _ 134 134 rfl (.slice (some ⟨N, (i + 1) * 3, none⟩) (n - i) (G - (i + 1))) (.slice (some ⟨g, i * 3, none⟩) (n - i) (cap - i)) (by simp [Act.eval, Act.put]) (by simp [Act.eval, Act.put]) (Xq (gX.setRow N c1.toArray).drew rfl 3 (G - (i + 1)) (cap - i)) ?_)
 go_wp2
 go_ret
 refine ⟨G, c2.toArray, .cells lZ 214 (0, 0), rfl, ?_, X9, Yx, Yc, ⟨_, rfl⟩, L3, L2, by simpa using bC, by simpa using ez⟩;show ((gX.setRow N c1.toArray).setRow N c2.toArray).heap = _;rw [setRow_setRow];simp only [World.setRow, XM]
end
theorem Y3 (W : World) (v : Value) (n : Nat) (xs news : List Value) (fa : Addr) (pR : Nat) (cB : W.ownsRow 0 214 3 v n xs) (we : (n + 1) * 24 ≤ 140737488355328)
  (gw : news.length = 3) (kJ : ∀ j v, news[j]? = some v → W.cell? (fa.add j) = some v) (h1 : ∀ v ∈ news, v.oneCell' = true) :
  Calls ag 160 #[v, .int .i64 n, .slice (some fa) 1 pR] W fun e bb =>
   ∃ v', e = .returned v' ∧ bb.ownsRow 0 214 3 v' (n + 1) (xs ++ news) ∧ W.grownBy bb v.ownBlock ∧ (∀ g, v'.ownBlock = some g → v.ownBlock = some g ∨ W.heap.size ≤ g) ∧ v'.oneCell' = true := by
 obtain ⟨ev, z, hu, eT, hh, hf, kG, ot, bB⟩ := qP (P := ag) (tt := 134) (e := 214) (sz := 3) (bytes := 24) (by kernel_rfl);obtain ⟨v', w', al, q⟩ := QQ (P := ag) W 0 134 134 214 ev z 3 24 hu eT hh hf kG ot bB v n xs cB fa 1 pR news (by rw [gw]) kJ h1 (by unfold maxLen; omega) we (dA _) (by decide);rcases cB.2 with ⟨rfl, rfl⟩ | ⟨g, cap, cur, rfl, ql, ao, eI, ju, ej, nF⟩
 ·clear eT hh cB kJ
  go_enter Tryz.func160, Tryz.ntmps160
  go_wp2_with (at_builtin; refine Lib.wpList_append_run _ rfl _ _ _ _ rfl _ _ rfl rfl _ _ al ?_)
  go_ret
  exact ⟨v', rfl, q⟩
 ·have Xk : cap ≤ 9223372036854775807 := by unfold maxLen at ju; omega
  clear eT hh cB kJ ao ej nF ju
  go_enter Tryz.func160, Tryz.ntmps160
  go_wp2_with (at_builtin; refine Lib.wpList_append_run _ rfl _ _ _ _ rfl _ _ rfl rfl _ _ al ?_)
  all_goals go_ret
  all_goals exact ⟨v', rfl, q⟩
theorem Lg : ∀ (l : List df) (i : Nat), (dU l).take (i * 3) = dU (l.take i)
 | [], i => by simp [dU]
 | e :: l, 0 => by simp [dU]
 | e :: l, i + 1 => by
  rw [show (i + 1) * 3 = i * 3 + 1 + 1 + 1 by omega];simp only [dU, List.take_succ_cons, Lg l i]
theorem Le : ∀ (l : List df) (i : Nat), (dU l).drop (i * 3) = dU (l.drop i)
 | [], i => by simp [dU]
 | e :: l, 0 => by simp
 | e :: l, i + 1 => by
  rw [show (i + 1) * 3 = i * 3 + 1 + 1 + 1 by omega];simp only [dU, List.drop_succ_cons, Le l i]
theorem bH.take {U : Nat → Prop} {ad : Nat → Nat} {W : World} {xs : List AC} {vs : List Value} (h : bH U ad W xs vs) (k : Nat) : bH U ad W (xs.take k) (vs.take k) := by
 have := h.sub 0 k;simpa using this
theorem bH.drop {U : Nat → Prop} {ad : Nat → Nat} {W : World} {xs : List AC} {vs : List Value} (h : bH U ad W xs vs) (k : Nat) : bH U ad W (xs.drop k) (vs.drop k) := by
 refine ⟨by rw [hN, hN, h.1], fun i x v aa hv => ?_⟩;rw [fC] at aa hv;exact h.2 _ x v aa hv
theorem bH.zr {U : Nat → Prop} {ad : Nat → Nat} {W : World} {xs : List AC} {vs : List Value} (h : bH U ad W xs vs) : ∀ v ∈ vs, v.oneCell' = true := fun v hv => by
 obtain ⟨j, ae⟩ := jh hv;have a8 : j < xs.length := by rw [h.1]; exact (bF.1 ae).1
 exact (h.2 j _ v (bQ a8) ae).cell
theorem abG {W : World} {b e sz n : Nat} {v : Value} {xs : List Value} (h : W.ownsRow b e sz v n xs) : v.oneCell' = true := by
 rcases h.2 with ⟨rfl, _⟩ | ⟨g, cap, cur, rfl, _⟩ <;> rfl
abbrev rN (l : List df) (i : Nat) (e : df) : List df := l.take i ++ e :: l.drop i
theorem Y1 {l : List df} {i : Nat} {e : df} (hi : i ≤ l.length) : (rN l i e).length = l.length + 1 := by
 unfold rN; rw [cx, jZ, dS, hN]; omega
theorem Y2 {U : Nat → Prop} {ad : Nat → Nat} {W : World} {l : List df} {xs news : List Value} {e : df} (i : Nat) (h : bH U ad W (dU l) xs) (au : bH U ad W (dU [e]) news) : bH U ad W (dU (rN l i e)) (xs.take (i * 3) ++ news ++ xs.drop (i * 3)) := by
 have : dU (rN l i e) = (dU l).take (i * 3) ++ dU [e] ++ (dU l).drop (i * 3) := by
  rw [Lg, Le, ← x4, ← x4, gQ]; rfl
 rw [this];exact ((h.take _).append au).append (h.drop _)
theorem Lc : ∀ (l : List df) (y : AC), y ∈ dU l → ∃ u, y = .c u
 | [], y, h => by cases h
 | e :: l, y, h => by
  simp only [dU, fQ] at h;rcases h with h | h | h | h
  ·exact ⟨_, h⟩
  ·exact ⟨_, h⟩
  ·exact ⟨_, h⟩
  ·exact Lc l y h
theorem VW {U cq : Nat → Prop} {ad aY : Nat → Nat} {W bb : World} {l : List df} {vs : List Value} (h : bH U ad W (dU l) vs) : bH cq aY bb (dU l) vs := by
 refine ⟨h.1, fun i x v aa hv => ?_⟩;have := h.2 i x v aa hv;obtain ⟨u, rfl⟩ := Lc l x (c5 aa);exact this
theorem UT {l : List df} {v : Value} {i : Nat} {x y w : Int} (hi : i ≤ l.length) (hl : l.length ≤ 1000000) :
  xD ag 160 [aM v, aB i, cz 3 1 [.c (.int .i64 x), .c (.int .i64 y), .c (.int .i64 w)]] (gB v l) fun bR aT => ∃ v', v'.oneCell' = true ∧ bR = aM v' ∧ aT = gB v' (rN l i (x, y, w)) := by
 refine adV rfl (jk _) (fun bR aT ⟨v', _, _, e⟩ => by rw [e]; exact jk _) ?_;intro U W vs xs ay jy cA uG cI;obtain ⟨hlen, hv⟩ := cI
 match vs, hlen with
 | [a, b, c], _ =>
  have cW : a = v := (hv 0 _ a rfl rfl).1;have aF : b = .int .i64 i := (hv 1 _ b rfl rfl).1;obtain ⟨⟨A, dc, aN, hG, gH, Xh⟩, XH⟩ := hv 2 _ c rfl rfl;obtain ⟨fa, news, rfl, gf⟩ := Xh (by decide);subst cW aF aN;have gw : news.length = 3 := gf.nR.1.symm;have qp : bH U id W (dU [(x, y, w)]) news := VW (U := fun _ => True) (ad := id) (W := W) gf.nR;have pr := Y2 i jy qp;have nB : (rN l i (x, y, w)).length = l.length + 1 := Y1 hi;have oo : xs.length = l.length * 3 := ay.1;have YE : U fa.block := XH _ ⟨dc, fa, rfl, by decide, .inl rfl⟩;have ru : ∀ q ∈ dU (rN l i (x, y, w)), q.aV = true := fun q ak => cb.1 (Ld _) q ak
  have fin : ∀ (e : Ending) (bb : World) (v' : Value), e = .returned v' → bb.ownsRow 0 214 3 v' (l.length + 1) (xs.take (i * 3) ++ news ++ xs.drop (i * 3)) → W.grownBy bb a.ownBlock → (∀ g, v'.ownBlock = some g → a.ownBlock = some g ∨ W.heap.size ≤ g) →
    ∃ u bR aT, e = .returned u ∧ (∃ v', v'.oneCell' = true ∧ bR = aM v' ∧ aT = gB v' (rN l i (x, y, w))) ∧ Jn W bb (gB a l) aT U ∧ cR U id W bR u ∧ bR.aV = true := by
   rintro e bb v' rfl h1 h2 h3;have FA := abG h1;refine ⟨v', _, _, rfl, ⟨v', FA, rfl, rfl⟩, ⟨h2, ⟨_, ?_, pr⟩, ru, h3⟩, ⟨rfl, FA⟩, rfl⟩;show bb.ownsRow 0 214 3 v' (rN l i (x, y, w)).length _;rw [nB]; exact h1
  by_cases ry : i = l.length
  ·subst ry;refine (Y3 W a l.length xs news fa dc ay (by omega) gw gf.at_ qp.zr).mono ?_;rintro e bb ⟨v', rfl, h1, h2, h3, _⟩;refine fin _ _ v' rfl ?_ h2 h3;rw [hq (by omega), tA (by omega), mn];exact h1
  ·have a8 : i < l.length := by omega
   obtain ⟨g, cap, cur, rfl, ql, ao, eI, ju, ej, nF⟩ : ∃ g cap cur, a = .slice (some ⟨g, 0, none⟩) l.length cap ∧ 0 ≤ g ∧ W.heap[g]? = some (.cells cur 214 (0, 0)) ∧ l.length ≤ cap ∧ cap ≤ maxLen ∧ cur.size = cap * 3 ∧ cur.toList.take (l.length * 3) = xs := by
    rcases ay.2 with ⟨_, aA⟩ | h
    ·have : l.length = 0 := aA;omega
    ·exact h
   have XK : fa.block ≠ g := fun e => uG g rfl (by rw [← e]; exact YE)
   by_cases k9 : l.length + 1 ≤ cap
   ·refine (Y7 W g l.length cap i cur news fa dc ao a8 k9 (by unfold maxLen at ju; omega) ej (by rw [nF]; exact jy.zr) gw gf.at_ qp.zr XK).mono ?_;rintro e bb ⟨rfl, nv, rfl, bd, bC⟩;rw [nF] at bC;have aR := setRow_heap W.drew g cur nv _ (0, 0) ao;refine fin _ _ _ rfl ⟨?_, .inr ⟨g, cap, nv, rfl, dA _, aR, k9, ju, bd, bC⟩⟩ ⟨rfl, rfl, rfl, by (show W.heap.size ≤ (Array.modify W.heap g _).size; rw [Array.size_modify]; exact dl _), fun k _ af => ?_⟩ fun jb dX => .inl dX
    ·simp only [cx, dS, hN, gw]; omega
    ·show (Array.modify W.heap g _)[k]? = _;rw [tw];rw [if_neg (fun e => af (by rw [e]; rfl))]
   ·refine (Y4 W g l.length cap i cur news fa dc xs ao nF oo a8 eI (by omega) (by omega) jy.zr gw gf.at_ qp.zr).mono ?_;rintro e bb ⟨G, nv, o, rfl, q1, q2, bE, c4, ⟨gr, rfl⟩, bd, bC, ez, jz⟩;have yB : (W.alloc (.cells gr 214 (0, 0))).heap[W.heap.size]? = some (.cells gr 214 (0, 0)) := by show (W.heap.push _)[W.heap.size]? = _; simp
    have aR := setRow_heap _ W.heap.size gr nv _ (0, 0) yB;rw [← q1] at aR;refine fin _ _ _ rfl ⟨?_, .inr ⟨W.heap.size, G, nv, rfl, dA _, aR, bd, bC, ez, jz⟩⟩ ⟨q2, bE, c4, ?_, fun k af _ => ?_⟩ fun jb dX => .inr (by simp [Value.ownBlock] at dX; omega)
    ·simp only [cx, dS, hN, gw]; omega
    ·rw [q1];show W.heap.size ≤ (Array.modify (W.heap.push _) _ _).size;rw [Array.size_modify, Array.size_push]; omega
    ·rw [q1];simp only [World.setRow, tw];rw [if_neg (by omega)];show (W.heap.push _)[k]? = _;rw [Array.getElem?_push_lt af, Array.getElem?_eq_getElem af]
end Go.Proofs.YtbcecodakfejaaaGreat
namespace Go.Proofs.YtbcecodakfejaaaGreat
open Go.RowKit
theorem adn {x y a b : Int} : lK x y a b < 0 ↔ lJ x y a b = true := by
 rw [oB];unfold lK cD
 split <;> split <;> first | omega | (split <;> omega)
theorem adm {x y a b : Int} : lK x y a b = 0 ↔ x = a ∧ y = b := by
 unfold lK cD
 split <;> split <;> first | omega | (split <;> omega)
theorem Pz {x y v a b : Int} : aC ag 181 [.w (.agg [.c (.int .i64 x), .c (.int .i64 y), .c (.int .i64 v)]), aP a b] (aB (lK x y a b)) := by
 have aU := acG (x := x) (y := y) (x' := a) (y' := b);refine bi (f := 181) Tryz.func181 rfl rfl rfl rfl ?_;(refine bZ ?_)
 ((refine ba rfl (a6 rfl aK) ?_))
 exact ah.aQ.refl _
abbrev Ru : ah := aM (.func (.func 181) #[] #[])
def RV (l : List df) (v : Value) (a b : Int) (n : Nat) (R : aG) (aL : List (Nat × ah)) (bj : List (Nat × List AC)) : Prop :=
 ∃ (lo hi : Nat) (jA ae : Int), lo ≤ eV l a b ∧ eV l a b ≤ hi ∧ hi ≤ l.length ∧ n = hi - lo ∧ jA = lo ∧ ae = hi ∧ R = bw 0 (gB v l) ∧ bj = [(4, mU a b)] ∧ aL = [(0, aM v), (2, Ru), (4, Rv 4), (8, aB l.length), (9, aB jA), (10, aB ae)]
theorem UU {l : List df} {v : Value} {a b : Int} (al : jQ l) (hl : l.length ≤ 1000000) :
  xD ag 180 [aM v, aP a b, Ru] (gB v l) fun bR aT => bR = .cj [.one (.c (.int .i64 (eV l a b))), .one (.c (.bool (hb l a b)))] ∧ aT = gB v l := by
 refine adU rfl (fun v aT h => by rw [h.1]; rfl) ?_;refine de (f := 180) Tryz.func180 rfl (db rfl) (by exact nu) ?_;(repeat first | refine cF ?_ | (with_reducible apply mP 0); (iterate 4 rfl); kernel_rfl; rfl);refine j7 49 (RV l v a b) l.length (bw 0 (gB v l)) _ [(4, mU a b)] ⟨0, l.length, 0, l.length, dA _, PT l a b, dl _, rfl, rfl, rfl, rfl, rfl, rfl⟩ (bt.refl _) rfl ⟨rfl, rfl, rfl, rfl, rfl, rfl, trivial⟩ ⟨rfl, trivial⟩ rfl ?_;rintro n R aL bj ⟨lo, hi, jA, ae, h1, h2, h3, rfl, aE, cZ, rfl, rfl, rfl⟩ c3;clear c3
 by_cases ak : lo < hi
 ·subst aE cZ;have q2 : (lo : Int) < (hi : Int) := by omega
  obtain ⟨h, aR⟩ : ∃ h, h = (lo + hi) / 2 := ⟨_, rfl⟩;have aF : ((lo : Int) + (hi : Int)) / 2 = (h : Int) := by omega
  have XN : h < l.length := by omega
  obtain ⟨x, y, w, g1⟩ : ∃ x y w, l[h]? = some (x, y, w) := ⟨_, _, _, bQ XN⟩;have kP : 0 < l.length := by omega
  have kW : (((lo : Int) + (hi : Int)) / 2).toNat * 3 + 3 ≤ (dU l).length ∧ ((dU l).drop ((((lo : Int) + (hi : Int)) / 2).toNat * 3)).take 3 = [.c (.int .i64 x), .c (.int .i64 y), .c (.int .i64 w)] := ⟨by rw [x5]; omega, Lh aF g1⟩;have gX : IntKind.i64.wrap ((lo : Int) + hi) = (lo : Int) + hi := la (by omega);have Jp : IntKind.u64.wrap ((lo : Int) + hi) = (lo : Int) + hi := by rw [IntKind.wrap_u64]; omega
  have aU := Pz (x := x) (y := y) (v := w) (a := a) (b := b);have kd : h < eV l a b ↔ lK x y a b < 0 := (wW al a b h (x, y, w) g1).trans adn.symm;generalize lK x y a b = c at *;have HZ : ((lo : Int) + (hi : Int)) / 2 < (l.length : Int) := by omega
  clear g1
  replace aF := Lib.hid aF
  replace aR := Lib.hid aR
  by_cases aj : c < 0
  ·(repeat first | (with_reducible apply dj (id := 5) [0,1,2,3,4,5,6,7]); kernel_rfl; kernel_rfl; rfl | refine cF ?_ | refine ia ?_ | (with_reducible apply jd 0); (iterate 4 rfl); (omega); (assumption); rfl; kernel_rfl; rfl | (with_reducible apply mQ 0); (iterate 3 rfl); (assumption); assumption; rfl; kernel_rfl; rfl);have aR := aR.out;have aF := aF.out;refine ⟨hi - (h + 1), bw 0 (gB v l), _, [(4, mU a b)], by omega, ⟨h + 1, hi, _, hi, kd.2 aj, h2, h3, rfl, ?_, rfl, rfl, rfl, rfl⟩, bt.refl _, rfl, ⟨rfl, rfl, rfl, rfl, rfl, rfl, trivial⟩, ⟨rfl, trivial⟩, rfl⟩;omega
  ·have iD : eV l a b ≤ h := by have := mt kd.1 aj; omega
   (repeat first | (with_reducible apply dj (id := 5) [0,1,2,3,4,5,6,7]); kernel_rfl; kernel_rfl; rfl | refine cF ?_ | refine ia ?_ | (with_reducible apply jd 0); (iterate 4 rfl); (omega); (assumption); rfl; kernel_rfl; rfl | (with_reducible apply mQ 0); (iterate 3 rfl); (assumption); assumption; rfl; kernel_rfl; rfl);have aR := aR.out;have aF := aF.out;refine ⟨h - lo, bw 0 (gB v l), _, [(4, mU a b)], by omega, ⟨lo, h, lo, _, h1, iD, by omega, rfl, rfl, aF, rfl, rfl, rfl⟩, bt.refl _, rfl, ⟨rfl, rfl, rfl, rfl, rfl, rfl, trivial⟩, ⟨rfl, trivial⟩, rfl⟩
 ·have cW : lo = eV l a b := by omega
  subst cW;have q2 : ¬ jA < ae := by omega
  clear cZ ak h2 h3 h1;generalize hp : eV l a b = p at *
  by_cases au : p < l.length
  ·subst aE;have bE : (p : Int) < (l.length : Int) := by omega
   have kP : 0 < l.length := by omega
   obtain ⟨x, y, w, g1⟩ : ∃ x y w, l[p]? = some (x, y, w) := ⟨_, _, _, bQ au⟩;have kW : ((p : Int)).toNat * 3 + 3 ≤ (dU l).length ∧ ((dU l).drop (((p : Int)).toNat * 3)).take 3 = [.c (.int .i64 x), .c (.int .i64 y), .c (.int .i64 w)] := ⟨by rw [x5]; omega, Lh rfl g1⟩;have aU := Pz (x := x) (y := y) (v := w) (a := a) (b := b)
   have kd : hb l a b = decide (lK x y a b = 0) := by
    rw [lN, BH al, hp, g1, decide_eq_true_iff, adm]
    constructor
    ·rintro ⟨u, hu⟩; cases hu; exact ⟨rfl, rfl⟩
    ·rintro ⟨rfl, rfl⟩; exact ⟨w, rfl⟩
   generalize lK x y a b = c at *;(repeat first | (with_reducible apply dj (id := 8) [0,1,2,3,4,5,6,7,8,9,10,11,12,13,14,15]); kernel_rfl; kernel_rfl; rfl | refine cF ?_ | (with_reducible apply hX); rfl; (repeat first | refine iB ?_ | refine gF ?_ | (with_reducible apply cc (c := true)); rfl; rfl; (exact ck (by omega))); (with_reducible apply gY) | (with_reducible apply jd 0); (iterate 4 rfl); (omega); (assumption); rfl; kernel_rfl; rfl | (with_reducible apply mQ 0); (iterate 3 rfl); (assumption); assumption; rfl; kernel_rfl; rfl)
   ((refine Mp rfl (a6 rfl (a6 rfl aK)) rfl rfl ?_))
   exact ⟨by rw [kd]; rfl, rfl⟩
  ·subst aE;have bE : ¬ (p : Int) < (l.length : Int) := by omega
   have kd : hb l a b = false := by
    cases aR : hb l a b with
    | false => rfl
    | true =>
     obtain ⟨u, hu⟩ := (BH al).1 aR;rw [hp] at hu;have := (bF.1 hu).1;omega
   (repeat first | (with_reducible apply dj (id := 8) [0,1,2,3,4,5,6,7,8,9,10,11,12,13,14,15]); kernel_rfl; kernel_rfl; rfl | refine cF ?_ | (with_reducible apply hX); rfl; (repeat first | refine iB ?_ | (with_reducible apply cc (c := false)); rfl; rfl; (exact cC (by omega))); (with_reducible apply gY))
   ((refine Mp rfl (a6 rfl (a6 rfl aK)) rfl rfl ?_))
   exact ⟨by rw [kd]; rfl, rfl⟩
theorem afq {l : List df} {p : Nat} {x y u w : Int} (hu : l[p]? = some (x, y, u)) : eu (dU l) ((p : Int).toNat * 3 + 2) [.c (.int .i64 w)] = dU (l.take p ++ (x, y, w) :: l.drop (p + 1)) := by
 have a8 := (bF.1 hu).1;have he := (bF.1 hu).2
 have aF : l = l.take p ++ (x, y, u) :: l.drop (p + 1) := by
  conv => lhs; rw [← jG p l, ml a8, he]
 have t1 : (dU (l.take p)).length = p * 3 := by rw [x5, dS]; omega
 rw [ks]
 conv => lhs; rw [aF]
 unfold eu;rw [x4, x4];simp only [dU];rw [List.take_append, List.drop_append, t1, show (dU (l.take p)).take (p * 3 + 2) = dU (l.take p) from hq (by omega), show (dU (l.take p)).drop (p * 3 + 2 + [AC.c (.int .i64 w)].length) = [] from tA (by rw [t1, List.length_singleton]; omega)];rw [show p * 3 + 2 - p * 3 = 2 by omega, show p * 3 + 2 + [AC.c (.int .i64 w)].length - p * 3 = 3 by simp; omega];simp
def R7 (n : Nat) : Prop := ∀ (u9 : Value) l v (x y w : Int), v.oneCell' = true → jQ l → l.length ≤ n → pZ ag 142 [aP x y, aB w] [.c v, .c u9] (gB v l) fun r aq aT => r = bf (!hb l x y) ∧ ∃ v', v'.oneCell' = true ∧ aq = [.c v', .c u9] ∧ aT = gB v' (r0 l x y w)
def R3 (n : Nat) : Prop := ∀ (u9 : Value) l v (x y : Int), v.oneCell' = true → jQ l → l.length ≤ n → pZ ag 158 [aP x y] [.c v, .c u9] (gB v l) fun r aq aT => r = .cj [.one (.c (.int .i64 (nX l x y))), .one (.c (.bool (hb l x y)))] ∧ aq = [.c v, .c u9] ∧ aT = gB v l
def R4 (n : Nat) : Prop := ∀ (u9 : Value) l v, v.oneCell' = true → jQ l → l.length ≤ n → pZ ag 141 [] [.c v, .c u9] (gB v l) fun r aq aT => r = aB l.length ∧ aq = [.c v, .c u9] ∧ aT = gB v l
theorem Ky {u9 : Value} {l : List df} {v : Value} {a b : Int} (hv : v.oneCell' = true) (al : jQ l) (hl : l.length ≤ 1000000) : pZ ag 159 [aP a b] [.c v, .c u9] (gB v l) fun bR aq aT => bR = .cj [.one (.c (.int .i64 (eV l a b))), .one (.c (.bool (hb l a b)))] ∧ aq = [.c v, .c u9] ∧ aT = gB v l := by
 have aU := UU (v := v) (a := a) (b := b) al hl;refine tj rfl rfl (fun v aq aT h => by obtain ⟨rfl, rfl, rfl⟩ := h; exact ⟨rfl, rfl⟩) ?_;refine de (f := 159) Tryz.func159 rfl (db rfl) (by exact ed rfl) ?_;(repeat first | (with_reducible apply ll (id := 1) [0,1,2,3,4,5,6,7,8,9] [11]); kernel_rfl; kernel_rfl; rfl | refine cF ?_);refine MS 0 rfl rfl rfl rfl aU rfl rfl rfl (fun bR aT h => ?_);obtain ⟨rfl, rfl⟩ := h;(refine aZ ?_)
 ((refine qn rfl (a6 rfl (a6 rfl aK)) rfl rfl rfl rfl ?_))
 exact ⟨rfl, rfl, rfl⟩
theorem Zn : R4 1100 := by
 intro u9 l v hv al hl;refine tj rfl rfl (fun v aq aT h => by obtain ⟨rfl, rfl, rfl⟩ := h; exact ⟨rfl, rfl⟩) ?_;refine de (f := 141) Tryz.func141 rfl (db rfl) (by exact ed rfl) ?_;(repeat first | refine cF ?_ | (with_reducible apply mP 0); (iterate 4 rfl); kernel_rfl; rfl)
 ((refine qn rfl (a6 rfl aK) rfl rfl rfl rfl ?_))
 exact ⟨rfl, rfl, rfl⟩
theorem Zm : R3 1100 := by
 intro u9 l v x y hv al hl;have aU := Ky (u9 := u9) (v := v) (a := x) (b := y) hv al (by omega);have hp := BH (l := l) al (x := x) (y := y);refine tj rfl rfl (fun v aq aT h => by obtain ⟨rfl, rfl, rfl⟩ := h; exact ⟨rfl, rfl⟩) ?_;cases aR : hb l x y with
 | false =>
  rw [aR] at aU;rw [af4 aR];refine de (f := 158) Tryz.func158 rfl (db rfl) (by exact ed rfl) ?_;(refine aZ ?_);refine rG 1000 0 rfl rfl rfl rfl aU rfl rfl rfl rfl rfl rfl (fun r aq aT h => ?_);obtain ⟨rfl, rfl, rfl⟩ := h;(refine aZ ?_)
  ((refine qn rfl (a6 rfl (a6 rfl aK)) rfl rfl rfl rfl ?_))
  exact ⟨rfl, rfl, rfl⟩
 | true =>
  rw [aR] at aU;obtain ⟨u, hu⟩ := hp.1 aR;rw [(af5 al hu).2];have a8 := (bF.1 hu).1;generalize eV l x y = p at *;clear hp;have bE : (p : Int) < (l.length : Int) := by omega
  have kP : 0 < l.length := by omega
  have kW : (dU l)[(p : Int).toNat * 3 + 2]? = some (.c (.int .i64 u)) := by
   have h1 := Fa l p (x, y, u) hu;have h2 : ((((dU l).drop (p * 3)).take 3))[2]? = some (.c (.int .i64 u)) := by rw [h1]; rfl
   rw [fk (by decide), fC] at h2;exact h2
  refine de (f := 158) Tryz.func158 rfl (db rfl) (by exact ed rfl) ?_;(refine aZ ?_);refine rG 1000 0 rfl rfl rfl rfl aU rfl rfl rfl rfl rfl rfl (fun r aq aT h => ?_);obtain ⟨rfl, rfl, rfl⟩ := h;(repeat first | refine cF ?_ | (with_reducible apply jd 0); (iterate 4 rfl); (omega); (assumption); rfl; kernel_rfl; rfl | (with_reducible apply yM 0); (iterate 3 rfl); (assumption); kernel_rfl; rfl | (with_reducible apply yN 0); (iterate 3 rfl); (assumption); assumption; rfl; kernel_rfl; rfl)
  ((refine qn rfl (a6 rfl (a6 rfl aK)) rfl rfl rfl rfl ?_))
  exact ⟨rfl, rfl, rfl⟩
theorem Zr : R7 1100 := by
 intro u9 l v x y w hv al hl;have aU := Ky (u9 := u9) (v := v) (a := x) (b := y) hv al (by omega);have hp := BH (l := l) al (x := x) (y := y);have qq := PT l x y;refine tj rfl rfl (fun v aq aT h => by obtain ⟨rfl, v', bP, rfl, rfl⟩ := h; exact ⟨rfl, rfl⟩) ?_;cases aR : hb l x y with
 | false =>
  rw [aR] at aU;rw [Qd al aR];have bD := UT (l := l) (v := v) (i := eV l x y) (x := x) (y := y) (w := w) qq (by omega);generalize eV l x y = p at *;clear hp;refine de (f := 142) Tryz.func142 rfl (db rfl) (by exact ed rfl) ?_;(refine aZ ?_);refine rG 1000 0 rfl rfl rfl rfl aU rfl rfl rfl rfl rfl rfl (fun r aq aT h => ?_);obtain ⟨rfl, rfl, rfl⟩ := h;(repeat first | (with_reducible apply ll (id := 5) [0,1,2,3,4,5,6,7,8,9,10,11,12,13] [34]); kernel_rfl; kernel_rfl; rfl | refine cF ?_);refine MS 0 rfl rfl rfl rfl bD rfl rfl rfl (fun bR aT h => ?_);obtain ⟨v', bP, rfl, rfl⟩ := h;(refine aZ ?_)
  ((refine qn rfl (a6 rfl aK) rfl rfl rfl rfl ?_))
  exact ⟨rfl, v', bP, rfl, rfl⟩
 | true =>
  rw [aR] at aU;obtain ⟨u, hu⟩ := hp.1 aR;rw [adC al hu];have a8 := (bF.1 hu).1;generalize eV l x y = p at *;clear hp;have bE : (p : Int) < (l.length : Int) := by omega
  have kP : 0 < l.length := by omega
  refine de (f := 142) Tryz.func142 rfl (db rfl) (by exact ed rfl) ?_;(refine aZ ?_);refine rG 1000 0 rfl rfl rfl rfl aU rfl rfl rfl rfl rfl rfl (fun r aq aT h => ?_);obtain ⟨rfl, rfl, rfl⟩ := h;(repeat first | refine cF ?_ | (with_reducible apply jd 0); (iterate 4 rfl); (omega); (assumption); rfl; kernel_rfl; rfl | (with_reducible apply yM 0); (iterate 3 rfl); (assumption); kernel_rfl; rfl);refine yR 0 rfl rfl rfl rfl kP rfl rfl ?_ rfl ?_
  ·show (p : Int).toNat * 3 + 2 + 1 ≤ (dU l).length;rw [x5]; omega
  ·have aF := afq (w := w) hu
   have aN : (l.take p ++ (x, y, w) :: l.drop (p + 1)).length = l.length := by
    rw [cx, jZ, dS, hN]; omega
   have b5 : (⟨214, 3, v, l.length, eu (dU l) ((p : Int).toNat * 3 + 2) [.c (.int .i64 w)]⟩ : bz) = gB v (l.take p ++ (x, y, w) :: l.drop (p + 1)) := by
    rw [aF]; unfold gB; rw [aN]
   (refine aZ ?_)
   ((refine qn rfl (a6 rfl aK) rfl rfl rfl rfl ?_))
   exact ⟨rfl, v, hv, rfl, b5⟩
abbrev sa (v : Value) (r : Int) : List AC := [.c v, .c (.int .i64 r)]
def su : AH := fun r L p S => ∃ (ad : Nat → Nat) (v : Value) (es : List df), p = dO (ad 1000) ∧ v.oneCell' = true ∧ nl L es ∧ S = kS ad (cE 1000 (sa v r)) (bw 0 (gB v es)) 1000
theorem Lf : ∀ l, (dU l).all AC.u6 = true
 | [] => rfl
 | p :: l => by
  have := Lf l;simp only [dU, jI, this]; rfl
theorem Il (v : Value) (r : Int) (es : List df) : mX (cE 1000 (sa v r)) (bw 0 (gB v es)) := by
 refine ⟨fun k cs h => ?_, fun i q h => ?_⟩
 ·obtain ⟨rfl, rfl⟩ := hj h; rfl
 ·obtain ⟨rfl, rfl⟩ := fu h; exact ⟨jk _, Lf es⟩
theorem N3 (k : Nat) (cs : List AC) : ∃ ds, cE k cs k = some ds := ⟨cs, by unfold cE; exact cf _ _ _⟩
theorem Qa {b c : Nat} (h : dO b = dO c) : b = c := by cases h; rfl
theorem vj {r q : bz} : bA (bw 0 r) 0 q = bw 0 q := by
 funext i;unfold bw
 by_cases e : i = 0
 ·subst e; rw [cf, cf]
 ·rw [b3 _ _ e, b3 _ _ e, b3 _ _ e]
theorem Nv : R8 su := by
 intro r L b S h hl;obtain ⟨ad, v, es, hp, hv, bh, rfl⟩ := h;obtain rfl := Qa hp;refine Rn (N3 _ _) rfl (Post := fun w m1 bg => w = aB r ∧ m1 = cE 1000 (sa v r) ∧ bg = bw 0 (gB v es)) ?_ (fun w m1 bg h => ?_)
 ·refine de (f := 52) Tryz.func52 rfl (db rfl) (by exact ed rfl) ?_;(refine aZ ?_)
  ((refine eH rfl (a6 rfl aK) rfl (bt.refl _) rfl rfl (fun i r h => ⟨r, h⟩) ?_))
  exact ⟨rfl, rfl, rfl⟩
 ·obtain ⟨rfl, rfl, rfl⟩ := h;exact ⟨rfl, Il _ _ _, fun eK je => ⟨rfl, eK, v, es, by rw [je], hv, bh, rfl⟩⟩
theorem Zp : R6 su := by
 intro n;refine afH (Post := fun w m1 bg => w = .w (.one (.own 7 0)) ∧ m1 = cE 7 (sa (.slice none 0 0) (lj n)) ∧ bg = bw 0 (gB (.slice none 0 0) [])) ?_ (fun w m1 bg h => ?_)
 ·have e : lj n = if 1024 < if 1 > n then 1 else n then 1024 else if 1 > n then 1 else n := by unfold lj; (repeat split) <;> omega
  rw [e];refine de (f := 50) Tryz.func50 rfl (db rfl) (by exact nu) ?_;refine nS 0 214 3 rfl ?_;(refine aZ ?_)
  ((refine BR 7 rfl (a6 rfl aK) rfl (bt.refl _) rfl rfl ?_))
  exact ⟨rfl, rfl, rfl⟩
 ·obtain ⟨rfl, rfl, rfl⟩ := h;refine ⟨7, rfl, ⟨fun k cs h => ?_, (Il (.slice none 0 0) 0 []).2⟩, fun eK => ⟨eK 7, rfl, fun j => eK (swp 1000 7 j), .slice none 0 0, [], rfl, rfl, .nil, ?_⟩⟩
  ·obtain ⟨rfl, rfl⟩ := hj h; rfl
  ·have h1 := afJ (mv 1000 7) (bS := fun j => j) (ib := fun j => j) (fun _ => rfl) (fun _ => rfl) (ad := eK) (m := cE 1000 (sa (.slice none 0 0) (lj n))) (R := bw 0 (gB (.slice none 0 0) [])) (k := 1000);rw [uT rfl] at h1;exact h1
theorem abm {r : Int} {L : List an} {v : Value} {es : List df} (x y : Int) (hv : v.oneCell' = true) (bh : nl L es) (hl : L.length ≤ 1100) : pZ ag 140 [aP x y] (sa v r) (gB v es) fun w aq aT => w = .cj [.one (.c (.int .i64 (nX es x y))), .one (.c (.bool (hb es x y)))] ∧ aq = sa v r ∧ aT = gB v es := by
 have aU := Zm (.int .i64 r) es v x y hv bh.1 (by rw [bh.len]; exact hl);refine tj rfl rfl (fun v aq aT h => by obtain ⟨rfl, rfl, rfl⟩ := h; exact ⟨rfl, rfl⟩) ?_;generalize nX es x y = a at *;generalize hb es x y = c at *;refine de (f := 140) Tryz.func140 rfl (db rfl) (by exact ed rfl) ?_;(repeat first | (with_reducible apply ll (id := 1) [0,1,2,3,4,5,6,7,8] [10]); kernel_rfl; kernel_rfl; rfl | refine cF ?_);refine GB 1000 0 rfl rfl rfl rfl aU rfl (fun v aq aT h => h.2.1) rfl rfl rfl rfl (fun bR aq aT h => ?_);obtain ⟨rfl, rfl, rfl⟩ := h;(refine aZ ?_)
 ((refine qn rfl (a6 rfl (a6 rfl aK)) rfl rfl rfl rfl ?_))
 exact ⟨rfl, rfl, rfl⟩
theorem aeR {f : FuncId} {args : List ah} {r : Int} {L L' : List an} {b : Nat} {S : eQ} {post : ah → Prop} (dW : args.all ah.aV = true) (h : su r L (dO b) S)
  (aj : ∀ v es, v.oneCell' = true → nl L es → pZ ag f args (sa v r) (gB v es) fun w aq aT => w.aV = true ∧ post w ∧ ∃ v' uo, v'.oneCell' = true ∧ nl L' uo ∧ aq = sa v' r ∧ aT = gB v' uo) : xK ag f (aM (dO b) :: args) (dO b) S fun w c7 => post w ∧ su r L' (dO b) c7 := by
 obtain ⟨ad, v, es, hp, hv, bh, rfl⟩ := h;obtain rfl := Qa hp;refine Rn (N3 _ _) dW (aj v es hv bh 1000 0) (fun w m1 bg h => ?_);obtain ⟨aq, aT, rfl, rfl, hw, Yh, v', uo, bP, b0, rfl, rfl⟩ := h;exact ⟨hw, Il _ _ _, fun eK je => ⟨Yh, eK, v', uo, by rw [je], bP, b0, rfl⟩⟩
abbrev af1 (b : Bool) (e : Int) : ah := .cj [.one (.c (.bool b)), .one (.c (.int .i64 e))]
theorem Zi : RZ su := by
 intro r L b S x y h hl;refine aeR (L' := p5 r L x y) (post := fun w => w = af1 (np r L x y) (nr r L x y)) rfl h fun v es hv bh => ?_;have yr := bh.len;have au := bh.num x y;have aU := abm (r := r) x y hv bh hl
 by_cases aR : 0 ≤ kO L x y
 ·obtain ⟨aF, aN, b5⟩ := Tm (r := r) aR;rw [aF, aN, b5];rw [au.1, ck aR] at aU;refine tj rfl rfl (fun w aq aT h => by obtain ⟨c1, _, v', uo, _, _, rfl, _⟩ := h; exact ⟨c1, rfl⟩) ?_;generalize nX es x y = a at *;refine de (f := 121) Tryz.func121 rfl (db rfl) (by exact ed rfl) ?_;(refine aZ ?_);refine rG 1000 0 rfl rfl rfl rfl aU rfl rfl rfl rfl rfl rfl (fun bR aq aT h => ?_);obtain ⟨rfl, rfl, rfl⟩ := h;rw [vj];(refine aZ ?_)
  ((refine qn rfl (a6 rfl (a6 rfl aK)) rfl rfl rfl rfl ?_))
  exact ⟨rfl, rfl, v, es, hv, bh, rfl, rfl⟩
 ·have ap := au.1;rw [cC aR] at ap;rw [ap] at aU;have bD := Zn (.int .i64 r) es v hv bh.1 (by omega);rw [yr] at bD
  by_cases h2 : r ≤ (L.length : Int)
  ·obtain ⟨aF, aN, b5⟩ := Tl (r := r) aR h2;rw [aF, aN, b5];refine tj rfl rfl (fun w aq aT h => by obtain ⟨c1, _, v', uo, _, _, rfl, _⟩ := h; exact ⟨c1, rfl⟩) ?_;generalize nX es x y = a at *;have vX : (L.length : Int) ≥ r := h2;refine de (f := 121) Tryz.func121 rfl (db rfl) (by exact ed rfl) ?_;(refine aZ ?_);refine rG 1000 0 rfl rfl rfl rfl aU rfl rfl rfl rfl rfl rfl (fun bR aq aT h => ?_);obtain ⟨rfl, rfl, rfl⟩ := h;rw [vj];(repeat first | (with_reducible apply ll (id := 4) [0,1,2,4,5,6,7,3,8] [18]); kernel_rfl; kernel_rfl; rfl | refine cF ?_);refine GB 1000 0 rfl rfl rfl rfl bD rfl (fun v aq aT h => h.2.1) rfl rfl rfl rfl (fun bR aq aT h => ?_);obtain ⟨rfl, rfl, rfl⟩ := h;rw [vj];(refine aZ ?_)
   ((refine qn rfl (a6 rfl (a6 rfl aK)) rfl rfl rfl rfl ?_))
   exact ⟨rfl, rfl, v, es, hv, bh, rfl, rfl⟩
  ·obtain ⟨aF, aN, b5⟩ := Tn (r := r) aR h2;rw [aF, aN, b5];have b0 := bh.add aR;have eg := Zr (.int .i64 r) es v x y L.length hv bh.1 (by omega);rw [ap] at eg;refine tj rfl rfl (fun w aq aT h => by obtain ⟨c1, _, v', uo, _, _, rfl, _⟩ := h; exact ⟨c1, rfl⟩) ?_;generalize nX es x y = a at *;generalize r0 es x y L.length = Fc at *;have vX : ¬ (L.length : Int) ≥ r := h2;refine de (f := 121) Tryz.func121 rfl (db rfl) (by exact ed rfl) ?_;(refine aZ ?_);refine rG 1000 0 rfl rfl rfl rfl aU rfl rfl rfl rfl rfl rfl (fun bR aq aT h => ?_);obtain ⟨rfl, rfl, rfl⟩ := h;rw [vj];(repeat first | (with_reducible apply ll (id := 4) [0,1,2,4,5,6,7,3,8] [18]); kernel_rfl; kernel_rfl; rfl | refine cF ?_);refine GB 1000 0 rfl rfl rfl rfl bD rfl (fun v aq aT h => h.2.1) rfl rfl rfl rfl (fun bR aq aT h => ?_);obtain ⟨rfl, rfl, rfl⟩ := h;rw [vj];(repeat first | (with_reducible apply ll (id := 6) [0,1,2,3,4,5,6,7,8,9,10] [31,32,2001000]); kernel_rfl; kernel_rfl; rfl | refine cF ?_);refine rG 1000 0 rfl rfl rfl rfl bD rfl rfl rfl rfl rfl rfl (fun bR aq aT h => ?_);obtain ⟨rfl, rfl, rfl⟩ := h;rw [vj]
   skip
   refine rG 1000 0 rfl rfl rfl rfl eg rfl rfl rfl rfl rfl rfl (fun bR aq aT h => ?_);obtain ⟨rfl, v', bP, rfl, rfl⟩ := h;rw [vj];(refine aZ ?_)
   ((refine qn rfl (a6 rfl (a6 rfl aK)) rfl rfl rfl rfl ?_))
   exact ⟨rfl, rfl, v', Fc, bP, b0, rfl, rfl⟩
theorem Qf (v : Value) (l : List an) (p : an) : iw v (l ++ [p]) = ⟨36, 2, v, l.length + 1, bL l ++ [.c (.int .i64 p.1), .c (.int .i64 p.2)]⟩ := by
 unfold iw; rw [← GV, cx]; rfl
end Go.Proofs.YtbcecodakfejaaaGreat
namespace Go.Proofs.YtbcecodakfejaaaGreat
open Go.RowKit
open bp
abbrev pQ (a b c d : Int) : ah := .w (.agg [.c (.int .i64 a), .c (.int .i64 b), .c (.int .i64 c), .c (.int .i64 d)])
def wM (l : an × an) : List AC := [.c (.int .i64 l.1.1), .c (.int .i64 l.1.2), .c (.int .i64 l.2.1), .c (.int .i64 l.2.2)]
def me (l : List (an × an)) : List AC := l.flatMap wM
theorem Na {V : List an} {j : Nat} {a b : Int} {ji : Int} (ae : ji = j) (h : V[j]? = some (a, b)) : ji < (V.length : Int) := by
 have := (bF.1 h).1; omega
theorem Pw {V : List an} {D : List Int} {j : Nat} {a b c d : Int} (h1 : V[j]? = some (a, b)) (h2 : V[j + 1]? = some (c, d)) (hl : V.length ≤ 100000) : aC ag 96 [nV V D, aB j] (pQ a b c d) := by
 obtain ⟨ji, ae⟩ : ∃ ji : Int, ji = j := ⟨_, rfl⟩;have q1 := Na (ji := ji) ae h1;have q2 := Na (ji := ji + 1) (j := j + 1) (by omega) h2;have q0 : 0 ≤ ji := by omega
 have bE : 0 ≤ ji + 1 := by omega
 have ab : ji ≤ 100000 := by omega
 have kW := qt ae h1;have xo := qt (j := ji + 1) (i := j + 1) (by omega) h2;rw [show aB (j : Int) = aB ji by rw [ae]];clear ae h1 h2 hl;refine bi (f := 96) Tryz.func96 rfl rfl rfl rfl ?_;(refine fl ?_)
 ((refine ba rfl (cL rfl rfl rfl aK) ?_))
 exact ah.aQ.refl _
theorem C0 {a b c d k A B C D : Int} (aU : aC ag 13 [aP a b, aB k] (aP A B)) (bD : aC ag 13 [aP c d, aB k] (aP C D)) : aC ag 102 [pQ a b c d, aB k] (.cj [.agg [.c (.int .i64 A), .c (.int .i64 B)], .agg [.c (.int .i64 C), .c (.int .i64 D)]]) := by
 refine bi (f := 102) Tryz.func102 rfl rfl rfl rfl ?_;(refine bZ ?_)
 ((refine ba rfl (cL rfl rfl rfl (cL rfl rfl rfl aK)) ?_))
 exact ah.aQ.refl _
theorem acX {a b c d x y k A B C D : Int} {h r : Bool} (aU : aC ag 102 [pQ a b c d, aB k] (.cj [.agg [.c (.int .i64 A), .c (.int .i64 B)], .agg [.c (.int .i64 C), .c (.int .i64 D)]])) (H1 : aC ag 131 [aP A B, aP C D, aP x y, aB k] (bf h)) (aF : dI x y a b = false → dI x y c d = false → r = h) (aN : dI x y a b = true → r = false) (b5 : dI x y c d = true → r = false) : aC ag 97 [pQ a b c d, aP x y, aB k] (bf r) := by
 cases q1 : dI x y a b with
 | true =>
  rw [aN q1];refine bi (f := 97) Tryz.func97 rfl rfl rfl rfl ?_;(repeat first | refine ec ?_ | refine gF ?_ | (with_reducible apply cc (c := false)); rfl; rfl; ((simp only [mE]; (omega))))
  ((refine ba rfl (a6 rfl aK) ?_))
  exact ah.aQ.refl _
 | false =>
  cases q2 : dI x y c d with
  | true =>
   rw [b5 q2];refine bi (f := 97) Tryz.func97 rfl rfl rfl rfl ?_;(repeat first | refine ec ?_ | refine gF ?_ | (with_reducible apply cc (c := true)); rfl; rfl; ((simp only [mE]; (omega))) | (with_reducible apply cc (c := false)); rfl; rfl; ((simp only [mE]; (omega))))
   ((refine ba rfl (a6 rfl aK) ?_))
   exact ah.aQ.refl _
  | false =>
   rw [aF q1 q2];refine bi (f := 97) Tryz.func97 rfl rfl rfl rfl ?_;(repeat first | refine ec ?_ | refine gF ?_ | (with_reducible apply cc (c := true)); rfl; rfl; ((simp only [mE]; (omega))))
   ((refine ba rfl (a6 rfl aK) ?_))
   exact ah.aQ.refl _
theorem acW {E : List bU} {r R : Nat} (al : r ≤ 28) {p q x : an} (hp : er r p.1 p.2 = true) (ak : er r q.1 q.2 = true) : aC ag 97 [pQ p.1 p.2 q.1 q.2, aP x.1 x.2, aB r] (bf (iI (qI E r R) p q x)) := by
 have ar : fS (r : Int) r := ⟨al, .inr (.inr rfl)⟩;have e : ∀ a b : an, dI a.1 a.2 b.1 b.2 = decide (a = b) := fun a b => by rw [lN, pd, ca, Prod.ext_iff]
 have ao : iI (qI E r R) p q x = (!decide (x = p) && !decide (x = q) && nA (2 ^ r * p.1) (2 ^ r * p.2) (2 ^ r * q.1) (2 ^ r * q.2) x.1 x.2 r) := by
  unfold iI;simp only [decide_not];rfl
 refine acX (C0 (pF ar hp) (pF ar ak)) abT (fun h1 h2 => ?_) (fun h1 => ?_) (fun h1 => ?_)
 ·rw [e] at h1 h2;rw [ao, h1, h2]; rfl
 ·rw [e] at h1;rw [ao, h1]; rfl
 ·rw [e] at h1;rw [ao, h1]; simp
theorem acs {a b c d a' bK c' d' k A B C D dH pU DY vp : Int} {h : Bool} {M : fm} (aU : aC ag 102 [pQ a b c d, aB k] (.cj [.agg [.c (.int .i64 A), .c (.int .i64 B)], .agg [.c (.int .i64 C), .c (.int .i64 D)]])) (bD : aC ag 102 [pQ a' bK c' d', aB k] (.cj [.agg [.c (.int .i64 dH), .c (.int .i64 pU)], .agg [.c (.int .i64 DY), .c (.int .i64 vp)]])) (H1 : aC ag 138 [aP A B, aP C D, aP dH pU, aP DY vp] (bf h)) (cQ : aC ag 93 [aP A B, aP C D, aP dH pU, aP DY vp] (nW M)) : aC ag 103 [pQ a b c d, pQ a' bK c' d', aB k] (nW (if h = true then hI else M)) := by
 cases h with
 | true =>
  refine bi (f := 103) Tryz.func103 rfl rfl rfl rfl ?_;(refine bZ ?_)
  ((refine ba rfl (cL rfl rfl rfl aK) ?_))
  exact ah.aQ.refl _
 | false =>
  refine bi (f := 103) Tryz.func103 rfl rfl rfl rfl ?_;(refine bZ ?_)
  ((refine ba rfl (cL rfl rfl rfl aK) ?_))
  exact ah.aQ.refl _
theorem Hb {a b : bU} (h1 : b7 a.1.1 a.1.2 = true) (h2 : b7 a.2.1 a.2.2 = true) (h3 : b7 b.1.1 b.1.2 = true) (aE : b7 b.2.1 b.2.2 = true) : qA a.1.1 a.1.2 a.2.1 a.2.2 b.1.1 b.1.2 b.2.1 b.2.2 = gM a b := by
 unfold qA; rw [h1, h2, h3, aE]; rfl
def n6 (r : Nat) (l m : an × an) : fm := if sI (fU r l) (fU r m) = true then hI else gM (fU r l) (fU r m)
theorem acr {r : Nat} (al : r ≤ 28) {l m : an × an} (h1 : er r l.1.1 l.1.2 = true) (h2 : er r l.2.1 l.2.2 = true) (h3 : er r m.1.1 m.1.2 = true) (aE : er r m.2.1 m.2.2 = true) : aC ag 103 [pQ l.1.1 l.1.2 l.2.1 l.2.2, pQ m.1.1 m.1.2 m.2.1 m.2.2, aB r] (nW (n6 r l m)) := by
 have ar : fS (r : Int) r := ⟨al, .inr (.inr rfl)⟩;have e := Hb (a := fU r l) (b := fU r m) (qh h1) (qh h2) (qh h3) (qh aE)
 have H1 : aC ag 138 [aP (2 ^ r * l.1.1) (2 ^ r * l.1.2), aP (2 ^ r * l.2.1) (2 ^ r * l.2.2), aP (2 ^ r * m.1.1) (2 ^ r * m.1.2), aP (2 ^ r * m.2.1) (2 ^ r * m.2.2)] (bf (sI (fU r l) (fU r m))) := by
  have := aco (a1 := 2 ^ r * l.1.1) (a2 := 2 ^ r * l.1.2) (b1 := 2 ^ r * l.2.1) (b2 := 2 ^ r * l.2.2) (c1 := 2 ^ r * m.1.1) (c2 := 2 ^ r * m.1.2) (d1 := 2 ^ r * m.2.1) (d2 := 2 ^ r * m.2.2);rw [show qA (2 ^ r * l.1.1) (2 ^ r * l.1.2) (2 ^ r * l.2.1) (2 ^ r * l.2.2) (2 ^ r * m.1.1) (2 ^ r * m.1.2) (2 ^ r * m.2.1) (2 ^ r * m.2.2) = gM (fU r l) (fU r m) from e] at this;exact this
 have cQ : aC ag 93 [aP (2 ^ r * l.1.1) (2 ^ r * l.1.2), aP (2 ^ r * l.2.1) (2 ^ r * l.2.2), aP (2 ^ r * m.1.1) (2 ^ r * m.1.2), aP (2 ^ r * m.2.1) (2 ^ r * m.2.2)] (nW (gM (fU r l) (fU r m))) := by
  have := HI (a1 := 2 ^ r * l.1.1) (a2 := 2 ^ r * l.1.2) (b1 := 2 ^ r * l.2.1) (b2 := 2 ^ r * l.2.2) (c1 := 2 ^ r * m.1.1) (c2 := 2 ^ r * m.1.2) (d1 := 2 ^ r * m.2.1) (d2 := 2 ^ r * m.2.2);rw [show qA (2 ^ r * l.1.1) (2 ^ r * l.1.2) (2 ^ r * l.2.1) (2 ^ r * l.2.2) (2 ^ r * m.1.1) (2 ^ r * m.1.2) (2 ^ r * m.2.1) (2 ^ r * m.2.2) = gM (fU r l) (fU r m) from e] at this;exact this
 exact acs (C0 (pF ar h1) (pF ar h2)) (C0 (pF ar h3) (pF ar aE)) H1 cQ
theorem KW (r : Nat) (l m : an × an) : rj r l m = if (n6 r l m).k = 1 then some (iv r (n6 r l m)) else none := by
 unfold rj n6;cases h : sI (fU r l) (fU r m) with
 | true => simp [hI]
 | false => simp
abbrev rS (v : Value) (l : List (an × an)) : bz := ⟨155, 4, v, l.length, me l⟩
instance ahV : l0 ag 76 155 4 32 := ⟨by kernel_rfl⟩
def o8 (c : List an × List Int) : List AC := [.p (cl 2 c.1.length (bL c.1)), .p (cl 1 c.2.length (cu c.2))]
def ew (l : List (List an × List Int)) : List AC := l.flatMap o8
abbrev oP (l : List (List an × List Int)) : ah := cz 2 l.length (ew l)
theorem Bq {β : Type} {f : β → List AC} {z : Nat} (ap : ∀ x, (f x).length = z) : ∀ {l : List β} {i : Nat} {x : β}, l[i]? = some x → ((l.flatMap f).drop (i * z)).take z = f x
 | [], i, x, h => by simp at h
 | y :: l, 0, x, h => by
  simp at h; subst h;rw [List.flatMap_cons, Nat.zero_mul, List.drop_zero, ← ap y, List.take_left]
 | y :: l, i + 1, x, h => by
  rw [List.flatMap_cons, j0, Nat.one_mul, Nat.add_comm, ← pL, ← ap y, List.drop_left, ap y];exact Bq ap (by simpa using h)
theorem Br {β : Type} {f : β → List AC} {z : Nat} (ap : ∀ x, (f x).length = z) : ∀ l : List β, (l.flatMap f).length = l.length * z
 | [] => by simp
 | y :: l => by rw [List.flatMap_cons, cx, ap, Br ap l, jZ, j0, Nat.one_mul, Nat.add_comm]
theorem NO {l : List (an × an)} {i : Nat} {ii a b c d : Int} (hi : ii = i) (h : l[i]? = some ((a, b), (c, d))) : ((me l).drop (ii.toNat * 4)).take 4 = [.c (.int .i64 a), .c (.int .i64 b), .c (.int .i64 c), .c (.int .i64 d)] := by
 subst hi; rw [ks]; exact Bq (f := wM) (fun _ => rfl) h
theorem vJ {l : List (List an × List Int)} {i : Nat} {ii : Int} {c : List an × List Int} (hi : ii = i) (h : l[i]? = some c) : ((ew l).drop (ii.toNat * 2)).take 2 = [.p (cl 2 c.1.length (bL c.1)), .p (cl 1 c.2.length (cu c.2))] := by
 subst hi; rw [ks]; exact Bq (f := o8) (fun _ => rfl) h
theorem aab (l : List (an × an)) (x : an × an) : me l ++ wM x = me (l ++ [x]) := by simp [me, List.flatMap_append]
theorem ah6 (l : List (an × an)) : (me l).all AC.aV = true := by
 rw [cb]; intro x aa;obtain ⟨y, _, ai⟩ := List.mem_flatMap.1 aa;simp only [wM, fQ, r2, or_false] at ai;rcases ai with rfl | rfl | rfl | rfl <;> rfl
theorem U7 (l : List (List an × List Int)) : (ew l).all AC.aV = true := by
 rw [cb]; intro x aa;obtain ⟨y, _, ai⟩ := List.mem_flatMap.1 aa;simp only [o8, fQ, r2, or_false] at ai;rcases ai with rfl | rfl <;> rfl
theorem Z9 (v : Value) (l : List (an × an)) (x : an × an) : rS v (l ++ [x]) = ⟨155, 4, v, l.length + 1, me l ++ wM x⟩ := by rw [rS, ← aab, cx]; rfl
def SE (ch : List (List an × List Int)) (n : Nat) (R : aG) (aL : List (Nat × ah)) (bj : List (Nat × List AC)) : Prop :=
 ∃ (i : Nat) (ii : Int) (v : Value), i ≤ ch.length ∧ n = ch.length - i ∧ ii = i ∧ R = bw 0 (rS v (aX (ch.take i))) ∧ aL = [(3, aM v), (7, oP ch), (8, aB ch.length), (9, aB ii)] ∧ bj = []
def SD (ch : List (List an × List Int)) (V : List an) (D : List Int) (ii : Int) (pre : List (an × an)) (n : Nat) (R : aG) (aL : List (Nat × ah)) (bj : List (Nat × List AC)) : Prop :=
 ∃ (j : Nat) (en : Int) (v : Value), j ≤ D.length ∧ n = D.length - j ∧ en = j ∧ R = bw 0 (rS v (pre ++ (iq V).take j)) ∧ aL = [(3, aM v), (5, hy 5 0), (7, oP ch), (8, aB ch.length), (9, aB ii), (15, aB D.length), (16, aB en)] ∧ bj = [(5, [.p (cl 2 V.length (bL V)), .p (cl 1 D.length (cu D))])]
theorem aac {V : List an} {j : Nat} (h : j + 1 < V.length) : (iq V)[j]? = some (V[j], V[j + 1]) := by
 induction V generalizing j with
 | nil => simp at h
 | cons p W bO =>
  cases W with
  | nil => simp at h
  | cons q W =>
   cases j with
   | zero => rfl
   | succ j => exact bO (j := j) (by simpa using h)
section
variable {P : Program} {R : aG} {s : az} {ops : Array Oper} {dr : Option (List Nat)} {ty : Nat} {pos : String} {after : Array Edge} {guard : Option (Nat × Bool)} {K : aG → az → Prop} {rest : List Oper}
def nY (k : Nat) (iD : ah → List AC → aG → Prop) : ah → Mem → aG → Prop := fun bR aD aw => ∃ aq, aD = cE k aq ∧ iD bR aq aw
theorem B6 (k : Nat) {R0 : aG} {dst : Option Nat} {f : FuncId} {g : Operand} {aL : Array TypeId} {l : List Operand} {args : List ah} {cs : List AC} {iD : ah → List AC → aG → Prop} [E : Enters P f] (hw : want ops ⟨dst, .call ⟨.value g, l.toArray, aL⟩, ty, pos, after, guard⟩ s = some true) (hm : dL dr ⟨dst, .call ⟨.value g, l.toArray, aL⟩, ty, pos, after, guard⟩ = true)
  (ao : s.look g = some (aM (.func (.func f) #[] #[]))) (aH : l.map s.look = (ah.w (.one (.own k 0)) :: args).map some) (hp : cY P f (.w (.one (.own k 0)) :: args) (cE k cs) R0 (nY k iD)) (af : s.mem k = some cs) (hg : oN dr k = true) (al : bt R0 R) (aj : cs.all AC.aV = true) (dW : args.all ah.aV = true) (hd : kC dst s.n = true)
  (h : ∀ v aq aw, iD v aq aw → ct P ops dr K rest (bJ aw R) ((s.dT k aq).put dst v)) : ct P ops dr K (⟨dst, .call ⟨.value g, l.toArray, aL⟩, ty, pos, after, guard⟩ :: rest) R s := by
 refine uL hw hm ao aH hp (fun x aa j ae => ?_) (fun k' aq aJ => ?_) al (fun k' aq x j aJ aa ae => ?_) hd ?_
 ·rcases fQ.1 aa with rfl | aa
  ·obtain ⟨y, ai, ae⟩ := ae;simp [br.cells] at ai;subst ai;cases ae;exact ⟨cs, by unfold cE; exact cf _ _ _⟩
  ·exact absurd ae (ah.dd (cb.1 dW x aa) j)
 ·obtain ⟨rfl, rfl⟩ := hj aJ;exact ⟨af, .inl hg⟩
 ·obtain ⟨rfl, rfl⟩ := hj aJ;exact absurd ae (AC.dd (cb.1 aj x aa) j)
 ·rintro v aD aw ⟨aq, rfl, ak⟩;refine ⟨fun k' c aJ => ?_, ?_⟩
  ·obtain ⟨rfl, rfl⟩ := hj aJ;exact .inl ⟨cs, by unfold cE; exact cf _ _ _⟩
  ·have aN : s.over (cE k aq) = s.dT k aq := by
    show ({ s with mem := bJ (bA bW k aq) s.mem } : az) = { s with mem := bA s.mem k aq };rw [show bJ (bA bW k aq) s.mem = bA s.mem k aq from u3 s.mem k aq]
   rw [aN];exact h v aq aw ak
theorem jV (k : Nat) {dst : Option Nat} {f : FuncId} {g : Operand} {aL : Array TypeId} {l : List Operand} {args : List ah} {cs aq : List AC} {v : ah} [E : Enters P f] (hw : want ops ⟨dst, .call ⟨.value g, l.toArray, aL⟩, ty, pos, after, guard⟩ s = some true) (hm : dL dr ⟨dst, .call ⟨.value g, l.toArray, aL⟩, ty, pos, after, guard⟩ = true)
  (ao : s.look g = some (aM (.func (.func f) #[] #[]))) (aH : l.map s.look = (ah.w (.one (.own k 0)) :: args).map some) (hp : cY P f (.w (.one (.own k 0)) :: args) (cE k cs) fO (nY k fun bR ds aw => bR = v ∧ ds = aq ∧ aw = fO)) (af : s.mem k = some cs) (hg : oN dr k = true) (aj : cs.all AC.aV = true) (dW : args.all ah.aV = true) (hd : kC dst s.n = true)
  (h : ct P ops dr K rest R ((s.dT k aq).put dst v)) : ct P ops dr K (⟨dst, .call ⟨.value g, l.toArray, aL⟩, ty, pos, after, guard⟩ :: rest) R s := by
 refine B6 k hw hm ao aH hp af hg (fun i r h => by cases h) aj dW hd ?_;rintro _ _ _ ⟨rfl, rfl, rfl⟩;rw [show bJ fO R = R from Pb R];exact h
end
def Bf (x : Int × bU) : List AC := [.c (.int .i64 x.2.1.1), .c (.int .i64 x.2.1.2), .c (.int .i64 x.2.2.1), .c (.int .i64 x.2.2.2), .c (.int .i64 x.1)]
def pe (l : List (Int × bU)) : List AC := l.flatMap Bf
abbrev jL (l : List (Int × bU)) : ah := cz 5 l.length (pe l)
theorem vP {l : List (Int × bU)} {i : Nat} {ii o a b c d : Int} (hi : ii = i) (h : l[i]? = some (o, (a, b), (c, d))) : ((pe l).drop (ii.toNat * 5)).take 5 = [.c (.int .i64 a), .c (.int .i64 b), .c (.int .i64 c), .c (.int .i64 d), .c (.int .i64 o)] := by
 subst hi; rw [ks]; exact Bq (f := Bf) (fun _ => rfl) h
abbrev ep (E : List (Int × bU)) (k rm ph I J T : Int) (dirty : Bool) (hv fv cv : Value) (b : Nat) (lk : AC) : List AC :=
 [.p (cl 5 E.length (pe E)), .c (.int .i64 k), .c (.int .i64 rm), .c (.int .i64 ph), .c (.int .i64 I), .c (.int .i64 J), .c (.int .i64 T), .c (.bool dirty), .c hv, .c fv, .c cv, .c (dO b), lk]
abbrev vH (v : Value) (l : List (List an × List Int)) : bz := ⟨34, 2, v, l.length, ew l⟩
instance ahW : l0 ag 28 34 2 48 := ⟨by kernel_rfl⟩
abbrev dF (b : Nat) (S : eQ) (hv fv cv : Value) (hot fnd : List an) (ch : List (List an × List Int)) : aG := bA (bA (bA (bw 0 (iS (dO b) S)) 1 (iw hv hot)) 2 (iw fv fnd)) 3 (vH cv ch)
theorem QA {b bK : Nat} {S c7 : eQ} {hv fv cv bP cX cS : Value} {hot fnd hot' fnd' : List an} {ch ch' : List (List an × List Int)} : bJ (dF bK c7 bP cX cS hot' fnd' ch') (dF b S hv fv cv hot fnd ch) = dF bK c7 bP cX cS hot' fnd' ch' := by
 funext i
 match i with
 | 0 => rfl
 | 1 => rfl
 | 2 => rfl
 | 3 => rfl
 | i + 4 => rfl
theorem eX {b bK : Nat} {S c7 : eQ} {hv fv cv bP cX cS : Value} {hot fnd hot' fnd' : List an} {ch ch' : List (List an × List Int)} : ∀ i r, dF b S hv fv cv hot fnd ch i = some r → ∃ aT, dF bK c7 bP cX cS hot' fnd' ch' i = some aT
 | 0, _, _ => ⟨_, rfl⟩
 | 1, _, _ => ⟨_, rfl⟩
 | 2, _, _ => ⟨_, rfl⟩
 | 3, _, _ => ⟨_, rfl⟩
 | i + 4, _, h => by cases h
theorem ad6 {b : Nat} {S : eQ} {hv fv cv v : Value} {hot fnd l : List an} {ch : List (List an × List Int)} : bA (dF b S hv fv cv hot fnd ch) 1 (iw v l) = dF b S v fv cv l fnd ch := by
 funext i
 match i with
 | 0 => rfl
 | 1 => rfl
 | 2 => rfl
 | 3 => rfl
 | i + 4 => rfl
theorem H8 {b c : Nat} {S c7 : eQ} {hv fv cv : Value} {hot fnd : List an} {ch : List (List an × List Int)} : bA (dF b S hv fv cv hot fnd ch) 0 (iS (dO c) c7) = dF c c7 hv fv cv hot fnd ch := by
 funext i
 match i with
 | 0 => rfl
 | 1 => rfl
 | 2 => rfl
 | 3 => rfl
 | i + 4 => rfl
abbrev qU : ah := .w (.one (.own 1000 0))
abbrev ln : ah := .cj []
abbrev Az (f : FuncId) (args : List ah) (cs : List AC) (v : ah) (aq : List AC) : Prop := cY ag f (qU :: args) (cE 1000 cs) fO (nY 1000 fun bR ds aw => bR = v ∧ ds = aq ∧ aw = fO)
section
variable {E : List (Int × bU)} {k rm ph I J T : Int} {dirty : Bool} {hv fv cv : Value} {b : Nat} {lk : AC}
theorem Cl (hl : lk.aV = true) (p j : Int) : Az 88 [aB p, aB j] (ep E k rm ph I J T dirty hv fv cv b lk) ln (ep E k rm p 0 j 0 dirty hv fv cv b lk) := by
 have dn : (ep E k rm p 0 j 0 dirty hv fv cv b lk).all AC.aV = true := by simp only [jI, mr, hl]; rfl
 refine de (f := 88) Tryz.func88 rfl (db rfl) (by exact ed rfl) ?_;(refine aZ ?_)
 ((refine eH rfl aK rfl (bt.refl _) dn rfl (fun i r h => ⟨r, h⟩) ?_))
 exact ⟨_, rfl, rfl, rfl, rfl⟩
theorem G2 (hl : lk.aV = true) (p : Int) : Az 53 [aB p] (ep E k rm ph I J T dirty hv fv cv b lk) ln (ep E k rm p 0 0 0 dirty hv fv cv b (.c (.slice none 0 0))) := by
 have dn : (ep E k rm ph I J T dirty hv fv cv b lk).all AC.aV = true := by simp only [jI, mr, hl]; rfl
 have aU := Cl (E := E) (k := k) (rm := rm) (ph := ph) (I := I) (J := J) (T := T) (dirty := dirty) (hv := hv) (fv := fv) (cv := cv) (b := b) hl p 0;refine de (f := 53) Tryz.func53 rfl (db rfl) (by exact ed rfl) ?_;(refine aZ ?_);refine jV 1000 rfl rfl rfl rfl aU rfl rfl dn rfl rfl ?_;(refine aZ ?_)
 ((refine eH rfl aK rfl (bt.refl _) rfl rfl (fun i r h => ⟨r, h⟩) ?_))
 exact ⟨_, rfl, rfl, rfl, rfl⟩
theorem y7 (hl : lk.aV = true) (n : Int) (bh : 0 ≤ I ∧ I ≤ 1000000) (ki : 0 ≤ J ∧ J ≤ 1000000) : Az 94 [aB n] (ep E k rm ph I J T dirty hv fv cv b lk) (bf (decide ((if J + 1 = n then I + 2 else J + 1) < n))) (ep E k rm ph (if J + 1 = n then I + 1 else I) (if J + 1 = n then I + 2 else J + 1) T dirty hv fv cv b lk) := by
 have dn : ∀ I J : Int, (ep E k rm ph I J T dirty hv fv cv b lk).all AC.aV = true := fun I J => by simp only [jI, mr, hl]; rfl
 by_cases h : J + 1 = n
 ·rw [if_pos h, if_pos h];have e : I + 1 + 1 = I + 2 := by omega
  rw [← e];refine de (f := 94) Tryz.func94 rfl (db rfl) (by exact ed rfl) ?_;(refine aZ ?_)
  ((refine eH rfl (a6 rfl aK) rfl (bt.refl _) (dn _ _) rfl (fun i r h => ⟨r, h⟩) ?_))
  exact ⟨_, rfl, rfl, rfl, rfl⟩
 ·rw [if_neg h, if_neg h];refine de (f := 94) Tryz.func94 rfl (db rfl) (by exact ed rfl) ?_;(refine aZ ?_)
  ((refine eH rfl (a6 rfl aK) rfl (bt.refl _) (dn _ _) rfl (fun i r h => ⟨r, h⟩) ?_))
  exact ⟨_, rfl, rfl, rfl, rfl⟩
theorem G3 {r : Nat} (al : r ≤ 28) (af : k = r) (hl : lk.aV = true) {i : Nat} {o p1 p2 q1 q2 : Int} (fp : E.length ≤ 1000) (h : E[i]? = some (o, (p1, p2), (q1, q2))) (hp : gj (p1, p2) = true) (ak : gj (q1, q2) = true) :
  Az 89 [aB i] (ep E k rm ph I J T dirty hv fv cv b lk) (.cj [.agg [.c (.int .i64 (cn p1 r)), .c (.int .i64 (cn p2 r))], .agg [.c (.int .i64 (cn q1 r)), .c (.int .i64 (cn q2 r))]]) (ep E k rm ph I J T dirty hv fv cv b lk) := by
 have dn : (ep E k rm ph I J T dirty hv fv cv b lk).all AC.aV = true := by simp only [jI, mr, hl]; rfl
 obtain ⟨ji, ae⟩ : ∃ ji : Int, ji = i := ⟨_, rfl⟩;have a8 := (bF.1 h).1;have g0 : 0 ≤ ji := by omega
 have g1 : ji < (E.length : Int) := by omega
 have kW := vP ae h;have hp := rW.1 hp;have ak := rW.1 ak;have ar : fS (r : Int) r := ⟨al, .inr (.inr rfl)⟩;have aU := Po (x := p1) (y := p2) ar (by omega) (by omega) (by omega) (by omega);have bD := Po (x := q1) (y := q2) ar (by omega) (by omega) (by omega) (by omega);rw [← af] at aU bD;rw [show aB (i : Int) = aB ji by rw [ae]];clear hp ak ar ae h;generalize cn p1 r = a at *;generalize cn p2 r = a' at *;generalize cn q1 r = c at *;generalize cn q2 r = c' at *;refine de (f := 89) Tryz.func89 rfl (db rfl) (by exact ed rfl) ?_;(repeat first | (with_reducible apply dj (id := 2) [0,1,2,3,4,5,6,7,8,9,10,11,12,13,14,15,16,17]); kernel_rfl; kernel_rfl; rfl | refine cF ?_ | refine ia ?_)
 ((refine eH rfl (cL rfl rfl rfl (cL rfl rfl rfl aK)) rfl (bt.refl _) dn rfl (fun i r h => ⟨r, h⟩) ?_))
 exact ⟨_, rfl, rfl, rfl, rfl⟩
end
def dm (E : List (Int × bU)) (r rm : Nat) (s : bp.aS an) (cs : List AC) (R : aG) : Prop := ∃ (hv fv cv : Value) (b : Nat) (S : eQ) (lk : AC), su rm s.hot (dO b) S ∧ lk.aV = true ∧ (s.ph = 3 → lk = .p (cl 4 (aX s.ch).length (me (aX s.ch)))) ∧ cs = ep E r rm s.ph s.I s.J s.T s.dirty hv fv cv b lk ∧ R = dF b S hv fv cv s.hot s.fnd s.ch
def fM (E : List (Int × bU)) (r rm : Nat) (f : FuncId) (args : List ah) (s : bp.aS an) (v : ah) (s' : bp.aS an) : Prop :=
 ∀ cs R, dm E r rm s cs R → cY ag f (qU :: args) (cE 1000 cs) R (nY 1000 fun bR aq aw => bR = v ∧ dm E r rm s' aq aw)
abbrev bu (E : List (Int × bU)) (r rm : Nat) : cO an := qI (E.map Prod.snd) r rm
theorem bt.of_eq {R aw : aG} (h : R = aw) : bt R aw := by rw [h]; exact bt.refl _
theorem ad7 {b : Nat} {S : eQ} {hv fv cv v : Value} {hot fnd l : List an} {ch : List (List an × List Int)} : bA (dF b S hv fv cv hot fnd ch) 2 (iw v l) = dF b S hv v cv hot l ch := by
 funext i
 match i with
 | 0 => rfl
 | 1 => rfl
 | 2 => rfl
 | 3 => rfl
 | i + 4 => rfl
theorem ad9 {b : Nat} {S : eQ} {hv fv cv v : Value} {hot fnd : List an} {ch : List (List an × List Int)} {x y : Int} : bA (dF b S hv fv cv hot fnd ch) 1 ⟨36, 2, v, hot.length + 1, bL hot ++ [.c (.int .i64 x), .c (.int .i64 y)]⟩ = dF b S v fv cv (hot ++ [(x, y)]) fnd ch :=
 (congrArg (bA (dF b S hv fv cv hot fnd ch) 1) (Qf v hot (x, y)).symm).trans ad6
theorem ad8 {b : Nat} {S : eQ} {hv fv cv v : Value} {hot fnd : List an} {ch : List (List an × List Int)} {x y : Int} : bA (dF b S hv fv cv hot fnd ch) 2 ⟨36, 2, v, fnd.length + 1, bL fnd ++ [.c (.int .i64 x), .c (.int .i64 y)]⟩ = dF b S hv v cv hot (fnd ++ [(x, y)]) ch :=
 (congrArg (bA (dF b S hv fv cv hot fnd ch) 2) (Qf v fnd (x, y)).symm).trans ad7
theorem Xy {E : List (Int × bU)} {r rm : Nat} {s : bp.aS an} {x y : Int} : (p5 rm s.hot x y = (dE (bu E r rm) s (x, y)).hot) ∧ (np rm s.hot x y = true → dE (bu E r rm) s (x, y) = { s with hot := s.hot ++ [(x, y)] } ∧ nr rm s.hot x y = 0) ∧ (np rm s.hot x y = false → nr rm s.hot x y = 0 → dE (bu E r rm) s (x, y) = s) ∧ (nr rm s.hot x y = 0 ∨ (nr rm s.hot x y = 90 ∧ np rm s.hot x y = false ∧ dE (bu E r rm) s (x, y) = e7 s 5 0 0)) := by
 unfold p5 np nr dE
 by_cases h : (x, y) ∈ s.hot
 ·rw [if_pos (ti.2 h), if_pos (ti.2 h), if_pos (ti.2 h), if_pos h];exact ⟨rfl, fun h => (by cases h), fun _ _ => rfl, .inl rfl⟩
 ·have aJ : ¬ 0 ≤ kO s.hot x y := fun aR => h (ti.1 aR);rw [if_neg aJ, if_neg aJ, if_neg aJ, if_neg h]
  by_cases hl : (rm : Int) ≤ (s.hot.length : Int)
  ·have e0 : ¬ s.hot.length < (bu E r rm).R := by show ¬ s.hot.length < rm; omega
   rw [if_pos hl, if_pos hl, if_pos hl, if_neg e0];exact ⟨rfl, fun h => (by cases h), fun _ h => (by cases h), .inr ⟨rfl, rfl, rfl⟩⟩
  ·have e0 : s.hot.length < (bu E r rm).R := by show s.hot.length < rm; omega
   rw [if_neg hl, if_neg hl, if_neg hl, if_pos e0];exact ⟨rfl, fun _ => ⟨rfl, rfl⟩, fun h => (by cases h), .inl rfl⟩
theorem G4 {E : List (Int × bU)} {r rm : Nat} {s : bp.aS an} {x y : Int} (hl : s.hot.length ≤ 1100) (ap : s.fnd = []) (gL : s.ph ≠ 5) : fM E r rm 90 [aP x y] s (bf (!Nat.beq (dE (bu E r rm) s (x, y)).ph 5)) (dE (bu E r rm) s (x, y)) := by
 obtain ⟨ph, I, J, T, dirty, hot, fnd, ch⟩ := s;obtain rfl : fnd = [] := ap;have hl : hot.length ≤ 1100 := hl
 have gL : Nat.beq ph 5 = false := by
  cases h : Nat.beq ph 5 with
  | false => rfl
  | true => exact absurd (gl h) gL
 obtain ⟨h1, h2, h3, aE⟩ := Xy (E := E) (r := r) (rm := rm) (s := ⟨ph, I, J, T, dirty, hot, [], ch⟩) (x := x) (y := y);rintro cs R ⟨hv, fv, cv, b, S, lk, hS, cK, fI, rfl, rfl⟩;have aU := Zi (rm : Int) hot b S x y hS hl;have dn : ∀ hv, (ep E r rm ph I J T dirty hv fv cv b lk).all AC.aV = true := fun hv => by simp only [jI, mr, cK]; rfl
 have bD := G2 (E := E) (k := r) (rm := rm) (ph := ph) (I := I) (J := J) (T := T) (dirty := dirty) (hv := hv) (fv := fv) (cv := cv) (b := b) cK 5;simp only at h1 h2 h3 aE fI;rw [h1] at aU;rcases aE with aE | ⟨aE, cZ, ff⟩
 ·rw [aE] at aU;cases ab : np rm hot x y with
  | true =>
   rw [ab] at aU;rw [(h2 ab).1] at aU ⊢;simp only at aU ⊢;rw [gL];have aF : (hot ++ [(x, y)]).length = hot.length + 1 := by rw [cx]; rfl
   refine de (f := 90) Tryz.func90 rfl (db rfl) (by exact ed rfl) ?_;(repeat first | (with_reducible apply ll (id := 1) [0,1,2,3,4,5,6,7,8,9,10] [13]); kernel_rfl; kernel_rfl; rfl | refine cF ?_);refine yS 0 rfl rfl rfl rfl aU rfl rfl rfl (fun v c7 h => ?_);obtain ⟨rfl, fA⟩ := h;rw [H8];(repeat first | (with_reducible apply ll (id := 6) [0,1,2,3,4,5,6,7,8,9,10,11,12] [3000028]); kernel_rfl; kernel_rfl; rfl | refine cF ?_);refine qs 1 rfl rfl rfl rfl ?q1 ?q2 rfl rfl (fun v1 hZ => ?_)
   case q1 => exact kL (by show hot.length + 1 ≤ 1000000; omega)
   case q2 => show (hot.length + 1) * 16 ≤ 140737488355328; omega
   (refine aZ ?_)
   ((refine eH rfl (a6 rfl aK) rfl (bt.of_eq (ad9 (x := x) (y := y)).symm) (dn v1) rfl eX ?_))
   exact ⟨_, rfl, rfl, v1, fv, cv, b, c7, lk, fA, cK, fI, rfl, rfl⟩
  | false =>
   rw [ab] at aU;rw [h3 ab aE] at aU ⊢;simp only at aU ⊢;rw [gL];refine de (f := 90) Tryz.func90 rfl (db rfl) (by exact ed rfl) ?_;(repeat first | (with_reducible apply ll (id := 1) [0,1,2,3,4,5,6,7,8,9,10] [13]); kernel_rfl; kernel_rfl; rfl | refine cF ?_);refine yS 0 rfl rfl rfl rfl aU rfl rfl rfl (fun v c7 h => ?_);obtain ⟨rfl, fA⟩ := h;rw [H8];(refine aZ ?_)
   ((refine eH rfl (a6 rfl aK) rfl (bt.refl _) (dn _) rfl eX ?_))
   exact ⟨_, rfl, rfl, hv, fv, cv, b, c7, lk, fA, cK, fI, rfl, rfl⟩
 ·rw [aE, cZ] at aU;rw [ff] at aU ⊢;simp only [e7] at aU ⊢;rw [show (!Nat.beq 5 5) = false from rfl];refine de (f := 90) Tryz.func90 rfl (db rfl) (by exact ed rfl) ?_;(repeat first | (with_reducible apply ll (id := 1) [0,1,2,3,4,5,6,7,8,9,10] [13]); kernel_rfl; kernel_rfl; rfl | refine cF ?_);refine yS 0 rfl rfl rfl rfl aU rfl rfl rfl (fun v c7 h => ?_);obtain ⟨rfl, fA⟩ := h;rw [H8];(refine aZ ?_);refine jV 1000 rfl rfl rfl rfl bD rfl rfl (dn _) rfl rfl ?_;(refine aZ ?_)
  ((refine eH rfl (a6 rfl aK) rfl (bt.refl _) rfl rfl eX ?_))
  exact ⟨_, rfl, rfl, hv, fv, cv, b, c7, .c (.slice none 0 0), fA, rfl, fun h => (by cases h), rfl, rfl⟩
section
variable {P : Program} {R : aG} {s : az} {ops : Array Oper} {dr : Option (List Nat)} {ty : Nat} {pos : String} {after : Array Edge} {guard : Option (Nat × Bool)} {K : aG → az → Prop} {rest : List Oper}
theorem dm.closed {E : List (Int × bU)} {r rm : Nat} {s : bp.aS an} {cs : List AC} {R : aG} (h : dm E r rm s cs R) : cs.all AC.aV = true := by
 obtain ⟨hv, fv, cv, b, S, lk, _, cK, _, rfl, _⟩ := h;simp only [jI, mr, cK]; rfl
theorem dm.bJ {E : List (Int × bU)} {r rm : Nat} {s s' : bp.aS an} {cs aq : List AC} {R aw : aG} (h : dm E r rm s cs R) (aJ : dm E r rm s' aq aw) : Go.Proofs.YtbcecodakfejaaaGreat.bJ aw R = aw := by
 obtain ⟨_, _, _, _, _, _, _, _, _, _, rfl⟩ := h;obtain ⟨_, _, _, _, _, _, _, _, _, _, rfl⟩ := aJ;exact QA
theorem hY {E : List (Int × bU)} {r rm : Nat} {dB s1 : bp.aS an} {v : ah} {dst : Option Nat} {f : FuncId} {g : Operand} {aL : Array TypeId} {l : List Operand} {args : List ah} {cs : List AC} [D0 : Enters ag f] (hw : want ops ⟨dst, .call ⟨.value g, l.toArray, aL⟩, ty, pos, after, guard⟩ s = some true) (hm : dL dr ⟨dst, .call ⟨.value g, l.toArray, aL⟩, ty, pos, after, guard⟩ = true)
  (ao : s.look g = some (aM (.func (.func f) #[] #[]))) (aH : l.map s.look = (qU :: args).map some) (af : s.mem 1000 = some cs) (hg : oN dr 1000 = true) (dW : args.all ah.aV = true) (hd : kC dst s.n = true) (hp : fM E r rm f args dB v s1) (bh : dm E r rm dB cs R)
  (h : ∀ aq aw, dm E r rm s1 aq aw → ct ag ops dr K rest aw ((s.dT 1000 aq).put dst v)) : ct ag ops dr K (⟨dst, .call ⟨.value g, l.toArray, aL⟩, ty, pos, after, guard⟩ :: rest) R s := by
 refine B6 1000 hw hm ao aH (hp cs R bh) af hg (bt.refl _) bh.closed dW hd ?_;rintro _ aq aw ⟨rfl, aJ⟩;rw [bh.bJ aJ];exact h aq aw aJ
end
theorem Rb (n d : Int) (r : Nat) (hd : 0 < d) : lm n d r = fP (2 ^ r) n d := by
 rw [← afj r hd];unfold fP;congr 1
 ·rw [gR d]; omega
 ·rw [nb, gR d];rw [jl, gR 2 d, ← jl, gR (2 ^ r * d) 2]
def lL (r : Nat) (M : fm) : Option an := if M.k = 1 then some (iv r M) else none
theorem Fh {n : Int} (h : -19342813113834066795298816 ≤ n ∧ n ≤ 19342813113834066795298816) : fits n = true := by
 unfold fits; rw [ca]; omega
theorem Nx {E : List (Int × bU)} {r rm : Nat} {s : bp.aS an} {M : fm} (al : r ≤ 28) (fV : At M) (il : M.k = 1 → er r (iv r M).1 (iv r M).2 = true) (hl : s.hot.length ≤ 1100) (ap : s.fnd = []) (gL : s.ph ≠ 5) : fM E r rm 92 [nW M] s (bf (!Nat.beq (kk (bu E r rm) s (lL r M)).ph 5)) (kk (bu E r rm) s (lL r M)) := by
 intro cs R bh
 have Yg : Nat.beq s.ph 5 = false := by
  cases h : Nat.beq s.ph 5 with
  | false => rfl
  | true => exact absurd (gl h) gL
 have aj := bh.closed
 by_cases h1 : M.k = 1
 ·rcases fV with rfl | ⟨x, y, d, rfl, hd, wh, aa, ai⟩ | ⟨f1, f2, g1, g2, rfl⟩
  ·simp [hI] at h1
  ·have il := il rfl;have ar : fS (r : Int) r := ⟨al, .inr (.inr rfl)⟩;have fd := Fh (n := d) (by omega);have ex := Rb x d r hd;have kg := Rb y d r hd
   have aU := abL (n := x) (d := d) (n' := y) (d' := d) ar (Fh aa) fd (Fh ai) fd (b := true) (by
    unfold sc;rw [ck hd, ex, kg];unfold er iv iT at il;simp only at il;rw [mq, mq]; exact il)
   simp only [if_true, ex, kg] at aU;have bD := G4 (E := E) (r := r) (rm := rm) (s := s) (x := fP (2 ^ r) x d) (y := fP (2 ^ r) y d) hl ap gL;rw [show lL r (iT x d y d) = some (fP (2 ^ r) x d, fP (2 ^ r) y d) from rfl];show cY _ _ _ _ _ (nY 1000 fun bR aq aw => bR = bf (!Nat.beq (dE (bu E r rm) s (fP (2 ^ r) x d, fP (2 ^ r) y d)).ph 5) ∧ dm E r rm (dE (bu E r rm) s (fP (2 ^ r) x d, fP (2 ^ r) y d)) aq aw);generalize dE (bu E r rm) s (fP (2 ^ r) x d, fP (2 ^ r) y d) = s1 at *;generalize fP (2 ^ r) x d = X at *;generalize fP (2 ^ r) y d = Y at *;generalize (!Nat.beq s1.ph 5) = bR at *;obtain ⟨hv, fv, cv, b, S, lk, hS, cK, fI, rfl, rfl⟩ := id bh;unfold iT;refine de (f := 92) Tryz.func92 rfl (db rfl) (by exact ed rfl) ?_;(repeat first | (with_reducible apply dj (id := 3) [13,0,1,2,3,4,5,6,7,8,9,10,11,12,14,15]); kernel_rfl; kernel_rfl; rfl | refine cF ?_ | refine ia ?_);refine hY rfl rfl rfl rfl rfl rfl rfl rfl bD bh (fun aq aw b0 => ?_);(refine aZ ?_);obtain ⟨bP, cX, cS, bK, c7, gA, fA, gI, im, rfl, rfl⟩ := id b0
   ((refine eH rfl (a6 rfl aK) rfl (bt.refl _) b0.closed rfl eX ?_))
   exact ⟨_, rfl, rfl, b0⟩
  ·simp [sw] at h1
 ·rw [show lL r M = none from if_neg h1];show cY _ _ _ _ _ (nY 1000 fun bR aq aw => bR = bf (!Nat.beq s.ph 5) ∧ dm E r rm s aq aw);rw [Yg, Bool.not_false];obtain ⟨mk, Hj, md, dt, Hc, Hk, Hl, Hm, Hn⟩ := M;have h1 : ¬ mk = 1 := h1;obtain ⟨hv, fv, cv, b, S, lk, hS, cK, fI, rfl, rfl⟩ := id bh;refine de (f := 92) Tryz.func92 rfl (db rfl) (by exact ed rfl) ?_;(refine aZ ?_)
  ((refine eH rfl (a6 rfl aK) rfl (bt.refl _) aj rfl eX ?_))
  exact ⟨_, rfl, rfl, bh⟩
end Go.Proofs.YtbcecodakfejaaaGreat
