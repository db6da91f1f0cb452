/-
  My own texts, without what this claim does not need. My own text.
-/
import Derived.Shelf.Spec.SlicesInsert
import Derived.Lib.AppendZerosOnto
import Derived.Test.YtpochbhajmbfdaaGreatSLastK10
set_option maxRecDepth 100000
set_option maxHeartbeats 64000000
set_option linter.unusedVariables false
set_option linter.unusedSimpArgs false
set_option linter.unusedSectionVars false
open Go.Proofs.Tryz renaming prog → aj
namespace Go.Proofs.YtpochbhajmbfdaaGreat
open Go.RowKit Go.Lib
section
variable {P : Program}
theorem Ea (w : World) (s7 Am ty elem : TypeId) (g o qg yn z : Nat) (a : Addr) (qV Al : Nat) (cur : Array Value) (t : TypeId) (cs : List Value)
  (hu : P.underlying s7 = some (.slice elem)) (hs : (P.info? elem).map (·.size) = some z)
  (aw : w.heap[g]? = some (.cells cur t (0, 0))) (aF : cs.length = Nat.min qV qg * z)
  (Hf : ∀ j v, cs[j]? = some v → w.cell? (a.add j) = some v) (wO : o + cs.length ≤ cur.size) (h1 : ∀ v ∈ cs, v.oneCell' = true) :
  (Builtin.copy_ #[s7, Am] ty #[.slice (some ⟨g, o, none⟩) qg yn, .slice (some a) qV Al]).run P w =
   .ok (goInt (Nat.min qV qg)) (w.setRow g (cur.toList.take o ++ cs ++ cur.toList.drop (o + cs.length)).toArray) := by
 have an := run_loadCells_list (P := P) w a cs Hf;have jx := run_storeCells_at P g o t cs 0 cur w aw (by simpa using wO) h1;cases al : P.info? elem with
 | none => simp [al] at hs
 | some i =>
  have hi : i.size = z := by simpa [al] using hs
  simp [Builtin.copy_, run_underlying hu, Builtin.lenOf, Builtin.firstCells, sizeOf, typeInfo, al, hi, ← aF, an, jx]
end
theorem KE {w : World} {a : Addr} {v : Value} (h : w.cell? a = some v) : ∃ t k, w.shape? a.block = some (t, k) ∧ k ≠ 0 := by
 unfold World.cell? at h;unfold World.shape?;cases ab : w.heap[a.block]? with
 | none => rw [ab] at h; cases h
 | some o =>
  rw [ab] at h;cases o with
  | cells c t agM =>
   refine ⟨t, c.size, rfl, fun e => ?_⟩;simp only at h
   split at h
   ·cases h
   ·have := (ku.1 h).1; omega
  | _ => cases h
theorem ad7 {P : Program} (w : World) (As QE e : TypeId) (aE : P.underlying As = some (.slice e)) (size : Nat) (a6 : ∀ w, (Go.sizeOf e).run P w = .ok size w)
  (a b : Addr) (dK jn HI KC : Nat) (cn : a.block ≠ b.block) (v : Value) (aK : w.cell? a = some v) (cur : Array Value) (QD : TypeId) (ab : w.heap[b.block]? = some (.cells cur QD (0, 0))) (ak : cur.size ≠ 0) :
  (Extern.SlicesOverlaps.overlaps #[As, As] #[QE] #[.slice (some a) dK jn, .slice (some b) HI KC]).run P w = .ok (.bool false) w := by
 obtain ⟨aiF, C3, Yq, ahb⟩ := KE aK;have Yr : w.shape? b.block = some (QD, cur.size) := by unfold World.shape?; rw [ab]
 have Mi : ∀ x : Addr, x.block = b.block → w.frozen? x = false := fun x aa => by unfold World.frozen?; rw [aa, ab]; simp
 have XZ : (a.block != b.block) = true := by simpa using cn
 have X0 : (a.block == b.block) = false := by simpa using cn
 have f1 := Mi b rfl;have f2 := Mi { block := b.block, off := cur.size } rfl
 have key : ∀ (m : Sem Value), m = Extern.SlicesOverlaps.overlaps #[As, As] #[QE] #[.slice (some a) dK jn, .slice (some b) HI KC] → m.run P w = .ok (.bool false) w := by
  intro m hm
  conv at hm => rhs; whnf
  subst hm;have lF : ∀ {α β : Type} (x : Sem α) (f : α → Sem β), x.bind f = x >>= f := fun _ _ => rfl;have rJ : ∀ {α : Type} (x : α), Sem.pure x = (pure x : Sem α) := fun _ => rfl;have VA : ∀ {α : Type} (f : Program → Sem α), (Sem.program f).run P w = (f P).run P w := fun _ => rfl;rw [VA];simp only [lF, rJ, Sem.run_bind, Sem.run_pure, Result.andThen_ok, List.getElem_toArray, List.getElem_cons_zero, aE]
  by_cases aG : dK = 0 ∨ HI = 0 ∨ size = 0
  ·simp [a6, aG]
  ·obtain ⟨C3, rfl⟩ : ∃ k, C3 = k + 1 := ⟨C3 - 1, by omega⟩;generalize cur.size = Hy at *;obtain ⟨Hy, rfl⟩ : ∃ k, Hy = k + 1 := ⟨Hy - 1, by omega⟩
   cases XB : w.frozen? a <;> cases XC : w.frozen? { block := a.block, off := C3 + 1 } <;>
    simp [a6, aG, XZ, X0, frozen, noView, viewAt, mayBeOne, stringish, shape, Sem.run, Yq, Yr, f1, f2, XB, XC]
 exact key _ rfl
theorem Y4 (cur news : List Value) {i n cap : Nat} (hi : i < n) (lK : n + 1 ≤ cap) (ak : cur.length = cap * 3) (gA : news.length = 3) :
  let c1 := cur.take ((i + 1) * 3) ++ (cur.drop (i * 3)).take ((n - i) * 3) ++ cur.drop ((i + 1) * 3 + ((cur.drop (i * 3)).take ((n - i) * 3)).length)
  let c2 := c1.take (i * 3) ++ news ++ c1.drop (i * 3 + news.length)
  c1.length = cap * 3 ∧ c2.length = cap * 3 ∧ c2.take ((n + 1) * 3) = (cur.take (n * 3)).take (i * 3) ++ news ++ (cur.take (n * 3)).drop (i * 3) := by
 have dp : ((cur.drop (i * 3)).take ((n - i) * 3)).length = (n - i) * 3 := by rw [eg, hT]; omega
 intro c1 c2;have aI : c1.length = cap * 3 := by simp only [c1, cR, eg, hT, dp]; omega
 have aN : c2.length = cap * 3 := by simp only [c2, cR, eg, hT, aI, gA]; omega
 have g1 : ∀ j, c1[j]? = if j < (i + 1) * 3 then cur[j]? else if j < (n + 1) * 3 then cur[j - 3]? else cur[j]? := fun j => by
  simp only [c1];have t1 : (cur.take ((i + 1) * 3)).length = (i + 1) * 3 := by rw [eg]; omega
  by_cases q1 : j < (i + 1) * 3
  ·rw [if_pos q1, ig, fV (by omega), fK q1]
  ·rw [if_neg q1]
   by_cases q2 : j < (n + 1) * 3
   ·rw [if_pos q2, fV (by rw [cR]; omega), gr (by omega), fK (by omega), gj, t1];congr 1; omega
   ·rw [if_neg q2, gr (by rw [cR]; omega), gj, cR, t1, dp];congr 1; omega
 refine ⟨aI, aN, ?_⟩;have t2 : (c1.take (i * 3)).length = i * 3 := by rw [eg]; omega
 have t3 : ((cur.take (n * 3)).take (i * 3)).length = i * 3 := by rw [eg, eg]; omega
 apply List.ext_getElem?;intro j
 by_cases cY : j < (n + 1) * 3
 ·rw [fK cY];simp only [c2]
  by_cases q1 : j < i * 3
  ·rw [ig, fV (by omega), fK q1, g1, if_pos (by omega), ig, fV (by omega), fK q1, fK (by omega)]
  ·by_cases q2 : j < (i + 1) * 3
   ·rw [ig, gr (by omega), fV (by omega), ig, gr (by omega), fV (by omega), t2, t3]
   ·rw [gr (by rw [cR]; omega), gj, g1, gr (by rw [cR]; omega), gj, cR, cR, t2, t3, gA, if_neg (by omega), if_pos (by omega), fK (by omega)];congr 1; omega
 ·rw [qL (by rw [eg]; omega), qL];simp only [cR, t3, gA, hT, eg];omega
section
variable (W : World) (g n cap i : Nat) (cur : Array Value) (news : List Value) (fl : Addr) (pV : Nat)
theorem Y6 (aw : W.heap[g]? = some (.cells cur 261 (0, 0))) (hi : i < n) (lK : n + 1 ≤ cap) (Xi : cap ≤ 9223372036854775807) (et : cur.size = cap * 3) (mb : ∀ v ∈ cur.toList.take (n * 3), v.oneCell' = true)
  (gA : news.length = 3) (kO : ∀ j v, news[j]? = some v → W.cell? (fl.add j) = some v) (h1 : ∀ v ∈ news, v.oneCell' = true) (cn : fl.block ≠ g) :
  Calls aj 231 #[.slice (some ⟨g, 0, none⟩) n cap, .int .i64 i, .slice (some fl) 1 pV] W fun e W' =>
   e = .returned (.slice (some ⟨g, 0, none⟩) (n + 1) cap) ∧ ∃ nc : Array Value, W' = W.drew.setRow g nc ∧ nc.size = cap * 3 ∧ nc.toList.take ((n + 1) * 3) = (cur.toList.take (n * 3)).take (i * 3) ++ news ++ (cur.toList.take (n * 3)).drop (i * 3) := by
 obtain ⟨ez, z, hu, e1, ha, gY, kL, om, bQ⟩ := qU (P := aj) (tt := 137) (e := 261) (sz := 3) (bytes := 24) (by kernel_rfl);have y8 : (aj.info? 261).map (·.size) = some 3 := by rw [e1]; simp [gY]
 have tG : ¬ ((i : Int) = (n : Int)) := by omega
 have Hk : IntKind.i64.wrap ((i : Int) + 1) = (i : Int) + 1 := by rw [IntKind.wrap_i64]; omega
 have Hl : IntKind.i64.wrap ((n : Int) + 1) = (n : Int) + 1 := by rw [IntKind.wrap_i64]; omega
 have bC : (0 : Int) ≤ (i : Int) + 1 := by omega
 have lf : i ≤ n := by omega
 have bW : ¬ (cap = i + 1) := by omega
 have cV : (i : Int) ≤ (n : Int) + 1 := by omega
 have eU : ¬ (cap = i) := by omega
 have Yb : (callFunc 262 #[.slice (some fl) 1 pV, .slice (some ⟨g, (i + 1) * 3, none⟩) (n - i) (cap - (i + 1))]).run aj W = .ok (.value (.bool false)) W := by
  rw [run_callFunc_extern Tryz.func262 (by kernel_rfl) (by kernel_rfl) (by kernel_rfl) (e := Extern.SlicesOverlaps.overlaps #[137, 137] #[4]) (by kernel_rfl),
   ad7 W _ _ 261 hu 3 (fun w => by rw [hj e1, gY]) fl ⟨g, (i + 1) * 3, none⟩ 1 pV _ _ cn news[0] (by have := kO 0 news[0] (cm (by omega)); rwa [show fl.add 0 = fl from by unfold Addr.add; split <;> simp_all] at this) cur _ aw (by omega)]
  rfl
 obtain ⟨bA, b9, hr⟩ := Y4 cur.toList news hi lK (by simpa using et) gA;generalize ni : (cur.toList.drop (i * 3)).take ((n - i) * 3) = o8 at *;have cO : o8.length = (n - i) * 3 := by rw [← ni, eg, hT, Array.length_toList]; omega
 have Xl : ∀ ty iT vA, (Builtin.copy_ #[137, 137] ty #[.slice (some ⟨g, (i + 1) * 3, none⟩) (n - i) iT, .slice (some ⟨g, i * 3, none⟩) (n + 1 - i) vA]).run aj W.drew = .ok (goInt ((n - i : Nat) : Int)) (W.drew.setRow g (cur.toList.take ((i + 1) * 3) ++ o8 ++ cur.toList.drop ((i + 1) * 3 + o8.length)).toArray) := fun ty iT vA => by
  have hm : Nat.min (n + 1 - i) (n - i) = n - i := Nat.min_eq_right (by omega);have := Ea (P := aj) W.drew 137 137 ty 261 g ((i + 1) * 3) (n - i) iT 3 ⟨g, i * 3, none⟩ (n + 1 - i) vA cur 261 o8 hu y8 aw (by rw [hm, cO]) (fun j v ae => ?_) (by rw [cO]; omega) (fun v hv => ?_)
  ·rw [hm] at this; exact this
  ·rw [Addr.add_lit];have an : j < (n - i) * 3 := by rw [← cO]; exact (bS.1 ae).1
   rw [← ni, fK an, gj] at ae;show (W.drew.cell? _) = _;unfold World.cell?;rw [show W.drew.heap[(⟨g, i * 3 + j, none⟩ : Addr).block]? = some (.cells cur 261 (0, 0)) from aw];simpa using ae
  ·refine mb v ?_;obtain ⟨j, ae⟩ := jX hv;have an : j < (n - i) * 3 := by rw [← cO]; exact (bS.1 ae).1
   rw [← ni, fK an, gj] at ae;exact dF (i := i * 3 + j) (by rw [fK (by omega)]; exact ae)
 generalize jR : cur.toList.take ((i + 1) * 3) ++ o8 ++ cur.toList.drop ((i + 1) * 3 + o8.length) = c1 at *;have ko := setRow_heap W.drew g cur c1.toArray _ (0, 0) aw
 have Xm : ∀ ty iT, (Builtin.copy_ #[137, 137] ty #[.slice (some ⟨g, i * 3, none⟩) (n + 1 - i) iT, .slice (some fl) 1 pV]).run aj (W.drew.setRow g c1.toArray) = .ok (goInt ((1 : Nat) : Int)) ((W.drew.setRow g c1.toArray).setRow g (c1.take (i * 3) ++ news ++ c1.drop (i * 3 + news.length)).toArray) := fun ty iT => by
  have hm : Nat.min 1 (n + 1 - i) = 1 := pJ (by omega);have := Ea (P := aj) (W.drew.setRow g c1.toArray) 137 137 ty 261 g (i * 3) (n + 1 - i) iT 3 fl 1 pV c1.toArray 261 news hu y8 ko (by rw [hm, gA]) (fun j v ae => ?_) (by rw [gA]; simp [bA]; omega) h1
  ·rw [hm] at this; simpa using this
  rw [← kO j v ae];refine World.cell?_of_block (w := W) ?_;show (World.setRow _ _ _).heap[(fl.add j).block]? = _;rw [block_add];simp only [World.setRow, tW];rw [if_neg (fun e => cn e.symm)];rfl
 generalize h6 : c1.take (i * 3) ++ news ++ c1.drop (i * 3 + news.length) = c2 at *;clear aw ni jR h6 mb kO h1 ko e1 ha
 go_enter Tryz.func231, Tryz.ntmps231
 go_wp2_with (simp only [Yb])
 have mixed : aj.follows .mixedOrders = true := by kernel_rfl
 go_region_law_o (refine step_copy_runI rfl _ _ 137 137 rfl _ _ (by simp [Act.eval, Act.put]) (by simp [Act.eval, Act.put]) (Xl _ _ _) ?_)
 go_wp2_with (at_builtin; refine wpList_copy_runI _ rfl _ _ 137 137 rfl _ _ rfl rfl (Xm _ _) ?_)
 go_ret
 exact ⟨rfl, c2.toArray, setRow_setRow _ _ _ _, by simpa using b9, by simpa using hr⟩
theorem Y5 (R xs news : List Value) {i n G : Nat} (hi : i < n) (qo : n + 1 ≤ G) (ay : R.length = G * 3) (aa : xs.length = n * 3) (yJ : R.take (i * 3) = xs.take (i * 3)) (gA : news.length = 3) :
  let c1 := R.take (i * 3) ++ news ++ R.drop (i * 3 + news.length)
  let c2 := c1.take ((i + 1) * 3) ++ xs.drop (i * 3) ++ c1.drop ((i + 1) * 3 + (xs.drop (i * 3)).length)
  c1.length = G * 3 ∧ c2.length = G * 3 ∧ c2.take ((n + 1) * 3) = xs.take (i * 3) ++ news ++ xs.drop (i * 3) := by
 have t1 : (xs.take (i * 3)).length = i * 3 := by rw [eg]; omega
 have t2 : (xs.drop (i * 3)).length = (n - i) * 3 := by rw [hT]; omega
 intro c1 c2;have aI : c1.length = G * 3 := by simp only [c1, yJ, cR, t1, hT, ay, gA]; omega
 have cC : c1.take ((i + 1) * 3) = xs.take (i * 3) ++ news := by
  simp only [c1, yJ];rw [z7 (by rw [cR, t1, gA]; omega), hA (by rw [cR, t1, gA]; omega)]
 have aN : c2.length = G * 3 := by simp only [c2, cC, cR, t1, t2, hT, aI, gA]; omega
 refine ⟨aI, aN, ?_⟩;simp only [c2, cC];rw [z7 (by simp only [cR, t1, t2, gA]; omega), hA (by simp only [cR, t1, t2, gA]; omega)]
theorem Y3 (xs : List Value) (aw : W.heap[g]? = some (.cells cur 261 (0, 0))) (CU : cur.toList.take (n * 3) = xs) (oj : xs.length = n * 3) (hi : i < n) (eK : n ≤ cap) (lK : cap < n + 1) (wL : (n + 1) * 24 ≤ 140737488355328) (mb : ∀ v ∈ xs, v.oneCell' = true)
  (gA : news.length = 3) (kO : ∀ j v, news[j]? = some v → W.cell? (fl.add j) = some v) (h1 : ∀ v ∈ news, v.oneCell' = true) :
  Calls aj 231 #[.slice (some ⟨g, 0, none⟩) n cap, .int .i64 i, .slice (some fl) 1 pV] W fun e W' =>
   ∃ G nc o, e = .returned (.slice (some ⟨W.heap.size, 0, none⟩) (n + 1) G) ∧ W'.heap = ((W.alloc o).setRow W.heap.size nc).heap ∧ W'.os = W.os ∧ W'.tape = W.tape ∧ W'.output = W.output ∧ (∃ k4, o = .cells k4 261 (0, 0)) ∧ n + 1 ≤ G ∧ G ≤ maxLen ∧ nc.size = G * 3 ∧ nc.toList.take ((n + 1) * 3) = xs.take (i * 3) ++ news ++ xs.drop (i * 3) := by
 obtain ⟨ez, z, hu, e1, ha, gY, kL, om, bQ⟩ := qU (P := aj) (tt := 137) (e := 261) (sz := 3) (bytes := 24) (by kernel_rfl);have y8 : (aj.info? 261).map (·.size) = some 3 := by rw [e1]; simp [gY]
 have nj : ∀ j v, xs[j]? = some v → W.cell? ⟨g, j, none⟩ = some v := fun j v ae => by
  have an : j < n * 3 := by rw [← oj]; exact (bS.1 ae).1
  rw [← CU, fK an] at ae;unfold World.cell?;rw [show W.heap[(⟨g, j, none⟩ : Addr).block]? = some (.cells cur 261 (0, 0)) from aw];simpa using ae
 have Mm : g < W.heap.size := (ku.1 aw).1
 have me : fl.block < W.heap.size := by
  have := kO 0 news[0] (cm (by omega));obtain ⟨t, k, h, _⟩ := KE this;rw [block_add] at h;unfold World.shape? at h;cases al : W.heap[fl.block]? with
  | none => rw [al] at h; cases h
  | some o => exact (ku.1 al).1
 have tG : ¬ ((i : Int) = (n : Int)) := by omega
 have ahq : (cap : Int) < (n : Int) + 1 := by omega
 have Hk : IntKind.i64.wrap ((i : Int) + 1) = (i : Int) + 1 := by rw [IntKind.wrap_i64]; omega
 have Hl : IntKind.i64.wrap ((n : Int) + 1) = (n : Int) + 1 := by rw [IntKind.wrap_i64]; omega
 have oc : (n : Int) + 1 - (i : Int) = ((n + 1 - i : Nat) : Int) := by omega
 have MY : IntKind.i64.wrap ((n : Int) + 1 - (i : Int)) = (n : Int) + 1 - (i : Int) := by rw [IntKind.wrap_i64]; omega
 have GN : i + (n + 1 - i) = n + 1 := by omega
 have hold : (Builtin.firstCells ez.size i (.slice (some ⟨g, 0, none⟩) i cap)).run aj W.drew = .ok (xs.take (i * 3)).toArray W.drew := by
  rw [gY]
  exact run_firstCells_some W.drew 3 i ⟨g, 0, none⟩ i cap (xs.take (i * 3)) (by rw [eg]; omega) (fun j v ae => by
   rw [Addr.add_lit, jF];rw [List.getElem?_take] at ae
   split at ae
   ·exact nj j v ae
   ·cases ae)
 obtain ⟨G, qo⟩ : ∃ G, G = grownCap W (n + 1) cap 261 := ⟨_, rfl⟩;have LW : n + 1 ≤ G := by rw [qo]; exact grownCap_ge W _ _ _
 have LV : G ≤ maxLen := by rw [qo]; exact grownCap_le_maxLen W (n + 1) cap _ (by unfold maxLen; omega)
 have ag0 : G ≤ 9223372036854775807 := by unfold maxLen at LV; omega
 obtain ⟨lY, Cp⟩ : ∃ lY : Array Value, lY = (xs.take (i * 3)).toArray ++ Builtin.zeroCells z.cells (n + 1 - i) ++ Builtin.zeroCells z.cells (G - (n + 1)) := ⟨_, rfl⟩
 have Ha : ∀ ty, (Builtin.append_ #[137, 3] ty #[.slice (some ⟨g, 0, none⟩) i cap, .int .i64 ((n : Int) + 1 - (i : Int))]).run aj W =
   .ok (.slice (some ⟨W.heap.size, 0, none⟩) (n + 1) G) (W.drew.alloc (.cells lY 261)) := fun ty => by
  have h := Lib.run_append_grow_zeros W 137 3 ty 261 ez z .i64 .i64 hu Tryz.underlying3 e1 ha (some ⟨g, 0, none⟩) i cap _ hold (n + 1 - i) (by omega) (by omega) (by omega) (by omega) (by rw [kL]; omega) (by rw [kL, GN]; exact growslice_fits lK wL);rw [GN, ← qo, ← Cp] at h;rw [oc];exact h
 have L2 : lY.size = G * 3 := by
  rw [Cp];simp [Builtin.zeroCells, om, eg];omega
 have yJ : lY.toList.take (i * 3) = xs.take (i * 3) := by
  rw [Cp, Array.toList_append, Array.toList_append, ig, z7 (by simp [eg]; omega), hA (by simp [eg]; omega)]
 obtain ⟨bA, b9, hr⟩ := Y5 lY.toList xs news hi LW (by simpa using L2) oj yJ gA;generalize Cy : xs.drop (i * 3) = BU at *;have Cw : BU.length = (n - i) * 3 := by rw [← Cy, hT]; omega
 obtain ⟨N, kj⟩ : ∃ N, N = W.heap.size := ⟨_, rfl⟩;obtain ⟨ho, rQ⟩ : ∃ ho, ho = W.drew.alloc (.cells lY 261) := ⟨_, rfl⟩;have Gn : ho.heap[N]? = some (.cells lY 261 (0, 0)) := by rw [rQ, kj]; show (W.heap.push _)[W.heap.size]? = _; simp
 have Gp : ∀ b, b < W.heap.size → ho.heap[b]? = W.heap[b]? := fun b ab => by rw [rQ]; show (W.heap.push _)[b]? = _; rw [Array.getElem?_push_lt ab, Array.getElem?_eq_getElem ab]
 generalize jR : lY.toList.take (i * 3) ++ news ++ lY.toList.drop (i * 3 + news.length) = c1 at *
 have Xn : ∀ l4 : World, l4.heap = ho.heap → ∀ ty iT, (Builtin.copy_ #[137, 137] ty #[.slice (some ⟨N, i * 3, none⟩) (n + 1 - i) iT, .slice (some fl) 1 pV]).run aj l4 = .ok (goInt ((1 : Nat) : Int)) (l4.setRow N c1.toArray) := fun l4 eT ty iT => by
  have hm : Nat.min 1 (n + 1 - i) = 1 := pJ (by omega);have := Ea (P := aj) l4 137 137 ty 261 N (i * 3) (n + 1 - i) iT 3 fl 1 pV lY 261 news hu y8 (by rw [eT]; exact Gn) (by rw [hm, gA]) (fun j v ae => ?_) (by rw [gA, L2]; omega) h1
  ·rw [hm, jR] at this; exact this
  ·rw [← kO j v ae];refine World.cell?_of_block (w := W) ?_;rw [block_add, eT, Gp _ me]
 generalize h6 : c1.take ((i + 1) * 3) ++ BU ++ c1.drop ((i + 1) * 3 + BU.length) = c2 at *;have XL : g ≠ N := by omega
 have Xo : ∀ l4 : World, l4.heap = (ho.setRow N c1.toArray).heap → ∀ ty iT vA, (Builtin.copy_ #[137, 137] ty #[.slice (some ⟨N, (i + 1) * 3, none⟩) (n - i) iT, .slice (some ⟨g, i * 3, none⟩) (n - i) vA]).run aj l4 = .ok (goInt ((n - i : Nat) : Int)) (l4.setRow N c2.toArray) := fun l4 eT ty iT vA => by
  have hm : Nat.min (n - i) (n - i) = n - i := Nat.min_self _;have := Ea (P := aj) l4 137 137 ty 261 N ((i + 1) * 3) (n - i) iT 3 ⟨g, i * 3, none⟩ (n - i) vA c1.toArray 261 BU hu y8 (by rw [eT]; exact setRow_heap ho N lY _ _ (0, 0) Gn) (by rw [hm, Cw]) (fun j v ae => ?_) (by rw [Cw]; simp [bA]; omega) (fun v hv => mb v (by rw [← Cy] at hv; exact mO hv))
  ·rw [hm] at this; simpa [h6] using this
  ·rw [Addr.add_lit];rw [← Cy, gj] at ae;rw [← nj _ v ae];refine World.cell?_of_block (w := W) ?_;rw [eT];simp only [World.setRow, tW];rw [if_neg (fun e => XL e.symm), Gp _ Mm]
 rw [← rQ] at Ha;rw [← kj] at Ha ⊢;have fin : ∀ l4 : World, l4.heap = ho.heap → l4.heap = (W.alloc (.cells lY 261)).heap := fun l4 h => by rw [h, rQ]; rfl
 have bC : (0 : Int) ≤ (i : Int) + 1 := by omega
 have lf : i ≤ n := by omega
 have ag3 : ¬ (G = i) := by omega
 have ag2 : ¬ (G = i + 1) := by omega
 have cV : (i : Int) ≤ (n : Int) + 1 := by omega
 have eU : ¬ (cap = i) := by omega
 have X7 : ho.os = W.os := by rw [rQ]; rfl
 have Yw : ho.tape = W.tape := by rw [rQ]; rfl
 have Ya : ho.output = W.output := by rw [rQ]; rfl
 have XN : ho.heap = (W.alloc (.cells lY 261)).heap := by rw [rQ]; rfl
 have mixed : aj.follows .mixedOrders = true := by kernel_rfl
 clear aw CU oj kO h1 mb e1 ha hold qo Cp yJ Cy rQ Gn Gp jR h6 nj oc GN fin kj Mm me
 go_enter Tryz.func231, Tryz.ntmps231
 go_wp2_with (first
  | (at_builtin; refine Lib.wpList_append_run _ rfl _ _ _ _ rfl _ _ rfl rfl _ _ (Ha _) ?_)
  | (at_builtin; refine wpList_copy_runI _ rfl _ _ 137 137 rfl _ _ rfl rfl (Xn _ rfl _ _) ?_))
 go_region_law_o (refine step_copy_runI rfl _ _ 137 137 rfl (.slice (some ⟨N, (i + 1) * 3, none⟩) (n - i) (G - (i + 1))) (.slice (some ⟨g, i * 3, none⟩) (n - i) (cap - i)) (by simp [Act.eval, Act.put]) (by simp [Act.eval, Act.put]) (Xo (ho.setRow N c1.toArray).drew rfl 3 (G - (i + 1)) (cap - i)) ?_)
 go_wp2
 go_ret
 refine ⟨G, c2.toArray, .cells lY 261 (0, 0), rfl, ?_, X7, Yw, Ya, ⟨_, rfl⟩, LW, LV, by simpa using b9, by simpa using hr⟩;show ((ho.setRow N c1.toArray).setRow N c2.toArray).heap = _;rw [setRow_setRow];simp only [World.setRow, XN]
end
theorem Y2 (W : World) (v : Value) (n : Nat) (xs news : List Value) (fl : Addr) (pV : Nat) (ee : W.ownsRow 0 261 3 v n xs) (wL : (n + 1) * 24 ≤ 140737488355328)
  (gA : news.length = 3) (kO : ∀ j v, news[j]? = some v → W.cell? (fl.add j) = some v) (h1 : ∀ v ∈ news, v.oneCell' = true) :
  Calls aj 231 #[v, .int .i64 n, .slice (some fl) 1 pV] W fun e W' =>
   ∃ aZ, e = .returned aZ ∧ W'.ownsRow 0 261 3 aZ (n + 1) (xs ++ news) ∧ W.grownBy W' v.ownBlock ∧ (∀ g, aZ.ownBlock = some g → v.ownBlock = some g ∨ W.heap.size ≤ g) ∧ aZ.oneCell' = true := by
 obtain ⟨ez, z, hu, e1, ha, gY, kL, om, bQ⟩ := qU (P := aj) (tt := 137) (e := 261) (sz := 3) (bytes := 24) (by kernel_rfl);obtain ⟨aZ, w', aq, q⟩ := Qf (P := aj) W 0 137 137 261 ez z 3 24 hu e1 ha gY kL om bQ v n xs ee fl 1 pV news (by rw [gA]) kO h1 (by unfold maxLen; omega) wL (eC _) (by decide);rcases ee.2 with ⟨rfl, rfl⟩ | ⟨g, cap, cur, rfl, qp, aw, eK, jq, et, nt⟩
 ·clear e1 ha ee kO
  go_enter Tryz.func231, Tryz.ntmps231
  go_wp2_with (at_builtin; refine Lib.wpList_append_run _ rfl _ _ _ _ rfl _ _ rfl rfl _ _ aq ?_)
  go_ret
  exact ⟨aZ, rfl, q⟩
 ·have Xi : cap ≤ 9223372036854775807 := by unfold maxLen at jq; omega
  clear e1 ha ee kO aw et nt jq
  go_enter Tryz.func231, Tryz.ntmps231
  go_wp2_with (at_builtin; refine Lib.wpList_append_run _ rfl _ _ _ _ rfl _ _ rfl rfl _ _ aq ?_)
  all_goals go_ret
  all_goals exact ⟨aZ, rfl, q⟩
theorem Lf : ∀ (l : List di) (i : Nat), (dX l).take (i * 3) = dX (l.take i)
 | [], i => by simp [dX]
 | e :: l, 0 => by simp [dX]
 | e :: l, i + 1 => by
  rw [show (i + 1) * 3 = i * 3 + 1 + 1 + 1 by omega];simp only [dX, List.take_succ_cons, Lf l i]
theorem Ld : ∀ (l : List di) (i : Nat), (dX l).drop (i * 3) = dX (l.drop i)
 | [], i => by simp [dX]
 | e :: l, 0 => by simp
 | e :: l, i + 1 => by
  rw [show (i + 1) * 3 = i * 3 + 1 + 1 + 1 by omega];simp only [dX, List.drop_succ_cons, Ld l i]
theorem bP.take {U : Nat → Prop} {ad : Nat → Nat} {W : World} {xs : List AC} {vs : List Value} (h : bP U ad W xs vs) (k : Nat) : bP U ad W (xs.take k) (vs.take k) := by
 have := h.sub 0 k;simpa using this
theorem bP.drop {U : Nat → Prop} {ad : Nat → Nat} {W : World} {xs : List AC} {vs : List Value} (h : bP U ad W xs vs) (k : Nat) : bP U ad W (xs.drop k) (vs.drop k) := by
 refine ⟨by rw [hT, hT, h.1], fun i x v aa hv => ?_⟩;rw [gj] at aa hv;exact h.2 _ x v aa hv
theorem bP.zV {U : Nat → Prop} {ad : Nat → Nat} {W : World} {xs : List AC} {vs : List Value} (h : bP U ad W xs vs) : ∀ v ∈ vs, v.oneCell' = true := fun v hv => by
 obtain ⟨j, ae⟩ := jX hv;have bi : j < xs.length := by rw [h.1]; exact (bS.1 ae).1
 exact (h.2 j _ v (cm bi) ae).cell
theorem abN {W : World} {b e sz n : Nat} {v : Value} {xs : List Value} (h : W.ownsRow b e sz v n xs) : v.oneCell' = true := by
 rcases h.2 with ⟨rfl, _⟩ | ⟨g, cap, cur, rfl, _⟩ <;> rfl
abbrev r6 (l : List di) (i : Nat) (e : di) : List di := l.take i ++ e :: l.drop i
theorem Y0 {l : List di} {i : Nat} {e : di} (hi : i ≤ l.length) : (r6 l i e).length = l.length + 1 := by
 unfold r6; rw [cR, lm, eg, hT]; omega
theorem Y1 {U : Nat → Prop} {ad : Nat → Nat} {W : World} {l : List di} {xs news : List Value} {e : di} (i : Nat) (h : bP U ad W (dX l) xs) (aF : bP U ad W (dX [e]) news) : bP U ad W (dX (r6 l i e)) (xs.take (i * 3) ++ news ++ xs.drop (i * 3)) := by
 have : dX (r6 l i e) = (dX l).take (i * 3) ++ dX [e] ++ (dX l).drop (i * 3) := by
  rw [Lf, Ld, ← yr, ← yr, ig]; rfl
 rw [this];exact ((h.take _).append aF).append (h.drop _)
theorem Lb : ∀ (l : List di) (y : AC), y ∈ dX l → ∃ u, y = .c u
 | [], y, h => by cases h
 | e :: l, y, h => by
  simp only [dX, gI] at h;rcases h with h | h | h | h
  ·exact ⟨_, h⟩
  ·exact ⟨_, h⟩
  ·exact ⟨_, h⟩
  ·exact Lb l y h
theorem Vn {U cA : Nat → Prop} {ad bg : Nat → Nat} {W W' : World} {l : List di} {vs : List Value} (h : bP U ad W (dX l) vs) : bP cA bg W' (dX l) vs := by
 refine ⟨h.1, fun i x v aa hv => ?_⟩;have := h.2 i x v aa hv;obtain ⟨u, rfl⟩ := Lb l x (dF aa);exact this
theorem TS {l : List di} {v : Value} {i : Nat} {x y w : Int} (hi : i ≤ l.length) (an : l.length ≤ 1000000) :
  xV aj 231 [aQ v, aW i, cI 3 1 [.c (.int .i64 x), .c (.int .i64 y), .c (.int .i64 w)]] (gG v l) fun b7 a8 => ∃ aZ, aZ.oneCell' = true ∧ b7 = aQ aZ ∧ a8 = gG aZ (r6 l i (x, y, w)) := by
 refine adu rfl (jd _) (fun b7 a8 ⟨aZ, _, _, e⟩ => by rw [e]; exact jd _) ?_;intro U W vs xs ax jv cO uW dH;obtain ⟨hlen, hv⟩ := dH
 match vs, hlen with
 | [a, b, c], _ =>
  have dp : a = v := (hv 0 _ a rfl rfl).1;have aI : b = .int .i64 i := (hv 1 _ b rfl rfl).1;obtain ⟨⟨A, o8, aN, jR, h6, Xf⟩, XH⟩ := hv 2 _ c rfl rfl;obtain ⟨fl, news, rfl, gn⟩ := Xf (by decide);subst dp aI aN;have gA : news.length = 3 := gn.nJ.1.symm;have qv : bP U id W (dX [(x, y, w)]) news := Vn (U := fun _ => True) (ad := id) (W := W) gn.nJ;have pw := Y1 i jv qv;have nk : (r6 l i (x, y, w)).length = l.length + 1 := Y0 hi;have oj : xs.length = l.length * 3 := ax.1;have YB : U fl.block := XH _ ⟨o8, fl, rfl, by decide, .inl rfl⟩;have rR : ∀ q ∈ dX (r6 l i (x, y, w)), q.bc = true := fun q al => cu.1 (Lc _) q al
  have fin : ∀ (e : Ending) (W' : World) (aZ : Value), e = .returned aZ → W'.ownsRow 0 261 3 aZ (l.length + 1) (xs.take (i * 3) ++ news ++ xs.drop (i * 3)) → W.grownBy W' a.ownBlock → (∀ g, aZ.ownBlock = some g → a.ownBlock = some g ∨ W.heap.size ≤ g) →
    ∃ u b7 a8, e = .returned u ∧ (∃ aZ, aZ.oneCell' = true ∧ b7 = aQ aZ ∧ a8 = gG aZ (r6 l i (x, y, w))) ∧ JF W W' (gG a l) a8 U ∧ dc U id W b7 u ∧ b7.bc = true := by
   rintro e W' aZ rfl h1 h2 ap;have Gf := abN h1;refine ⟨aZ, _, _, rfl, ⟨aZ, Gf, rfl, rfl⟩, ⟨h2, ⟨_, ?_, pw⟩, rR, ap⟩, ⟨rfl, Gf⟩, rfl⟩;show W'.ownsRow 0 261 3 aZ (r6 l i (x, y, w)).length _;rw [nk]; exact h1
  by_cases rU : i = l.length
  ·subst rU;refine (Y2 W a l.length xs news fl o8 ax (by omega) gA gn.at_ qv.zV).mono ?_;rintro e W' ⟨aZ, rfl, h1, h2, ap, _⟩;refine fin _ _ aZ rfl ?_ h2 ap;rw [hA (by omega), vq (by omega), pF];exact h1
  ·have bi : i < l.length := by omega
   obtain ⟨g, cap, cur, rfl, qp, aw, eK, jq, et, nt⟩ : ∃ g cap cur, a = .slice (some ⟨g, 0, none⟩) l.length cap ∧ 0 ≤ g ∧ W.heap[g]? = some (.cells cur 261 (0, 0)) ∧ l.length ≤ cap ∧ cap ≤ maxLen ∧ cur.size = cap * 3 ∧ cur.toList.take (l.length * 3) = xs := by
    rcases ax.2 with ⟨_, aG⟩ | h
    ·have : l.length = 0 := aG;omega
    ·exact h
   have XM : fl.block ≠ g := fun e => uW g rfl (by rw [← e]; exact YB)
   by_cases lK : l.length + 1 ≤ cap
   ·refine (Y6 W g l.length cap i cur news fl o8 aw bi lK (by unfold maxLen at jq; omega) et (by rw [nt]; exact jv.zV) gA gn.at_ qv.zV XM).mono ?_;rintro e W' ⟨rfl, nc, rfl, bA, b9⟩;rw [nt] at b9;have aY := setRow_heap W.drew g cur nc _ (0, 0) aw;refine fin _ _ _ rfl ⟨?_, .inr ⟨g, cap, nc, rfl, eC _, aY, lK, jq, bA, b9⟩⟩ ⟨rfl, rfl, rfl, by (show W.heap.size ≤ (Array.modify W.heap g _).size; rw [Array.size_modify]; exact dL _), fun k _ af => ?_⟩ fun iU eu => .inl eu
    ·simp only [cR, eg, hT, gA]; omega
    ·show (Array.modify W.heap g _)[k]? = _;rw [tW];rw [if_neg (fun e => af (by rw [e]; rfl))]
   ·refine (Y3 W g l.length cap i cur news fl o8 xs aw nt oj bi eK (by omega) (by omega) jv.zV gA gn.at_ qv.zV).mono ?_;rintro e W' ⟨G, nc, o, rfl, q1, q2, b5, ew, ⟨k4, rfl⟩, bA, b9, hr, iZ⟩;have y0 : (W.alloc (.cells k4 261 (0, 0))).heap[W.heap.size]? = some (.cells k4 261 (0, 0)) := by show (W.heap.push _)[W.heap.size]? = _; simp
    have aY := setRow_heap _ W.heap.size k4 nc _ (0, 0) y0;rw [← q1] at aY;refine fin _ _ _ rfl ⟨?_, .inr ⟨W.heap.size, G, nc, rfl, eC _, aY, bA, b9, hr, iZ⟩⟩ ⟨q2, b5, ew, ?_, fun k af _ => ?_⟩ fun iU eu => .inr (by simp [Value.ownBlock] at eu; omega)
    ·simp only [cR, eg, hT, gA]; omega
    ·rw [q1];show W.heap.size ≤ (Array.modify (W.heap.push _) _ _).size;rw [Array.size_modify, Array.size_push]; omega
    ·rw [q1];simp only [World.setRow, tW];rw [if_neg (by omega)];show (W.heap.push _)[k]? = _;rw [Array.getElem?_push_lt af, Array.getElem?_eq_getElem af]
end Go.Proofs.YtpochbhajmbfdaaGreat
namespace Go.Proofs.YtpochbhajmbfdaaGreat
open Go.RowKit
theorem ac1 {x y a b : Int} : lR x y a b < 0 ↔ lQ x y a b = true := by
 rw [oE];unfold lR fJ
 split <;> split <;> first | omega | (split <;> omega)
theorem ac0 {x y a b : Int} : lR x y a b = 0 ↔ x = a ∧ y = b := by
 unfold lR fJ
 split <;> split <;> first | omega | (split <;> omega)
theorem Pn {x y v a b : Int} : aX aj 260 [.w (.agg [.c (.int .i64 x), .c (.int .i64 y), .c (.int .i64 v)]), bh a b] (aW (lR x y a b)) := by
 have aP := acB (x := x) (y := y) (x' := a) (y' := b);refine cl (f := 260) Tryz.func260 rfl rfl rfl rfl ?_;(repeat first | (with_reducible apply aA); exact rfl | refine dM rfl rfl rfl rfl (by (exact aP)) rfl ?_ | (with_reducible first | apply bX | apply bN | apply bV | apply aB | apply cd))
 ((refine bU rfl (bE rfl bf) ?_))
 exact ai.bo.refl _
abbrev QR : ai := aQ (.func (.func 260) #[] #[])
def Rf (l : List di) (v : Value) (a b : Int) (n : Nat) (R : aJ) (aS : List (Nat × ai)) (bD : List (Nat × List AC)) : Prop :=
 ∃ (lo hi : Nat) (kS ae : Int), lo ≤ e4 l a b ∧ e4 l a b ≤ hi ∧ hi ≤ l.length ∧ n = hi - lo ∧ kS = lo ∧ ae = hi ∧ R = bI 0 (gG v l) ∧ bD = [(4, Dk a b)] ∧ aS = [(0, aQ v), (2, QR), (4, QS 4), (8, aW l.length), (9, aW kS), (10, aW ae)]
theorem TT {l : List di} {v : Value} {a b : Int} (aq : jN l) (an : l.length ≤ 1000000) :
  xV aj 259 [aQ v, bh a b, QR] (gG v l) fun b7 a8 => b7 = .cZ [.one (.c (.int .i64 (e4 l a b))), .one (.c (.bool (gV l a b)))] ∧ a8 = gG v l := by
 refine adt rfl (fun v a8 h => by rw [h.1]; rfl) ?_;refine dk (f := 259) Tryz.func259 rfl (dh rfl) (by exact n2) ?_;(repeat first | (with_reducible first | apply ba | apply aR | apply a7 | apply aU | apply eM) | (with_reducible apply aM); exact rfl; (repeat first | (with_reducible apply aA); exact rfl); (with_reducible apply aB) | (with_reducible apply nn 0); (iterate 4 exact rfl); kernel_rfl; exact rfl);refine ls 49 (Rf l v a b) l.length (bI 0 (gG v l)) _ [(4, Dk a b)] ⟨0, l.length, 0, l.length, eC _, Px l a b, dL _, rfl, rfl, rfl, rfl, rfl, rfl⟩ (bH.refl _) rfl ⟨rfl, rfl, rfl, rfl, rfl, rfl, trivial⟩ ⟨rfl, trivial⟩ rfl ?_;rintro n R aS bD ⟨lo, hi, kS, ae, h1, h2, ap, rfl, aL, dx, rfl, rfl, rfl⟩ dU;clear dU
 by_cases al : lo < hi
 ·subst aL dx;have q2 : (lo : Int) < (hi : Int) := by omega
  obtain ⟨h, aY⟩ : ∃ h, h = (lo + hi) / 2 := ⟨_, rfl⟩;have aI : ((lo : Int) + (hi : Int)) / 2 = (h : Int) := by omega
  have XO : h < l.length := by omega
  obtain ⟨x, y, w, g1⟩ : ∃ x y w, l[h]? = some (x, y, w) := ⟨_, _, _, cm XO⟩;have lj : 0 < l.length := by omega
  have iR : (((lo : Int) + (hi : Int)) / 2).toNat * 3 + 3 ≤ (dX l).length ∧ ((dX l).drop ((((lo : Int) + (hi : Int)) / 2).toNat * 3)).take 3 = [.c (.int .i64 x), .c (.int .i64 y), .c (.int .i64 w)] := ⟨by rw [ys]; omega, Lg aI g1⟩;have ho : IntKind.i64.wrap ((lo : Int) + hi) = (lo : Int) + hi := da (by omega);have Bi : IntKind.u64.wrap ((lo : Int) + hi) = (lo : Int) + hi := by rw [IntKind.wrap_u64]; omega
  have aP := Pn (x := x) (y := y) (v := w) (a := a) (b := b);have kD : h < e4 l a b ↔ lR x y a b < 0 := (xm aq a b h (x, y, w) g1).trans ac1.symm;generalize lR x y a b = c at *;have zZ : ((lo : Int) + (hi : Int)) / 2 < (l.length : Int) := by omega
  clear g1
  replace aI := Lib.hid aI
  replace aY := Lib.hid aY
  by_cases ak : c < 0
  ·(repeat first | (with_reducible apply ev); kernel_rfl | (with_reducible apply dR (id := 5) [0,1,2,3,4,5,6,7]); kernel_rfl; kernel_rfl; exact rfl | (with_reducible first | apply ba | apply aR | apply a7 | apply aU | apply cS | apply eM | apply j3) | (with_reducible apply dz); exact rfl; (exact bB (by omega)) | (with_reducible apply aM); exact rfl; (repeat first | (with_reducible apply aA); exact rfl | (with_reducible apply fh); (iterate 3 exact rfl); (exact da (by omega)); exact rfl | (with_reducible apply Ff); exact rfl; exact rfl; (first | exact da (by omega) | assumption); exact rfl | refine dM rfl rfl rfl rfl (by (exact aP)) rfl ?_ | (with_reducible apply rv); (iterate 5 exact rfl); (intro W; go_simp; try rfl); (intro W; go_simp; try rfl); exact rfl; exact rfl); (with_reducible apply aB) | (with_reducible apply jw 0); (iterate 4 exact rfl); (omega); (assumption); exact rfl; kernel_rfl; exact rfl | (with_reducible apply np 0); (iterate 3 exact rfl); (assumption); assumption; exact rfl; kernel_rfl; exact rfl);have aY := aY.out;have aI := aI.out;refine ⟨hi - (h + 1), bI 0 (gG v l), _, [(4, Dk a b)], by omega, ⟨h + 1, hi, _, hi, kD.2 ak, h2, ap, rfl, ?_, rfl, rfl, rfl, rfl⟩, bH.refl _, rfl, ⟨rfl, rfl, rfl, rfl, rfl, rfl, trivial⟩, ⟨rfl, trivial⟩, rfl⟩;omega
  ·have iv : e4 l a b ≤ h := by have := mt kD.1 ak; omega
   (repeat first | (with_reducible apply ev); kernel_rfl | (with_reducible apply dR (id := 5) [0,1,2,3,4,5,6,7]); kernel_rfl; kernel_rfl; exact rfl | (with_reducible first | apply ba | apply aR | apply a7 | apply aU | apply cS | apply eM | apply j3) | (with_reducible apply dz); exact rfl; (exact bB (by omega)) | (with_reducible apply c6); exact rfl; (exact bR (by omega)) | (with_reducible apply aM); exact rfl; (repeat first | (with_reducible apply aA); exact rfl | (with_reducible apply fh); (iterate 3 exact rfl); (exact da (by omega)); exact rfl | (with_reducible apply Ff); exact rfl; exact rfl; (first | exact da (by omega) | assumption); exact rfl | refine dM rfl rfl rfl rfl (by (exact aP)) rfl ?_ | (with_reducible apply rv); (iterate 5 exact rfl); (intro W; go_simp; try rfl); (intro W; go_simp; try rfl); exact rfl; exact rfl); (with_reducible apply aB) | (with_reducible apply jw 0); (iterate 4 exact rfl); (omega); (assumption); exact rfl; kernel_rfl; exact rfl | (with_reducible apply np 0); (iterate 3 exact rfl); (assumption); assumption; exact rfl; kernel_rfl; exact rfl);have aY := aY.out;have aI := aI.out;refine ⟨h - lo, bI 0 (gG v l), _, [(4, Dk a b)], by omega, ⟨lo, h, lo, _, h1, iv, by omega, rfl, rfl, aI, rfl, rfl, rfl⟩, bH.refl _, rfl, ⟨rfl, rfl, rfl, rfl, rfl, rfl, trivial⟩, ⟨rfl, trivial⟩, rfl⟩
 ·have dp : lo = e4 l a b := by omega
  subst dp;have q2 : ¬ kS < ae := by omega
  clear dx al h2 ap h1;generalize hp : e4 l a b = p at *
  by_cases aF : p < l.length
  ·subst aL;have b5 : (p : Int) < (l.length : Int) := by omega
   have lj : 0 < l.length := by omega
   obtain ⟨x, y, w, g1⟩ : ∃ x y w, l[p]? = some (x, y, w) := ⟨_, _, _, cm aF⟩;have iR : ((p : Int)).toNat * 3 + 3 ≤ (dX l).length ∧ ((dX l).drop (((p : Int)).toNat * 3)).take 3 = [.c (.int .i64 x), .c (.int .i64 y), .c (.int .i64 w)] := ⟨by rw [ys]; omega, Lg rfl g1⟩;have aP := Pn (x := x) (y := y) (v := w) (a := a) (b := b)
   have kD : gV l a b = decide (lR x y a b = 0) := by
    rw [oK, Cs aq, hp, g1, decide_eq_true_iff, ac0]
    constructor
    ·rintro ⟨u, hu⟩; cases hu; exact ⟨rfl, rfl⟩
    ·rintro ⟨rfl, rfl⟩; exact ⟨w, rfl⟩
   generalize lR x y a b = c at *;(repeat first | (with_reducible apply ev); kernel_rfl | (with_reducible apply dR (id := 8) [0,1,2,3,4,5,6,7,8,9,10,11,12,13,14,15]); kernel_rfl; kernel_rfl; exact rfl | (with_reducible first | apply ba | apply aR | apply a7 | apply aU | apply db | apply j4 | apply j6 | apply j5) | (with_reducible apply c6); exact rfl; (exact bR (by omega)) | (with_reducible apply aM); exact rfl; (repeat first | (with_reducible apply aA); exact rfl | refine dM rfl rfl rfl rfl (by (exact aP)) rfl ?_ | (with_reducible apply c8 (c := true)); exact rfl; exact rfl; (exact bB (by omega))); (with_reducible apply aB) | (with_reducible apply jw 0); (iterate 4 exact rfl); (omega); (assumption); exact rfl; kernel_rfl; exact rfl | (with_reducible apply np 0); (iterate 3 exact rfl); (assumption); assumption; exact rfl; kernel_rfl; exact rfl)
   ((refine Mj rfl (bE rfl (bE rfl bf)) rfl rfl ?_))
   exact ⟨by rw [kD]; rfl, rfl⟩
  ·subst aL;have b5 : ¬ (p : Int) < (l.length : Int) := by omega
   have kD : gV l a b = false := by
    cases aY : gV l a b with
    | false => rfl
    | true =>
     obtain ⟨u, hu⟩ := (Cs aq).1 aY;rw [hp] at hu;have := (bS.1 hu).1;omega
   (repeat first | (with_reducible apply ev); kernel_rfl | (with_reducible apply dR (id := 8) [0,1,2,3,4,5,6,7,8,9,10,11,12,13,14,15]); kernel_rfl; kernel_rfl; exact rfl | (with_reducible first | apply ba | apply aR | apply a7 | apply aU | apply db | apply j4 | apply j6 | apply j5) | (with_reducible apply c6); exact rfl; (exact bR (by omega)) | (with_reducible apply aM); exact rfl; (repeat first | (with_reducible apply aA); exact rfl | (with_reducible apply c8 (c := false)); exact rfl; exact rfl; (exact bR (by omega))); (with_reducible apply aB))
   ((refine Mj rfl (bE rfl (bE rfl bf)) rfl rfl ?_))
   exact ⟨by rw [kD]; rfl, rfl⟩
theorem aeO {l : List di} {p : Nat} {x y u w : Int} (hu : l[p]? = some (x, y, u)) : ey (dX l) ((p : Int).toNat * 3 + 2) [.c (.int .i64 w)] = dX (l.take p ++ (x, y, w) :: l.drop (p + 1)) := by
 have bi := (bS.1 hu).1;have he := (bS.1 hu).2
 have aI : l = l.take p ++ (x, y, u) :: l.drop (p + 1) := by
  conv => lhs; rw [← ks p l, nE bi, he]
 have t1 : (dX (l.take p)).length = p * 3 := by rw [ys, eg]; omega
 rw [kw]
 conv => lhs; rw [aI]
 unfold ey;rw [yr, yr];simp only [dX];rw [List.take_append, List.drop_append, t1, show (dX (l.take p)).take (p * 3 + 2) = dX (l.take p) from hA (by omega), show (dX (l.take p)).drop (p * 3 + 2 + [AC.c (.int .i64 w)].length) = [] from vq (by rw [t1, List.length_singleton]; omega)];rw [show p * 3 + 2 - p * 3 = 2 by omega, show p * 3 + 2 + [AC.c (.int .i64 w)].length - p * 3 = 3 by simp; omega];simp
def Rs (n : Nat) : Prop := ∀ (u9 : Value) l v (x y w : Int), v.oneCell' = true → jN l → l.length ≤ n → p8 aj 202 [bh x y, aW w] [.c v, .c u9] (gG v l) fun r ar a8 => r = bF (!gV l x y) ∧ ∃ aZ, aZ.oneCell' = true ∧ ar = [.c aZ, .c u9] ∧ a8 = gG aZ (sn l x y w)
def Ro (n : Nat) : Prop := ∀ (u9 : Value) l v (x y : Int), v.oneCell' = true → jN l → l.length ≤ n → p8 aj 229 [bh x y] [.c v, .c u9] (gG v l) fun r ar a8 => r = .cZ [.one (.c (.int .i64 (nP l x y))), .one (.c (.bool (gV l x y)))] ∧ ar = [.c v, .c u9] ∧ a8 = gG v l
def Rp (n : Nat) : Prop := ∀ (u9 : Value) l v, v.oneCell' = true → jN l → l.length ≤ n → p8 aj 201 [] [.c v, .c u9] (gG v l) fun r ar a8 => r = aW l.length ∧ ar = [.c v, .c u9] ∧ a8 = gG v l
theorem Kx {u9 : Value} {l : List di} {v : Value} {a b : Int} (hv : v.oneCell' = true) (aq : jN l) (an : l.length ≤ 1000000) : p8 aj 230 [bh a b] [.c v, .c u9] (gG v l) fun b7 ar a8 => b7 = .cZ [.one (.c (.int .i64 (e4 l a b))), .one (.c (.bool (gV l a b)))] ∧ ar = [.c v, .c u9] ∧ a8 = gG v l := by
 have aP := TT (v := v) (a := a) (b := b) aq an;refine tP rfl rfl (fun v ar a8 h => by obtain ⟨rfl, rfl, rfl⟩ := h; exact ⟨rfl, rfl⟩) ?_;refine dk (f := 230) Tryz.func230 rfl (dh rfl) (by exact ej rfl) ?_;(repeat first | (with_reducible apply lr (id := 1) [0,1,2,3,4,5,6,7,8,9] [11]); kernel_rfl; kernel_rfl; exact rfl | (with_reducible first | apply ba | apply aR | apply a7 | apply aU) | (with_reducible apply aM); exact rfl; (repeat first | (with_reducible apply aA); exact rfl | (with_reducible apply c3); (iterate 3 exact rfl)); (with_reducible apply aB));refine MN 0 rfl rfl rfl rfl aP rfl rfl rfl (fun b7 a8 h => ?_);obtain ⟨rfl, rfl⟩ := h;(repeat first | (with_reducible apply ev); kernel_rfl | (with_reducible first | apply aR | apply db) | (with_reducible apply aM); exact rfl; (repeat first | (with_reducible apply aA); exact rfl); (with_reducible apply aB))
 ((refine qs rfl (bE rfl (bE rfl bf)) rfl rfl rfl rfl ?_))
 exact ⟨rfl, rfl, rfl⟩
theorem Zm : Rp 1100 := by
 intro u9 l v hv aq an;refine tP rfl rfl (fun v ar a8 h => by obtain ⟨rfl, rfl, rfl⟩ := h; exact ⟨rfl, rfl⟩) ?_;refine dk (f := 201) Tryz.func201 rfl (dh rfl) (by exact ej rfl) ?_;(repeat first | (with_reducible first | apply ba | apply aR | apply a7 | apply aU | apply db) | (with_reducible apply aM); exact rfl; (repeat first | (with_reducible apply aA); exact rfl | (with_reducible apply c3); (iterate 3 exact rfl)); (with_reducible apply aB) | (with_reducible apply nn 0); (iterate 4 exact rfl); kernel_rfl; exact rfl)
 ((refine qs rfl (bE rfl bf) rfl rfl rfl rfl ?_))
 exact ⟨rfl, rfl, rfl⟩
theorem Zl : Ro 1100 := by
 intro u9 l v x y hv aq an;have aP := Kx (u9 := u9) (v := v) (a := x) (b := y) hv aq (by omega);have hp := Cs (l := l) aq (x := x) (y := y);refine tP rfl rfl (fun v ar a8 h => by obtain ⟨rfl, rfl, rfl⟩ := h; exact ⟨rfl, rfl⟩) ?_;cases aY : gV l x y with
 | false =>
  rw [aY] at aP;rw [afo aY];refine dk (f := 229) Tryz.func229 rfl (dh rfl) (by exact ej rfl) ?_;(repeat first | (with_reducible first | apply ba | apply aR | apply a7 | apply aU) | (with_reducible apply aM); exact rfl; (repeat first | (with_reducible apply aA); exact rfl); (with_reducible apply aB));refine rX 1000 0 rfl rfl rfl rfl aP rfl rfl rfl rfl rfl rfl (fun r ar a8 h => ?_);obtain ⟨rfl, rfl, rfl⟩ := h;(repeat first | (with_reducible first | apply ba | apply aR | apply a7 | apply aU | apply db | apply hh) | (with_reducible apply dz); exact rfl; (exact rfl) | (with_reducible apply aM); exact rfl; (repeat first | (with_reducible apply aA); exact rfl); (with_reducible apply aB))
  ((refine qs rfl (bE rfl (bE rfl bf)) rfl rfl rfl rfl ?_))
  exact ⟨rfl, rfl, rfl⟩
 | true =>
  rw [aY] at aP;obtain ⟨u, hu⟩ := hp.1 aY;rw [(afp aq hu).2];have bi := (bS.1 hu).1;generalize e4 l x y = p at *;clear hp;have b5 : (p : Int) < (l.length : Int) := by omega
  have lj : 0 < l.length := by omega
  have iR : (dX l)[(p : Int).toNat * 3 + 2]? = some (.c (.int .i64 u)) := by
   have h1 := FR l p (x, y, u) hu;have h2 : ((((dX l).drop (p * 3)).take 3))[2]? = some (.c (.int .i64 u)) := by rw [h1]; rfl
   rw [fK (by decide), gj] at h2;exact h2
  refine dk (f := 229) Tryz.func229 rfl (dh rfl) (by exact ej rfl) ?_;(repeat first | (with_reducible first | apply ba | apply aR | apply a7 | apply aU) | (with_reducible apply aM); exact rfl; (repeat first | (with_reducible apply aA); exact rfl); (with_reducible apply aB));refine rX 1000 0 rfl rfl rfl rfl aP rfl rfl rfl rfl rfl rfl (fun r ar a8 h => ?_);obtain ⟨rfl, rfl, rfl⟩ := h;(repeat first | (with_reducible first | apply ba | apply aR | apply a7 | apply aU | apply db | apply cS) | (with_reducible apply c6); exact rfl; (exact rfl) | (with_reducible apply aM); exact rfl; (repeat first | (with_reducible apply aA); exact rfl | (with_reducible apply c3); (iterate 3 exact rfl)); (with_reducible apply aB) | (with_reducible apply jw 0); (iterate 4 exact rfl); (omega); (assumption); exact rfl; kernel_rfl; exact rfl | (with_reducible apply y9 0); (iterate 3 exact rfl); (assumption); kernel_rfl; exact rfl | (with_reducible apply za 0); (iterate 3 exact rfl); (assumption); assumption; exact rfl; kernel_rfl; exact rfl)
  ((refine qs rfl (bE rfl (bE rfl bf)) rfl rfl rfl rfl ?_))
  exact ⟨rfl, rfl, rfl⟩
theorem Zq : Rs 1100 := by
 intro u9 l v x y w hv aq an;have aP := Kx (u9 := u9) (v := v) (a := x) (b := y) hv aq (by omega);have hp := Cs (l := l) aq (x := x) (y := y);have og := Px l x y;refine tP rfl rfl (fun v ar a8 h => by obtain ⟨rfl, aZ, b4, rfl, rfl⟩ := h; exact ⟨rfl, rfl⟩) ?_;cases aY : gV l x y with
 | false =>
  rw [aY] at aP;rw [PL aq aY];have cc := TS (l := l) (v := v) (i := e4 l x y) (x := x) (y := y) (w := w) og (by omega);generalize e4 l x y = p at *;clear hp;refine dk (f := 202) Tryz.func202 rfl (dh rfl) (by exact ej rfl) ?_;(repeat first | (with_reducible first | apply ba | apply aR | apply a7 | apply aU) | (with_reducible apply aM); exact rfl; (repeat first | (with_reducible apply aA); exact rfl); (with_reducible apply aB));refine rX 1000 0 rfl rfl rfl rfl aP rfl rfl rfl rfl rfl rfl (fun r ar a8 h => ?_);obtain ⟨rfl, rfl, rfl⟩ := h;(repeat first | (with_reducible apply lr (id := 5) [0,1,2,3,4,5,6,7,8,9,10,11,12,13] [34]); kernel_rfl; kernel_rfl; exact rfl | (with_reducible first | apply ba | apply aR | apply a7 | apply aU | apply cS) | (with_reducible apply c6); exact rfl; (exact rfl) | (with_reducible apply aM); exact rfl; (repeat first | (with_reducible apply aA); exact rfl | (with_reducible apply c3); (iterate 3 exact rfl) | (with_reducible apply l5); (iterate 10 exact rfl)); (with_reducible apply aB));refine MN 0 rfl rfl rfl rfl cc rfl rfl rfl (fun b7 a8 h => ?_);obtain ⟨aZ, b4, rfl, rfl⟩ := h;(repeat first | (with_reducible apply ev); kernel_rfl | (with_reducible first | apply ba | apply aR | apply a7 | apply aU | apply db) | (with_reducible apply aM); exact rfl; (repeat first | (with_reducible apply aA); exact rfl | (with_reducible apply c3); (iterate 3 exact rfl)); (with_reducible apply aB))
  ((refine qs rfl (bE rfl bf) rfl rfl rfl rfl ?_))
  exact ⟨rfl, aZ, b4, rfl, rfl⟩
 | true =>
  rw [aY] at aP;obtain ⟨u, hu⟩ := hp.1 aY;rw [ada aq hu];have bi := (bS.1 hu).1;generalize e4 l x y = p at *;clear hp;have b5 : (p : Int) < (l.length : Int) := by omega
  have lj : 0 < l.length := by omega
  refine dk (f := 202) Tryz.func202 rfl (dh rfl) (by exact ej rfl) ?_;(repeat first | (with_reducible first | apply ba | apply aR | apply a7 | apply aU) | (with_reducible apply aM); exact rfl; (repeat first | (with_reducible apply aA); exact rfl); (with_reducible apply aB));refine rX 1000 0 rfl rfl rfl rfl aP rfl rfl rfl rfl rfl rfl (fun r ar a8 h => ?_);obtain ⟨rfl, rfl, rfl⟩ := h;(repeat first | (with_reducible first | apply ba | apply aR | apply a7 | apply aU) | (with_reducible apply dz); exact rfl; (exact rfl) | (with_reducible apply aM); exact rfl; (repeat first | (with_reducible apply aA); exact rfl | (with_reducible apply c3); (iterate 3 exact rfl)); (with_reducible apply aB) | (with_reducible apply jw 0); (iterate 4 exact rfl); (omega); (assumption); exact rfl; kernel_rfl; exact rfl | (with_reducible apply y9 0); (iterate 3 exact rfl); (assumption); kernel_rfl; exact rfl);refine zd 0 rfl rfl rfl rfl lj rfl rfl ?_ rfl ?_
  ·show (p : Int).toNat * 3 + 2 + 1 ≤ (dX l).length;rw [ys]; omega
  ·have aI := aeO (w := w) hu
   have aN : (l.take p ++ (x, y, w) :: l.drop (p + 1)).length = l.length := by
    rw [cR, lm, eg, hT]; omega
   have cC : (⟨261, 3, v, l.length, ey (dX l) ((p : Int).toNat * 3 + 2) [.c (.int .i64 w)]⟩ : bL) = gG v (l.take p ++ (x, y, w) :: l.drop (p + 1)) := by
    rw [aI]; unfold gG; rw [aN]
   (repeat first | (with_reducible first | apply ba | apply aR | apply a7 | apply aU | apply db | apply hh) | (with_reducible apply aM); exact rfl; (repeat first | (with_reducible apply aA); exact rfl); (with_reducible apply aB))
   ((refine qs rfl (bE rfl bf) rfl rfl rfl rfl ?_))
   exact ⟨rfl, v, hv, rfl, cC⟩
abbrev sF (v : Value) (r : Int) : List AC := [.c v, .c (.int .i64 r)]
def sS : Bg := fun r L p S => ∃ (ad : Nat → Nat) (v : Value) (es : List di), p = dP (ad 1000) ∧ v.oneCell' = true ∧ mV L es ∧ S = kY ad (cM 1000 (sF v r)) (bI 0 (gG v es)) 1000
theorem Le : ∀ l, (dX l).all AC.vm = true
 | [] => rfl
 | p :: l => by
  have := Le l;simp only [dX, j1, this]; rfl
theorem IJ (v : Value) (r : Int) (es : List di) : mL (cM 1000 (sF v r)) (bI 0 (gG v es)) := by
 refine ⟨fun k cs h => ?_, fun i q h => ?_⟩
 ·obtain ⟨rfl, rfl⟩ := hb h; rfl
 ·obtain ⟨rfl, rfl⟩ := fG h; exact ⟨jd _, Le es⟩
theorem N5 (k : Nat) (cs : List AC) : ∃ ds, cM k cs k = some ds := ⟨cs, by unfold cM; exact cr _ _ _⟩
theorem PI {b c : Nat} (h : dP b = dP c) : b = c := by cases h; rfl
theorem vC {r q : bL} : bM (bI 0 r) 0 q = bI 0 q := by
 funext i;unfold bI
 by_cases e : i = 0
 ·subst e; rw [cr, cr]
 ·rw [cj _ _ e, cj _ _ e, cj _ _ e]
theorem Nt : Rt sS := by
 intro r L b S h an;obtain ⟨ad, v, es, hp, hv, bq, rfl⟩ := h;obtain rfl := PI hp;refine QI (N5 _ _) rfl (Post := fun w m1 bn => w = aW r ∧ m1 = cM 1000 (sF v r) ∧ bn = bI 0 (gG v es)) ?_ (fun w m1 bn h => ?_)
 ·refine dk (f := 56) Tryz.func56 rfl (dh rfl) (by exact ej rfl) ?_;(repeat first | (with_reducible first | apply ba | apply aR | apply a7 | apply aU | apply db) | (with_reducible apply aM); exact rfl; (repeat first | (with_reducible apply aA); exact rfl | (with_reducible apply c3); (iterate 3 exact rfl)); (with_reducible apply aB))
  ((refine eI rfl (bE rfl bf) rfl (bH.refl _) rfl rfl (fun i r h => ⟨r, h⟩) ?_))
  exact ⟨rfl, rfl, rfl⟩
 ·obtain ⟨rfl, rfl, rfl⟩ := h;exact ⟨rfl, IJ _ _ _, fun eN iY => ⟨rfl, eN, v, es, by rw [iY], hv, bq, rfl⟩⟩
theorem Zo : Rr sS := by
 intro n;refine ae3 (Post := fun w m1 bn => w = .w (.one (.own 7 0)) ∧ m1 = cM 7 (sF (.slice none 0 0) (sC n)) ∧ bn = bI 0 (gG (.slice none 0 0) [])) ?_ (fun w m1 bn h => ?_)
 ·have e : sC n = if 1024 < if 1 > n then 1 else n then 1024 else if 1 > n then 1 else n := by unfold sC; (repeat split) <;> omega
  rw [e];refine dk (f := 54) Tryz.func54 rfl (dh rfl) (by exact n2) ?_;refine nK 0 261 3 rfl ?_;(repeat first | (with_reducible first | apply ba | apply aR | apply a7 | apply aU | apply db) | (with_reducible apply aM); exact rfl; (repeat first | (with_reducible apply aA); exact rfl | (with_reducible apply x6); (iterate 4 exact rfl) | (with_reducible apply uz); (iterate 4 exact rfl)); (with_reducible apply aB))
  ((refine GH 7 rfl (bE rfl bf) rfl (bH.refl _) rfl rfl ?_))
  exact ⟨rfl, rfl, rfl⟩
 ·obtain ⟨rfl, rfl, rfl⟩ := h;refine ⟨7, rfl, ⟨fun k cs h => ?_, (IJ (.slice none 0 0) 0 []).2⟩, fun eN => ⟨eN 7, rfl, fun j => eN (swp 1000 7 j), .slice none 0 0, [], rfl, rfl, .nil, ?_⟩⟩
  ·obtain ⟨rfl, rfl⟩ := hb h; rfl
  ·have h1 := ae5 (mQ 1000 7) (cq := fun j => j) (ir := fun j => j) (fun _ => rfl) (fun _ => rfl) (ad := eN) (m := cM 1000 (sF (.slice none 0 0) (sC n))) (R := bI 0 (gG (.slice none 0 0) [])) (k := 1000);rw [xa rfl] at h1;exact h1
theorem abu {r : Int} {L : List ao} {v : Value} {es : List di} (x y : Int) (hv : v.oneCell' = true) (bq : mV L es) (an : L.length ≤ 1100) : p8 aj 200 [bh x y] (sF v r) (gG v es) fun w ar a8 => w = .cZ [.one (.c (.int .i64 (nP es x y))), .one (.c (.bool (gV es x y)))] ∧ ar = sF v r ∧ a8 = gG v es := by
 have aP := Zl (.int .i64 r) es v x y hv bq.1 (by rw [bq.len]; exact an);refine tP rfl rfl (fun v ar a8 h => by obtain ⟨rfl, rfl, rfl⟩ := h; exact ⟨rfl, rfl⟩) ?_;generalize nP es x y = a at *;generalize gV es x y = c at *;refine dk (f := 200) Tryz.func200 rfl (dh rfl) (by exact ej rfl) ?_;(repeat first | (with_reducible apply lr (id := 1) [0,1,2,3,4,5,6,7,8] [10]); kernel_rfl; kernel_rfl; exact rfl | (with_reducible first | apply ba | apply aR | apply a7 | apply aU) | (with_reducible apply aM); exact rfl; (repeat first | (with_reducible apply aA); exact rfl | (with_reducible apply c3); (iterate 3 exact rfl)); (with_reducible apply aB));refine Hc 1000 0 rfl rfl rfl rfl aP rfl (fun v ar a8 h => h.2.1) rfl rfl rfl rfl (fun b7 ar a8 h => ?_);obtain ⟨rfl, rfl, rfl⟩ := h;(repeat first | (with_reducible apply ev); kernel_rfl | (with_reducible first | apply aR | apply db) | (with_reducible apply aM); exact rfl; (repeat first | (with_reducible apply aA); exact rfl); (with_reducible apply aB))
 ((refine qs rfl (bE rfl (bE rfl bf)) rfl rfl rfl rfl ?_))
 exact ⟨rfl, rfl, rfl⟩
theorem aef {f : FuncId} {args : List ai} {r : Int} {L L' : List ao} {b : Nat} {S : eZ} {post : ai → Prop} (ek : args.all ai.bc = true) (h : sS r L (dP b) S)
  (ak : ∀ v es, v.oneCell' = true → mV L es → p8 aj f args (sF v r) (gG v es) fun w ar a8 => w.bc = true ∧ post w ∧ ∃ aZ uJ, aZ.oneCell' = true ∧ mV L' uJ ∧ ar = sF aZ r ∧ a8 = gG aZ uJ) : xZ aj f (aQ (dP b) :: args) (dP b) S fun w dd => post w ∧ sS r L' (dP b) dd := by
 obtain ⟨ad, v, es, hp, hv, bq, rfl⟩ := h;obtain rfl := PI hp;refine QI (N5 _ _) ek (ak v es hv bq 1000 0) (fun w m1 bn h => ?_);obtain ⟨ar, a8, rfl, rfl, hw, Yf, aZ, uJ, b4, cg, rfl, rfl⟩ := h;exact ⟨hw, IJ _ _ _, fun eN iY => ⟨Yf, eN, aZ, uJ, by rw [iY], b4, cg, rfl⟩⟩
abbrev afl (b : Bool) (e : Int) : ai := .cZ [.one (.c (.bool b)), .one (.c (.int .i64 e))]
theorem Zi : Rl sS := by
 intro r L b S x y h an;refine aef (L' := p9 r L x y) (post := fun w => w = afl (mY r L x y) (mZ r L x y)) rfl h fun v es hv bq => ?_;have yQ := bq.len;have aF := bq.num x y;have aP := abu (r := r) x y hv bq an
 by_cases aY : 0 ≤ kU L x y
 ·obtain ⟨aI, aN, cC⟩ := SK (r := r) aY;rw [aI, aN, cC];rw [aF.1, bB aY] at aP;refine tP rfl rfl (fun w ar a8 h => by obtain ⟨c1, _, aZ, uJ, _, _, rfl, _⟩ := h; exact ⟨c1, rfl⟩) ?_;generalize nP es x y = a at *;refine dk (f := 154) Tryz.func154 rfl (dh rfl) (by exact ej rfl) ?_;(repeat first | (with_reducible first | apply ba | apply aR | apply a7 | apply aU) | (with_reducible apply aM); exact rfl; (repeat first | (with_reducible apply aA); exact rfl); (with_reducible apply aB));refine rX 1000 0 rfl rfl rfl rfl aP rfl rfl rfl rfl rfl rfl (fun b7 ar a8 h => ?_);obtain ⟨rfl, rfl, rfl⟩ := h;rw [vC];(repeat first | (with_reducible first | apply ba | apply aR | apply a7 | apply aU | apply db | apply hh) | (with_reducible apply dz); exact rfl; (exact rfl) | (with_reducible apply aM); exact rfl; (repeat first | (with_reducible apply aA); exact rfl); (with_reducible apply aB))
  ((refine qs rfl (bE rfl (bE rfl bf)) rfl rfl rfl rfl ?_))
  exact ⟨rfl, rfl, v, es, hv, bq, rfl, rfl⟩
 ·have au := aF.1;rw [bR aY] at au;rw [au] at aP;have cc := Zm (.int .i64 r) es v hv bq.1 (by omega);rw [yQ] at cc
  by_cases h2 : r ≤ (L.length : Int)
  ·obtain ⟨aI, aN, cC⟩ := SJ (r := r) aY h2;rw [aI, aN, cC];refine tP rfl rfl (fun w ar a8 h => by obtain ⟨c1, _, aZ, uJ, _, _, rfl, _⟩ := h; exact ⟨c1, rfl⟩) ?_;generalize nP es x y = a at *;have wG : (L.length : Int) ≥ r := h2;refine dk (f := 154) Tryz.func154 rfl (dh rfl) (by exact ej rfl) ?_;(repeat first | (with_reducible first | apply ba | apply aR | apply a7 | apply aU) | (with_reducible apply aM); exact rfl; (repeat first | (with_reducible apply aA); exact rfl); (with_reducible apply aB));refine rX 1000 0 rfl rfl rfl rfl aP rfl rfl rfl rfl rfl rfl (fun b7 ar a8 h => ?_);obtain ⟨rfl, rfl, rfl⟩ := h;rw [vC];(repeat first | (with_reducible apply lr (id := 4) [0,1,2,4,5,6,7,3,8] [18]); kernel_rfl; kernel_rfl; exact rfl | (with_reducible first | apply ba | apply aR | apply a7 | apply aU | apply cS) | (with_reducible apply c6); exact rfl; (exact rfl) | (with_reducible apply aM); exact rfl; (repeat first | (with_reducible apply aA); exact rfl | (with_reducible apply c3); (iterate 3 exact rfl)); (with_reducible apply aB));refine Hc 1000 0 rfl rfl rfl rfl cc rfl (fun v ar a8 h => h.2.1) rfl rfl rfl rfl (fun b7 ar a8 h => ?_);obtain ⟨rfl, rfl, rfl⟩ := h;rw [vC];(repeat first | (with_reducible apply ev); kernel_rfl | (with_reducible first | apply ba | apply aR | apply a7 | apply aU | apply db | apply hh) | (with_reducible apply dz); exact rfl; (exact bB (by omega)) | (with_reducible apply aM); exact rfl; (repeat first | (with_reducible apply aA); exact rfl); (with_reducible apply aB))
   ((refine qs rfl (bE rfl (bE rfl bf)) rfl rfl rfl rfl ?_))
   exact ⟨rfl, rfl, v, es, hv, bq, rfl, rfl⟩
  ·obtain ⟨aI, aN, cC⟩ := SL (r := r) aY h2;rw [aI, aN, cC];have cg := bq.add aY;have e5 := Zq (.int .i64 r) es v x y L.length hv bq.1 (by omega);rw [au] at e5;refine tP rfl rfl (fun w ar a8 h => by obtain ⟨c1, _, aZ, uJ, _, _, rfl, _⟩ := h; exact ⟨c1, rfl⟩) ?_;generalize nP es x y = a at *;generalize sn es x y L.length = FV at *;have wG : ¬ (L.length : Int) ≥ r := h2;refine dk (f := 154) Tryz.func154 rfl (dh rfl) (by exact ej rfl) ?_;(repeat first | (with_reducible first | apply ba | apply aR | apply a7 | apply aU) | (with_reducible apply aM); exact rfl; (repeat first | (with_reducible apply aA); exact rfl); (with_reducible apply aB));refine rX 1000 0 rfl rfl rfl rfl aP rfl rfl rfl rfl rfl rfl (fun b7 ar a8 h => ?_);obtain ⟨rfl, rfl, rfl⟩ := h;rw [vC];(repeat first | (with_reducible apply lr (id := 4) [0,1,2,4,5,6,7,3,8] [18]); kernel_rfl; kernel_rfl; exact rfl | (with_reducible first | apply ba | apply aR | apply a7 | apply aU | apply cS) | (with_reducible apply c6); exact rfl; (exact rfl) | (with_reducible apply aM); exact rfl; (repeat first | (with_reducible apply aA); exact rfl | (with_reducible apply c3); (iterate 3 exact rfl)); (with_reducible apply aB));refine Hc 1000 0 rfl rfl rfl rfl cc rfl (fun v ar a8 h => h.2.1) rfl rfl rfl rfl (fun b7 ar a8 h => ?_);obtain ⟨rfl, rfl, rfl⟩ := h;rw [vC];(repeat first | (with_reducible apply ev); kernel_rfl | (with_reducible apply lr (id := 6) [0,1,2,3,4,5,6,7,8,9,10] [31,32,2001000]); kernel_rfl; kernel_rfl; exact rfl | (with_reducible first | apply ba | apply aR | apply cS) | (with_reducible apply c6); exact rfl; (exact bR (by omega)) | (with_reducible apply aM); exact rfl; (repeat first | (with_reducible apply aA); exact rfl | (with_reducible apply c3); (iterate 3 exact rfl)); (with_reducible apply aB));refine rX 1000 0 rfl rfl rfl rfl cc rfl rfl rfl rfl rfl rfl (fun b7 ar a8 h => ?_);obtain ⟨rfl, rfl, rfl⟩ := h;rw [vC]
   skip
   refine rX 1000 0 rfl rfl rfl rfl e5 rfl rfl rfl rfl rfl rfl (fun b7 ar a8 h => ?_);obtain ⟨rfl, aZ, b4, rfl, rfl⟩ := h;rw [vC];(repeat first | (with_reducible apply ev); kernel_rfl | (with_reducible first | apply aR | apply db) | (with_reducible apply aM); exact rfl; (repeat first | (with_reducible apply aA); exact rfl); (with_reducible apply aB))
   ((refine qs rfl (bE rfl (bE rfl bf)) rfl rfl rfl rfl ?_))
   exact ⟨rfl, rfl, aZ, FV, b4, cg, rfl, rfl⟩
theorem PM (v : Value) (l : List ao) (p : ao) : ie v (l ++ [p]) = ⟨59, 2, v, l.length + 1, b3 l ++ [.c (.int .i64 p.1), .c (.int .i64 p.2)]⟩ := by
 unfold ie; rw [← Ht, cR]; rfl
end Go.Proofs.YtpochbhajmbfdaaGreat
namespace Go.Proofs.YtpochbhajmbfdaaGreat
open Go.RowKit
open bx
abbrev pU (a b c d : Int) : ai := .w (.agg [.c (.int .i64 a), .c (.int .i64 b), .c (.int .i64 c), .c (.int .i64 d)])
def w6 (l : ao × ao) : List AC := [.c (.int .i64 l.1.1), .c (.int .i64 l.1.2), .c (.int .i64 l.2.1), .c (.int .i64 l.2.2)]
def mh (l : List (ao × ao)) : List AC := l.flatMap w6
theorem M6 {V : List ao} {j : Nat} {a b : Int} {ji : Int} (ae : ji = j) (h : V[j]? = some (a, b)) : ji < (V.length : Int) := by
 have := (bS.1 h).1; omega
theorem Pm {V : List ao} {D : List Int} {j : Nat} {a b c d : Int} (h1 : V[j]? = some (a, b)) (h2 : V[j + 1]? = some (c, d)) (an : V.length ≤ 100000) : aX aj 122 [nM V D, aW j] (pU a b c d) := by
 obtain ⟨ji, ae⟩ : ∃ ji : Int, ji = j := ⟨_, rfl⟩;have q1 := M6 (ji := ji) ae h1;have q2 := M6 (ji := ji + 1) (j := j + 1) (by omega) h2;have cY : 0 ≤ ji := by omega
 have b5 : 0 ≤ ji + 1 := by omega
 have ab : ji ≤ 100000 := by omega
 have iR := va ae h1;have p0 := va (j := ji + 1) (i := j + 1) (by omega) h2;rw [show aW (j : Int) = aW ji by rw [ae]];clear ae h1 h2 an;refine cl (f := 122) Tryz.func122 rfl rfl rfl rfl ?_;(repeat first | (with_reducible apply aA); exact rfl | (with_reducible apply fZ); (iterate 5 exact rfl) | (with_reducible apply e7); (iterate 3 exact rfl); (omega); (omega); (assumption); exact rfl | (with_reducible apply fh); (iterate 3 exact rfl); (exact da (by omega)); exact rfl | (with_reducible apply hX); kernel_rfl | (with_reducible apply h0); kernel_rfl; kernel_rfl; exact rfl | (with_reducible first | apply bX | apply bN | apply bV | apply aB | apply cd))
 ((refine bU rfl (eV rfl rfl rfl bf) ?_))
 exact ai.bo.refl _
theorem DK {a b c d k A B C D : Int} (aP : aX aj 37 [bh a b, aW k] (bh A B)) (cc : aX aj 37 [bh c d, aW k] (bh C D)) : aX aj 128 [pU a b c d, aW k] (.cZ [.agg [.c (.int .i64 A), .c (.int .i64 B)], .agg [.c (.int .i64 C), .c (.int .i64 D)]]) := by
 refine cl (f := 128) Tryz.func128 rfl rfl rfl rfl ?_;(repeat first | (with_reducible apply aA); exact rfl | refine dM rfl rfl rfl rfl (by (first | exact aP | exact cc)) rfl ?_ | (with_reducible apply hX); kernel_rfl | (with_reducible apply h0); kernel_rfl; kernel_rfl; exact rfl | (with_reducible first | apply bX | apply bN | apply bV | apply aB | apply cd))
 ((refine bU rfl (eV rfl rfl rfl (eV rfl rfl rfl bf)) ?_))
 exact ai.bo.refl _
theorem acN {a b c d x y k A B C D : Int} {h r : Bool} (aP : aX aj 128 [pU a b c d, aW k] (.cZ [.agg [.c (.int .i64 A), .c (.int .i64 B)], .agg [.c (.int .i64 C), .c (.int .i64 D)]])) (H1 : aX aj 178 [bh A B, bh C D, bh x y, aW k] (bF h)) (aI : dN x y a b = false → dN x y c d = false → r = h) (aN : dN x y a b = true → r = false) (cC : dN x y c d = true → r = false) : aX aj 123 [pU a b c d, bh x y, aW k] (bF r) := by
 cases q1 : dN x y a b with
 | true =>
  rw [aN q1];refine cl (f := 123) Tryz.func123 rfl rfl rfl rfl ?_;(repeat first | (with_reducible apply aA); exact rfl | (with_reducible apply x8); (iterate 4 exact rfl) | refine dM rfl rfl rfl rfl (by (exact aP)) rfl ?_ | (with_reducible apply c8 (c := false)); exact rfl; exact rfl; ((simp only [iz]; (omega))) | (with_reducible first | apply bX | apply bN | apply bV | apply aB | apply cd))
  ((refine bU rfl (bE rfl bf) ?_))
  exact ai.bo.refl _
 | false =>
  cases q2 : dN x y c d with
  | true =>
   rw [cC q2];refine cl (f := 123) Tryz.func123 rfl rfl rfl rfl ?_;(repeat first | (with_reducible apply aA); exact rfl | (with_reducible apply x8); (iterate 4 exact rfl) | refine dM rfl rfl rfl rfl (by (exact aP)) rfl ?_ | (with_reducible apply c8 (c := true)); exact rfl; exact rfl; ((simp only [iz]; (omega))) | (with_reducible apply c8 (c := false)); exact rfl; exact rfl; ((simp only [iz]; (omega))) | (with_reducible first | apply bX | apply bN | apply bV | apply aB | apply cd))
   ((refine bU rfl (bE rfl bf) ?_))
   exact ai.bo.refl _
  | false =>
   rw [aI q1 q2];refine cl (f := 123) Tryz.func123 rfl rfl rfl rfl ?_;(repeat first | (with_reducible apply aA); exact rfl | (with_reducible apply x8); (iterate 4 exact rfl) | refine dM rfl rfl rfl rfl (by (exact aP)) rfl ?_ | refine nb rfl rfl rfl rfl rfl rfl (by (exact H1)) rfl ?_ | (with_reducible apply c8 (c := true)); exact rfl; exact rfl; ((simp only [iz]; (omega))) | (with_reducible first | apply bX | apply bN | apply bV | apply aB | apply cd))
   ((refine bU rfl (bE rfl bf) ?_))
   exact ai.bo.refl _
theorem acM {E : List b6} {r R : Nat} (aq : r ≤ 28) {p q x : ao} (hp : eO r p.1 p.2 = true) (al : eO r q.1 q.2 = true) : aX aj 123 [pU p.1 p.2 q.1 q.2, bh x.1 x.2, aW r] (bF (iV (pE E r R) p q x)) := by
 have ay : gw (r : Int) r := ⟨aq, .inr (.inr rfl)⟩;have e : ∀ a b : ao, dN a.1 a.2 b.1 b.2 = decide (a = b) := fun a b => by rw [oK, rK, cB, Prod.ext_iff]
 have aw : iV (pE E r R) p q x = (!decide (x = p) && !decide (x = q) && wR (2 ^ r * p.1) (2 ^ r * p.2) (2 ^ r * q.1) (2 ^ r * q.2) x.1 x.2 r) := by
  unfold iV;simp only [decide_not];rfl
 refine acN (DK (sj ay hp) (sj ay al)) abY (fun h1 h2 => ?_) (fun h1 => ?_) (fun h1 => ?_)
 ·rw [e] at h1 h2;rw [aw, h1, h2]; rfl
 ·rw [e] at h1;rw [aw, h1]; rfl
 ·rw [e] at h1;rw [aw, h1]; simp
theorem acr {a b c d a' bK c' d' k A B C D ei pY EJ vI : Int} {h : Bool} {M : fz} (aP : aX aj 128 [pU a b c d, aW k] (.cZ [.agg [.c (.int .i64 A), .c (.int .i64 B)], .agg [.c (.int .i64 C), .c (.int .i64 D)]])) (cc : aX aj 128 [pU a' bK c' d', aW k] (.cZ [.agg [.c (.int .i64 ei), .c (.int .i64 pY)], .agg [.c (.int .i64 EJ), .c (.int .i64 vI)]])) (H1 : aX aj 185 [bh A B, bh C D, bh ei pY, bh EJ vI] (bF h)) (b8 : aX aj 119 [bh A B, bh C D, bh ei pY, bh EJ vI] (nO M)) : aX aj 129 [pU a b c d, pU a' bK c' d', aW k] (nO (if h = true then ht else M)) := by
 cases h with
 | true =>
  refine cl (f := 129) Tryz.func129 rfl rfl rfl rfl ?_;(repeat first | (with_reducible apply aA); exact rfl | refine dM rfl rfl rfl rfl (by (first | exact aP | exact cc)) rfl ?_ | refine nb rfl rfl rfl rfl rfl rfl (by (exact H1)) rfl ?_ | (with_reducible first | apply bX | apply bN | apply bV | apply aB | apply cd | apply gy) | (with_reducible apply kE); exact rfl)
  ((refine bU rfl (eV rfl rfl rfl bf) ?_))
  exact ai.bo.refl _
 | false =>
  refine cl (f := 129) Tryz.func129 rfl rfl rfl rfl ?_;(repeat first | (with_reducible apply aA); exact rfl | refine dM rfl rfl rfl rfl (by (first | exact aP | exact cc)) rfl ?_ | refine nb rfl rfl rfl rfl rfl rfl (by (first | exact H1 | exact b8)) rfl ?_ | (with_reducible first | apply bX | apply bN | apply bV | apply aB | apply cd | apply fr) | (with_reducible apply jm); exact rfl)
  ((refine bU rfl (eV rfl rfl rfl bf) ?_))
  exact ai.bo.refl _
theorem HN {a b : b6} (h1 : cH a.1.1 a.1.2 = true) (h2 : cH a.2.1 a.2.2 = true) (ap : cH b.1.1 b.1.2 = true) (aL : cH b.2.1 b.2.2 = true) : qC a.1.1 a.1.2 a.2.1 a.2.2 b.1.1 b.1.2 b.2.1 b.2.2 = gP a b := by
 unfold qC; rw [h1, h2, ap, aL]; rfl
def n3 (r : Nat) (l m : ao × ao) : fz := if tb (ga r l) (ga r m) = true then ht else gP (ga r l) (ga r m)
theorem acq {r : Nat} (aq : r ≤ 28) {l m : ao × ao} (h1 : eO r l.1.1 l.1.2 = true) (h2 : eO r l.2.1 l.2.2 = true) (ap : eO r m.1.1 m.1.2 = true) (aL : eO r m.2.1 m.2.2 = true) : aX aj 129 [pU l.1.1 l.1.2 l.2.1 l.2.2, pU m.1.1 m.1.2 m.2.1 m.2.2, aW r] (nO (n3 r l m)) := by
 have ay : gw (r : Int) r := ⟨aq, .inr (.inr rfl)⟩;have e := HN (a := ga r l) (b := ga r m) (qm h1) (qm h2) (qm ap) (qm aL)
 have H1 : aX aj 185 [bh (2 ^ r * l.1.1) (2 ^ r * l.1.2), bh (2 ^ r * l.2.1) (2 ^ r * l.2.2), bh (2 ^ r * m.1.1) (2 ^ r * m.1.2), bh (2 ^ r * m.2.1) (2 ^ r * m.2.2)] (bF (tb (ga r l) (ga r m))) := by
  have := acn (a1 := 2 ^ r * l.1.1) (a2 := 2 ^ r * l.1.2) (b1 := 2 ^ r * l.2.1) (b2 := 2 ^ r * l.2.2) (c1 := 2 ^ r * m.1.1) (c2 := 2 ^ r * m.1.2) (d1 := 2 ^ r * m.2.1) (d2 := 2 ^ r * m.2.2);rw [show qC (2 ^ r * l.1.1) (2 ^ r * l.1.2) (2 ^ r * l.2.1) (2 ^ r * l.2.2) (2 ^ r * m.1.1) (2 ^ r * m.1.2) (2 ^ r * m.2.1) (2 ^ r * m.2.2) = gP (ga r l) (ga r m) from e] at this;exact this
 have b8 : aX aj 119 [bh (2 ^ r * l.1.1) (2 ^ r * l.1.2), bh (2 ^ r * l.2.1) (2 ^ r * l.2.2), bh (2 ^ r * m.1.1) (2 ^ r * m.1.2), bh (2 ^ r * m.2.1) (2 ^ r * m.2.2)] (nO (gP (ga r l) (ga r m))) := by
  have := Ig (a1 := 2 ^ r * l.1.1) (a2 := 2 ^ r * l.1.2) (b1 := 2 ^ r * l.2.1) (b2 := 2 ^ r * l.2.2) (c1 := 2 ^ r * m.1.1) (c2 := 2 ^ r * m.1.2) (d1 := 2 ^ r * m.2.1) (d2 := 2 ^ r * m.2.2);rw [show qC (2 ^ r * l.1.1) (2 ^ r * l.1.2) (2 ^ r * l.2.1) (2 ^ r * l.2.2) (2 ^ r * m.1.1) (2 ^ r * m.1.2) (2 ^ r * m.2.1) (2 ^ r * m.2.2) = gP (ga r l) (ga r m) from e] at this;exact this
 exact acr (DK (sj ay h1) (sj ay h2)) (DK (sj ay ap) (sj ay aL)) H1 b8
theorem KT (r : Nat) (l m : ao × ao) : rG r l m = if (n3 r l m).k = 1 then some (ic r (n3 r l m)) else none := by
 unfold rG n3;cases h : tb (ga r l) (ga r m) with
 | true => simp [ht]
 | false => simp
abbrev sa (v : Value) (l : List (ao × ao)) : bL := ⟨167, 4, v, l.length, mh l⟩
instance ahz : nU aj 96 167 4 32 := ⟨by kernel_rfl⟩
def o9 (c : List ao × List Int) : List AC := [.p (cz 2 c.1.length (b3 c.1)), .p (cz 1 c.2.length (cD c.2))]
def eA (l : List (List ao × List Int)) : List AC := l.flatMap o9
abbrev sK (l : List (List ao × List Int)) : ai := cI 2 l.length (eA l)
theorem Cc {β : Type} {f : β → List AC} {z : Nat} (au : ∀ x, (f x).length = z) : ∀ {l : List β} {i : Nat} {x : β}, l[i]? = some x → ((l.flatMap f).drop (i * z)).take z = f x
 | [], i, x, h => by simp at h
 | y :: l, 0, x, h => by
  simp at h; subst h;rw [List.flatMap_cons, Nat.zero_mul, List.drop_zero, ← au y, List.take_left]
 | y :: l, i + 1, x, h => by
  rw [List.flatMap_cons, jY, Nat.one_mul, Nat.add_comm, ← List.drop_drop, ← au y, List.drop_left, au y];exact Cc au (by simpa using h)
theorem Cd {β : Type} {f : β → List AC} {z : Nat} (au : ∀ x, (f x).length = z) : ∀ l : List β, (l.flatMap f).length = l.length * z
 | [] => by simp
 | y :: l => by rw [List.flatMap_cons, cR, au, Cd au l, lm, jY, Nat.one_mul, Nat.add_comm]
theorem NN {l : List (ao × ao)} {i : Nat} {ii a b c d : Int} (hi : ii = i) (h : l[i]? = some ((a, b), (c, d))) : ((mh l).drop (ii.toNat * 4)).take 4 = [.c (.int .i64 a), .c (.int .i64 b), .c (.int .i64 c), .c (.int .i64 d)] := by
 subst hi; rw [kw]; exact Cc (f := w6) (fun _ => rfl) h
theorem yk {l : List (List ao × List Int)} {i : Nat} {ii : Int} {c : List ao × List Int} (hi : ii = i) (h : l[i]? = some c) : ((eA l).drop (ii.toNat * 2)).take 2 = [.p (cz 2 c.1.length (b3 c.1)), .p (cz 1 c.2.length (cD c.2))] := by
 subst hi; rw [kw]; exact Cc (f := o9) (fun _ => rfl) h
theorem aad (l : List (ao × ao)) (x : ao × ao) : mh l ++ w6 x = mh (l ++ [x]) := by simp [mh, List.flatMap_append]
theorem ahN (l : List (ao × ao)) : (mh l).all AC.bc = true := by
 rw [cu]; intro x aa;obtain ⟨y, _, ag⟩ := List.mem_flatMap.1 aa;simp only [w6, gI, qK, or_false] at ag;rcases ag with rfl | rfl | rfl | rfl <;> rfl
theorem Uj (l : List (List ao × List Int)) : (eA l).all AC.bc = true := by
 rw [cu]; intro x aa;obtain ⟨y, _, ag⟩ := List.mem_flatMap.1 aa;simp only [o9, gI, qK, or_false] at ag;rcases ag with rfl | rfl <;> rfl
theorem aab (v : Value) (l : List (ao × ao)) (x : ao × ao) : sa v (l ++ [x]) = ⟨167, 4, v, l.length + 1, mh l ++ w6 x⟩ := by rw [sa, ← aad, cR]; rfl
def R2 (ch : List (List ao × List Int)) (n : Nat) (R : aJ) (aS : List (Nat × ai)) (bD : List (Nat × List AC)) : Prop :=
 ∃ (i : Nat) (ii : Int) (v : Value), i ≤ ch.length ∧ n = ch.length - i ∧ ii = i ∧ R = bI 0 (sa v (bb (ch.take i))) ∧ aS = [(3, aQ v), (7, sK ch), (8, aW ch.length), (9, aW ii)] ∧ bD = []
def R1 (ch : List (List ao × List Int)) (V : List ao) (D : List Int) (ii : Int) (pre : List (ao × ao)) (n : Nat) (R : aJ) (aS : List (Nat × ai)) (bD : List (Nat × List AC)) : Prop :=
 ∃ (j : Nat) (fb : Int) (v : Value), j ≤ D.length ∧ n = D.length - j ∧ fb = j ∧ R = bI 0 (sa v (pre ++ (iH V).take j)) ∧ aS = [(3, aQ v), (5, mu 5 0), (7, sK ch), (8, aW ch.length), (9, aW ii), (15, aW D.length), (16, aW fb)] ∧ bD = [(5, [.p (cz 2 V.length (b3 V)), .p (cz 1 D.length (cD D))])]
theorem aae {V : List ao} {j : Nat} (h : j + 1 < V.length) : (iH V)[j]? = some (V[j], V[j + 1]) := by
 induction V generalizing j with
 | nil => simp at h
 | cons p W cp =>
  cases W with
  | nil => simp at h
  | cons q W =>
   cases j with
   | zero => rfl
   | succ j => exact cp (j := j) (by simpa using h)
section
variable {P : Program} {R : aJ} {s : aD} {ops : Array Oper} {dr : Option (List Nat)} {ty : Nat} {pos : String} {after : Array Edge} {guard : Option (Nat × Bool)} {K : aJ → aD → Prop} {rest : List Oper}
def nS (k : Nat) (iv : ai → List AC → aJ → Prop) : ai → Mem → aJ → Prop := fun b7 aH az => ∃ ar, aH = cM k ar ∧ iv b7 ar az
theorem CP (k : Nat) {R0 : aJ} {dst : Option Nat} {f : FuncId} {g : Operand} {aS : Array TypeId} {l : List Operand} {args : List ai} {cs : List AC} {iv : ai → List AC → aJ → Prop} [E : Enters P f] (hw : want ops ⟨dst, .call ⟨.value g, l.toArray, aS⟩, ty, pos, after, guard⟩ s = some true) (hm : dJ dr ⟨dst, .call ⟨.value g, l.toArray, aS⟩, ty, pos, after, guard⟩ = true)
  (aw : s.look g = some (aQ (.func (.func f) #[] #[]))) (aK : l.map s.look = (ai.w (.one (.own k 0)) :: args).map some) (hp : dn P f (.w (.one (.own k 0)) :: args) (cM k cs) R0 (nS k iv)) (af : s.mem k = some cs) (gZ : oP dr k = true) (aq : bH R0 R) (ak : cs.all AC.bc = true) (ek : args.all ai.bc = true) (hd : kH dst s.n = true)
  (h : ∀ v ar az, iv v ar az → cL P ops dr K rest (bZ az R) ((s.dV k ar).put dst v)) : cL P ops dr K (⟨dst, .call ⟨.value g, l.toArray, aS⟩, ty, pos, after, guard⟩ :: rest) R s := by
 refine u0 hw hm aw aK hp (fun x aa j ae => ?_) (fun k' ar aC => ?_) aq (fun k' ar x j aC aa ae => ?_) hd ?_
 ·rcases gI.1 aa with rfl | aa
  ·obtain ⟨y, ag, ae⟩ := ae;simp [bG.cells] at ag;subst ag;cases ae;exact ⟨cs, by unfold cM; exact cr _ _ _⟩
  ·exact absurd ae (ai.dw (cu.1 ek x aa) j)
 ·obtain ⟨rfl, rfl⟩ := hb aC;exact ⟨af, .inl gZ⟩
 ·obtain ⟨rfl, rfl⟩ := hb aC;exact absurd ae (AC.dw (cu.1 ak x aa) j)
 ·rintro v aH az ⟨ar, rfl, al⟩;refine ⟨fun k' c aC => ?_, ?_⟩
  ·obtain ⟨rfl, rfl⟩ := hb aC;exact .inl ⟨cs, by unfold cM; exact cr _ _ _⟩
  ·have aN : s.over (cM k ar) = s.dV k ar := by
    show ({ s with mem := bZ (bM ca k ar) s.mem } : aD) = { s with mem := bM s.mem k ar };rw [show bZ (bM ca k ar) s.mem = bM s.mem k ar from vl s.mem k ar]
   rw [aN];exact h v ar az al
theorem jV (k : Nat) {dst : Option Nat} {f : FuncId} {g : Operand} {aS : Array TypeId} {l : List Operand} {args : List ai} {cs ar : List AC} {v : ai} [E : Enters P f] (hw : want ops ⟨dst, .call ⟨.value g, l.toArray, aS⟩, ty, pos, after, guard⟩ s = some true) (hm : dJ dr ⟨dst, .call ⟨.value g, l.toArray, aS⟩, ty, pos, after, guard⟩ = true)
  (aw : s.look g = some (aQ (.func (.func f) #[] #[]))) (aK : l.map s.look = (ai.w (.one (.own k 0)) :: args).map some) (hp : dn P f (.w (.one (.own k 0)) :: args) (cM k cs) fk (nS k fun b7 ds az => b7 = v ∧ ds = ar ∧ az = fk)) (af : s.mem k = some cs) (gZ : oP dr k = true) (ak : cs.all AC.bc = true) (ek : args.all ai.bc = true) (hd : kH dst s.n = true)
  (h : cL P ops dr K rest R ((s.dV k ar).put dst v)) : cL P ops dr K (⟨dst, .call ⟨.value g, l.toArray, aS⟩, ty, pos, after, guard⟩ :: rest) R s := by
 refine CP k hw hm aw aK hp af gZ (fun i r h => by cases h) ak ek hd ?_;rintro _ _ _ ⟨rfl, rfl, rfl⟩;rw [show bZ fk R = R from O3 R];exact h
end
def BV (x : Int × b6) : List AC := [.c (.int .i64 x.2.1.1), .c (.int .i64 x.2.1.2), .c (.int .i64 x.2.2.1), .c (.int .i64 x.2.2.2), .c (.int .i64 x.1)]
def pe (l : List (Int × b6)) : List AC := l.flatMap BV
abbrev j9 (l : List (Int × b6)) : ai := cI 5 l.length (pe l)
theorem wx {l : List (Int × b6)} {i : Nat} {ii o a b c d : Int} (hi : ii = i) (h : l[i]? = some (o, (a, b), (c, d))) : ((pe l).drop (ii.toNat * 5)).take 5 = [.c (.int .i64 a), .c (.int .i64 b), .c (.int .i64 c), .c (.int .i64 d), .c (.int .i64 o)] := by
 subst hi; rw [kw]; exact Cc (f := BV) (fun _ => rfl) h
abbrev er (E : List (Int × b6)) (k rm ph I J T : Int) (dirty : Bool) (hv fv cv : Value) (b : Nat) (lk : AC) : List AC :=
 [.p (cz 5 E.length (pe E)), .c (.int .i64 k), .c (.int .i64 rm), .c (.int .i64 ph), .c (.int .i64 I), .c (.int .i64 J), .c (.int .i64 T), .c (.bool dirty), .c hv, .c fv, .c cv, .c (dP b), lk]
abbrev wk (v : Value) (l : List (List ao × List Int)) : bL := ⟨53, 2, v, l.length, eA l⟩
instance ahA : nU aj 43 53 2 48 := ⟨by kernel_rfl⟩
abbrev dG (b : Nat) (S : eZ) (hv fv cv : Value) (hot fnd : List ao) (ch : List (List ao × List Int)) : aJ := bM (bM (bM (bI 0 (hQ (dP b) S)) 1 (ie hv hot)) 2 (ie fv fnd)) 3 (wk cv ch)
theorem P4 {b bK : Nat} {S dd : eZ} {hv fv cv b4 c4 cU : Value} {hot fnd hot' fnd' : List ao} {ch ch' : List (List ao × List Int)} : bZ (dG bK dd b4 c4 cU hot' fnd' ch') (dG b S hv fv cv hot fnd ch) = dG bK dd b4 c4 cU hot' fnd' ch' := by
 funext i
 match i with
 | 0 => rfl
 | 1 => rfl
 | 2 => rfl
 | 3 => rfl
 | i + 4 => rfl
theorem e8 {b bK : Nat} {S dd : eZ} {hv fv cv b4 c4 cU : Value} {hot fnd hot' fnd' : List ao} {ch ch' : List (List ao × List Int)} : ∀ i r, dG b S hv fv cv hot fnd ch i = some r → ∃ a8, dG bK dd b4 c4 cU hot' fnd' ch' i = some a8
 | 0, _, _ => ⟨_, rfl⟩
 | 1, _, _ => ⟨_, rfl⟩
 | 2, _, _ => ⟨_, rfl⟩
 | 3, _, _ => ⟨_, rfl⟩
 | i + 4, _, h => by cases h
theorem adF {b : Nat} {S : eZ} {hv fv cv v : Value} {hot fnd l : List ao} {ch : List (List ao × List Int)} : bM (dG b S hv fv cv hot fnd ch) 1 (ie v l) = dG b S v fv cv l fnd ch := by
 funext i
 match i with
 | 0 => rfl
 | 1 => rfl
 | 2 => rfl
 | 3 => rfl
 | i + 4 => rfl
theorem IA {b c : Nat} {S dd : eZ} {hv fv cv : Value} {hot fnd : List ao} {ch : List (List ao × List Int)} : bM (dG b S hv fv cv hot fnd ch) 0 (hQ (dP c) dd) = dG c dd hv fv cv hot fnd ch := by
 funext i
 match i with
 | 0 => rfl
 | 1 => rfl
 | 2 => rfl
 | 3 => rfl
 | i + 4 => rfl
abbrev qZ : ai := .w (.one (.own 1000 0))
abbrev lu : ai := .cZ []
abbrev Ba (f : FuncId) (args : List ai) (cs : List AC) (v : ai) (ar : List AC) : Prop := dn aj f (qZ :: args) (cM 1000 cs) fk (nS 1000 fun b7 ds az => b7 = v ∧ ds = ar ∧ az = fk)
section
variable {E : List (Int × b6)} {k rm ph I J T : Int} {dirty : Bool} {hv fv cv : Value} {b : Nat} {lk : AC}
theorem C5 (an : lk.bc = true) (p j : Int) : Ba 102 [aW p, aW j] (er E k rm ph I J T dirty hv fv cv b lk) lu (er E k rm p 0 j 0 dirty hv fv cv b lk) := by
 have cX : (er E k rm p 0 j 0 dirty hv fv cv b lk).all AC.bc = true := by simp only [j1, mr, an]; rfl
 refine dk (f := 102) Tryz.func102 rfl (dh rfl) (by exact ej rfl) ?_;(repeat first | (with_reducible first | apply ba | apply aR | apply a7 | apply aU) | (with_reducible apply aM); exact rfl; (repeat first | (with_reducible apply aA); exact rfl | (with_reducible apply c3); (iterate 3 exact rfl)); (with_reducible apply aB))
 ((refine eI rfl bf rfl (bH.refl _) cX rfl (fun i r h => ⟨r, h⟩) ?_))
 exact ⟨_, rfl, rfl, rfl, rfl⟩
theorem HB (an : lk.bc = true) (p : Int) : Ba 57 [aW p] (er E k rm ph I J T dirty hv fv cv b lk) lu (er E k rm p 0 0 0 dirty hv fv cv b (.c (.slice none 0 0))) := by
 have cX : (er E k rm ph I J T dirty hv fv cv b lk).all AC.bc = true := by simp only [j1, mr, an]; rfl
 have aP := C5 (E := E) (k := k) (rm := rm) (ph := ph) (I := I) (J := J) (T := T) (dirty := dirty) (hv := hv) (fv := fv) (cv := cv) (b := b) an p 0;refine dk (f := 57) Tryz.func57 rfl (dh rfl) (by exact ej rfl) ?_;(repeat first | (with_reducible first | apply ba | apply a7) | (with_reducible apply aM); exact rfl; (repeat first | (with_reducible apply aA); exact rfl); (with_reducible apply aB));refine jV 1000 rfl rfl rfl rfl aP rfl rfl cX rfl rfl ?_;(repeat first | (with_reducible first | apply aR | apply a7 | apply aU) | (with_reducible apply aM); exact rfl; (repeat first | (with_reducible apply aA); exact rfl | (with_reducible apply c3); (iterate 3 exact rfl)); (with_reducible apply aB))
 ((refine eI rfl bf rfl (bH.refl _) rfl rfl (fun i r h => ⟨r, h⟩) ?_))
 exact ⟨_, rfl, rfl, rfl, rfl⟩
theorem zu (an : lk.bc = true) (n : Int) (bq : 0 ≤ I ∧ I ≤ 1000000) (ki : 0 ≤ J ∧ J ≤ 1000000) : Ba 120 [aW n] (er E k rm ph I J T dirty hv fv cv b lk) (bF (decide ((if J + 1 = n then I + 2 else J + 1) < n))) (er E k rm ph (if J + 1 = n then I + 1 else I) (if J + 1 = n then I + 2 else J + 1) T dirty hv fv cv b lk) := by
 have cX : ∀ I J : Int, (er E k rm ph I J T dirty hv fv cv b lk).all AC.bc = true := fun I J => by simp only [j1, mr, an]; rfl
 by_cases h : J + 1 = n
 ·rw [if_pos h, if_pos h];have e : I + 1 + 1 = I + 2 := by omega
  rw [← e];refine dk (f := 120) Tryz.func120 rfl (dh rfl) (by exact ej rfl) ?_;(repeat first | (with_reducible first | apply ba | apply aR | apply a7 | apply aU | apply db) | (with_reducible apply dz); exact rfl; (exact bB (by omega)) | (with_reducible apply aM); exact rfl; (repeat first | (with_reducible apply aA); exact rfl | (with_reducible apply c3); (iterate 3 exact rfl) | (with_reducible apply fh); (iterate 3 exact rfl); (exact da (by omega)); exact rfl); (with_reducible apply aB))
  ((refine eI rfl (bE rfl bf) rfl (bH.refl _) (cX _ _) rfl (fun i r h => ⟨r, h⟩) ?_))
  exact ⟨_, rfl, rfl, rfl, rfl⟩
 ·rw [if_neg h, if_neg h];refine dk (f := 120) Tryz.func120 rfl (dh rfl) (by exact ej rfl) ?_;(repeat first | (with_reducible first | apply ba | apply aR | apply a7 | apply aU | apply db | apply cS) | (with_reducible apply c6); exact rfl; (exact bR (by omega)) | (with_reducible apply aM); exact rfl; (repeat first | (with_reducible apply aA); exact rfl | (with_reducible apply c3); (iterate 3 exact rfl) | (with_reducible apply fh); (iterate 3 exact rfl); (exact da (by omega)); exact rfl); (with_reducible apply aB))
  ((refine eI rfl (bE rfl bf) rfl (bH.refl _) (cX _ _) rfl (fun i r h => ⟨r, h⟩) ?_))
  exact ⟨_, rfl, rfl, rfl, rfl⟩
theorem HC {r : Nat} (aq : r ≤ 28) (af : k = r) (an : lk.bc = true) {i : Nat} {o p1 p2 q1 q2 : Int} (h4 : E.length ≤ 1000) (h : E[i]? = some (o, (p1, p2), (q1, q2))) (hp : gQ (p1, p2) = true) (al : gQ (q1, q2) = true) :
  Ba 115 [aW i] (er E k rm ph I J T dirty hv fv cv b lk) (.cZ [.agg [.c (.int .i64 (ct p1 r)), .c (.int .i64 (ct p2 r))], .agg [.c (.int .i64 (ct q1 r)), .c (.int .i64 (ct q2 r))]]) (er E k rm ph I J T dirty hv fv cv b lk) := by
 have cX : (er E k rm ph I J T dirty hv fv cv b lk).all AC.bc = true := by simp only [j1, mr, an]; rfl
 obtain ⟨ji, ae⟩ : ∃ ji : Int, ji = i := ⟨_, rfl⟩;have bi := (bS.1 h).1;have g0 : 0 ≤ ji := by omega
 have g1 : ji < (E.length : Int) := by omega
 have iR := wx ae h;have hp := nz.1 hp;have al := nz.1 al;have ay : gw (r : Int) r := ⟨aq, .inr (.inr rfl)⟩;have aP := Pe (x := p1) (y := p2) ay (by omega) (by omega) (by omega) (by omega);have cc := Pe (x := q1) (y := q2) ay (by omega) (by omega) (by omega) (by omega);rw [← af] at aP cc;rw [show aW (i : Int) = aW ji by rw [ae]];clear hp al ay ae h;generalize ct p1 r = a at *;generalize ct p2 r = a' at *;generalize ct q1 r = c at *;generalize ct q2 r = c' at *;refine dk (f := 115) Tryz.func115 rfl (dh rfl) (by exact ej rfl) ?_;(repeat first | (with_reducible apply ev); kernel_rfl | (with_reducible apply dR (id := 2) [0,1,2,3,4,5,6,7,8,9,10,11,12,13,14,15,16,17]); kernel_rfl; kernel_rfl; exact rfl | (with_reducible first | apply ba | apply aR | apply a7 | apply aU | apply db) | (with_reducible apply aM); exact rfl; (repeat first | (with_reducible apply aA); exact rfl | (with_reducible apply fZ); (iterate 5 exact rfl) | (with_reducible apply e7); (iterate 3 exact rfl); (omega); (omega); (assumption); exact rfl | (with_reducible apply c3); (iterate 3 exact rfl) | refine dM rfl rfl rfl rfl (by (first | exact aP | exact cc)) rfl ?_); (with_reducible apply aB))
 ((refine eI rfl (eV rfl rfl rfl (eV rfl rfl rfl bf)) rfl (bH.refl _) cX rfl (fun i r h => ⟨r, h⟩) ?_))
 exact ⟨_, rfl, rfl, rfl, rfl⟩
end
def dv (E : List (Int × b6)) (r rm : Nat) (s : bx.aT ao) (cs : List AC) (R : aJ) : Prop := ∃ (hv fv cv : Value) (b : Nat) (S : eZ) (lk : AC), sS rm s.hot (dP b) S ∧ lk.bc = true ∧ (s.ph = 3 → lk = .p (cz 4 (bb s.ch).length (mh (bb s.ch)))) ∧ cs = er E r rm s.ph s.I s.J s.T s.dirty hv fv cv b lk ∧ R = dG b S hv fv cv s.hot s.fnd s.ch
def fT (E : List (Int × b6)) (r rm : Nat) (f : FuncId) (args : List ai) (s : bx.aT ao) (v : ai) (s' : bx.aT ao) : Prop :=
 ∀ cs R, dv E r rm s cs R → dn aj f (qZ :: args) (cM 1000 cs) R (nS 1000 fun b7 ar az => b7 = v ∧ dv E r rm s' ar az)
abbrev bz (E : List (Int × b6)) (r rm : Nat) : cG ao := pE (E.map Prod.snd) r rm
theorem bH.of_eq {R az : aJ} (h : R = az) : bH R az := by rw [h]; exact bH.refl _
theorem adG {b : Nat} {S : eZ} {hv fv cv v : Value} {hot fnd l : List ao} {ch : List (List ao × List Int)} : bM (dG b S hv fv cv hot fnd ch) 2 (ie v l) = dG b S hv v cv hot l ch := by
 funext i
 match i with
 | 0 => rfl
 | 1 => rfl
 | 2 => rfl
 | 3 => rfl
 | i + 4 => rfl
theorem adI {b : Nat} {S : eZ} {hv fv cv v : Value} {hot fnd : List ao} {ch : List (List ao × List Int)} {x y : Int} : bM (dG b S hv fv cv hot fnd ch) 1 ⟨59, 2, v, hot.length + 1, b3 hot ++ [.c (.int .i64 x), .c (.int .i64 y)]⟩ = dG b S v fv cv (hot ++ [(x, y)]) fnd ch :=
 (congrArg (bM (dG b S hv fv cv hot fnd ch) 1) (PM v hot (x, y)).symm).trans adF
theorem adH {b : Nat} {S : eZ} {hv fv cv v : Value} {hot fnd : List ao} {ch : List (List ao × List Int)} {x y : Int} : bM (dG b S hv fv cv hot fnd ch) 2 ⟨59, 2, v, fnd.length + 1, b3 fnd ++ [.c (.int .i64 x), .c (.int .i64 y)]⟩ = dG b S hv v cv hot (fnd ++ [(x, y)]) ch :=
 (congrArg (bM (dG b S hv fv cv hot fnd ch) 2) (PM v fnd (x, y)).symm).trans adG
theorem Xx {E : List (Int × b6)} {r rm : Nat} {s : bx.aT ao} {x y : Int} : (p9 rm s.hot x y = (df (bz E r rm) s (x, y)).hot) ∧ (mY rm s.hot x y = true → df (bz E r rm) s (x, y) = { s with hot := s.hot ++ [(x, y)] } ∧ mZ rm s.hot x y = 0) ∧ (mY rm s.hot x y = false → mZ rm s.hot x y = 0 → df (bz E r rm) s (x, y) = s) ∧ (mZ rm s.hot x y = 0 ∨ (mZ rm s.hot x y = 90 ∧ mY rm s.hot x y = false ∧ df (bz E r rm) s (x, y) = e3 s 5 0 0)) := by
 unfold p9 mY mZ df
 by_cases h : (x, y) ∈ s.hot
 ·rw [if_pos (tO.2 h), if_pos (tO.2 h), if_pos (tO.2 h), if_pos h];exact ⟨rfl, fun h => (by cases h), fun _ _ => rfl, .inl rfl⟩
 ·have aC : ¬ 0 ≤ kU s.hot x y := fun aY => h (tO.1 aY);rw [if_neg aC, if_neg aC, if_neg aC, if_neg h]
  by_cases an : (rm : Int) ≤ (s.hot.length : Int)
  ·have hq : ¬ s.hot.length < (bz E r rm).R := by show ¬ s.hot.length < rm; omega
   rw [if_pos an, if_pos an, if_pos an, if_neg hq];exact ⟨rfl, fun h => (by cases h), fun _ h => (by cases h), .inr ⟨rfl, rfl, rfl⟩⟩
  ·have hq : s.hot.length < (bz E r rm).R := by show s.hot.length < rm; omega
   rw [if_neg an, if_neg an, if_neg an, if_pos hq];exact ⟨rfl, fun _ => ⟨rfl, rfl⟩, fun h => (by cases h), .inl rfl⟩
theorem HD {E : List (Int × b6)} {r rm : Nat} {s : bx.aT ao} {x y : Int} (an : s.hot.length ≤ 1100) (au : s.fnd = []) (gO : s.ph ≠ 5) : fT E r rm 116 [bh x y] s (bF (!Nat.beq (df (bz E r rm) s (x, y)).ph 5)) (df (bz E r rm) s (x, y)) := by
 obtain ⟨ph, I, J, T, dirty, hot, fnd, ch⟩ := s;obtain rfl : fnd = [] := au;have an : hot.length ≤ 1100 := an
 have gO : Nat.beq ph 5 = false := by
  cases h : Nat.beq ph 5 with
  | false => rfl
  | true => exact absurd (gS h) gO
 obtain ⟨h1, h2, ap, aL⟩ := Xx (E := E) (r := r) (rm := rm) (s := ⟨ph, I, J, T, dirty, hot, [], ch⟩) (x := x) (y := y);rintro cs R ⟨hv, fv, cv, b, S, lk, hS, cQ, fQ, rfl, rfl⟩;have aP := Zi (rm : Int) hot b S x y hS an;have cX : ∀ hv, (er E r rm ph I J T dirty hv fv cv b lk).all AC.bc = true := fun hv => by simp only [j1, mr, cQ]; rfl
 have cc := HB (E := E) (k := r) (rm := rm) (ph := ph) (I := I) (J := J) (T := T) (dirty := dirty) (hv := hv) (fv := fv) (cv := cv) (b := b) cQ 5;simp only at h1 h2 ap aL fQ;rw [h1] at aP;rcases aL with aL | ⟨aL, dx, gd⟩
 ·rw [aL] at aP;cases ab : mY rm hot x y with
  | true =>
   rw [ab] at aP;rw [(h2 ab).1] at aP ⊢;simp only at aP ⊢;rw [gO];have aI : (hot ++ [(x, y)]).length = hot.length + 1 := by rw [cR]; rfl
   refine dk (f := 116) Tryz.func116 rfl (dh rfl) (by exact ej rfl) ?_;(repeat first | (with_reducible apply lr (id := 1) [0,1,2,3,4,5,6,7,8,9,10] [13]); kernel_rfl; kernel_rfl; exact rfl | (with_reducible first | apply ba | apply aR | apply a7 | apply aU) | (with_reducible apply aM); exact rfl; (repeat first | (with_reducible apply aA); exact rfl | (with_reducible apply c3); (iterate 3 exact rfl)); (with_reducible apply aB));refine ze 0 rfl rfl rfl rfl aP rfl rfl rfl (fun v dd h => ?_);obtain ⟨rfl, fj⟩ := h;rw [IA];(repeat first | (with_reducible apply ev); kernel_rfl | (with_reducible apply lr (id := 6) [0,1,2,3,4,5,6,7,8,9,10,11,12] [3000028]); kernel_rfl; kernel_rfl; exact rfl | (with_reducible first | apply ba | apply aR | apply a7 | apply aU | apply cS) | (with_reducible apply dz); exact rfl; (exact rfl) | (with_reducible apply c6); exact rfl; (exact rfl) | (with_reducible apply aM); exact rfl; (repeat first | (with_reducible apply aA); exact rfl | (with_reducible apply c3); (iterate 3 exact rfl) | (with_reducible apply l5); (iterate 10 exact rfl)); (with_reducible apply aB));refine qx 1 rfl rfl rfl rfl ?q1 ?q2 rfl rfl (fun v1 iF => ?_)
   case q1 => exact kR (by show hot.length + 1 ≤ 1000000; omega)
   case q2 => show (hot.length + 1) * 16 ≤ 140737488355328; omega
   (repeat first | (with_reducible apply ev); kernel_rfl | (with_reducible first | apply ba | apply aR | apply a7 | apply aU | apply db) | (with_reducible apply aM); exact rfl; (repeat first | (with_reducible apply aA); exact rfl | (with_reducible apply c3); (iterate 3 exact rfl)); (with_reducible apply aB))
   ((refine eI rfl (bE rfl bf) rfl (bH.of_eq (adI (x := x) (y := y)).symm) (cX v1) rfl e8 ?_))
   exact ⟨_, rfl, rfl, v1, fv, cv, b, dd, lk, fj, cQ, fQ, rfl, rfl⟩
  | false =>
   rw [ab] at aP;rw [ap ab aL] at aP ⊢;simp only at aP ⊢;rw [gO];refine dk (f := 116) Tryz.func116 rfl (dh rfl) (by exact ej rfl) ?_;(repeat first | (with_reducible apply lr (id := 1) [0,1,2,3,4,5,6,7,8,9,10] [13]); kernel_rfl; kernel_rfl; exact rfl | (with_reducible first | apply ba | apply aR | apply a7 | apply aU) | (with_reducible apply aM); exact rfl; (repeat first | (with_reducible apply aA); exact rfl | (with_reducible apply c3); (iterate 3 exact rfl)); (with_reducible apply aB));refine ze 0 rfl rfl rfl rfl aP rfl rfl rfl (fun v dd h => ?_);obtain ⟨rfl, fj⟩ := h;rw [IA];(repeat first | (with_reducible apply ev); kernel_rfl | (with_reducible first | apply ba | apply aR | apply a7 | apply aU | apply db | apply cS) | (with_reducible apply c6); exact rfl; (exact rfl) | (with_reducible apply aM); exact rfl; (repeat first | (with_reducible apply aA); exact rfl); (with_reducible apply aB))
   ((refine eI rfl (bE rfl bf) rfl (bH.refl _) (cX _) rfl e8 ?_))
   exact ⟨_, rfl, rfl, hv, fv, cv, b, dd, lk, fj, cQ, fQ, rfl, rfl⟩
 ·rw [aL, dx] at aP;rw [gd] at aP ⊢;simp only [e3] at aP ⊢;rw [show (!Nat.beq 5 5) = false from rfl];refine dk (f := 116) Tryz.func116 rfl (dh rfl) (by exact ej rfl) ?_;(repeat first | (with_reducible apply lr (id := 1) [0,1,2,3,4,5,6,7,8,9,10] [13]); kernel_rfl; kernel_rfl; exact rfl | (with_reducible first | apply ba | apply aR | apply a7 | apply aU) | (with_reducible apply aM); exact rfl; (repeat first | (with_reducible apply aA); exact rfl | (with_reducible apply c3); (iterate 3 exact rfl)); (with_reducible apply aB));refine ze 0 rfl rfl rfl rfl aP rfl rfl rfl (fun v dd h => ?_);obtain ⟨rfl, fj⟩ := h;rw [IA];(repeat first | (with_reducible apply ev); kernel_rfl | (with_reducible first | apply ba | apply aR | apply a7 | apply aU) | (with_reducible apply dz); exact rfl; ((simp only [iz]; (omega))) | (with_reducible apply aM); exact rfl; (repeat first | (with_reducible apply aA); exact rfl); (with_reducible apply aB));refine jV 1000 rfl rfl rfl rfl cc rfl rfl (cX _) rfl rfl ?_;(repeat first | (with_reducible first | apply ba | apply aR | apply a7 | apply aU | apply db | apply hh) | (with_reducible apply aM); exact rfl; (repeat first | (with_reducible apply aA); exact rfl); (with_reducible apply aB))
  ((refine eI rfl (bE rfl bf) rfl (bH.refl _) rfl rfl e8 ?_))
  exact ⟨_, rfl, rfl, hv, fv, cv, b, dd, .c (.slice none 0 0), fj, rfl, fun h => (by cases h), rfl, rfl⟩
section
variable {P : Program} {R : aJ} {s : aD} {ops : Array Oper} {dr : Option (List Nat)} {ty : Nat} {pos : String} {after : Array Edge} {guard : Option (Nat × Bool)} {K : aJ → aD → Prop} {rest : List Oper}
theorem dv.closed {E : List (Int × b6)} {r rm : Nat} {s : bx.aT ao} {cs : List AC} {R : aJ} (h : dv E r rm s cs R) : cs.all AC.bc = true := by
 obtain ⟨hv, fv, cv, b, S, lk, _, cQ, _, rfl, _⟩ := h;simp only [j1, mr, cQ]; rfl
theorem dv.bZ {E : List (Int × b6)} {r rm : Nat} {s s' : bx.aT ao} {cs ar : List AC} {R az : aJ} (h : dv E r rm s cs R) (aC : dv E r rm s' ar az) : Go.Proofs.YtpochbhajmbfdaaGreat.bZ az R = az := by
 obtain ⟨_, _, _, _, _, _, _, _, _, _, rfl⟩ := h;obtain ⟨_, _, _, _, _, _, _, _, _, _, rfl⟩ := aC;exact P4
theorem hM {E : List (Int × b6)} {r rm : Nat} {eF s1 : bx.aT ao} {v : ai} {dst : Option Nat} {f : FuncId} {g : Operand} {aS : Array TypeId} {l : List Operand} {args : List ai} {cs : List AC} [EM : Enters aj f] (hw : want ops ⟨dst, .call ⟨.value g, l.toArray, aS⟩, ty, pos, after, guard⟩ s = some true) (hm : dJ dr ⟨dst, .call ⟨.value g, l.toArray, aS⟩, ty, pos, after, guard⟩ = true)
  (aw : s.look g = some (aQ (.func (.func f) #[] #[]))) (aK : l.map s.look = (qZ :: args).map some) (af : s.mem 1000 = some cs) (gZ : oP dr 1000 = true) (ek : args.all ai.bc = true) (hd : kH dst s.n = true) (hp : fT E r rm f args eF v s1) (bq : dv E r rm eF cs R)
  (h : ∀ ar az, dv E r rm s1 ar az → cL aj ops dr K rest az ((s.dV 1000 ar).put dst v)) : cL aj ops dr K (⟨dst, .call ⟨.value g, l.toArray, aS⟩, ty, pos, after, guard⟩ :: rest) R s := by
 refine CP 1000 hw hm aw aK (hp cs R bq) af gZ (bH.refl _) bq.closed ek hd ?_;rintro _ ar az ⟨rfl, aC⟩;rw [bq.bZ aC];exact h ar az aC
end
theorem Qw (n d : Int) (r : Nat) (hd : 0 < d) : kX n d r = fw (2 ^ r) n d := by
 rw [← aeH r hd];unfold fw;congr 1
 ·rw [jE d]; omega
 ·rw [Int.pow_succ, jE d];rw [lp, jE 2 d, ← lp, jE (2 ^ r * d) 2]
def lS (r : Nat) (M : fz) : Option ao := if M.k = 1 then some (ic r M) else none
theorem F1 {n : Int} (h : -19342813113834066795298816 ≤ n ∧ n ≤ 19342813113834066795298816) : fits n = true := by
 unfold fits; rw [cB]; omega
theorem Nw {E : List (Int × b6)} {r rm : Nat} {s : bx.aT ao} {M : fz} (aq : r ≤ 28) (iW : A0 M) (lf : M.k = 1 → eO r (ic r M).1 (ic r M).2 = true) (an : s.hot.length ≤ 1100) (au : s.fnd = []) (gO : s.ph ≠ 5) : fT E r rm 118 [nO M] s (bF (!Nat.beq (jS (bz E r rm) s (lS r M)).ph 5)) (jS (bz E r rm) s (lS r M)) := by
 intro cs R bq
 have Ye : Nat.beq s.ph 5 = false := by
  cases h : Nat.beq s.ph 5 with
  | false => rfl
  | true => exact absurd (gS h) gO
 have ak := bq.closed
 by_cases h1 : M.k = 1
 ·rcases iW with rfl | ⟨x, y, d, rfl, hd, Cv, aa, ag⟩ | ⟨f1, f2, g1, g2, rfl⟩
  ·simp [ht] at h1
  ·have lf := lf rfl;have ay : gw (r : Int) r := ⟨aq, .inr (.inr rfl)⟩;have fd := F1 (n := d) (by omega);have ex := Qw x d r hd;have kg := Qw y d r hd
   have aP := abR (n := x) (d := d) (n' := y) (d' := d) ay (F1 aa) fd (F1 ag) fd (b := true) (by
    unfold sH;rw [bB hd, ex, kg];unfold eO ic iK at lf;simp only at lf;rw [qO, qO]; exact lf)
   simp only [if_true, ex, kg] at aP;have cc := HD (E := E) (r := r) (rm := rm) (s := s) (x := fw (2 ^ r) x d) (y := fw (2 ^ r) y d) an au gO;rw [show lS r (iK x d y d) = some (fw (2 ^ r) x d, fw (2 ^ r) y d) from rfl];show dn _ _ _ _ _ (nS 1000 fun b7 ar az => b7 = bF (!Nat.beq (df (bz E r rm) s (fw (2 ^ r) x d, fw (2 ^ r) y d)).ph 5) ∧ dv E r rm (df (bz E r rm) s (fw (2 ^ r) x d, fw (2 ^ r) y d)) ar az);generalize df (bz E r rm) s (fw (2 ^ r) x d, fw (2 ^ r) y d) = s1 at *;generalize fw (2 ^ r) x d = X at *;generalize fw (2 ^ r) y d = Y at *;generalize (!Nat.beq s1.ph 5) = b7 at *;obtain ⟨hv, fv, cv, b, S, lk, hS, cQ, fQ, rfl, rfl⟩ := id bq;unfold iK;refine dk (f := 118) Tryz.func118 rfl (dh rfl) (by exact ej rfl) ?_;(repeat first | (with_reducible apply ev); kernel_rfl | (with_reducible apply dR (id := 3) [13,0,1,2,3,4,5,6,7,8,9,10,11,12,14,15]); kernel_rfl; kernel_rfl; exact rfl | (with_reducible first | apply ba | apply aR | apply a7 | apply aU | apply cS) | (with_reducible apply c6); exact rfl; (exact rfl) | (with_reducible apply aM); exact rfl; (repeat first | (with_reducible apply aA); exact rfl | (with_reducible apply c3); (iterate 3 exact rfl) | refine jP rfl rfl rfl rfl rfl (by (exact aP)) rfl ?_); (with_reducible apply aB));refine hM rfl rfl rfl rfl rfl rfl rfl rfl cc bq (fun ar az cg => ?_);(repeat first | (with_reducible first | apply aR | apply aU | apply db) | (with_reducible apply aM); exact rfl; (repeat first | (with_reducible apply aA); exact rfl); (with_reducible apply aB));obtain ⟨b4, c4, cU, bK, dd, gF, fj, gM, h7, rfl, rfl⟩ := id cg
   ((refine eI rfl (bE rfl bf) rfl (bH.refl _) cg.closed rfl e8 ?_))
   exact ⟨_, rfl, rfl, cg⟩
  ·simp [sT] at h1
 ·rw [show lS r M = none from if_neg h1];show dn _ _ _ _ _ (nS 1000 fun b7 ar az => b7 = bF (!Nat.beq s.ph 5) ∧ dv E r rm s ar az);rw [Ye, Bool.not_false];obtain ⟨mk, HT, md, du, HO, HU, HV, HW, HX⟩ := M;have h1 : ¬ mk = 1 := h1;obtain ⟨hv, fv, cv, b, S, lk, hS, cQ, fQ, rfl, rfl⟩ := id bq;refine dk (f := 118) Tryz.func118 rfl (dh rfl) (by exact ej rfl) ?_;(repeat first | (with_reducible first | apply ba | apply aR | apply a7 | apply aU | apply db | apply hh) | (with_reducible apply dz); exact rfl; ((simp only [iz]; (omega))) | (with_reducible apply aM); exact rfl; (repeat first | (with_reducible apply aA); exact rfl); (with_reducible apply aB))
  ((refine eI rfl (bE rfl bf) rfl (bH.refl _) ak rfl e8 ?_))
  exact ⟨_, rfl, rfl, bq⟩
theorem SH {ch : List (List ao × List Int)} (ak : ∀ c ∈ ch, c.1.length = c.2.length + 1 ∧ c.1.length ≤ 1100) (an : ch.length ≤ 300) : oS aj 91 [sK ch] (fun v q => v = aQ q.v ∧ q = sa q.v (bb ch)) := by
 refine Fc rfl (fun v q h => by obtain ⟨rfl, _⟩ := h; rfl) ?_;refine dk (f := 91) Tryz.func91 rfl (dh rfl) (by exact n2) ?_;(repeat first | (with_reducible first | apply ba | apply aR | apply a7 | apply aU | apply eM) | (with_reducible apply aM); exact rfl; (repeat first | (with_reducible apply aA); exact rfl | (with_reducible apply dC); (iterate 3 exact rfl)); (with_reducible apply aB));refine nK 0 167 4 rfl ?_
 skip
 refine ls 28 (R2 ch) ch.length (bI 0 (sa (.slice none 0 0) [])) _ [] ⟨0, 0, .slice none 0 0, eC _, rfl, rfl, rfl, rfl, rfl⟩ (nI _ _ _) rfl ⟨rfl, rfl, rfl, rfl, trivial⟩ trivial rfl ?_;rintro n R aS bD ⟨i, ii, v, hi, rfl, gX, rfl, rfl, rfl⟩ dU;clear dU
 by_cases al : i < ch.length
 ·have q2 : ii < (ch.length : Int) := by omega
  have b5 : 0 ≤ ii := by omega
  obtain ⟨c, g1⟩ : ∃ c, ch[i]? = some c := ⟨_, cm al⟩;obtain ⟨jR, h6⟩ := ak c (dF g1);have iR := yk gX g1
  have ahj : (bb (ch.take i)).length ≤ 300 * 1100 := by
   refine ln (Dg (m := 1100) fun c tr => (ak c (oM tr)).2) (jZ _ ?_);rw [eg]; omega
  have cC : bb (ch.take (i + 1)) = bb (ch.take i) ++ iH c.1 := by
   rw [nF al, De, show ch[i] = c from mo ((cm al).symm.trans g1)];simp [bb]
  have Mt : (iH c.1).length = c.2.length := by rw [sb]; omega
  obtain ⟨V, D⟩ := c;simp only at jR h6 iR cC Mt;generalize bb (ch.take i) = pre at *;(repeat first | (with_reducible first | apply ba | apply aR | apply a7 | apply aU | apply cS | apply eM) | (with_reducible apply dz); exact rfl; (exact bB (by omega)) | (with_reducible apply aM); exact rfl; (repeat first | (with_reducible apply aA); exact rfl | (with_reducible apply fZ); (iterate 5 exact rfl) | (with_reducible apply e7); (iterate 3 exact rfl); (omega); (omega); (assumption); exact rfl | (with_reducible apply dC); (iterate 3 exact rfl)); (with_reducible apply aB));refine ls 28 (R1 ch V D ii pre) D.length (bI 0 (sa v pre)) _ [(5, [.p (cz 2 V.length (b3 V)), .p (cz 1 D.length (cD D))])] ⟨0, 0, v, eC _, rfl, rfl, by simp, rfl, rfl⟩ (bH.refl _) rfl ⟨rfl, rfl, rfl, rfl, rfl, rfl, rfl, trivial⟩ ⟨rfl, trivial⟩ rfl ?_;rintro n R aS bD ⟨j, fb, v, ae, rfl, iX, rfl, rfl, rfl⟩ dU;clear dU;have gZ : ((iH V).take j).length = j := by rw [eg]; omega
  by_cases hs : j < D.length
  ·have s2 : fb < (D.length : Int) := by omega
   obtain ⟨a, b, g2⟩ : ∃ a b, V[j]? = some (a, b) := ⟨_, _, cm (by omega)⟩;obtain ⟨c, d, g3⟩ : ∃ a b, V[j + 1]? = some (a, b) := ⟨_, _, cm (by omega)⟩;have aP := Pm (D := D) g2 g3 (by omega);rw [← iX] at aP
   have eH : pre ++ (iH V).take (j + 1) = (pre ++ (iH V).take j) ++ [((a, b), (c, d))] := by
    have h1 : j + 1 < V.length := by omega
    have h2 := aae h1;rw [show V[j] = (a, b) from mo ((cm (by omega)).symm.trans g2), show V[j + 1] = (c, d) from mo ((cm (by omega)).symm.trans g3)] at h2;obtain ⟨ap, aL⟩ := bS.1 h2;rw [nF ap, aL, ig]
   have hlen : (pre ++ (iH V).take j).length ≤ 300 * 1100 + 1100 := by rw [cR, gZ]; omega
   (repeat first | (with_reducible first | apply ba | apply aR | apply a7 | apply aU | apply cS | apply eM) | (with_reducible apply dz); exact rfl; (exact bB (by omega)) | (with_reducible apply aM); exact rfl; (repeat first | (with_reducible apply aA); exact rfl | (with_reducible apply l5); (iterate 10 exact rfl) | refine dM rfl rfl rfl rfl (by (exact aP)) rfl ?_); (with_reducible apply aB));refine qx 0 rfl rfl rfl rfl ?q1 ?q2 rfl rfl (fun aZ b4 => ?_)
   case q1 => exact kR (by show (pre ++ (iH V).take j).length + 1 ≤ 1000000; omega)
   case q2 => show ((pre ++ (iH V).take j).length + 1) * 32 ≤ 140737488355328; omega
   (repeat first | (with_reducible first | apply aR | apply a7 | apply aU | apply j3) | (with_reducible apply aM); exact rfl; (repeat first | (with_reducible apply aA); exact rfl | (with_reducible apply fh); (iterate 3 exact rfl); (exact da (by omega)); exact rfl); (with_reducible apply aB));exact ⟨D.length - (j + 1), bI 0 (sa aZ (pre ++ (iH V).take (j + 1))), _, [(5, [.p (cz 2 V.length (b3 V)), .p (cz 1 D.length (cD D))])], by omega, ⟨j + 1, fb + 1, aZ, by omega, rfl, by omega, rfl, rfl, rfl⟩, by rw [eH, aab]; exact nI _ _ _, rfl, ⟨rfl, rfl, rfl, rfl, rfl, rfl, rfl, trivial⟩, ⟨rfl, trivial⟩, rfl⟩
  ·have s2 : ¬ fb < (D.length : Int) := by omega
   have k6 : (iH V).take j = iH V := hA (by omega);rw [k6, ← cC];(repeat first | (with_reducible first | apply ba | apply aR | apply a7 | apply aU | apply j3 | apply j4 | apply j6 | apply j5) | (with_reducible apply c6); exact rfl; (exact bR (by omega)) | (with_reducible apply aM); exact rfl; (repeat first | (with_reducible apply aA); exact rfl | (with_reducible apply fh); (iterate 3 exact rfl); (exact da (by omega)); exact rfl); (with_reducible apply aB));exact ⟨ch.length - (i + 1), bI 0 (sa v (bb (ch.take (i + 1)))), _, [], by omega, ⟨i + 1, ii + 1, v, by omega, rfl, by omega, rfl, rfl, rfl⟩, bH.refl _, rfl, ⟨rfl, rfl, rfl, rfl, trivial⟩, trivial, rfl⟩
 ·have q2 : ¬ ii < (ch.length : Int) := by omega
  have dp : ch.take i = ch := hA (by omega);rw [dp];(repeat first | (with_reducible first | apply ba | apply aR | apply a7 | apply aU | apply db | apply j4 | apply j6 | apply j5) | (with_reducible apply c6); exact rfl; (exact bR (by omega)) | (with_reducible apply aM); exact rfl; (repeat first | (with_reducible apply aA); exact rfl); (with_reducible apply aB))
  ((refine yT rfl (bE rfl bf) rfl rfl (jd _) ?_))
  exact ⟨rfl, rfl⟩
theorem aac (l : List (ao × ao)) : uf (mh l) := .of fun y ag => by
 obtain ⟨x, _, aa⟩ := List.mem_flatMap.1 ag;simp only [w6, gI, qK, or_false] at aa;rcases aa with rfl | rfl | rfl | rfl <;> exact ⟨_, rfl⟩
theorem BK {l : List (List ao × List Int)} {i : Nat} {ii : Int} {V : List ao} {D : List Int} (hi : ii = i) (h : l[i]? = some (V, D)) : (ii.toNat * 2 + 2 ≤ (eA l).length ∧ ((eA l).drop (ii.toNat * 2)).take 2 = [.p (cz 2 V.length (b3 V)), .p (cz 1 D.length (cD D))]) ∧ (eA l)[ii.toNat * 2 + 1]? = some (.p (cz 1 D.length (cD D))) := by
 have h2 := yk hi h
 have h1 : ii.toNat * 2 + 2 ≤ (eA l).length := by
  have := Cd (f := o9) (z := 2) (fun _ => rfl) l;unfold eA;rw [this];have := (bS.1 h).1;omega
 refine ⟨⟨h1, h2⟩, ?_⟩;have ap : (((eA l).drop (ii.toNat * 2)).take 2)[1]? = some (.p (cz 1 D.length (cD D))) := by rw [h2]; rfl
 rw [fK (by decide), gj] at ap;exact ap
theorem YV {l : List ao} {i : Nat} {ii x y : Int} (hi : ii = i) (h : l[i]? = some (x, y)) : ii.toNat * 2 + 2 ≤ (b3 l).length ∧ ((b3 l).drop (ii.toNat * 2)).take 2 = [.c (.int .i64 x), .c (.int .i64 y)] := by
 have := (bS.1 h).1;refine ⟨by rw [nw]; omega, va hi h⟩
section
variable {E : List (Int × b6)} {r rm : Nat}
def kb (ch : List (List ao × List Int)) : Prop := ch.length ≤ 300 ∧ ∀ c ∈ ch, c.1.length = c.2.length + 1 ∧ c.1.length ≤ 1100
theorem Nz {s : bx.aT ao} (hd : s.dirty = false) (au : s.fnd = []) : fT E r rm 130 [] s lu (e3 s 4 0 0) := by
 obtain ⟨ph, I, J, T, dirty, hot, fnd, ch⟩ := s;obtain rfl : dirty = false := hd;obtain rfl : fnd = [] := au;rintro cs R ⟨hv, fv, cv, b, S, lk, hS, cQ, fQ, rfl, rfl⟩;have cX : (er E r rm ph I J T false hv fv cv b lk).all AC.bc = true := by simp only [j1, mr, cQ]; rfl
 have cc := HB (E := E) (k := r) (rm := rm) (ph := ph) (I := I) (J := J) (T := T) (dirty := false) (hv := hv) (fv := fv) (cv := cv) (b := b) cQ 4;refine dk (f := 130) Tryz.func130 rfl (dh rfl) (by exact ej rfl) ?_;(repeat first | (with_reducible first | apply ba | apply aR | apply a7 | apply aU) | (with_reducible apply dz); exact rfl; (exact rfl) | (with_reducible apply aM); exact rfl; (repeat first | (with_reducible apply aA); exact rfl | (with_reducible apply c3); (iterate 3 exact rfl)); (with_reducible apply aB));refine jV 1000 rfl rfl rfl rfl cc rfl rfl cX rfl rfl ?_;(repeat first | (with_reducible first | apply aR | apply aU | apply db | apply hh))
 ((refine eI rfl bf rfl (bH.refl _) rfl rfl e8 ?_))
 exact ⟨_, rfl, rfl, hv, fv, cv, b, S, .c (.slice none 0 0), hS, rfl, fun h => (by cases h), rfl, rfl⟩
theorem ZE {s : bx.aT ao} (hd : s.dirty = false) (au : s.fnd = []) (ak : kb s.ch) : fT E r rm 179 [] s lu (if (bb s.ch).length < 2 then e3 s 4 0 0 else e3 s 3 0 1) := by
 obtain ⟨ph, I, J, T, dirty, hot, fnd, ch⟩ := s;obtain rfl : dirty = false := hd;obtain rfl : fnd = [] := au;have ak : kb ch := ak;rintro cs R ⟨hv, fv, cv, b, S, lk, hS, cQ, fQ, rfl, rfl⟩;have cX : (er E r rm ph I J T false hv fv cv b lk).all AC.bc = true := by simp only [j1, mr, cQ]; rfl
 have aP := C5 (E := E) (k := r) (rm := rm) (ph := ph) (I := I) (J := J) (T := T) (dirty := false) (hv := hv) (fv := fv) (cv := cv) (b := b) cQ 3 1;have cc := SH (ch := ch) ak.2 ak.1;have e5 := Nz (E := E) (r := r) (rm := rm) (s := ⟨3, 0, 1, 0, false, hot, [], ch⟩) rfl rfl;simp only;have Ml := aac (bb ch);have cO := Uj ch;have hS : sS rm hot (dP b) S := hS;generalize iB : bb ch = L at *
 by_cases h2 : L.length < 2
 ·rw [if_pos h2];have wG : (1 : Int) ≥ (L.length : Int) := by omega
  refine dk (f := 179) Tryz.func179 rfl (dh rfl) (by exact ej rfl) ?_;(repeat first | (with_reducible first | apply ba | apply a7) | (with_reducible apply aM); exact rfl; (repeat first | (with_reducible apply aA); exact rfl); (with_reducible apply aB));refine jV 1000 rfl rfl rfl rfl aP rfl rfl cX rfl rfl ?_;(repeat first | (with_reducible first | apply ba | apply aR | apply a7 | apply aU) | (with_reducible apply aM); exact rfl; (repeat first | (with_reducible apply aA); exact rfl | (with_reducible apply c3); (iterate 3 exact rfl)); (with_reducible apply aB));refine MQ 3 9 (by decide) rfl rfl rfl rfl cc rfl (jd _) (fun y ag => cu.1 cO y ag) rfl rfl (fun v q h => ?_) (fun q h => ?_)
  ·obtain ⟨rfl, h⟩ := h;rw [h]; exact ⟨rfl, Ml⟩
  obtain ⟨_, h⟩ := h;rw [h];(repeat first | (with_reducible apply ev); kernel_rfl | (with_reducible apply dR (id := 2) [0,1,2,3,4,5,6,7,8,9,10]); kernel_rfl; kernel_rfl; exact rfl | (with_reducible first | apply ba | apply aR | apply a7 | apply aU) | (with_reducible apply dz); exact rfl; (exact bB (by omega)) | (with_reducible apply aM); exact rfl; (repeat first | (with_reducible apply aA); exact rfl | (with_reducible apply c3); (iterate 3 exact rfl) | (with_reducible apply dC); (iterate 3 exact rfl)); (with_reducible apply aB));refine hM rfl rfl rfl rfl rfl rfl rfl rfl e5 ⟨hv, fv, cv, b, S, .p (cz 4 L.length (mh L)), hS, rfl, fun _ => by rw [iB], rfl, rfl⟩ (fun ar az cg => ?_);(repeat first | with_reducible apply aU);obtain ⟨b4, c4, cU, bK, dd, gF, fj, gM, h7, rfl, rfl⟩ := id cg
  ((refine eI rfl bf rfl (bH.refl _) cg.closed rfl e8 ?_))
  exact ⟨_, rfl, rfl, cg⟩
 ·rw [if_neg h2];have wG : ¬ (1 : Int) ≥ (L.length : Int) := by omega
  refine dk (f := 179) Tryz.func179 rfl (dh rfl) (by exact ej rfl) ?_;(repeat first | (with_reducible first | apply ba | apply a7) | (with_reducible apply aM); exact rfl; (repeat first | (with_reducible apply aA); exact rfl); (with_reducible apply aB));refine jV 1000 rfl rfl rfl rfl aP rfl rfl cX rfl rfl ?_;(repeat first | (with_reducible first | apply ba | apply aR | apply a7 | apply aU) | (with_reducible apply aM); exact rfl; (repeat first | (with_reducible apply aA); exact rfl | (with_reducible apply c3); (iterate 3 exact rfl)); (with_reducible apply aB));refine MQ 3 9 (by decide) rfl rfl rfl rfl cc rfl (jd _) (fun y ag => cu.1 cO y ag) rfl rfl (fun v q h => ?_) (fun q h => ?_)
  ·obtain ⟨rfl, h⟩ := h;rw [h]; exact ⟨rfl, Ml⟩
  obtain ⟨_, h⟩ := h;rw [h];(repeat first | (with_reducible apply ev); kernel_rfl | (with_reducible apply dR (id := 2) [0,1,2,3,4,5,6,7,8,9,10]); kernel_rfl; kernel_rfl; exact rfl | (with_reducible first | apply ba | apply aR | apply aU | apply cS) | (with_reducible apply c6); exact rfl; (exact bR (by omega)) | (with_reducible apply aM); exact rfl; (repeat first | (with_reducible apply aA); exact rfl | (with_reducible apply c3); (iterate 3 exact rfl) | (with_reducible apply dC); (iterate 3 exact rfl)); (with_reducible apply aB))
  ((refine eI rfl bf rfl (bH.refl _) rfl rfl e8 ?_))
  exact ⟨_, rfl, rfl, hv, fv, cv, b, S, .p (cz 4 L.length (mh L)), hS, rfl, fun _ => by show _ = AC.p (cz 4 (bb ch).length (mh (bb ch))); rw [iB], rfl, rfl⟩
def Sx (E : List (Int × b6)) (r rm : Nat) (s : bx.aT ao) (hv fv cv : Value) (b : Nat) (S : eZ) (lk : AC) (n : Nat) (R : aJ) (aS : List (Nat × ai)) (bD : List (Nat × List AC)) : Prop :=
 ∃ (I J : Nat), I < s.ch.length ∧ n = s.ch.length - I ∧ kW s = kW { s with I := I, J := J } ∧ J ≤ 1100 ∧ R = dG b S hv fv cv s.hot [] s.ch ∧ aS = [(0, qZ), (2, .w (.one (.own 1000 1)))] ∧ bD = [(1000, er E r rm s.ph I J s.T false hv fv cv b lk)]
theorem aec {s : bx.aT ao} {I J : Nat} {V : List ao} {D : List Int} (h : s.ch[I]? = some (V, D)) : kW ({ s with I := I, J := J } : bx.aT ao) = if J + 1 < V.length then ({ s with I := I, J := J } : bx.aT ao) else kW ({ s with I := I + 1, J := 0 } : bx.aT ao) := by
 have an := (bS.1 h).1;unfold kW;have e : s.ch.drop I = (V, D) :: s.ch.drop (I + 1) := by rw [nE an, (bS.1 h).2]
 simp only [e, pR]
 by_cases ae : J + 1 < V.length
 ·rw [if_pos ae, if_pos ae]
 ·rw [if_neg ae, if_neg ae]; rfl
theorem aed {s : bx.aT ao} (h : s.ch.length ≤ s.I) : kW s = if (bb s.ch).length < 2 then e3 s 4 0 0 else e3 s 3 0 1 := by
 unfold kW;rw [List.drop_eq_nil_of_le h];rfl
theorem NA {s : bx.aT ao} (hd : s.dirty = false) (au : s.fnd = []) (ak : kb s.ch) (bq : s.I < s.ch.length) (ki : s.J ≤ 1100) (gO : s.ph = 2) : fT E r rm 124 [] s lu (kW s) := by
 rintro cs R ⟨hv, fv, cv, b, S, lk, hS, cQ, fQ, rfl, rfl⟩;rw [hd, au];have cX : ∀ I J : Int, (er E r rm s.ph I J s.T false hv fv cv b lk).all AC.bc = true := fun I J => by simp only [j1, mr, cQ]; rfl
 refine dk (f := 124) Tryz.func124 rfl (dh rfl) (by exact ej rfl) ?_;(repeat first | (with_reducible first | apply ba | apply aR | apply a7 | apply aU | apply eM) | (with_reducible apply aM); exact rfl; (repeat first | (with_reducible apply aA); exact rfl | (with_reducible apply c3); (iterate 3 exact rfl)); (with_reducible apply aB));refine ls 46 (Sx E r rm s hv fv cv b S lk) (s.ch.length - s.I) (dG b S hv fv cv s.hot [] s.ch) _ [(1000, er E r rm s.ph s.I s.J s.T false hv fv cv b lk)] ⟨s.I, s.J, bq, rfl, rfl, ki, rfl, rfl, rfl⟩ (bH.refl _) rfl ⟨rfl, rfl, trivial⟩ ⟨rfl, trivial⟩ ?_ ?_
 ·cases lk <;> first | rfl | cases cQ
 rintro n R aS bD ⟨I, J, WN, rfl, zg, WQ, rfl, rfl, rfl⟩ dU;clear dU;obtain ⟨V, D, g1⟩ : ∃ V D, s.ch[I]? = some (V, D) := ⟨_, _, cm WN⟩;obtain ⟨jR, h6⟩ := ak.2 _ (dF g1);have hlen := ak.1;simp only at jR h6;obtain ⟨kc, lW⟩ := BK (ii := (I : Int)) rfl g1;have zh := aec (s := s) (J := J) g1;have cY : (0 : Int) ≤ (I : Int) := by omega
 have q1 : (I : Int) < (s.ch.length : Int) := by omega
 have q2 : 0 < s.ch.length := by omega
 by_cases ae : J + 1 < V.length
 ·have jT : ¬ (J : Int) ≥ (D.length : Int) := by omega
  rw [if_pos ae] at zh;(repeat first | (with_reducible apply ev); kernel_rfl | (with_reducible apply dR (id := 1) [0,1,2,3,4,5,6,7,8,9,10,11,12,13,14,15,16]); kernel_rfl; kernel_rfl; exact rfl | (with_reducible first | apply ba | apply aR | apply j4 | apply j6 | apply j5) | (with_reducible apply c6); exact rfl; (exact bR (by omega)) | (with_reducible apply aM); exact rfl; (repeat first | (with_reducible apply aA); exact rfl | (with_reducible apply c3); (iterate 3 exact rfl) | (with_reducible apply dC); (iterate 3 exact rfl)); (with_reducible apply aB) | (with_reducible apply jw 3); (iterate 4 exact rfl); (omega); (assumption); exact rfl; kernel_rfl; exact rfl | (with_reducible apply y9 3); (iterate 3 exact rfl); (assumption); kernel_rfl; exact rfl | (with_reducible apply za 3); (iterate 3 exact rfl); (assumption); assumption; exact rfl; kernel_rfl; exact rfl)
  ((refine eI rfl bf rfl (bH.refl _) (cX _ _) rfl e8 ?_))
  refine ⟨_, rfl, rfl, hv, fv, cv, b, S, lk, ?_⟩;rw [zg, zh];exact ⟨hS, cQ, fQ, by rw [hd], by rw [au]⟩
 ·have jT : (J : Int) ≥ (D.length : Int) := by omega
  rw [if_neg ae] at zh
  by_cases an : I + 1 = s.ch.length
  ·have hq : (I : Int) + 1 = (s.ch.length : Int) := by omega
   have e5 := ZE (E := E) (r := r) (rm := rm) (s := { s with I := I + 1, J := 0 }) hd au ak;have Ys := aed (s := { s with I := I + 1, J := 0 }) (by show s.ch.length ≤ I + 1; omega);rw [← Ys] at e5;(repeat first | (with_reducible apply ev); kernel_rfl | (with_reducible apply dR (id := 1) [0,1,2,3,4,5,6,7,8,9,10,11,12,13,14,15,16]); kernel_rfl; kernel_rfl; exact rfl | (with_reducible apply dR (id := 3) [0,1,2,3,4,5,6,7,8,9]); kernel_rfl; kernel_rfl; exact rfl | (with_reducible first | apply ba | apply aR | apply a7 | apply aU | apply cS | apply eM) | (with_reducible apply dz); exact rfl; (exact bB (by omega)) | (with_reducible apply aM); exact rfl; (repeat first | (with_reducible apply aA); exact rfl | (with_reducible apply c3); (iterate 3 exact rfl) | (with_reducible apply fh); (iterate 3 exact rfl); (exact da (by omega)); exact rfl | (with_reducible apply dC); (iterate 3 exact rfl)); (with_reducible apply aB) | (with_reducible apply nn 3); (iterate 4 exact rfl); kernel_rfl; exact rfl | (with_reducible apply jw 3); (iterate 4 exact rfl); (omega); (assumption); exact rfl; kernel_rfl; exact rfl | (with_reducible apply y9 3); (iterate 3 exact rfl); (assumption); kernel_rfl; exact rfl | (with_reducible apply za 3); (iterate 3 exact rfl); (assumption); assumption; exact rfl; kernel_rfl; exact rfl);refine hM rfl rfl rfl rfl rfl rfl rfl rfl e5 ⟨hv, fv, cv, b, S, lk, hS, cQ, fQ, by rw [hd]; rfl, by rw [au]⟩ (fun ar az cg => ?_);(repeat first | (with_reducible first | apply aR | apply aU | apply db | apply hh | apply sA));obtain ⟨b4, c4, cU, bK, dd, gF, fj, gM, h7, rfl, rfl⟩ := id cg
   ((refine eI rfl bf rfl (bH.refl _) cg.closed rfl e8 ?_))
   refine ⟨_, rfl, rfl, ?_⟩;rw [zg, zh];exact cg
  ·have hq : ¬ (I : Int) + 1 = (s.ch.length : Int) := by omega
   (repeat first | (with_reducible apply ev); kernel_rfl | (with_reducible apply dR (id := 1) [0,1,2,3,4,5,6,7,8,9,10,11,12,13,14,15,16]); kernel_rfl; kernel_rfl; exact rfl | (with_reducible apply dR (id := 3) [0,1,2,3,4,5,6,7,8,9]); kernel_rfl; kernel_rfl; exact rfl | (with_reducible first | apply ba | apply aR | apply a7 | apply aU | apply cS | apply eM | apply j3) | (with_reducible apply dz); exact rfl; (exact bB (by omega)) | (with_reducible apply c6); exact rfl; (exact bR (by omega)) | (with_reducible apply aM); exact rfl; (repeat first | (with_reducible apply aA); exact rfl | (with_reducible apply c3); (iterate 3 exact rfl) | (with_reducible apply fh); (iterate 3 exact rfl); (exact da (by omega)); exact rfl | (with_reducible apply dC); (iterate 3 exact rfl)); (with_reducible apply aB) | (with_reducible apply nn 3); (iterate 4 exact rfl); kernel_rfl; exact rfl | (with_reducible apply jw 3); (iterate 4 exact rfl); (omega); (assumption); exact rfl; kernel_rfl; exact rfl | (with_reducible apply y9 3); (iterate 3 exact rfl); (assumption); kernel_rfl; exact rfl | (with_reducible apply za 3); (iterate 3 exact rfl); (assumption); assumption; exact rfl; kernel_rfl; exact rfl);refine ⟨s.ch.length - (I + 1), dG b S hv fv cv s.hot [] s.ch, _, [(1000, er E r rm s.ph (I + 1 : Nat) (0 : Nat) s.T false hv fv cv b lk)], by omega, ⟨I + 1, 0, by omega, rfl, by rw [zg, zh], by omega, rfl, rfl, rfl⟩, bH.refl _, rfl, ⟨rfl, rfl, trivial⟩, ⟨rfl, trivial⟩, ?_⟩;cases lk <;> first | rfl | cases cQ
end
end Go.Proofs.YtpochbhajmbfdaaGreat
