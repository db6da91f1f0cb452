/-
  My own texts, without what this claim does not need. My own text.
-/
import Derived.Shelf.Spec.SlicesInsert
import Derived.Lib.AppendZerosOnto
import Derived.Test.YtbcecodakfejaaaGreatSKeepsK13
set_option maxRecDepth 100000
set_option maxHeartbeats 64000000
set_option linter.unusedVariables false
set_option linter.unusedSimpArgs false
set_option linter.unusedSectionVars false
open Go.Proofs.Tryz renaming prog → ag
namespace Go.Proofs.YtbcecodakfejaaaGreat
open Go.RowKit Go.Lib
section
variable {P : Program}
theorem Fu (w : World) (tX Bs ty elem : TypeId) (g o rz zk z : Nat) (a : Addr) (r9 Br : Nat) (cur : Array Value) (t : TypeId) (cs : List Value)
  (hu : P.underlying tX = some (.slice elem)) (hs : (P.info? elem).map (·.size) = some z)
  (an : w.heap[g]? = some (.cells cur t (0, 0))) (aw : cs.length = Nat.min r9 rz * z)
  (II : ∀ j v, cs[j]? = some v → w.cell? (a.add j) = some v) (xO : o + cs.length ≤ cur.size) (h1 : ∀ v ∈ cs, v.oneCell' = true) :
  (Builtin.copy_ #[tX, Bs] ty #[.slice (some ⟨g, o, none⟩) rz zk, .slice (some a) r9 Br]).run P w =
   .ok (goInt (Nat.min r9 rz)) (w.setRow g (cur.toList.take o ++ cs ++ cur.toList.drop (o + cs.length)).toArray) := by
 have hl := run_loadCells_list (P := P) w a cs II;have kj := run_storeCells_at P g o t cs 0 cur w an (by simpa using xO) h1;cases ak : P.info? elem with
 | none => simp [ak] at hs
 | some i =>
  have hi : i.size = z := by simpa [ak] using hs
  simp [Builtin.copy_, run_underlying hu, Builtin.lenOf, Builtin.firstCells, sizeOf, typeInfo, ak, hi, ← aw, hl, kj]
end
theorem MR {w : World} {a : Addr} {v : Value} (h : w.cell? a = some v) : ∃ t k, w.shape? a.block = some (t, k) ∧ k ≠ 0 := by
 unfold World.cell? at h;unfold World.shape?;cases ab : w.heap[a.block]? with
 | none => rw [ab] at h; cases h
 | some o =>
  rw [ab] at h;cases o with
  | cells c t zu =>
   refine ⟨t, c.size, rfl, fun e => ?_⟩;simp only at h
   split at h
   ·cases h
   ·have := (j2.1 h).1; omega
  | _ => cases h
theorem ahE {P : Program} (w : World) (Bz TF e : TypeId) (aB : P.underlying Bz = some (.slice e)) (size : Nat) (aN : ∀ w, (Go.sizeOf e).run P w = .ok size w)
  (a b : Addr) (rV j9 Ji MP : Nat) (b7 : a.block ≠ b.block) (v : Value) (aF : w.cell? a = some v) (cur : Array Value) (TE : TypeId) (ab : w.heap[b.block]? = some (.cells cur TE (0, 0))) (aj : cur.size ≠ 0) :
  (Extern.SlicesOverlaps.overlaps #[Bz, Bz] #[TF] #[.slice (some a) rV j9, .slice (some b) Ji MP]).run P w = .ok (.bool false) w := by
 obtain ⟨alz, D0, aaZ, akC⟩ := MR aF;have aa0 : w.shape? b.block = some (TE, cur.size) := by unfold World.shape?; rw [ab]
 have OK : ∀ x : Addr, x.block = b.block → w.frozen? x = false := fun x aa => by unfold World.frozen?; rw [aa, ab]; simp
 have aau : (a.block != b.block) = true := by simpa using b7
 have aav : (a.block == b.block) = false := by simpa using b7
 have f1 := OK b rfl;have f2 := OK { block := b.block, off := cur.size } rfl
 have key : ∀ (m : Sem Value), m = Extern.SlicesOverlaps.overlaps #[Bz, Bz] #[TF] #[.slice (some a) rV j9, .slice (some b) Ji MP] → m.run P w = .ok (.bool false) w := by
  intro m hm
  conv at hm => rhs; whnf
  subst hm;have lq : ∀ {α β : Type} (x : Sem α) (f : α → Sem β), x.bind f = x >>= f := fun _ _ => rfl;have qn : ∀ {α : Type} (x : α), Sem.pure x = (pure x : Sem α) := fun _ => rfl;have Yv : ∀ {α : Type} (f : Program → Sem α), (Sem.program f).run P w = (f P).run P w := fun _ => rfl;rw [Yv];simp only [lq, qn, Sem.run_bind, Sem.run_pure, Result.andThen_ok, List.getElem_toArray, List.getElem_cons_zero, aB]
  by_cases aA : rV = 0 ∨ Ji = 0 ∨ size = 0
  ·simp [aN, aA]
  ·obtain ⟨D0, rfl⟩ : ∃ k, D0 = k + 1 := ⟨D0 - 1, by omega⟩;generalize cur.size = I8 at *;obtain ⟨I8, rfl⟩ : ∃ k, I8 = k + 1 := ⟨I8 - 1, by omega⟩
   cases Z0 : w.frozen? a <;> cases Z1 : w.frozen? { block := a.block, off := D0 + 1 } <;>
    simp [aN, aA, aau, aav, frozen, noView, viewAt, mayBeOne, stringish, shape, Sem.run, aaZ, aa0, f1, f2, Z0, Z1]
 exact key _ rfl
theorem abF (cur news : List Value) {i n cap : Nat} (hi : i < n) (my : n + 1 ≤ cap) (aj : cur.length = cap * 3) (hh : news.length = 3) :
  let c1 := cur.take ((i + 1) * 3) ++ (cur.drop (i * 3)).take ((n - i) * 3) ++ cur.drop ((i + 1) * 3 + ((cur.drop (i * 3)).take ((n - i) * 3)).length)
  let c2 := c1.take (i * 3) ++ news ++ c1.drop (i * 3 + news.length)
  c1.length = cap * 3 ∧ c2.length = cap * 3 ∧ c2.take ((n + 1) * 3) = (cur.take (n * 3)).take (i * 3) ++ news ++ (cur.take (n * 3)).drop (i * 3) := by
 have dh : ((cur.drop (i * 3)).take ((n - i) * 3)).length = (n - i) * 3 := by rw [ei, iC]; omega
 intro c1 c2;have aG : c1.length = cap * 3 := by simp only [c1, cO, ei, iC, dh]; omega
 have aO : c2.length = cap * 3 := by simp only [c2, cO, ei, iC, aG, hh]; omega
 have g1 : ∀ j, c1[j]? = if j < (i + 1) * 3 then cur[j]? else if j < (n + 1) * 3 then cur[j - 3]? else cur[j]? := fun j => by
  simp only [c1];have t1 : (cur.take ((i + 1) * 3)).length = (i + 1) * 3 := by rw [ei]; omega
  by_cases q1 : j < (i + 1) * 3
  ·rw [if_pos q1, hK, fZ (by omega), fJ q1]
  ·rw [if_neg q1]
   by_cases q2 : j < (n + 1) * 3
   ·rw [if_pos q2, fZ (by rw [cO]; omega), gM (by omega), fJ (by omega), fY, t1];congr 1; omega
   ·rw [if_neg q2, gM (by rw [cO]; omega), fY, cO, t1, dh];congr 1; omega
 refine ⟨aG, aO, ?_⟩;have t2 : (c1.take (i * 3)).length = i * 3 := by rw [ei]; omega
 have t3 : ((cur.take (n * 3)).take (i * 3)).length = i * 3 := by rw [ei, ei]; omega
 apply List.ext_getElem?;intro j
 by_cases q0 : j < (n + 1) * 3
 ·rw [fJ q0];simp only [c2]
  by_cases q1 : j < i * 3
  ·rw [hK, fZ (by omega), fJ q1, g1, if_pos (by omega), hK, fZ (by omega), fJ q1, fJ (by omega)]
  ·by_cases q2 : j < (i + 1) * 3
   ·rw [hK, gM (by omega), fZ (by omega), hK, gM (by omega), fZ (by omega), t2, t3]
   ·rw [gM (by rw [cO]; omega), fY, g1, gM (by rw [cO]; omega), fY, cO, cO, t2, t3, hh, if_neg (by omega), if_pos (by omega), fJ (by omega)];congr 1; omega
 ·rw [lJ (by rw [ei]; omega), lJ];simp only [cO, t3, hh, iC, ei];omega
section
variable (W : World) (g n cap i : Nat) (cur : Array Value) (news : List Value) (fw : Addr) (q3 : Nat)
theorem abH (an : W.heap[g]? = some (.cells cur 214 (0, 0))) (hi : i < n) (my : n + 1 ≤ cap) (ZH : cap ≤ 9223372036854775807) (eb : cur.size = cap * 3) (kK : ∀ v ∈ cur.toList.take (n * 3), v.oneCell' = true)
  (hh : news.length = 3) (kJ : ∀ j v, news[j]? = some v → W.cell? (fw.add j) = some v) (h1 : ∀ v ∈ news, v.oneCell' = true) (b7 : fw.block ≠ g) :
  Calls ag 160 #[.slice (some ⟨g, 0, none⟩) n cap, .int .i64 i, .slice (some fw) 1 q3] W fun e bk =>
   e = .returned (.slice (some ⟨g, 0, none⟩) (n + 1) cap) ∧ ∃ ot : Array Value, bk = W.drew.setRow g ot ∧ ot.size = cap * 3 ∧ ot.toList.take ((n + 1) * 3) = (cur.toList.take (n * 3)).take (i * 3) ++ news ++ (cur.toList.take (n * 3)).drop (i * 3) := by
 obtain ⟨eJ, z, hu, fb, hT, hj, kH, nV, bH⟩ := qW (P := ag) (tt := 134) (e := 214) (sz := 3) (bytes := 24) (by kernel_rfl);have Ae : (ag.info? 214).map (·.size) = some 3 := by rw [fb]; simp [hj]
 have kN : ¬ ((i : Int) = (n : Int)) := by omega
 have IM : IntKind.i64.wrap ((i : Int) + 1) = (i : Int) + 1 := by rw [IntKind.wrap_i64]; omega
 have IP : IntKind.i64.wrap ((n : Int) + 1) = (n : Int) + 1 := by rw [IntKind.wrap_i64]; omega
 have dt : (0 : Int) ≤ (i : Int) + 1 := by omega
 have gB : i ≤ n := by omega
 have di : ¬ (cap = i + 1) := by omega
 have HV : (i : Int) ≤ (n : Int) + 1 := by omega
 have vP : ¬ (cap = i) := by omega
 have aaH : (callFunc 183 #[.slice (some fw) 1 q3, .slice (some ⟨g, (i + 1) * 3, none⟩) (n - i) (cap - (i + 1))]).run ag W = .ok (.value (.bool false)) W := by
  rw [run_callFunc_extern Tryz.func183 (by kernel_rfl) (by kernel_rfl) (by kernel_rfl) (e := Extern.SlicesOverlaps.overlaps #[134, 134] #[4]) (by kernel_rfl),
   ahE W _ _ 214 hu 3 (fun w => by rw [h5 fb, hj]) fw ⟨g, (i + 1) * 3, none⟩ 1 q3 _ _ b7 news[0] (by have := kJ 0 news[0] (bN (by omega)); rwa [show fw.add 0 = fw from by unfold Addr.add; split <;> simp_all] at this) cur _ an (by omega)]
  rfl
 obtain ⟨ba, bo, dU⟩ := abF cur.toList news hi my (by simpa using eb) hh;generalize lZ : (cur.toList.drop (i * 3)).take ((n - i) * 3) = dB at *;have c4 : dB.length = (n - i) * 3 := by rw [← lZ, ei, iC, Array.length_toList]; omega
 have ZK : ∀ ty jO pS, (Builtin.copy_ #[134, 134] ty #[.slice (some ⟨g, (i + 1) * 3, none⟩) (n - i) jO, .slice (some ⟨g, i * 3, none⟩) (n + 1 - i) pS]).run ag W.drew = .ok (goInt ((n - i : Nat) : Int)) (W.drew.setRow g (cur.toList.take ((i + 1) * 3) ++ dB ++ cur.toList.drop ((i + 1) * 3 + dB.length)).toArray) := fun ty jO pS => by
  have hm : Nat.min (n + 1 - i) (n - i) = n - i := Nat.min_eq_right (by omega);have := Fu (P := ag) W.drew 134 134 ty 214 g ((i + 1) * 3) (n - i) jO 3 ⟨g, i * 3, none⟩ (n + 1 - i) pS cur 214 dB hu Ae an (by rw [hm, c4]) (fun j v ae => ?_) (by rw [c4]; omega) (fun v hv => ?_)
  ·rw [hm] at this; exact this
  ·rw [Addr.add_lit];have hl : j < (n - i) * 3 := by rw [← c4]; exact (bL.1 ae).1
   rw [← lZ, fJ hl, fY] at ae;show (W.drew.cell? _) = _;unfold World.cell?;rw [show W.drew.heap[(⟨g, i * 3 + j, none⟩ : Addr).block]? = some (.cells cur 214 (0, 0)) from an];simpa using ae
  ·refine kK v ?_;obtain ⟨j, ae⟩ := j1 hv;have hl : j < (n - i) * 3 := by rw [← c4]; exact (bL.1 ae).1
   rw [← lZ, fJ hl, fY] at ae;exact dc (i := i * 3 + j) (by rw [fJ (by omega)]; exact ae)
 generalize iZ : cur.toList.take ((i + 1) * 3) ++ dB ++ cur.toList.drop ((i + 1) * 3 + dB.length) = c1 at *;have sZ := setRow_heap W.drew g cur c1.toArray _ (0, 0) an
 have ZL : ∀ ty jO, (Builtin.copy_ #[134, 134] ty #[.slice (some ⟨g, i * 3, none⟩) (n + 1 - i) jO, .slice (some fw) 1 q3]).run ag (W.drew.setRow g c1.toArray) = .ok (goInt ((1 : Nat) : Int)) ((W.drew.setRow g c1.toArray).setRow g (c1.take (i * 3) ++ news ++ c1.drop (i * 3 + news.length)).toArray) := fun ty jO => by
  have hm : Nat.min 1 (n + 1 - i) = 1 := pP (by omega);have := Fu (P := ag) (W.drew.setRow g c1.toArray) 134 134 ty 214 g (i * 3) (n + 1 - i) jO 3 fw 1 q3 c1.toArray 214 news hu Ae sZ (by rw [hm, hh]) (fun j v ae => ?_) (by rw [hh]; simp [ba]; omega) h1
  ·rw [hm] at this; simpa using this
  rw [← kJ j v ae];refine World.cell?_of_block (w := W) ?_;show (World.setRow _ _ _).heap[(fw.add j).block]? = _;rw [block_add];simp only [World.setRow, u0];rw [if_neg (fun e => b7 e.symm)];rfl
 generalize ja : c1.take (i * 3) ++ news ++ c1.drop (i * 3 + news.length) = c2 at *;clear an lZ iZ ja kK kJ h1 sZ fb hT
 go_enter Tryz.func160, Tryz.ntmps160
 go_wp2_with (simp only [aaH])
 have mixed : ag.follows .mixedOrders = true := by kernel_rfl
 go_region_law_o (refine step_copy_runI rfl _ _ 134 134 rfl _ _ (by simp [Act.eval, Act.put]) (by simp [Act.eval, Act.put]) (ZK _ _ _) ?_)
 go_wp2_with (at_builtin; refine wpList_copy_runI _ rfl _ _ 134 134 rfl _ _ rfl rfl (ZL _ _) ?_)
 go_ret
 exact ⟨rfl, c2.toArray, setRow_setRow _ _ _ _, by simpa using bo, by simpa using dU⟩
theorem abG (R xs news : List Value) {i n G : Nat} (hi : i < n) (rH : n + 1 ≤ G) (aq : R.length = G * 3) (aa : xs.length = n * 3) (zD : R.take (i * 3) = xs.take (i * 3)) (hh : news.length = 3) :
  let c1 := R.take (i * 3) ++ news ++ R.drop (i * 3 + news.length)
  let c2 := c1.take ((i + 1) * 3) ++ xs.drop (i * 3) ++ c1.drop ((i + 1) * 3 + (xs.drop (i * 3)).length)
  c1.length = G * 3 ∧ c2.length = G * 3 ∧ c2.take ((n + 1) * 3) = xs.take (i * 3) ++ news ++ xs.drop (i * 3) := by
 have t1 : (xs.take (i * 3)).length = i * 3 := by rw [ei]; omega
 have t2 : (xs.drop (i * 3)).length = (n - i) * 3 := by rw [iC]; omega
 intro c1 c2;have aG : c1.length = G * 3 := by simp only [c1, zD, cO, t1, iC, aq, hh]; omega
 have cl : c1.take ((i + 1) * 3) = xs.take (i * 3) ++ news := by
  simp only [c1, zD];rw [A9 (by rw [cO, t1, hh]; omega), h4 (by rw [cO, t1, hh]; omega)]
 have aO : c2.length = G * 3 := by simp only [c2, cl, cO, t1, t2, iC, aG, hh]; omega
 refine ⟨aG, aO, ?_⟩;simp only [c2, cl];rw [A9 (by simp only [cO, t1, t2, hh]; omega), h4 (by simp only [cO, t1, t2, hh]; omega)]
theorem abE (xs : List Value) (an : W.heap[g]? = some (.cells cur 214 (0, 0))) (DS : cur.toList.take (n * 3) = xs) (pr : xs.length = n * 3) (hi : i < n) (ez : n ≤ cap) (my : cap < n + 1) (xI : (n + 1) * 24 ≤ 140737488355328) (kK : ∀ v ∈ xs, v.oneCell' = true)
  (hh : news.length = 3) (kJ : ∀ j v, news[j]? = some v → W.cell? (fw.add j) = some v) (h1 : ∀ v ∈ news, v.oneCell' = true) :
  Calls ag 160 #[.slice (some ⟨g, 0, none⟩) n cap, .int .i64 i, .slice (some fw) 1 q3] W fun e bk =>
   ∃ G ot o, e = .returned (.slice (some ⟨W.heap.size, 0, none⟩) (n + 1) G) ∧ bk.heap = ((W.alloc o).setRow W.heap.size ot).heap ∧ bk.os = W.os ∧ bk.tape = W.tape ∧ bk.output = W.output ∧ (∃ hb, o = .cells hb 214 (0, 0)) ∧ n + 1 ≤ G ∧ G ≤ maxLen ∧ ot.size = G * 3 ∧ ot.toList.take ((n + 1) * 3) = xs.take (i * 3) ++ news ++ xs.drop (i * 3) := by
 obtain ⟨eJ, z, hu, fb, hT, hj, kH, nV, bH⟩ := qW (P := ag) (tt := 134) (e := 214) (sz := 3) (bytes := 24) (by kernel_rfl);have Ae : (ag.info? 214).map (·.size) = some 3 := by rw [fb]; simp [hj]
 have jQ : ∀ j v, xs[j]? = some v → W.cell? ⟨g, j, none⟩ = some v := fun j v ae => by
  have hl : j < n * 3 := by rw [← pr]; exact (bL.1 ae).1
  rw [← DS, fJ hl] at ae;unfold World.cell?;rw [show W.heap[(⟨g, j, none⟩ : Addr).block]? = some (.cells cur 214 (0, 0)) from an];simpa using ae
 have OO : g < W.heap.size := (j2.1 an).1
 have nf : fw.block < W.heap.size := by
  have := kJ 0 news[0] (bN (by omega));obtain ⟨t, k, h, _⟩ := MR this;rw [block_add] at h;unfold World.shape? at h;cases ak : W.heap[fw.block]? with
  | none => rw [ak] at h; cases h
  | some o => exact (j2.1 ak).1
 have kN : ¬ ((i : Int) = (n : Int)) := by omega
 have akR : (cap : Int) < (n : Int) + 1 := by omega
 have IM : IntKind.i64.wrap ((i : Int) + 1) = (i : Int) + 1 := by rw [IntKind.wrap_i64]; omega
 have IP : IntKind.i64.wrap ((n : Int) + 1) = (n : Int) + 1 := by rw [IntKind.wrap_i64]; omega
 have pi : (n : Int) + 1 - (i : Int) = ((n + 1 - i : Nat) : Int) := by omega
 have Pn : IntKind.i64.wrap ((n : Int) + 1 - (i : Int)) = (n : Int) + 1 - (i : Int) := by rw [IntKind.wrap_i64]; omega
 have Ib : i + (n + 1 - i) = n + 1 := by omega
 have hold : (Builtin.firstCells eJ.size i (.slice (some ⟨g, 0, none⟩) i cap)).run ag W.drew = .ok (xs.take (i * 3)).toArray W.drew := by
  rw [hj]
  exact run_firstCells_some W.drew 3 i ⟨g, 0, none⟩ i cap (xs.take (i * 3)) (by rw [ei]; omega) (fun j v ae => by
   rw [Addr.add_lit, j3];rw [List.getElem?_take] at ae
   split at ae
   ·exact jQ j v ae
   ·cases ae)
 obtain ⟨G, rH⟩ : ∃ G, G = grownCap W (n + 1) cap 214 := ⟨_, rfl⟩;have Ok : n + 1 ≤ G := by rw [rH]; exact grownCap_ge W _ _ _
 have Oj : G ≤ maxLen := by rw [rH]; exact grownCap_le_maxLen W (n + 1) cap _ (by unfold maxLen; omega)
 have akr : G ≤ 9223372036854775807 := by unfold maxLen at Oj; omega
 obtain ⟨mV, Di⟩ : ∃ mV : Array Value, mV = (xs.take (i * 3)).toArray ++ Builtin.zeroCells z.cells (n + 1 - i) ++ Builtin.zeroCells z.cells (G - (n + 1)) := ⟨_, rfl⟩
 have ID : ∀ ty, (Builtin.append_ #[134, 3] ty #[.slice (some ⟨g, 0, none⟩) i cap, .int .i64 ((n : Int) + 1 - (i : Int))]).run ag W =
   .ok (.slice (some ⟨W.heap.size, 0, none⟩) (n + 1) G) (W.drew.alloc (.cells mV 214)) := fun ty => by
  have h := Lib.run_append_grow_zeros W 134 3 ty 214 eJ z .i64 .i64 hu Tryz.underlying3 fb hT (some ⟨g, 0, none⟩) i cap _ hold (n + 1 - i) (by omega) (by omega) (by omega) (by omega) (by rw [kH]; omega) (by rw [kH, Ib]; exact growslice_fits my xI);rw [Ib, ← rH, ← Di] at h;rw [pi];exact h
 have Ov : mV.size = G * 3 := by
  rw [Di];simp [Builtin.zeroCells, nV, ei];omega
 have zD : mV.toList.take (i * 3) = xs.take (i * 3) := by
  rw [Di, Array.toList_append, Array.toList_append, hK, A9 (by simp [ei]; omega), h4 (by simp [ei]; omega)]
 obtain ⟨ba, bo, dU⟩ := abG mV.toList xs news hi Ok (by simpa using Ov) pr zD hh;generalize Dq : xs.drop (i * 3) = CN at *;have Dn : CN.length = (n - i) * 3 := by rw [← Dq, iC]; omega
 obtain ⟨N, eO⟩ : ∃ N, N = W.heap.size := ⟨_, rfl⟩;obtain ⟨ic, sN⟩ : ∃ ic, ic = W.drew.alloc (.cells mV 214) := ⟨_, rfl⟩;have HN : ic.heap[N]? = some (.cells mV 214 (0, 0)) := by rw [sN, eO]; show (W.heap.push _)[W.heap.size]? = _; simp
 have HO : ∀ b, b < W.heap.size → ic.heap[b]? = W.heap[b]? := fun b ab => by rw [sN]; show (W.heap.push _)[b]? = _; rw [Array.getElem?_push_lt ab, Array.getElem?_eq_getElem ab]
 generalize iZ : mV.toList.take (i * 3) ++ news ++ mV.toList.drop (i * 3 + news.length) = c1 at *
 have ZM : ∀ mW : World, mW.heap = ic.heap → ∀ ty jO, (Builtin.copy_ #[134, 134] ty #[.slice (some ⟨N, i * 3, none⟩) (n + 1 - i) jO, .slice (some fw) 1 q3]).run ag mW = .ok (goInt ((1 : Nat) : Int)) (mW.setRow N c1.toArray) := fun mW dT ty jO => by
  have hm : Nat.min 1 (n + 1 - i) = 1 := pP (by omega);have := Fu (P := ag) mW 134 134 ty 214 N (i * 3) (n + 1 - i) jO 3 fw 1 q3 mV 214 news hu Ae (by rw [dT]; exact HN) (by rw [hm, hh]) (fun j v ae => ?_) (by rw [hh, Ov]; omega) h1
  ·rw [hm, iZ] at this; exact this
  ·rw [← kJ j v ae];refine World.cell?_of_block (w := W) ?_;rw [block_add, dT, HO _ nf]
 generalize ja : c1.take ((i + 1) * 3) ++ CN ++ c1.drop ((i + 1) * 3 + CN.length) = c2 at *;have Z8 : g ≠ N := by omega
 have ZN : ∀ mW : World, mW.heap = (ic.setRow N c1.toArray).heap → ∀ ty jO pS, (Builtin.copy_ #[134, 134] ty #[.slice (some ⟨N, (i + 1) * 3, none⟩) (n - i) jO, .slice (some ⟨g, i * 3, none⟩) (n - i) pS]).run ag mW = .ok (goInt ((n - i : Nat) : Int)) (mW.setRow N c2.toArray) := fun mW dT ty jO pS => by
  have hm : Nat.min (n - i) (n - i) = n - i := Nat.min_self _;have := Fu (P := ag) mW 134 134 ty 214 N ((i + 1) * 3) (n - i) jO 3 ⟨g, i * 3, none⟩ (n - i) pS c1.toArray 214 CN hu Ae (by rw [dT]; exact setRow_heap ic N mV _ _ (0, 0) HN) (by rw [hm, Dn]) (fun j v ae => ?_) (by rw [Dn]; simp [ba]; omega) (fun v hv => kK v (by rw [← Dq] at hv; exact nn hv))
  ·rw [hm] at this; simpa [ja] using this
  ·rw [Addr.add_lit];rw [← Dq, fY] at ae;rw [← jQ _ v ae];refine World.cell?_of_block (w := W) ?_;rw [dT];simp only [World.setRow, u0];rw [if_neg (fun e => Z8 e.symm), HO _ OO]
 rw [← sN] at ID;rw [← eO] at ID ⊢;have fin : ∀ mW : World, mW.heap = ic.heap → mW.heap = (W.alloc (.cells mV 214)).heap := fun mW h => by rw [h, sN]; rfl
 have dt : (0 : Int) ≤ (i : Int) + 1 := by omega
 have gB : i ≤ n := by omega
 have aku : ¬ (G = i) := by omega
 have akt : ¬ (G = i + 1) := by omega
 have HV : (i : Int) ≤ (n : Int) + 1 := by omega
 have vP : ¬ (cap = i) := by omega
 have aaD : ic.os = W.os := by rw [sN]; rfl
 have aa3 : ic.tape = W.tape := by rw [sN]; rfl
 have aaG : ic.output = W.output := by rw [sN]; rfl
 have aac : ic.heap = (W.alloc (.cells mV 214)).heap := by rw [sN]; rfl
 have mixed : ag.follows .mixedOrders = true := by kernel_rfl
 clear an DS pr kJ h1 kK fb hT hold rH Di zD Dq sN HN HO iZ ja jQ pi Ib fin eO OO nf
 go_enter Tryz.func160, Tryz.ntmps160
 go_wp2_with (first
  | (at_builtin; refine Lib.wpList_append_run _ rfl _ _ _ _ rfl _ _ rfl rfl _ _ (ID _) ?_)
  | (at_builtin; refine wpList_copy_runI _ rfl _ _ 134 134 rfl _ _ rfl rfl (ZM _ rfl _ _) ?_))
 go_region_law_o (refine step_copy_runI rfl _ _ 134 134 rfl (.slice (some ⟨N, (i + 1) * 3, none⟩) (n - i) (G - (i + 1))) (.slice (some ⟨g, i * 3, none⟩) (n - i) (cap - i)) (by simp [Act.eval, Act.put]) (by simp [Act.eval, Act.put]) (ZN (ic.setRow N c1.toArray).drew rfl 3 (G - (i + 1)) (cap - i)) ?_)
 go_wp2
 go_ret
 refine ⟨G, c2.toArray, .cells mV 214 (0, 0), rfl, ?_, aaD, aa3, aaG, ⟨_, rfl⟩, Ok, Oj, by simpa using bo, by simpa using dU⟩;show ((ic.setRow N c1.toArray).setRow N c2.toArray).heap = _;rw [setRow_setRow];simp only [World.setRow, aac]
end
theorem abD (W : World) (v : Value) (n : Nat) (xs news : List Value) (fw : Addr) (q3 : Nat) (cy : W.ownsRow 0 214 3 v n xs) (xI : (n + 1) * 24 ≤ 140737488355328)
  (hh : news.length = 3) (kJ : ∀ j v, news[j]? = some v → W.cell? (fw.add j) = some v) (h1 : ∀ v ∈ news, v.oneCell' = true) :
  Calls ag 160 #[v, .int .i64 n, .slice (some fw) 1 q3] W fun e bk =>
   ∃ v', e = .returned v' ∧ bk.ownsRow 0 214 3 v' (n + 1) (xs ++ news) ∧ W.grownBy bk v.ownBlock ∧ (∀ g, v'.ownBlock = some g → v.ownBlock = some g ∨ W.heap.size ≤ g) ∧ v'.oneCell' = true := by
 obtain ⟨eJ, z, hu, fb, hT, hj, kH, nV, bH⟩ := qW (P := ag) (tt := 134) (e := 214) (sz := 3) (bytes := 24) (by kernel_rfl);obtain ⟨v', w', al, q⟩ := Kj (P := ag) W 0 134 134 214 eJ z 3 24 hu fb hT hj kH nV bH v n xs cy fw 1 q3 news (by rw [hh]) kJ h1 (by unfold maxLen; omega) xI (dJ _) (by decide);rcases cy.2 with ⟨rfl, rfl⟩ | ⟨g, cap, cur, rfl, nJ, an, ez, jb, eb, mA⟩
 ·clear fb hT cy kJ
  go_enter Tryz.func160, Tryz.ntmps160
  go_wp2_with (at_builtin; refine Lib.wpList_append_run _ rfl _ _ _ _ rfl _ _ rfl rfl _ _ al ?_)
  go_ret
  exact ⟨v', rfl, q⟩
 ·have ZH : cap ≤ 9223372036854775807 := by unfold maxLen at jb; omega
  clear fb hT cy kJ an eb mA jb
  go_enter Tryz.func160, Tryz.ntmps160
  go_wp2_with (at_builtin; refine Lib.wpList_append_run _ rfl _ _ _ _ rfl _ _ rfl rfl _ _ al ?_)
  all_goals go_ret
  all_goals exact ⟨v', rfl, q⟩
theorem Nx : ∀ (l : List dG) (i : Nat), (ek l).take (i * 3) = ek (l.take i)
 | [], i => by simp [ek]
 | e :: l, 0 => by simp [ek]
 | e :: l, i + 1 => by
  rw [show (i + 1) * 3 = i * 3 + 1 + 1 + 1 by omega];simp only [ek, List.take_succ_cons, Nx l i]
theorem Nv : ∀ (l : List dG) (i : Nat), (ek l).drop (i * 3) = ek (l.drop i)
 | [], i => by simp [ek]
 | e :: l, 0 => by simp
 | e :: l, i + 1 => by
  rw [show (i + 1) * 3 = i * 3 + 1 + 1 + 1 by omega];simp only [ek, List.drop_succ_cons, Nv l i]
theorem bM.take {U : Nat → Prop} {ad : Nat → Nat} {W : World} {xs : List AC} {vs : List Value} (h : bM U ad W xs vs) (k : Nat) : bM U ad W (xs.take k) (vs.take k) := by
 have := h.sub 0 k;simpa using this
theorem bM.drop {U : Nat → Prop} {ad : Nat → Nat} {W : World} {xs : List AC} {vs : List Value} (h : bM U ad W xs vs) (k : Nat) : bM U ad W (xs.drop k) (vs.drop k) := by
 refine ⟨by rw [iC, iC, h.1], fun i x v aa hv => ?_⟩;rw [fY] at aa hv;exact h.2 _ x v aa hv
theorem bM.A2 {U : Nat → Prop} {ad : Nat → Nat} {W : World} {xs : List AC} {vs : List Value} (h : bM U ad W xs vs) : ∀ v ∈ vs, v.oneCell' = true := fun v hv => by
 obtain ⟨j, ae⟩ := j1 hv;have bb : j < xs.length := by rw [h.1]; exact (bL.1 ae).1
 exact (h.2 j _ v (bN bb) ae).cell
theorem aev {W : World} {b e sz n : Nat} {v : Value} {xs : List Value} (h : W.ownsRow b e sz v n xs) : v.oneCell' = true := by
 rcases h.2 with ⟨rfl, _⟩ | ⟨g, cap, cur, rfl, _⟩ <;> rfl
abbrev s9 (l : List dG) (i : Nat) (e : dG) : List dG := l.take i ++ e :: l.drop i
theorem abB {l : List dG} {i : Nat} {e : dG} (hi : i ≤ l.length) : (s9 l i e).length = l.length + 1 := by
 unfold s9; rw [cO, jj, ei, iC]; omega
theorem abC {U : Nat → Prop} {ad : Nat → Nat} {W : World} {l : List dG} {xs news : List Value} {e : dG} (i : Nat) (h : bM U ad W (ek l) xs) (aw : bM U ad W (ek [e]) news) : bM U ad W (ek (s9 l i e)) (xs.take (i * 3) ++ news ++ xs.drop (i * 3)) := by
 have : ek (s9 l i e) = (ek l).take (i * 3) ++ ek [e] ++ (ek l).drop (i * 3) := by
  rw [Nx, Nv, ← zm, ← zm, hK]; rfl
 rw [this];exact ((h.take _).append aw).append (h.drop _)
theorem Nt : ∀ (l : List dG) (y : AC), y ∈ ek l → ∃ u, y = .c u
 | [], y, h => by cases h
 | e :: l, y, h => by
  simp only [ek, fl] at h;rcases h with h | h | h | h
  ·exact ⟨_, h⟩
  ·exact ⟨_, h⟩
  ·exact ⟨_, h⟩
  ·exact Nt l y h
theorem Yi {U cR : Nat → Prop} {ad aX : Nat → Nat} {W bk : World} {l : List dG} {vs : List Value} (h : bM U ad W (ek l) vs) : bM cR aX bk (ek l) vs := by
 refine ⟨h.1, fun i x v aa hv => ?_⟩;have := h.2 i x v aa hv;obtain ⟨u, rfl⟩ := Nt l x (dc aa);exact this
theorem Xb {l : List dG} {v : Value} {i : Nat} {x y w : Int} (hi : i ≤ l.length) (hl : l.length ≤ 1000000) :
  yY ag 160 [aQ v, ax i, cK 3 1 [.c (.int .i64 x), .c (.int .i64 y), .c (.int .i64 w)]] (hq v l) fun cb aV => ∃ v', v'.oneCell' = true ∧ cb = aQ v' ∧ aV = hq v' (s9 l i (x, y, w)) := by
 refine agW rfl (j4 _) (fun cb aV ⟨v', _, _, e⟩ => by rw [e]; exact j4 _) ?_;intro U W vs xs az ki c4 vY cW;obtain ⟨hlen, hv⟩ := cW
 match vs, hlen with
 | [a, b, c], _ =>
  have dh : a = v := (hv 0 _ a rfl rfl).1;have aG : b = .int .i64 i := (hv 1 _ b rfl rfl).1;obtain ⟨⟨A, dB, aO, iZ, ja, ZE⟩, Z7⟩ := hv 2 _ c rfl rfl;obtain ⟨fw, news, rfl, gQ⟩ := ZE (by decide);subst dh aG aO;have hh : news.length = 3 := gQ.lL.1.symm;have rP : bM U id W (ek [(x, y, w)]) news := Yi (U := fun _ => True) (ad := id) (W := W) gQ.lL;have qz := abC i ki rP;have l5 : (s9 l i (x, y, w)).length = l.length + 1 := abB hi;have pr : xs.length = l.length * 3 := az.1;have aba : U fw.block := Z7 _ ⟨dB, fw, rfl, by decide, .inl rfl⟩;have sP : ∀ q ∈ ek (s9 l i (x, y, w)), q.aZ = true := fun q ak => cB.1 (Nu _) q ak
  have fin : ∀ (e : Ending) (bk : World) (v' : Value), e = .returned v' → bk.ownsRow 0 214 3 v' (l.length + 1) (xs.take (i * 3) ++ news ++ xs.drop (i * 3)) → W.grownBy bk a.ownBlock → (∀ g, v'.ownBlock = some g → a.ownBlock = some g ∨ W.heap.size ≤ g) →
    ∃ u cb aV, e = .returned u ∧ (∃ v', v'.oneCell' = true ∧ cb = aQ v' ∧ aV = hq v' (s9 l i (x, y, w))) ∧ Lv W bk (hq a l) aV U ∧ de U id W cb u ∧ cb.aZ = true := by
   rintro e bk v' rfl h1 h2 h3;have Db := aev h1;refine ⟨v', _, _, rfl, ⟨v', Db, rfl, rfl⟩, ⟨h2, ⟨_, ?_, qz⟩, sP, h3⟩, ⟨rfl, Db⟩, rfl⟩;show bk.ownsRow 0 214 3 v' (s9 l i (x, y, w)).length _;rw [l5]; exact h1
  by_cases sR : i = l.length
  ·subst sR;refine (abD W a l.length xs news fw dB az (by omega) hh gQ.at_ rP.A2).mono ?_;rintro e bk ⟨v', rfl, h1, h2, h3, _⟩;refine fin _ _ v' rfl ?_ h2 h3;rw [h4 (by omega), uZ (by omega), me];exact h1
  ·have bb : i < l.length := by omega
   obtain ⟨g, cap, cur, rfl, nJ, an, ez, jb, eb, mA⟩ : ∃ g cap cur, a = .slice (some ⟨g, 0, none⟩) l.length cap ∧ 0 ≤ g ∧ W.heap[g]? = some (.cells cur 214 (0, 0)) ∧ l.length ≤ cap ∧ cap ≤ maxLen ∧ cur.size = cap * 3 ∧ cur.toList.take (l.length * 3) = xs := by
    rcases az.2 with ⟨_, aA⟩ | h
    ·have : l.length = 0 := aA;omega
    ·exact h
   have Z9 : fw.block ≠ g := fun e => vY g rfl (by rw [← e]; exact aba)
   by_cases my : l.length + 1 ≤ cap
   ·refine (abH W g l.length cap i cur news fw dB an bb my (by unfold maxLen at jb; omega) eb (by rw [mA]; exact ki.A2) hh gQ.at_ rP.A2 Z9).mono ?_;rintro e bk ⟨rfl, ot, rfl, ba, bo⟩;rw [mA] at bo;have aR := setRow_heap W.drew g cur ot _ (0, 0) an;refine fin _ _ _ rfl ⟨?_, .inr ⟨g, cap, ot, rfl, dJ _, aR, my, jb, ba, bo⟩⟩ ⟨rfl, rfl, rfl, by (show W.heap.size ≤ (Array.modify W.heap g _).size; rw [Array.size_modify]; exact dI _), fun k _ af => ?_⟩ fun jP ec => .inl ec
    ·simp only [cO, ei, iC, hh]; omega
    ·show (Array.modify W.heap g _)[k]? = _;rw [u0];rw [if_neg (fun e => af (by rw [e]; rfl))]
   ·refine (abE W g l.length cap i cur news fw dB xs an mA pr bb ez (by omega) (by omega) ki.A2 hh gQ.at_ rP.A2).mono ?_;rintro e bk ⟨G, ot, o, rfl, q1, q2, bB, cS, ⟨hb, rfl⟩, ba, bo, dU, hU⟩;have zY : (W.alloc (.cells hb 214 (0, 0))).heap[W.heap.size]? = some (.cells hb 214 (0, 0)) := by show (W.heap.push _)[W.heap.size]? = _; simp
    have aR := setRow_heap _ W.heap.size hb ot _ (0, 0) zY;rw [← q1] at aR;refine fin _ _ _ rfl ⟨?_, .inr ⟨W.heap.size, G, ot, rfl, dJ _, aR, ba, bo, dU, hU⟩⟩ ⟨q2, bB, cS, ?_, fun k af _ => ?_⟩ fun jP ec => .inr (by simp [Value.ownBlock] at ec; omega)
    ·simp only [cO, ei, iC, hh]; omega
    ·rw [q1];show W.heap.size ≤ (Array.modify (W.heap.push _) _ _).size;rw [Array.size_modify, Array.size_push]; omega
    ·rw [q1];simp only [World.setRow, u0];rw [if_neg (by omega)];show (W.heap.push _)[k]? = _;rw [Array.getElem?_push_lt af, Array.getElem?_eq_getElem af]
end Go.Proofs.YtbcecodakfejaaaGreat
namespace Go.Proofs.YtbcecodakfejaaaGreat
open Go.RowKit
theorem agf {x y a b : Int} : mI x y a b < 0 ↔ mH x y a b = true := by
 rw [pD];unfold mI bR
 split <;> split <;> first | omega | (split <;> omega)
theorem age {x y a b : Int} : mI x y a b = 0 ↔ x = a ∧ y = b := by
 unfold mI bR
 split <;> split <;> first | omega | (split <;> omega)
theorem RO {x y v a b : Int} : au ag 181 [.w (.agg [.c (.int .i64 x), .c (.int .i64 y), .c (.int .i64 v)]), aE a b] (ax (mI x y a b)) := by
 have aS := afs (x := x) (y := y) (x' := a) (y' := b);refine bd (f := 181) Tryz.func181 rfl rfl rfl rfl ?_;(refine bS ?_)
 ((refine aW rfl (aY rfl aJ) ?_))
 exact ah.aK.refl _
abbrev TQ : ah := aQ (.func (.func 181) #[] #[])
def T8 (l : List dG) (v : Value) (a b : Int) (n : Nat) (R : aI) (aL : List (Nat × ah)) (bh : List (Nat × List AC)) : Prop :=
 ∃ (lo hi : Nat) (kl ae : Int), lo ≤ fe l a b ∧ fe l a b ≤ hi ∧ hi ≤ l.length ∧ n = hi - lo ∧ kl = lo ∧ ae = hi ∧ R = bC 0 (hq v l) ∧ bh = [(4, jX a b)] ∧ aL = [(0, aQ v), (2, TQ), (4, tE 4), (8, ax l.length), (9, ax kl), (10, ax ae)]
theorem Xc {l : List dG} {v : Value} {a b : Int} (al : kC l) (hl : l.length ≤ 1000000) :
  yY ag 180 [aQ v, aE a b, TQ] (hq v l) fun cb aV => cb = .cz [.one (.c (.int .i64 (fe l a b))), .one (.c (.bool (hQ l a b)))] ∧ aV = hq v l := by
 refine agV rfl (fun v aV h => by rw [h.1]; rfl) ?_;refine dE (f := 180) Tryz.func180 rfl (dA rfl) (by exact oo) ?_;(repeat first | refine cG ?_ | (with_reducible apply nR 0); (iterate 4 rfl); kernel_rfl; rfl);refine kw 49 (T8 l v a b) l.length (bC 0 (hq v l)) _ [(4, jX a b)] ⟨0, l.length, 0, l.length, dJ _, Sa l a b, dI _, rfl, rfl, rfl, rfl, rfl, rfl⟩ (bx.refl _) rfl ⟨rfl, rfl, rfl, rfl, rfl, rfl, trivial⟩ ⟨rfl, trivial⟩ rfl ?_;rintro n R aL bh ⟨lo, hi, kl, ae, h1, h2, h3, rfl, aD, cU, rfl, rfl, rfl⟩ c9;clear c9
 by_cases ak : lo < hi
 ·subst aD cU;have q2 : (lo : Int) < (hi : Int) := by omega
  obtain ⟨h, aR⟩ : ∃ h, h = (lo + hi) / 2 := ⟨_, rfl⟩;have aG : ((lo : Int) + (hi : Int)) / 2 = (h : Int) := by omega
  have aad : h < l.length := by omega
  obtain ⟨x, y, w, g1⟩ : ∃ x y w, l[h]? = some (x, y, w) := ⟨_, _, _, bN aad⟩;have lH : 0 < l.length := by omega
  have k1 : (((lo : Int) + (hi : Int)) / 2).toNat * 3 + 3 ≤ (ek l).length ∧ ((ek l).drop ((((lo : Int) + (hi : Int)) / 2).toNat * 3)).take 3 = [.c (.int .i64 x), .c (.int .i64 y), .c (.int .i64 w)] := ⟨by rw [zn]; omega, Ny aG g1⟩;have ic : IntKind.i64.wrap ((lo : Int) + hi) = (lo : Int) + hi := k9 (by omega);have Lx : IntKind.u64.wrap ((lo : Int) + hi) = (lo : Int) + hi := by rw [IntKind.wrap_u64]; omega
  have aS := RO (x := x) (y := y) (v := w) (a := a) (b := b);have j7 : h < fe l a b ↔ mI x y a b < 0 := (yl al a b h (x, y, w) g1).trans agf.symm;generalize mI x y a b = c at *;have J6 : ((lo : Int) + (hi : Int)) / 2 < (l.length : Int) := by omega
  clear g1
  replace aG := Lib.hid aG
  replace aR := Lib.hid aR
  by_cases aj : c < 0
  ·(repeat first | (with_reducible apply dl (id := 5) [0,1,2,3,4,5,6,7]); kernel_rfl; kernel_rfl; rfl | refine cG ?_ | refine iF ?_ | (with_reducible apply jT 0); (iterate 4 rfl); (omega); (assumption); rfl; kernel_rfl; rfl | (with_reducible apply nS 0); (iterate 3 rfl); (assumption); assumption; rfl; kernel_rfl; rfl);have aR := aR.out;have aG := aG.out;refine ⟨hi - (h + 1), bC 0 (hq v l), _, [(4, jX a b)], by omega, ⟨h + 1, hi, _, hi, j7.2 aj, h2, h3, rfl, ?_, rfl, rfl, rfl, rfl⟩, bx.refl _, rfl, ⟨rfl, rfl, rfl, rfl, rfl, rfl, trivial⟩, ⟨rfl, trivial⟩, rfl⟩;omega
  ·have jv : fe l a b ≤ h := by have := mt j7.1 aj; omega
   (repeat first | (with_reducible apply dl (id := 5) [0,1,2,3,4,5,6,7]); kernel_rfl; kernel_rfl; rfl | refine cG ?_ | refine iF ?_ | (with_reducible apply jT 0); (iterate 4 rfl); (omega); (assumption); rfl; kernel_rfl; rfl | (with_reducible apply nS 0); (iterate 3 rfl); (assumption); assumption; rfl; kernel_rfl; rfl);have aR := aR.out;have aG := aG.out;refine ⟨h - lo, bC 0 (hq v l), _, [(4, jX a b)], by omega, ⟨lo, h, lo, _, h1, jv, by omega, rfl, rfl, aG, rfl, rfl, rfl⟩, bx.refl _, rfl, ⟨rfl, rfl, rfl, rfl, rfl, rfl, trivial⟩, ⟨rfl, trivial⟩, rfl⟩
 ·have dh : lo = fe l a b := by omega
  subst dh;have q2 : ¬ kl < ae := by omega
  clear cU ak h2 h3 h1;generalize hp : fe l a b = p at *
  by_cases aw : p < l.length
  ·subst aD;have bB : (p : Int) < (l.length : Int) := by omega
   have lH : 0 < l.length := by omega
   obtain ⟨x, y, w, g1⟩ : ∃ x y w, l[p]? = some (x, y, w) := ⟨_, _, _, bN aw⟩;have k1 : ((p : Int)).toNat * 3 + 3 ≤ (ek l).length ∧ ((ek l).drop (((p : Int)).toNat * 3)).take 3 = [.c (.int .i64 x), .c (.int .i64 y), .c (.int .i64 w)] := ⟨by rw [zn]; omega, Ny rfl g1⟩;have aS := RO (x := x) (y := y) (v := w) (a := a) (b := b)
   have j7 : hQ l a b = decide (mI x y a b = 0) := by
    rw [kR, Dl al, hp, g1, decide_eq_true_iff, age]
    constructor
    ·rintro ⟨u, hu⟩; cases hu; exact ⟨rfl, rfl⟩
    ·rintro ⟨rfl, rfl⟩; exact ⟨w, rfl⟩
   generalize mI x y a b = c at *;(repeat first | (with_reducible apply dl (id := 8) [0,1,2,3,4,5,6,7,8,9,10,11,12,13,14,15]); kernel_rfl; kernel_rfl; rfl | refine cG ?_ | (with_reducible apply fX); rfl; (repeat first | refine gu ?_ | refine e7 ?_ | (with_reducible apply bP (c := true)); rfl; rfl; (exact cd (by omega))); (with_reducible apply fC) | (with_reducible apply jT 0); (iterate 4 rfl); (omega); (assumption); rfl; kernel_rfl; rfl | (with_reducible apply nS 0); (iterate 3 rfl); (assumption); assumption; rfl; kernel_rfl; rfl)
   ((refine OL rfl (aY rfl (aY rfl aJ)) rfl rfl ?_))
   exact ⟨by rw [j7]; rfl, rfl⟩
  ·subst aD;have bB : ¬ (p : Int) < (l.length : Int) := by omega
   have j7 : hQ l a b = false := by
    cases aR : hQ l a b with
    | false => rfl
    | true =>
     obtain ⟨u, hu⟩ := (Dl al).1 aR;rw [hp] at hu;have := (bL.1 hu).1;omega
   (repeat first | (with_reducible apply dl (id := 8) [0,1,2,3,4,5,6,7,8,9,10,11,12,13,14,15]); kernel_rfl; kernel_rfl; rfl | refine cG ?_ | (with_reducible apply fX); rfl; (repeat first | refine gu ?_ | (with_reducible apply bP (c := false)); rfl; rfl; (exact cA (by omega))); (with_reducible apply fC))
   ((refine OL rfl (aY rfl (aY rfl aJ)) rfl rfl ?_))
   exact ⟨by rw [j7]; rfl, rfl⟩
theorem aiu {l : List dG} {p : Nat} {x y u w : Int} (hu : l[p]? = some (x, y, u)) : eI (ek l) ((p : Int).toNat * 3 + 2) [.c (.int .i64 w)] = ek (l.take p ++ (x, y, w) :: l.drop (p + 1)) := by
 have bb := (bL.1 hu).1;have he := (bL.1 hu).2
 have aG : l = l.take p ++ (x, y, u) :: l.drop (p + 1) := by
  conv => lhs; rw [← kr p l, nm bb, he]
 have t1 : (ek (l.take p)).length = p * 3 := by rw [zn, ei]; omega
 rw [ld]
 conv => lhs; rw [aG]
 unfold eI;rw [zm, zm];simp only [ek];rw [List.take_append, List.drop_append, t1, show (ek (l.take p)).take (p * 3 + 2) = ek (l.take p) from h4 (by omega), show (ek (l.take p)).drop (p * 3 + 2 + [AC.c (.int .i64 w)].length) = [] from uZ (by rw [t1, List.length_singleton]; omega)];rw [show p * 3 + 2 - p * 3 = 2 by omega, show p * 3 + 2 + [AC.c (.int .i64 w)].length - p * 3 = 3 by simp; omega];simp
def Uk (n : Nat) : Prop := ∀ (u9 : Value) l v (x y w : Int), v.oneCell' = true → kC l → l.length ≤ n → rf ag 142 [aE x y, ax w] [.c v, .c u9] (hq v l) fun r ar aV => r = a7 (!hQ l x y) ∧ ∃ v', v'.oneCell' = true ∧ ar = [.c v', .c u9] ∧ aV = hq v' (tn l x y w)
def Ug (n : Nat) : Prop := ∀ (u9 : Value) l v (x y : Int), v.oneCell' = true → kC l → l.length ≤ n → rf ag 158 [aE x y] [.c v, .c u9] (hq v l) fun r ar aV => r = .cz [.one (.c (.int .i64 (oU l x y))), .one (.c (.bool (hQ l x y)))] ∧ ar = [.c v, .c u9] ∧ aV = hq v l
def Uh (n : Nat) : Prop := ∀ (u9 : Value) l v, v.oneCell' = true → kC l → l.length ≤ n → rf ag 141 [] [.c v, .c u9] (hq v l) fun r ar aV => r = ax l.length ∧ ar = [.c v, .c u9] ∧ aV = hq v l
theorem MM {u9 : Value} {l : List dG} {v : Value} {a b : Int} (hv : v.oneCell' = true) (al : kC l) (hl : l.length ≤ 1000000) : rf ag 159 [aE a b] [.c v, .c u9] (hq v l) fun cb ar aV => cb = .cz [.one (.c (.int .i64 (fe l a b))), .one (.c (.bool (hQ l a b)))] ∧ ar = [.c v, .c u9] ∧ aV = hq v l := by
 have aS := Xc (v := v) (a := a) (b := b) al hl;refine uN rfl rfl (fun v ar aV h => by obtain ⟨rfl, rfl, rfl⟩ := h; exact ⟨rfl, rfl⟩) ?_;refine dE (f := 159) Tryz.func159 rfl (dA rfl) (by exact ew rfl) ?_;(repeat first | (with_reducible apply mh (id := 1) [0,1,2,3,4,5,6,7,8,9] [11]); kernel_rfl; kernel_rfl; rfl | refine cG ?_);refine Pd 0 rfl rfl rfl rfl aS rfl rfl rfl (fun cb aV h => ?_);obtain ⟨rfl, rfl⟩ := h;(refine bc ?_)
 ((refine rM rfl (aY rfl (aY rfl aJ)) rfl rfl rfl rfl ?_))
 exact ⟨rfl, rfl, rfl⟩
theorem ab0 : Uh 1100 := by
 intro u9 l v hv al hl;refine uN rfl rfl (fun v ar aV h => by obtain ⟨rfl, rfl, rfl⟩ := h; exact ⟨rfl, rfl⟩) ?_;refine dE (f := 141) Tryz.func141 rfl (dA rfl) (by exact ew rfl) ?_;(repeat first | refine cG ?_ | (with_reducible apply nR 0); (iterate 4 rfl); kernel_rfl; rfl)
 ((refine rM rfl (aY rfl aJ) rfl rfl rfl rfl ?_))
 exact ⟨rfl, rfl, rfl⟩
theorem abZ : Ug 1100 := by
 intro u9 l v x y hv al hl;have aS := MM (u9 := u9) (v := v) (a := x) (b := y) hv al (by omega);have hp := Dl (l := l) al (x := x) (y := y);refine uN rfl rfl (fun v ar aV h => by obtain ⟨rfl, rfl, rfl⟩ := h; exact ⟨rfl, rfl⟩) ?_;cases aR : hQ l x y with
 | false =>
  rw [aR] at aS;rw [aja aR];refine dE (f := 158) Tryz.func158 rfl (dA rfl) (by exact ew rfl) ?_;(refine bc ?_);refine s0 1000 0 rfl rfl rfl rfl aS rfl rfl rfl rfl rfl rfl (fun r ar aV h => ?_);obtain ⟨rfl, rfl, rfl⟩ := h;(refine bc ?_)
  ((refine rM rfl (aY rfl (aY rfl aJ)) rfl rfl rfl rfl ?_))
  exact ⟨rfl, rfl, rfl⟩
 | true =>
  rw [aR] at aS;obtain ⟨u, hu⟩ := hp.1 aR;rw [(ajb al hu).2];have bb := (bL.1 hu).1;generalize fe l x y = p at *;clear hp;have bB : (p : Int) < (l.length : Int) := by omega
  have lH : 0 < l.length := by omega
  have k1 : (ek l)[(p : Int).toNat * 3 + 2]? = some (.c (.int .i64 u)) := by
   have h1 := Hg l p (x, y, u) hu;have h2 : ((((ek l).drop (p * 3)).take 3))[2]? = some (.c (.int .i64 u)) := by rw [h1]; rfl
   rw [fJ (by decide), fY] at h2;exact h2
  refine dE (f := 158) Tryz.func158 rfl (dA rfl) (by exact ew rfl) ?_;(refine bc ?_);refine s0 1000 0 rfl rfl rfl rfl aS rfl rfl rfl rfl rfl rfl (fun r ar aV h => ?_);obtain ⟨rfl, rfl, rfl⟩ := h;(repeat first | refine cG ?_ | (with_reducible apply jT 0); (iterate 4 rfl); (omega); (assumption); rfl; kernel_rfl; rfl | (with_reducible apply Ag 0); (iterate 3 rfl); (assumption); kernel_rfl; rfl | (with_reducible apply Ah 0); (iterate 3 rfl); (assumption); assumption; rfl; kernel_rfl; rfl)
  ((refine rM rfl (aY rfl (aY rfl aJ)) rfl rfl rfl rfl ?_))
  exact ⟨rfl, rfl, rfl⟩
theorem ab4 : Uk 1100 := by
 intro u9 l v x y w hv al hl;have aS := MM (u9 := u9) (v := v) (a := x) (b := y) hv al (by omega);have hp := Dl (l := l) al (x := x) (y := y);have rQ := Sa l x y;refine uN rfl rfl (fun v ar aV h => by obtain ⟨rfl, v', b8, rfl, rfl⟩ := h; exact ⟨rfl, rfl⟩) ?_;cases aR : hQ l x y with
 | false =>
  rw [aR] at aS;rw [Sz al aR];have bD := Xb (l := l) (v := v) (i := fe l x y) (x := x) (y := y) (w := w) rQ (by omega);generalize fe l x y = p at *;clear hp;refine dE (f := 142) Tryz.func142 rfl (dA rfl) (by exact ew rfl) ?_;(refine bc ?_);refine s0 1000 0 rfl rfl rfl rfl aS rfl rfl rfl rfl rfl rfl (fun r ar aV h => ?_);obtain ⟨rfl, rfl, rfl⟩ := h;(repeat first | (with_reducible apply mh (id := 5) [0,1,2,3,4,5,6,7,8,9,10,11,12,13] [34]); kernel_rfl; kernel_rfl; rfl | refine cG ?_);refine Pd 0 rfl rfl rfl rfl bD rfl rfl rfl (fun cb aV h => ?_);obtain ⟨v', b8, rfl, rfl⟩ := h;(refine bc ?_)
  ((refine rM rfl (aY rfl aJ) rfl rfl rfl rfl ?_))
  exact ⟨rfl, v', b8, rfl, rfl⟩
 | true =>
  rw [aR] at aS;obtain ⟨u, hu⟩ := hp.1 aR;rw [agw al hu];have bb := (bL.1 hu).1;generalize fe l x y = p at *;clear hp;have bB : (p : Int) < (l.length : Int) := by omega
  have lH : 0 < l.length := by omega
  refine dE (f := 142) Tryz.func142 rfl (dA rfl) (by exact ew rfl) ?_;(refine bc ?_);refine s0 1000 0 rfl rfl rfl rfl aS rfl rfl rfl rfl rfl rfl (fun r ar aV h => ?_);obtain ⟨rfl, rfl, rfl⟩ := h;(repeat first | refine cG ?_ | (with_reducible apply jT 0); (iterate 4 rfl); (omega); (assumption); rfl; kernel_rfl; rfl | (with_reducible apply Ag 0); (iterate 3 rfl); (assumption); kernel_rfl; rfl);refine Ak 0 rfl rfl rfl rfl lH rfl rfl ?_ rfl ?_
  ·show (p : Int).toNat * 3 + 2 + 1 ≤ (ek l).length;rw [zn]; omega
  ·have aG := aiu (w := w) hu
   have aO : (l.take p ++ (x, y, w) :: l.drop (p + 1)).length = l.length := by
    rw [cO, jj, ei, iC]; omega
   have cl : (⟨214, 3, v, l.length, eI (ek l) ((p : Int).toNat * 3 + 2) [.c (.int .i64 w)]⟩ : bG) = hq v (l.take p ++ (x, y, w) :: l.drop (p + 1)) := by
    rw [aG]; unfold hq; rw [aO]
   (refine bc ?_)
   ((refine rM rfl (aY rfl aJ) rfl rfl rfl rfl ?_))
   exact ⟨rfl, v, hv, rfl, cl⟩
abbrev tA (v : Value) (r : Int) : List AC := [.c v, .c (.int .i64 r)]
def tP : Cg := fun r L p S => ∃ (ad : Nat → Nat) (v : Value) (es : List dG), p = eh (ad 1000) ∧ v.oneCell' = true ∧ og L es ∧ S = lM ad (cZ 1000 (tA v r)) (bC 0 (hq v es)) 1000
theorem Nw : ∀ l, (ek l).all AC.wL = true
 | [] => rfl
 | p :: l => by
  have := Nw l;simp only [ek, kt, this]; rfl
theorem Ku (v : Value) (r : Int) (es : List dG) : n0 (cZ 1000 (tA v r)) (bC 0 (hq v es)) := by
 refine ⟨fun k cs h => ?_, fun i q h => ?_⟩
 ·obtain ⟨rfl, rfl⟩ := hW h; rfl
 ·obtain ⟨rfl, rfl⟩ := fO h; exact ⟨j4 _, Nw es⟩
theorem Qn (k : Nat) (cs : List AC) : ∃ ds, cZ k cs k = some ds := ⟨cs, by unfold cZ; exact cF _ _ _⟩
theorem Ss {b c : Nat} (h : eh b = eh c) : b = c := by cases h; rfl
theorem wU {r q : bG} : bI (bC 0 r) 0 q = bC 0 q := by
 funext i;unfold bC
 by_cases e : i = 0
 ·subst e; rw [cF, cF]
 ·rw [ct _ _ e, ct _ _ e, ct _ _ e]
theorem PO : Ul tP := by
 intro r L b S h hl;obtain ⟨ad, v, es, hp, hv, bl, rfl⟩ := h;obtain rfl := Ss hp;refine TK (Qn _ _) rfl (Post := fun w m1 bf => w = ax r ∧ m1 = cZ 1000 (tA v r) ∧ bf = bC 0 (hq v es)) ?_ (fun w m1 bf h => ?_)
 ·refine dE (f := 52) Tryz.func52 rfl (dA rfl) (by exact ew rfl) ?_;(refine bc ?_)
  ((refine eT rfl (aY rfl aJ) rfl (bx.refl _) rfl rfl (fun i r h => ⟨r, h⟩) ?_))
  exact ⟨rfl, rfl, rfl⟩
 ·obtain ⟨rfl, rfl, rfl⟩ := h;exact ⟨rfl, Ku _ _ _, fun eK jU => ⟨rfl, eK, v, es, by rw [jU], hv, bl, rfl⟩⟩
theorem ab2 : Uj tP := by
 intro n;refine aiM (Post := fun w m1 bf => w = .w (.one (.own 7 0)) ∧ m1 = cZ 7 (tA (.slice none 0 0) (mg n)) ∧ bf = bC 0 (hq (.slice none 0 0) [])) ?_ (fun w m1 bf h => ?_)
 ·have e : mg n = if 1024 < if 1 > n then 1 else n then 1024 else if 1 > n then 1 else n := by unfold mg; (repeat split) <;> omega
  rw [e];refine dE (f := 50) Tryz.func50 rfl (dA rfl) (by exact oo) ?_;refine oO 0 214 3 rfl ?_;(refine bc ?_)
  ((refine Dx 7 rfl (aY rfl aJ) rfl (bx.refl _) rfl rfl ?_))
  exact ⟨rfl, rfl, rfl⟩
 ·obtain ⟨rfl, rfl, rfl⟩ := h;refine ⟨7, rfl, ⟨fun k cs h => ?_, (Ku (.slice none 0 0) 0 []).2⟩, fun eK => ⟨eK 7, rfl, fun j => eK (swp 1000 7 j), .slice none 0 0, [], rfl, rfl, .nil, ?_⟩⟩
  ·obtain ⟨rfl, rfl⟩ := hW h; rfl
  ·have h1 := aiO (nv 1000 7) (ca := fun j => j) (iV := fun j => j) (fun _ => rfl) (fun _ => rfl) (ad := eK) (m := cZ 1000 (tA (.slice none 0 0) (mg n))) (R := bC 0 (hq (.slice none 0 0) [])) (k := 1000);rw [wx rfl] at h1;exact h1
theorem ad9 {r : Int} {L : List ao} {v : Value} {es : List dG} (x y : Int) (hv : v.oneCell' = true) (bl : og L es) (hl : L.length ≤ 1100) : rf ag 140 [aE x y] (tA v r) (hq v es) fun w ar aV => w = .cz [.one (.c (.int .i64 (oU es x y))), .one (.c (.bool (hQ es x y)))] ∧ ar = tA v r ∧ aV = hq v es := by
 have aS := abZ (.int .i64 r) es v x y hv bl.1 (by rw [bl.len]; exact hl);refine uN rfl rfl (fun v ar aV h => by obtain ⟨rfl, rfl, rfl⟩ := h; exact ⟨rfl, rfl⟩) ?_;generalize oU es x y = a at *;generalize hQ es x y = c at *;refine dE (f := 140) Tryz.func140 rfl (dA rfl) (by exact ew rfl) ?_;(repeat first | (with_reducible apply mh (id := 1) [0,1,2,3,4,5,6,7,8] [10]); kernel_rfl; kernel_rfl; rfl | refine cG ?_);refine IF 1000 0 rfl rfl rfl rfl aS rfl (fun v ar aV h => h.2.1) rfl rfl rfl rfl (fun cb ar aV h => ?_);obtain ⟨rfl, rfl, rfl⟩ := h;(refine bc ?_)
 ((refine rM rfl (aY rfl (aY rfl aJ)) rfl rfl rfl rfl ?_))
 exact ⟨rfl, rfl, rfl⟩
theorem ahT {f : FuncId} {args : List ah} {r : Int} {L L' : List ao} {b : Nat} {S : e4} {post : ah → Prop} (eo : args.all ah.aZ = true) (h : tP r L (eh b) S)
  (aj : ∀ v es, v.oneCell' = true → og L es → rf ag f args (tA v r) (hq v es) fun w ar aV => w.aZ = true ∧ post w ∧ ∃ v' vI, v'.oneCell' = true ∧ og L' vI ∧ ar = tA v' r ∧ aV = hq v' vI) : y5 ag f (aQ (eh b) :: args) (eh b) S fun w dw => post w ∧ tP r L' (eh b) dw := by
 obtain ⟨ad, v, es, hp, hv, bl, rfl⟩ := h;obtain rfl := Ss hp;refine TK (Qn _ _) eo (aj v es hv bl 1000 0) (fun w m1 bf h => ?_);obtain ⟨ar, aV, rfl, rfl, hw, aaN, v', vI, b8, cr, rfl, rfl⟩ := h;exact ⟨hw, Ku _ _ _, fun eK jU => ⟨aaN, eK, v', vI, by rw [jU], b8, cr, rfl⟩⟩
abbrev ai7 (b : Bool) (e : Int) : ah := .cz [.one (.c (.bool b)), .one (.c (.int .i64 e))]
theorem abV : Ud tP := by
 intro r L b S x y h hl;refine ahT (L' := rk r L x y) (post := fun w => w = ai7 (oi r L x y) (oj r L x y)) rfl h fun v es hv bl => ?_;have zM := bl.len;have aw := bl.num x y;have aS := ad9 (r := r) x y hv bl hl
 by_cases aR : 0 ≤ lG L x y
 ·obtain ⟨aG, aO, cl⟩ := VE (r := r) aR;rw [aG, aO, cl];rw [aw.1, cd aR] at aS;refine uN rfl rfl (fun w ar aV h => by obtain ⟨c1, _, v', vI, _, _, rfl, _⟩ := h; exact ⟨c1, rfl⟩) ?_;generalize oU es x y = a at *;refine dE (f := 121) Tryz.func121 rfl (dA rfl) (by exact ew rfl) ?_;(refine bc ?_);refine s0 1000 0 rfl rfl rfl rfl aS rfl rfl rfl rfl rfl rfl (fun cb ar aV h => ?_);obtain ⟨rfl, rfl, rfl⟩ := h;rw [wU];(refine bc ?_)
  ((refine rM rfl (aY rfl (aY rfl aJ)) rfl rfl rfl rfl ?_))
  exact ⟨rfl, rfl, v, es, hv, bl, rfl, rfl⟩
 ·have ap := aw.1;rw [cA aR] at ap;rw [ap] at aS;have bD := ab0 (.int .i64 r) es v hv bl.1 (by omega);rw [zM] at bD
  by_cases h2 : r ≤ (L.length : Int)
  ·obtain ⟨aG, aO, cl⟩ := VD (r := r) aR h2;rw [aG, aO, cl];refine uN rfl rfl (fun w ar aV h => by obtain ⟨c1, _, v', vI, _, _, rfl, _⟩ := h; exact ⟨c1, rfl⟩) ?_;generalize oU es x y = a at *;have sM : (L.length : Int) ≥ r := h2;refine dE (f := 121) Tryz.func121 rfl (dA rfl) (by exact ew rfl) ?_;(refine bc ?_);refine s0 1000 0 rfl rfl rfl rfl aS rfl rfl rfl rfl rfl rfl (fun cb ar aV h => ?_);obtain ⟨rfl, rfl, rfl⟩ := h;rw [wU];(repeat first | (with_reducible apply mh (id := 4) [0,1,2,4,5,6,7,3,8] [18]); kernel_rfl; kernel_rfl; rfl | refine cG ?_);refine IF 1000 0 rfl rfl rfl rfl bD rfl (fun v ar aV h => h.2.1) rfl rfl rfl rfl (fun cb ar aV h => ?_);obtain ⟨rfl, rfl, rfl⟩ := h;rw [wU];(refine bc ?_)
   ((refine rM rfl (aY rfl (aY rfl aJ)) rfl rfl rfl rfl ?_))
   exact ⟨rfl, rfl, v, es, hv, bl, rfl, rfl⟩
  ·obtain ⟨aG, aO, cl⟩ := VF (r := r) aR h2;rw [aG, aO, cl];have cr := bl.add aR;have dW := ab4 (.int .i64 r) es v x y L.length hv bl.1 (by omega);rw [ap] at dW;refine uN rfl rfl (fun w ar aV h => by obtain ⟨c1, _, v', vI, _, _, rfl, _⟩ := h; exact ⟨c1, rfl⟩) ?_;generalize oU es x y = a at *;generalize tn es x y L.length = Hj at *;have sM : ¬ (L.length : Int) ≥ r := h2;refine dE (f := 121) Tryz.func121 rfl (dA rfl) (by exact ew rfl) ?_;(refine bc ?_);refine s0 1000 0 rfl rfl rfl rfl aS rfl rfl rfl rfl rfl rfl (fun cb ar aV h => ?_);obtain ⟨rfl, rfl, rfl⟩ := h;rw [wU];(repeat first | (with_reducible apply mh (id := 4) [0,1,2,4,5,6,7,3,8] [18]); kernel_rfl; kernel_rfl; rfl | refine cG ?_);refine IF 1000 0 rfl rfl rfl rfl bD rfl (fun v ar aV h => h.2.1) rfl rfl rfl rfl (fun cb ar aV h => ?_);obtain ⟨rfl, rfl, rfl⟩ := h;rw [wU];(repeat first | (with_reducible apply mh (id := 6) [0,1,2,3,4,5,6,7,8,9,10] [31,32,2001000]); kernel_rfl; kernel_rfl; rfl | refine cG ?_);refine s0 1000 0 rfl rfl rfl rfl bD rfl rfl rfl rfl rfl rfl (fun cb ar aV h => ?_);obtain ⟨rfl, rfl, rfl⟩ := h;rw [wU]
   skip
   refine s0 1000 0 rfl rfl rfl rfl dW rfl rfl rfl rfl rfl rfl (fun cb ar aV h => ?_);obtain ⟨rfl, v', b8, rfl, rfl⟩ := h;rw [wU];(refine bc ?_)
   ((refine rM rfl (aY rfl (aY rfl aJ)) rfl rfl rfl rfl ?_))
   exact ⟨rfl, rfl, v', Hj, b8, cr, rfl, rfl⟩
theorem SB (v : Value) (l : List ao) (p : ao) : jh v (l ++ [p]) = ⟨36, 2, v, l.length + 1, b3 l ++ [.c (.int .i64 p.1), .c (.int .i64 p.2)]⟩ := by
 unfold jh; rw [← I3, cO]; rfl
end Go.Proofs.YtbcecodakfejaaaGreat
namespace Go.Proofs.YtbcecodakfejaaaGreat
open Go.RowKit
open br
abbrev qZ (a b c d : Int) : ah := .w (.agg [.c (.int .i64 a), .c (.int .i64 b), .c (.int .i64 c), .c (.int .i64 d)])
def x6 (l : ao × ao) : List AC := [.c (.int .i64 l.1.1), .c (.int .i64 l.1.2), .c (.int .i64 l.2.1), .c (.int .i64 l.2.2)]
def ni (l : List (ao × ao)) : List AC := l.flatMap x6
theorem Px {V : List ao} {j : Nat} {a b : Int} {ji : Int} (ae : ji = j) (h : V[j]? = some (a, b)) : ji < (V.length : Int) := by
 have := (bL.1 h).1; omega
theorem RL {V : List ao} {D : List Int} {j : Nat} {a b c d : Int} (h1 : V[j]? = some (a, b)) (h2 : V[j + 1]? = some (c, d)) (hl : V.length ≤ 100000) : au ag 96 [oR V D, ax j] (qZ a b c d) := by
 obtain ⟨ji, ae⟩ : ∃ ji : Int, ji = j := ⟨_, rfl⟩;have q1 := Px (ji := ji) ae h1;have q2 := Px (ji := ji + 1) (j := j + 1) (by omega) h2;have q0 : 0 ≤ ji := by omega
 have bB : 0 ≤ ji + 1 := by omega
 have ab : ji ≤ 100000 := by omega
 have k1 := uE ae h1;have yL := uE (j := ji + 1) (i := j + 1) (by omega) h2;rw [show ax (j : Int) = ax ji by rw [ae]];clear ae h1 h2 hl;refine bd (f := 96) Tryz.func96 rfl rfl rfl rfl ?_;(refine eF ?_)
 ((refine aW rfl (cD rfl rfl rfl aJ) ?_))
 exact ah.aK.refl _
theorem EP {a b c d k A B C D : Int} (aS : au ag 13 [aE a b, ax k] (aE A B)) (bD : au ag 13 [aE c d, ax k] (aE C D)) : au ag 102 [qZ a b c d, ax k] (.cz [.agg [.c (.int .i64 A), .c (.int .i64 B)], .agg [.c (.int .i64 C), .c (.int .i64 D)]]) := by
 refine bd (f := 102) Tryz.func102 rfl rfl rfl rfl ?_;(refine bS ?_)
 ((refine aW rfl (cD rfl rfl rfl (cD rfl rfl rfl aJ)) ?_))
 exact ah.aK.refl _
theorem afJ {a b c d x y k A B C D : Int} {h r : Bool} (aS : au ag 102 [qZ a b c d, ax k] (.cz [.agg [.c (.int .i64 A), .c (.int .i64 B)], .agg [.c (.int .i64 C), .c (.int .i64 D)]])) (H1 : au ag 131 [aE A B, aE C D, aE x y, ax k] (a7 h)) (aG : bZ x y a b = false → bZ x y c d = false → r = h) (aO : bZ x y a b = true → r = false) (cl : bZ x y c d = true → r = false) : au ag 97 [qZ a b c d, aE x y, ax k] (a7 r) := by
 cases q1 : bZ x y a b with
 | true =>
  rw [aO q1];refine bd (f := 97) Tryz.func97 rfl rfl rfl rfl ?_;(repeat first | refine dv ?_ | refine e7 ?_ | (with_reducible apply bP (c := false)); rfl; rfl; ((simp only [iY]; (omega))))
  ((refine aW rfl (aY rfl aJ) ?_))
  exact ah.aK.refl _
 | false =>
  cases q2 : bZ x y c d with
  | true =>
   rw [cl q2];refine bd (f := 97) Tryz.func97 rfl rfl rfl rfl ?_;(repeat first | refine dv ?_ | refine e7 ?_ | (with_reducible apply bP (c := true)); rfl; rfl; ((simp only [iY]; (omega))) | (with_reducible apply bP (c := false)); rfl; rfl; ((simp only [iY]; (omega))))
   ((refine aW rfl (aY rfl aJ) ?_))
   exact ah.aK.refl _
  | false =>
   rw [aG q1 q2];refine bd (f := 97) Tryz.func97 rfl rfl rfl rfl ?_;(repeat first | refine dv ?_ | refine e7 ?_ | (with_reducible apply bP (c := true)); rfl; rfl; ((simp only [iY]; (omega))))
   ((refine aW rfl (aY rfl aJ) ?_))
   exact ah.aK.refl _
theorem afI {E : List bO} {r R : Nat} (al : r ≤ 28) {p q x : ao} (hp : eA r p.1 p.2 = true) (ak : eA r q.1 q.2 = true) : au ag 97 [qZ p.1 p.2 q.1 q.2, aE x.1 x.2, ax r] (a7 (hB (pB E r R) p q x)) := by
 have aq : gg (r : Int) r := ⟨al, .inr (.inr rfl)⟩;have e : ∀ a b : ao, bZ a.1 a.2 b.1 b.2 = decide (a = b) := fun a b => by rw [kR, iJ, cg, Prod.ext_iff]
 have an : hB (pB E r R) p q x = (!decide (x = p) && !decide (x = q) && mx (2 ^ r * p.1) (2 ^ r * p.2) (2 ^ r * q.1) (2 ^ r * q.2) x.1 x.2 r) := by
  unfold hB;simp only [decide_not];rfl
 refine afJ (EP (qO aq hp) (qO aq ak)) aeI (fun h1 h2 => ?_) (fun h1 => ?_) (fun h1 => ?_)
 ·rw [e] at h1 h2;rw [an, h1, h2]; rfl
 ·rw [e] at h1;rw [an, h1]; rfl
 ·rw [e] at h1;rw [an, h1]; simp
theorem aff {a b c d a' bE c' d' k A B C D ea q7 F3 w4 : Int} {h : Bool} {M : fp} (aS : au ag 102 [qZ a b c d, ax k] (.cz [.agg [.c (.int .i64 A), .c (.int .i64 B)], .agg [.c (.int .i64 C), .c (.int .i64 D)]])) (bD : au ag 102 [qZ a' bE c' d', ax k] (.cz [.agg [.c (.int .i64 ea), .c (.int .i64 q7)], .agg [.c (.int .i64 F3), .c (.int .i64 w4)]])) (H1 : au ag 138 [aE A B, aE C D, aE ea q7, aE F3 w4] (a7 h)) (dd : au ag 93 [aE A B, aE C D, aE ea q7, aE F3 w4] (oT M)) : au ag 103 [qZ a b c d, qZ a' bE c' d', ax k] (oT (if h = true then fH else M)) := by
 cases h with
 | true =>
  refine bd (f := 103) Tryz.func103 rfl rfl rfl rfl ?_;(refine bS ?_)
  ((refine aW rfl (cD rfl rfl rfl aJ) ?_))
  exact ah.aK.refl _
 | false =>
  refine bd (f := 103) Tryz.func103 rfl rfl rfl rfl ?_;(refine bS ?_)
  ((refine aW rfl (cD rfl rfl rfl aJ) ?_))
  exact ah.aK.refl _
theorem Eg {a b : bO} (h1 : bu a.1.1 a.1.2 = true) (h2 : bu a.2.1 a.2.2 = true) (h3 : bu b.1.1 b.1.2 = true) (aD : bu b.2.1 b.2.2 = true) : lC a.1.1 a.1.2 a.2.1 a.2.2 b.1.1 b.1.2 b.2.1 b.2.2 = gC a b := by
 unfold lC; rw [h1, h2, h3, aD]; rfl
def o7 (r : Nat) (l m : ao × ao) : fp := if qm (gz r l) (gz r m) = true then fH else gC (gz r l) (gz r m)
theorem afe {r : Nat} (al : r ≤ 28) {l m : ao × ao} (h1 : eA r l.1.1 l.1.2 = true) (h2 : eA r l.2.1 l.2.2 = true) (h3 : eA r m.1.1 m.1.2 = true) (aD : eA r m.2.1 m.2.2 = true) : au ag 103 [qZ l.1.1 l.1.2 l.2.1 l.2.2, qZ m.1.1 m.1.2 m.2.1 m.2.2, ax r] (oT (o7 r l m)) := by
 have aq : gg (r : Int) r := ⟨al, .inr (.inr rfl)⟩;have e := Eg (a := gz r l) (b := gz r m) (rF h1) (rF h2) (rF h3) (rF aD)
 have H1 : au ag 138 [aE (2 ^ r * l.1.1) (2 ^ r * l.1.2), aE (2 ^ r * l.2.1) (2 ^ r * l.2.2), aE (2 ^ r * m.1.1) (2 ^ r * m.1.2), aE (2 ^ r * m.2.1) (2 ^ r * m.2.2)] (a7 (qm (gz r l) (gz r m))) := by
  have := afb (a1 := 2 ^ r * l.1.1) (a2 := 2 ^ r * l.1.2) (b1 := 2 ^ r * l.2.1) (b2 := 2 ^ r * l.2.2) (c1 := 2 ^ r * m.1.1) (c2 := 2 ^ r * m.1.2) (d1 := 2 ^ r * m.2.1) (d2 := 2 ^ r * m.2.2);rw [show lC (2 ^ r * l.1.1) (2 ^ r * l.1.2) (2 ^ r * l.2.1) (2 ^ r * l.2.2) (2 ^ r * m.1.1) (2 ^ r * m.1.2) (2 ^ r * m.2.1) (2 ^ r * m.2.2) = gC (gz r l) (gz r m) from e] at this;exact this
 have dd : au ag 93 [aE (2 ^ r * l.1.1) (2 ^ r * l.1.2), aE (2 ^ r * l.2.1) (2 ^ r * l.2.2), aE (2 ^ r * m.1.1) (2 ^ r * m.1.2), aE (2 ^ r * m.2.1) (2 ^ r * m.2.2)] (oT (gC (gz r l) (gz r m))) := by
  have := JR (a1 := 2 ^ r * l.1.1) (a2 := 2 ^ r * l.1.2) (b1 := 2 ^ r * l.2.1) (b2 := 2 ^ r * l.2.2) (c1 := 2 ^ r * m.1.1) (c2 := 2 ^ r * m.1.2) (d1 := 2 ^ r * m.2.1) (d2 := 2 ^ r * m.2.2);rw [show lC (2 ^ r * l.1.1) (2 ^ r * l.1.2) (2 ^ r * l.2.1) (2 ^ r * l.2.2) (2 ^ r * m.1.1) (2 ^ r * m.1.2) (2 ^ r * m.2.1) (2 ^ r * m.2.2) = gC (gz r l) (gz r m) from e] at this;exact this
 exact aff (EP (qO aq h1) (qO aq h2)) (EP (qO aq h3) (qO aq aD)) H1 dd
theorem Na (r : Nat) (l m : ao × ao) : qj r l m = if (o7 r l m).k = 1 then some (iS r (o7 r l m)) else none := by
 unfold qj o7;cases h : qm (gz r l) (gz r m) with
 | true => simp [fH]
 | false => simp
abbrev td (v : Value) (l : List (ao × ao)) : bG := ⟨155, 4, v, l.length, ni l⟩
instance ak3 : lm ag 76 155 4 32 := ⟨by kernel_rfl⟩
def qg (c : List ao × List Int) : List AC := [.p (cM 2 c.1.length (b3 c.1)), .p (cM 1 c.2.length (cV c.2))]
def eG (l : List (List ao × List Int)) : List AC := l.flatMap qg
abbrev sd (l : List (List ao × List Int)) : ah := cK 2 l.length (eG l)
theorem C0 {β : Type} {f : β → List AC} {z : Nat} (ap : ∀ x, (f x).length = z) : ∀ {l : List β} {i : Nat} {x : β}, l[i]? = some x → ((l.flatMap f).drop (i * z)).take z = f x
 | [], i, x, h => by simp at h
 | y :: l, 0, x, h => by
  simp at h; subst h;rw [List.flatMap_cons, Nat.zero_mul, List.drop_zero, ← ap y, List.take_left]
 | y :: l, i + 1, x, h => by
  rw [List.flatMap_cons, kS, Nat.one_mul, oK, ← qT, ← ap y, List.drop_left, ap y];exact C0 ap (by simpa using h)
theorem C1 {β : Type} {f : β → List AC} {z : Nat} (ap : ∀ x, (f x).length = z) : ∀ l : List β, (l.flatMap f).length = l.length * z
 | [] => by simp
 | y :: l => by rw [List.flatMap_cons, cO, ap, C1 ap l, jj, kS, Nat.one_mul, oK]
theorem P8 {l : List (ao × ao)} {i : Nat} {ii a b c d : Int} (hi : ii = i) (h : l[i]? = some ((a, b), (c, d))) : ((ni l).drop (ii.toNat * 4)).take 4 = [.c (.int .i64 a), .c (.int .i64 b), .c (.int .i64 c), .c (.int .i64 d)] := by
 subst hi; rw [ld]; exact C0 (f := x6) (fun _ => rfl) h
theorem xq {l : List (List ao × List Int)} {i : Nat} {ii : Int} {c : List ao × List Int} (hi : ii = i) (h : l[i]? = some c) : ((eG l).drop (ii.toNat * 2)).take 2 = [.p (cM 2 c.1.length (b3 c.1)), .p (cM 1 c.2.length (cV c.2))] := by
 subst hi; rw [ld]; exact C0 (f := qg) (fun _ => rfl) h
theorem acV (l : List (ao × ao)) (x : ao × ao) : ni l ++ x6 x = ni (l ++ [x]) := by simp [ni, List.flatMap_append]
theorem ale (l : List (ao × ao)) : (ni l).all AC.aZ = true := by
 rw [cB]; intro x aa;obtain ⟨y, _, ai⟩ := List.mem_flatMap.1 aa;simp only [x6, fl, pK, or_false] at ai;rcases ai with rfl | rfl | rfl | rfl <;> rfl
theorem Xo (l : List (List ao × List Int)) : (eG l).all AC.aZ = true := by
 rw [cB]; intro x aa;obtain ⟨y, _, ai⟩ := List.mem_flatMap.1 aa;simp only [qg, fl, pK, or_false] at ai;rcases ai with rfl | rfl <;> rfl
theorem acT (v : Value) (l : List (ao × ao)) (x : ao × ao) : td v (l ++ [x]) = ⟨155, 4, v, l.length + 1, ni l ++ x6 x⟩ := by rw [td, ← acV, cO]; rfl
def US (ch : List (List ao × List Int)) (n : Nat) (R : aI) (aL : List (Nat × ah)) (bh : List (Nat × List AC)) : Prop :=
 ∃ (i : Nat) (ii : Int) (v : Value), i ≤ ch.length ∧ n = ch.length - i ∧ ii = i ∧ R = bC 0 (td v (aP (ch.take i))) ∧ aL = [(3, aQ v), (7, sd ch), (8, ax ch.length), (9, ax ii)] ∧ bh = []
def UR (ch : List (List ao × List Int)) (V : List ao) (D : List Int) (ii : Int) (pre : List (ao × ao)) (n : Nat) (R : aI) (aL : List (Nat × ah)) (bh : List (Nat × List AC)) : Prop :=
 ∃ (j : Nat) (eC : Int) (v : Value), j ≤ D.length ∧ n = D.length - j ∧ eC = j ∧ R = bC 0 (td v (pre ++ (iw V).take j)) ∧ aL = [(3, aQ v), (5, fQ 5 0), (7, sd ch), (8, ax ch.length), (9, ax ii), (15, ax D.length), (16, ax eC)] ∧ bh = [(5, [.p (cM 2 V.length (b3 V)), .p (cM 1 D.length (cV D))])]
theorem acW {V : List ao} {j : Nat} (h : j + 1 < V.length) : (iw V)[j]? = some (V[j], V[j + 1]) := by
 induction V generalizing j with
 | nil => simp at h
 | cons p W b9 =>
  cases W with
  | nil => simp at h
  | cons q W =>
   cases j with
   | zero => rfl
   | succ j => exact b9 (j := j) (by simpa using h)
section
variable {P : Program} {R : aI} {s : aC} {ops : Array Oper} {dr : Option (List Nat)} {ty : Nat} {pos : String} {after : Array Edge} {guard : Option (Nat × Bool)} {K : aI → aC → Prop} {rest : List Oper}
def oX (k : Nat) (jv : ah → List AC → aI → Prop) : ah → Mem → aI → Prop := fun cb aH ay => ∃ ar, aH = cZ k ar ∧ jv cb ar ay
theorem DK (k : Nat) {R0 : aI} {dst : Option Nat} {f : FuncId} {g : Operand} {aL : Array TypeId} {l : List Operand} {args : List ah} {cs : List AC} {jv : ah → List AC → aI → Prop} [E : Enters P f] (hw : want ops ⟨dst, .call ⟨.value g, l.toArray, aL⟩, ty, pos, after, guard⟩ s = some true) (hm : cY dr ⟨dst, .call ⟨.value g, l.toArray, aL⟩, ty, pos, after, guard⟩ = true)
  (an : s.look g = some (aQ (.func (.func f) #[] #[]))) (aF : l.map s.look = (ah.w (.one (.own k 0)) :: args).map some) (hp : du P f (.w (.one (.own k 0)) :: args) (cZ k cs) R0 (oX k jv)) (af : s.mem k = some cs) (hR : pU dr k = true) (al : bx R0 R) (aj : cs.all AC.aZ = true) (eo : args.all ah.aZ = true) (hd : lp dst s.n = true)
  (h : ∀ v ar ay, jv v ar ay → cT P ops dr K rest (bX ay R) ((s.ej k ar).put dst v)) : cT P ops dr K (⟨dst, .call ⟨.value g, l.toArray, aL⟩, ty, pos, after, guard⟩ :: rest) R s := by
 refine we hw hm an aF hp (fun x aa j ae => ?_) (fun k' ar aM => ?_) al (fun k' ar x j aM aa ae => ?_) hd ?_
 ·rcases fl.1 aa with rfl | aa
  ·obtain ⟨y, ai, ae⟩ := ae;simp [bA.cells] at ai;subst ai;cases ae;exact ⟨cs, by unfold cZ; exact cF _ _ _⟩
  ·exact absurd ae (ah.dC (cB.1 eo x aa) j)
 ·obtain ⟨rfl, rfl⟩ := hW aM;exact ⟨af, .inl hR⟩
 ·obtain ⟨rfl, rfl⟩ := hW aM;exact absurd ae (AC.dC (cB.1 aj x aa) j)
 ·rintro v aH ay ⟨ar, rfl, ak⟩;refine ⟨fun k' c aM => ?_, ?_⟩
  ·obtain ⟨rfl, rfl⟩ := hW aM;exact .inl ⟨cs, by unfold cZ; exact cF _ _ _⟩
  ·have aO : s.over (cZ k ar) = s.ej k ar := by
    show ({ s with mem := bX (bI cj k ar) s.mem } : aC) = { s with mem := bI s.mem k ar };rw [show bX (bI cj k ar) s.mem = bI s.mem k ar from wI s.mem k ar]
   rw [aO];exact h v ar ay ak
theorem kL (k : Nat) {dst : Option Nat} {f : FuncId} {g : Operand} {aL : Array TypeId} {l : List Operand} {args : List ah} {cs ar : List AC} {v : ah} [E : Enters P f] (hw : want ops ⟨dst, .call ⟨.value g, l.toArray, aL⟩, ty, pos, after, guard⟩ s = some true) (hm : cY dr ⟨dst, .call ⟨.value g, l.toArray, aL⟩, ty, pos, after, guard⟩ = true)
  (an : s.look g = some (aQ (.func (.func f) #[] #[]))) (aF : l.map s.look = (ah.w (.one (.own k 0)) :: args).map some) (hp : du P f (.w (.one (.own k 0)) :: args) (cZ k cs) eU (oX k fun cb ds ay => cb = v ∧ ds = ar ∧ ay = eU)) (af : s.mem k = some cs) (hR : pU dr k = true) (aj : cs.all AC.aZ = true) (eo : args.all ah.aZ = true) (hd : lp dst s.n = true)
  (h : cT P ops dr K rest R ((s.ej k ar).put dst v)) : cT P ops dr K (⟨dst, .call ⟨.value g, l.toArray, aL⟩, ty, pos, after, guard⟩ :: rest) R s := by
 refine DK k hw hm an aF hp af hR (fun i r h => by cases h) aj eo hd ?_;rintro _ _ _ ⟨rfl, rfl, rfl⟩;rw [show bX eU R = R from Rs R];exact h
end
def CO (x : Int × bO) : List AC := [.c (.int .i64 x.2.1.1), .c (.int .i64 x.2.1.2), .c (.int .i64 x.2.2.1), .c (.int .i64 x.2.2.2), .c (.int .i64 x.1)]
def qo (l : List (Int × bO)) : List AC := l.flatMap CO
abbrev gX (l : List (Int × bO)) : ah := cK 5 l.length (qo l)
theorem sI {l : List (Int × bO)} {i : Nat} {ii o a b c d : Int} (hi : ii = i) (h : l[i]? = some (o, (a, b), (c, d))) : ((qo l).drop (ii.toNat * 5)).take 5 = [.c (.int .i64 a), .c (.int .i64 b), .c (.int .i64 c), .c (.int .i64 d), .c (.int .i64 o)] := by
 subst hi; rw [ld]; exact C0 (f := CO) (fun _ => rfl) h
abbrev eE (E : List (Int × bO)) (k rm ph I J T : Int) (dirty : Bool) (hv fv cv : Value) (b : Nat) (lk : AC) : List AC :=
 [.p (cM 5 E.length (qo E)), .c (.int .i64 k), .c (.int .i64 rm), .c (.int .i64 ph), .c (.int .i64 I), .c (.int .i64 J), .c (.int .i64 T), .c (.bool dirty), .c hv, .c fv, .c cv, .c (eh b), lk]
abbrev xo (v : Value) (l : List (List ao × List Int)) : bG := ⟨34, 2, v, l.length, eG l⟩
instance ak4 : lm ag 28 34 2 48 := ⟨by kernel_rfl⟩
abbrev dZ (b : Nat) (S : e4) (hv fv cv : Value) (hot fnd : List ao) (ch : List (List ao × List Int)) : aI := bI (bI (bI (bC 0 (jH (eh b) S)) 1 (jh hv hot)) 2 (jh fv fnd)) 3 (xo cv ch)
theorem SX {b bE : Nat} {S dw : e4} {hv fv cv b8 dq df : Value} {hot fnd hot' fnd' : List ao} {ch ch' : List (List ao × List Int)} : bX (dZ bE dw b8 dq df hot' fnd' ch') (dZ b S hv fv cv hot fnd ch) = dZ bE dw b8 dq df hot' fnd' ch' := by
 funext i
 match i with
 | 0 => rfl
 | 1 => rfl
 | 2 => rfl
 | 3 => rfl
 | i + 4 => rfl
theorem fm {b bE : Nat} {S dw : e4} {hv fv cv b8 dq df : Value} {hot fnd hot' fnd' : List ao} {ch ch' : List (List ao × List Int)} : ∀ i r, dZ b S hv fv cv hot fnd ch i = some r → ∃ aV, dZ bE dw b8 dq df hot' fnd' ch' i = some aV
 | 0, _, _ => ⟨_, rfl⟩
 | 1, _, _ => ⟨_, rfl⟩
 | 2, _, _ => ⟨_, rfl⟩
 | 3, _, _ => ⟨_, rfl⟩
 | i + 4, _, h => by cases h
theorem ag6 {b : Nat} {S : e4} {hv fv cv v : Value} {hot fnd l : List ao} {ch : List (List ao × List Int)} : bI (dZ b S hv fv cv hot fnd ch) 1 (jh v l) = dZ b S v fv cv l fnd ch := by
 funext i
 match i with
 | 0 => rfl
 | 1 => rfl
 | 2 => rfl
 | 3 => rfl
 | i + 4 => rfl
theorem Ke {b c : Nat} {S dw : e4} {hv fv cv : Value} {hot fnd : List ao} {ch : List (List ao × List Int)} : bI (dZ b S hv fv cv hot fnd ch) 0 (jH (eh c) dw) = dZ c dw hv fv cv hot fnd ch := by
 funext i
 match i with
 | 0 => rfl
 | 1 => rfl
 | 2 => rfl
 | 3 => rfl
 | i + 4 => rfl
abbrev sf : ah := .w (.one (.own 1000 0))
abbrev mj : ah := .cz []
abbrev B7 (f : FuncId) (args : List ah) (cs : List AC) (v : ah) (ar : List AC) : Prop := du ag f (sf :: args) (cZ 1000 cs) eU (oX 1000 fun cb ds ay => cb = v ∧ ds = ar ∧ ay = eU)
section
variable {E : List (Int × bO)} {k rm ph I J T : Int} {dirty : Bool} {hv fv cv : Value} {b : Nat} {lk : AC}
theorem D2 (hl : lk.aZ = true) (p j : Int) : B7 88 [ax p, ax j] (eE E k rm ph I J T dirty hv fv cv b lk) mj (eE E k rm p 0 j 0 dirty hv fv cv b lk) := by
 have dD : (eE E k rm p 0 j 0 dirty hv fv cv b lk).all AC.aZ = true := by simp only [kt, nr, hl]; rfl
 refine dE (f := 88) Tryz.func88 rfl (dA rfl) (by exact ew rfl) ?_;(refine bc ?_)
 ((refine eT rfl aJ rfl (bx.refl _) dD rfl (fun i r h => ⟨r, h⟩) ?_))
 exact ⟨_, rfl, rfl, rfl, rfl⟩
theorem Jd (hl : lk.aZ = true) (p : Int) : B7 53 [ax p] (eE E k rm ph I J T dirty hv fv cv b lk) mj (eE E k rm p 0 0 0 dirty hv fv cv b (.c (.slice none 0 0))) := by
 have dD : (eE E k rm ph I J T dirty hv fv cv b lk).all AC.aZ = true := by simp only [kt, nr, hl]; rfl
 have aS := D2 (E := E) (k := k) (rm := rm) (ph := ph) (I := I) (J := J) (T := T) (dirty := dirty) (hv := hv) (fv := fv) (cv := cv) (b := b) hl p 0;refine dE (f := 53) Tryz.func53 rfl (dA rfl) (by exact ew rfl) ?_;(refine bc ?_);refine kL 1000 rfl rfl rfl rfl aS rfl rfl dD rfl rfl ?_;(refine bc ?_)
 ((refine eT rfl aJ rfl (bx.refl _) rfl rfl (fun i r h => ⟨r, h⟩) ?_))
 exact ⟨_, rfl, rfl, rfl, rfl⟩
theorem AE (hl : lk.aZ = true) (n : Int) (bl : 0 ≤ I ∧ I ≤ 1000000) (im : 0 ≤ J ∧ J ≤ 1000000) : B7 94 [ax n] (eE E k rm ph I J T dirty hv fv cv b lk) (a7 (decide ((if J + 1 = n then I + 2 else J + 1) < n))) (eE E k rm ph (if J + 1 = n then I + 1 else I) (if J + 1 = n then I + 2 else J + 1) T dirty hv fv cv b lk) := by
 have dD : ∀ I J : Int, (eE E k rm ph I J T dirty hv fv cv b lk).all AC.aZ = true := fun I J => by simp only [kt, nr, hl]; rfl
 by_cases h : J + 1 = n
 ·rw [if_pos h, if_pos h];have e : I + 1 + 1 = I + 2 := by omega
  rw [← e];refine dE (f := 94) Tryz.func94 rfl (dA rfl) (by exact ew rfl) ?_;(refine bc ?_)
  ((refine eT rfl (aY rfl aJ) rfl (bx.refl _) (dD _ _) rfl (fun i r h => ⟨r, h⟩) ?_))
  exact ⟨_, rfl, rfl, rfl, rfl⟩
 ·rw [if_neg h, if_neg h];refine dE (f := 94) Tryz.func94 rfl (dA rfl) (by exact ew rfl) ?_;(refine bc ?_)
  ((refine eT rfl (aY rfl aJ) rfl (bx.refl _) (dD _ _) rfl (fun i r h => ⟨r, h⟩) ?_))
  exact ⟨_, rfl, rfl, rfl, rfl⟩
theorem Je {r : Nat} (al : r ≤ 28) (af : k = r) (hl : lk.aZ = true) {i : Nat} {o p1 p2 q1 q2 : Int} (fa : E.length ≤ 1000) (h : E[i]? = some (o, (p1, p2), (q1, q2))) (hp : gD (p1, p2) = true) (ak : gD (q1, q2) = true) :
  B7 89 [ax i] (eE E k rm ph I J T dirty hv fv cv b lk) (.cz [.agg [.c (.int .i64 (cx p1 r)), .c (.int .i64 (cx p2 r))], .agg [.c (.int .i64 (cx q1 r)), .c (.int .i64 (cx q2 r))]]) (eE E k rm ph I J T dirty hv fv cv b lk) := by
 have dD : (eE E k rm ph I J T dirty hv fv cv b lk).all AC.aZ = true := by simp only [kt, nr, hl]; rfl
 obtain ⟨ji, ae⟩ : ∃ ji : Int, ji = i := ⟨_, rfl⟩;have bb := (bL.1 h).1;have g0 : 0 ≤ ji := by omega
 have g1 : ji < (E.length : Int) := by omega
 have k1 := sI ae h;have hp := qK.1 hp;have ak := qK.1 ak;have aq : gg (r : Int) r := ⟨al, .inr (.inr rfl)⟩;have aS := EQ (x := p1) (y := p2) aq (by omega) (by omega) (by omega) (by omega);have bD := EQ (x := q1) (y := q2) aq (by omega) (by omega) (by omega) (by omega);rw [← af] at aS bD;rw [show ax (i : Int) = ax ji by rw [ae]];clear hp ak aq ae h;generalize cx p1 r = a at *;generalize cx p2 r = a' at *;generalize cx q1 r = c at *;generalize cx q2 r = c' at *;refine dE (f := 89) Tryz.func89 rfl (dA rfl) (by exact ew rfl) ?_;(repeat first | (with_reducible apply dl (id := 2) [0,1,2,3,4,5,6,7,8,9,10,11,12,13,14,15,16,17]); kernel_rfl; kernel_rfl; rfl | refine cG ?_ | refine iF ?_)
 ((refine eT rfl (cD rfl rfl rfl (cD rfl rfl rfl aJ)) rfl (bx.refl _) dD rfl (fun i r h => ⟨r, h⟩) ?_))
 exact ⟨_, rfl, rfl, rfl, rfl⟩
end
def dN (E : List (Int × bO)) (r rm : Nat) (s : br.aT ao) (cs : List AC) (R : aI) : Prop := ∃ (hv fv cv : Value) (b : Nat) (S : e4) (lk : AC), tP rm s.hot (eh b) S ∧ lk.aZ = true ∧ (s.ph = 3 → lk = .p (cM 4 (aP s.ch).length (ni (aP s.ch)))) ∧ cs = eE E r rm s.ph s.I s.J s.T s.dirty hv fv cv b lk ∧ R = dZ b S hv fv cv s.hot s.fnd s.ch
def gw (E : List (Int × bO)) (r rm : Nat) (f : FuncId) (args : List ah) (s : br.aT ao) (v : ah) (s' : br.aT ao) : Prop :=
 ∀ cs R, dN E r rm s cs R → du ag f (sf :: args) (cZ 1000 cs) R (oX 1000 fun cb ar ay => cb = v ∧ dN E r rm s' ar ay)
abbrev bt (E : List (Int × bO)) (r rm : Nat) : cw ao := pB (E.map Prod.snd) r rm
theorem bx.of_eq {R ay : aI} (h : R = ay) : bx R ay := by rw [h]; exact bx.refl _
theorem ag7 {b : Nat} {S : e4} {hv fv cv v : Value} {hot fnd l : List ao} {ch : List (List ao × List Int)} : bI (dZ b S hv fv cv hot fnd ch) 2 (jh v l) = dZ b S hv v cv hot l ch := by
 funext i
 match i with
 | 0 => rfl
 | 1 => rfl
 | 2 => rfl
 | 3 => rfl
 | i + 4 => rfl
theorem ag9 {b : Nat} {S : e4} {hv fv cv v : Value} {hot fnd : List ao} {ch : List (List ao × List Int)} {x y : Int} : bI (dZ b S hv fv cv hot fnd ch) 1 ⟨36, 2, v, hot.length + 1, b3 hot ++ [.c (.int .i64 x), .c (.int .i64 y)]⟩ = dZ b S v fv cv (hot ++ [(x, y)]) fnd ch :=
 (congrArg (bI (dZ b S hv fv cv hot fnd ch) 1) (SB v hot (x, y)).symm).trans ag6
theorem ag8 {b : Nat} {S : e4} {hv fv cv v : Value} {hot fnd : List ao} {ch : List (List ao × List Int)} {x y : Int} : bI (dZ b S hv fv cv hot fnd ch) 2 ⟨36, 2, v, fnd.length + 1, b3 fnd ++ [.c (.int .i64 x), .c (.int .i64 y)]⟩ = dZ b S hv v cv hot (fnd ++ [(x, y)]) ch :=
 (congrArg (bI (dZ b S hv fv cv hot fnd ch) 2) (SB v fnd (x, y)).symm).trans ag7
theorem ZV {E : List (Int × bO)} {r rm : Nat} {s : br.aT ao} {x y : Int} : (rk rm s.hot x y = (cI (bt E r rm) s (x, y)).hot) ∧ (oi rm s.hot x y = true → cI (bt E r rm) s (x, y) = { s with hot := s.hot ++ [(x, y)] } ∧ oj rm s.hot x y = 0) ∧ (oi rm s.hot x y = false → oj rm s.hot x y = 0 → cI (bt E r rm) s (x, y) = s) ∧ (oj rm s.hot x y = 0 ∨ (oj rm s.hot x y = 90 ∧ oi rm s.hot x y = false ∧ cI (bt E r rm) s (x, y) = et s 5 0 0)) := by
 unfold rk oi oj cI
 by_cases h : (x, y) ∈ s.hot
 ·rw [if_pos (uM.2 h), if_pos (uM.2 h), if_pos (uM.2 h), if_pos h];exact ⟨rfl, fun h => (by cases h), fun _ _ => rfl, .inl rfl⟩
 ·have aM : ¬ 0 ≤ lG s.hot x y := fun aR => h (uM.1 aR);rw [if_neg aM, if_neg aM, if_neg aM, if_neg h]
  by_cases hl : (rm : Int) ≤ (s.hot.length : Int)
  ·have e6 : ¬ s.hot.length < (bt E r rm).R := by show ¬ s.hot.length < rm; omega
   rw [if_pos hl, if_pos hl, if_pos hl, if_neg e6];exact ⟨rfl, fun h => (by cases h), fun _ h => (by cases h), .inr ⟨rfl, rfl, rfl⟩⟩
  ·have e6 : s.hot.length < (bt E r rm).R := by show s.hot.length < rm; omega
   rw [if_neg hl, if_neg hl, if_neg hl, if_pos e6];exact ⟨rfl, fun _ => ⟨rfl, rfl⟩, fun h => (by cases h), .inl rfl⟩
theorem Jf {E : List (Int × bO)} {r rm : Nat} {s : br.aT ao} {x y : Int} (hl : s.hot.length ≤ 1100) (ap : s.fnd = []) (gT : s.ph ≠ 5) : gw E r rm 90 [aE x y] s (a7 (!Nat.beq (cI (bt E r rm) s (x, y)).ph 5)) (cI (bt E r rm) s (x, y)) := by
 obtain ⟨ph, I, J, T, dirty, hot, fnd, ch⟩ := s;obtain rfl : fnd = [] := ap;have hl : hot.length ≤ 1100 := hl
 have gT : Nat.beq ph 5 = false := by
  cases h : Nat.beq ph 5 with
  | false => rfl
  | true => exact absurd (gL h) gT
 obtain ⟨h1, h2, h3, aD⟩ := ZV (E := E) (r := r) (rm := rm) (s := ⟨ph, I, J, T, dirty, hot, [], ch⟩) (x := x) (y := y);rintro cs R ⟨hv, fv, cv, b, S, lk, hS, db, gn, rfl, rfl⟩;have aS := abV (rm : Int) hot b S x y hS hl;have dD : ∀ hv, (eE E r rm ph I J T dirty hv fv cv b lk).all AC.aZ = true := fun hv => by simp only [kt, nr, db]; rfl
 have bD := Jd (E := E) (k := r) (rm := rm) (ph := ph) (I := I) (J := J) (T := T) (dirty := dirty) (hv := hv) (fv := fv) (cv := cv) (b := b) db 5;simp only at h1 h2 h3 aD gn;rw [h1] at aS;rcases aD with aD | ⟨aD, cU, fs⟩
 ·rw [aD] at aS;cases ab : oi rm hot x y with
  | true =>
   rw [ab] at aS;rw [(h2 ab).1] at aS ⊢;simp only at aS ⊢;rw [gT];have aG : (hot ++ [(x, y)]).length = hot.length + 1 := by rw [cO]; rfl
   refine dE (f := 90) Tryz.func90 rfl (dA rfl) (by exact ew rfl) ?_;(repeat first | (with_reducible apply mh (id := 1) [0,1,2,3,4,5,6,7,8,9,10] [13]); kernel_rfl; kernel_rfl; rfl | refine cG ?_);refine Al 0 rfl rfl rfl rfl aS rfl rfl rfl (fun v dw h => ?_);obtain ⟨rfl, fU⟩ := h;rw [Ke];(repeat first | (with_reducible apply mh (id := 6) [0,1,2,3,4,5,6,7,8,9,10,11,12] [3000028]); kernel_rfl; kernel_rfl; rfl | refine cG ?_);refine rR 1 rfl rfl rfl rfl ?q1 ?q2 rfl rfl (fun v1 hk => ?_)
   case q1 => exact lA (by show hot.length + 1 ≤ 1000000; omega)
   case q2 => show (hot.length + 1) * 16 ≤ 140737488355328; omega
   (refine bc ?_)
   ((refine eT rfl (aY rfl aJ) rfl (bx.of_eq (ag9 (x := x) (y := y)).symm) (dD v1) rfl fm ?_))
   exact ⟨_, rfl, rfl, v1, fv, cv, b, dw, lk, fU, db, gn, rfl, rfl⟩
  | false =>
   rw [ab] at aS;rw [h3 ab aD] at aS ⊢;simp only at aS ⊢;rw [gT];refine dE (f := 90) Tryz.func90 rfl (dA rfl) (by exact ew rfl) ?_;(repeat first | (with_reducible apply mh (id := 1) [0,1,2,3,4,5,6,7,8,9,10] [13]); kernel_rfl; kernel_rfl; rfl | refine cG ?_);refine Al 0 rfl rfl rfl rfl aS rfl rfl rfl (fun v dw h => ?_);obtain ⟨rfl, fU⟩ := h;rw [Ke];(refine bc ?_)
   ((refine eT rfl (aY rfl aJ) rfl (bx.refl _) (dD _) rfl fm ?_))
   exact ⟨_, rfl, rfl, hv, fv, cv, b, dw, lk, fU, db, gn, rfl, rfl⟩
 ·rw [aD, cU] at aS;rw [fs] at aS ⊢;simp only [et] at aS ⊢;rw [show (!Nat.beq 5 5) = false from rfl];refine dE (f := 90) Tryz.func90 rfl (dA rfl) (by exact ew rfl) ?_;(repeat first | (with_reducible apply mh (id := 1) [0,1,2,3,4,5,6,7,8,9,10] [13]); kernel_rfl; kernel_rfl; rfl | refine cG ?_);refine Al 0 rfl rfl rfl rfl aS rfl rfl rfl (fun v dw h => ?_);obtain ⟨rfl, fU⟩ := h;rw [Ke];(refine bc ?_);refine kL 1000 rfl rfl rfl rfl bD rfl rfl (dD _) rfl rfl ?_;(refine bc ?_)
  ((refine eT rfl (aY rfl aJ) rfl (bx.refl _) rfl rfl fm ?_))
  exact ⟨_, rfl, rfl, hv, fv, cv, b, dw, .c (.slice none 0 0), fU, rfl, fun h => (by cases h), rfl, rfl⟩
section
variable {P : Program} {R : aI} {s : aC} {ops : Array Oper} {dr : Option (List Nat)} {ty : Nat} {pos : String} {after : Array Edge} {guard : Option (Nat × Bool)} {K : aI → aC → Prop} {rest : List Oper}
theorem dN.closed {E : List (Int × bO)} {r rm : Nat} {s : br.aT ao} {cs : List AC} {R : aI} (h : dN E r rm s cs R) : cs.all AC.aZ = true := by
 obtain ⟨hv, fv, cv, b, S, lk, _, db, _, rfl, _⟩ := h;simp only [kt, nr, db]; rfl
theorem dN.bX {E : List (Int × bO)} {r rm : Nat} {s s' : br.aT ao} {cs ar : List AC} {R ay : aI} (h : dN E r rm s cs R) (aM : dN E r rm s' ar ay) : Go.Proofs.YtbcecodakfejaaaGreat.bX ay R = ay := by
 obtain ⟨_, _, _, _, _, _, _, _, _, _, rfl⟩ := h;obtain ⟨_, _, _, _, _, _, _, _, _, _, rfl⟩ := aM;exact SX
theorem iO {E : List (Int × bO)} {r rm : Nat} {dV s1 : br.aT ao} {v : ah} {dst : Option Nat} {f : FuncId} {g : Operand} {aL : Array TypeId} {l : List Operand} {args : List ah} {cs : List AC} [vh : Enters ag f] (hw : want ops ⟨dst, .call ⟨.value g, l.toArray, aL⟩, ty, pos, after, guard⟩ s = some true) (hm : cY dr ⟨dst, .call ⟨.value g, l.toArray, aL⟩, ty, pos, after, guard⟩ = true)
  (an : s.look g = some (aQ (.func (.func f) #[] #[]))) (aF : l.map s.look = (sf :: args).map some) (af : s.mem 1000 = some cs) (hR : pU dr 1000 = true) (eo : args.all ah.aZ = true) (hd : lp dst s.n = true) (hp : gw E r rm f args dV v s1) (bl : dN E r rm dV cs R)
  (h : ∀ ar ay, dN E r rm s1 ar ay → cT ag ops dr K rest ay ((s.ej 1000 ar).put dst v)) : cT ag ops dr K (⟨dst, .call ⟨.value g, l.toArray, aL⟩, ty, pos, after, guard⟩ :: rest) R s := by
 refine DK 1000 hw hm an aF (hp cs R bl) af hR (bx.refl _) bl.closed eo hd ?_;rintro _ ar ay ⟨rfl, aM⟩;rw [bl.bX aM];exact h ar ay aM
end
theorem Ty (n d : Int) (r : Nat) (hd : 0 < d) : mi n d r = gE (2 ^ r) n d := by
 rw [← ain r hd];unfold gE;congr 1
 ·rw [gq d]; omega
 ·rw [n5, gq d];rw [j5, gq 2 d, ← j5, gq (2 ^ r * d) 2]
def mJ (r : Nat) (M : fp) : Option ao := if M.k = 1 then some (iS r M) else none
theorem Hn {n : Int} (h : -19342813113834066795298816 ≤ n ∧ n ≤ 19342813113834066795298816) : fits n = true := by
 unfold fits; rw [cg]; omega
theorem PQ {E : List (Int × bO)} {r rm : Nat} {s : br.aT ao} {M : fp} (al : r ≤ 28) (fT : B0 M) (gB : M.k = 1 → eA r (iS r M).1 (iS r M).2 = true) (hl : s.hot.length ≤ 1100) (ap : s.fnd = []) (gT : s.ph ≠ 5) : gw E r rm 92 [oT M] s (a7 (!Nat.beq (ir (bt E r rm) s (mJ r M)).ph 5)) (ir (bt E r rm) s (mJ r M)) := by
 intro cs R bl
 have aaM : Nat.beq s.ph 5 = false := by
  cases h : Nat.beq s.ph 5 with
  | false => rfl
  | true => exact absurd (gL h) gT
 have aj := bl.closed
 by_cases h1 : M.k = 1
 ·rcases fT with rfl | ⟨x, y, d, rfl, hd, xL, aa, ai⟩ | ⟨f1, f2, g1, g2, rfl⟩
  ·simp [fH] at h1
  ·have gB := gB rfl;have aq : gg (r : Int) r := ⟨al, .inr (.inr rfl)⟩;have fd := Hn (n := d) (by omega);have ex := Ty x d r hd;have k4 := Ty y d r hd
   have aS := aeA (n := x) (d := d) (n' := y) (d' := d) aq (Hn aa) fd (Hn ai) fd (b := true) (by
    unfold tC;rw [cd hd, ex, k4];unfold eA iS hJ at gB;simp only at gB;rw [oN, oN]; exact gB)
   simp only [if_true, ex, k4] at aS;have bD := Jf (E := E) (r := r) (rm := rm) (s := s) (x := gE (2 ^ r) x d) (y := gE (2 ^ r) y d) hl ap gT;rw [show mJ r (hJ x d y d) = some (gE (2 ^ r) x d, gE (2 ^ r) y d) from rfl];show du _ _ _ _ _ (oX 1000 fun cb ar ay => cb = a7 (!Nat.beq (cI (bt E r rm) s (gE (2 ^ r) x d, gE (2 ^ r) y d)).ph 5) ∧ dN E r rm (cI (bt E r rm) s (gE (2 ^ r) x d, gE (2 ^ r) y d)) ar ay);generalize cI (bt E r rm) s (gE (2 ^ r) x d, gE (2 ^ r) y d) = s1 at *;generalize gE (2 ^ r) x d = X at *;generalize gE (2 ^ r) y d = Y at *;generalize (!Nat.beq s1.ph 5) = cb at *;obtain ⟨hv, fv, cv, b, S, lk, hS, db, gn, rfl, rfl⟩ := id bl;unfold hJ;refine dE (f := 92) Tryz.func92 rfl (dA rfl) (by exact ew rfl) ?_;(repeat first | (with_reducible apply dl (id := 3) [13,0,1,2,3,4,5,6,7,8,9,10,11,12,14,15]); kernel_rfl; kernel_rfl; rfl | refine cG ?_ | refine iF ?_);refine iO rfl rfl rfl rfl rfl rfl rfl rfl bD bl (fun ar ay cr => ?_);(refine bc ?_);obtain ⟨b8, dq, df, bE, dw, ho, fU, hD, je, rfl, rfl⟩ := id cr
   ((refine eT rfl (aY rfl aJ) rfl (bx.refl _) cr.closed rfl fm ?_))
   exact ⟨_, rfl, rfl, cr⟩
  ·simp [o5] at h1
 ·rw [show mJ r M = none from if_neg h1];show du _ _ _ _ _ (oX 1000 fun cb ar ay => cb = a7 (!Nat.beq s.ph 5) ∧ dN E r rm s ar ay);rw [aaM, Bool.not_false];obtain ⟨mk, Jt, md, dz, Jn, Ju, Jv, Jw, Jx⟩ := M;have h1 : ¬ mk = 1 := h1;obtain ⟨hv, fv, cv, b, S, lk, hS, db, gn, rfl, rfl⟩ := id bl;refine dE (f := 92) Tryz.func92 rfl (dA rfl) (by exact ew rfl) ?_;(refine bc ?_)
  ((refine eT rfl (aY rfl aJ) rfl (bx.refl _) aj rfl fm ?_))
  exact ⟨_, rfl, rfl, bl⟩
end Go.Proofs.YtbcecodakfejaaaGreat
