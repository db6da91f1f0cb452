/-
  My own texts, without what this claim does not need. My own text.
-/
import Derived.Shelf.Spec.SlicesInsert
import Derived.Lib.AppendZerosOnto
import Derived.Test.YtbcecodakfejaaaGreatSNodedK12
set_option maxRecDepth 100000
set_option maxHeartbeats 64000000
set_option linter.unusedVariables false
set_option linter.unusedSimpArgs false
set_option linter.unusedSectionVars false
open Go.Proofs.Tryz renaming prog → ag
namespace Go.Proofs.YtbcecodakfejaaaGreat
open Go.RowKit Go.Lib
section
variable {P : Program}
theorem D3 (w : World) (te As ty elem : TypeId) (g o qu yx z : Nat) (a : Addr) (q9 Ar : Nat) (cur : Array Value) (t : TypeId) (cs : List Value)
  (hu : P.underlying te = some (.slice elem)) (hs : (P.info? elem).map (·.size) = some z)
  (aq : w.heap[g]? = some (.cells cur t (0, 0))) (ax : cs.length = Nat.min q9 qu * z)
  (G2 : ∀ j v, cs[j]? = some v → w.cell? (a.add j) = some v) (w0 : o + cs.length ≤ cur.size) (h1 : ∀ v ∈ cs, v.oneCell' = true) :
  (Builtin.copy_ #[te, As] ty #[.slice (some ⟨g, o, none⟩) qu yx, .slice (some a) q9 Ar]).run P w =
   .ok (goInt (Nat.min q9 qu)) (w.setRow g (cur.toList.take o ++ cs ++ cur.toList.drop (o + cs.length)).toArray) := by
 have ak := run_loadCells_list (P := P) w a cs G2;have iW := run_storeCells_at P g o t cs 0 cur w aq (by simpa using w0) h1;cases al : P.info? elem with
 | none => simp [al] at hs
 | some i =>
  have hi : i.size = z := by simpa [al] using hs
  simp [Builtin.copy_, run_underlying hu, Builtin.lenOf, Builtin.firstCells, sizeOf, typeInfo, al, hi, ← ax, ak, iW]
end
theorem K2 {w : World} {a : Addr} {v : Value} (h : w.cell? a = some v) : ∃ t k, w.shape? a.block = some (t, k) ∧ k ≠ 0 := by
 unfold World.cell? at h;unfold World.shape?;cases ab : w.heap[a.block]? with
 | none => rw [ab] at h; cases h
 | some o =>
  rw [ab] at h;cases o with
  | cells c t yI =>
   refine ⟨t, c.size, rfl, fun e => ?_⟩;simp only at h
   split at h
   ·cases h
   ·have := (jv.1 h).1; omega
  | _ => cases h
theorem afy {P : Program} (w : World) (Az RG e : TypeId) (aB : P.underlying Az = some (.slice e)) (size : Nat) (aP : ∀ w, (Go.sizeOf e).run P w = .ok size w)
  (a b : Addr) (qO jI Hs K0 : Nat) (bU : a.block ≠ b.block) (v : Value) (aJ : w.cell? a = some v) (cur : Array Value) (RF : TypeId) (ab : w.heap[b.block]? = some (.cells cur RF (0, 0))) (aj : cur.size ≠ 0) :
  (Extern.SlicesOverlaps.overlaps #[Az, Az] #[RG] #[.slice (some a) qO jI, .slice (some b) Hs K0]).run P w = .ok (.bool false) w := by
 obtain ⟨ajf, CR, YV, ain⟩ := K2 aJ;have YW : w.shape? b.block = some (RF, cur.size) := by unfold World.shape?; rw [ab]
 have MO : ∀ x : Addr, x.block = b.block → w.frozen? x = false := fun x aa => by unfold World.frozen?; rw [aa, ab]; simp
 have Yq : (a.block != b.block) = true := by simpa using bU
 have Yr : (a.block == b.block) = false := by simpa using bU
 have f1 := MO b rfl;have f2 := MO { block := b.block, off := cur.size } rfl
 have key : ∀ (m : Sem Value), m = Extern.SlicesOverlaps.overlaps #[Az, Az] #[RG] #[.slice (some a) qO jI, .slice (some b) Hs K0] → m.run P w = .ok (.bool false) w := by
  intro m hm
  conv at hm => rhs; whnf
  subst hm;have lS : ∀ {α β : Type} (x : Sem α) (f : α → Sem β), x.bind f = x >>= f := fun _ _ => rfl;have rP : ∀ {α : Type} (x : α), Sem.pure x = (pure x : Sem α) := fun _ => rfl;have Wu : ∀ {α : Type} (f : Program → Sem α), (Sem.program f).run P w = (f P).run P w := fun _ => rfl;rw [Wu];simp only [lS, rP, Sem.run_bind, Sem.run_pure, Result.andThen_ok, List.getElem_toArray, List.getElem_cons_zero, aB]
  by_cases aD : qO = 0 ∨ Hs = 0 ∨ size = 0
  ·simp [aP, aD]
  ·obtain ⟨CR, rfl⟩ : ∃ k, CR = k + 1 := ⟨CR - 1, by omega⟩;generalize cur.size = Hj at *;obtain ⟨Hj, rfl⟩ : ∃ k, Hj = k + 1 := ⟨Hj - 1, by omega⟩
   cases XW : w.frozen? a <;> cases XX : w.frozen? { block := a.block, off := CR + 1 } <;>
    simp [aP, aD, Yq, Yr, frozen, noView, viewAt, mayBeOne, stringish, shape, Sem.run, YV, YW, f1, f2, XW, XX]
 exact key _ rfl
theorem ZB (cur news : List Value) {i n cap : Nat} (hi : i < n) (lW : n + 1 ≤ cap) (aj : cur.length = cap * 3) (gV : news.length = 3) :
  let c1 := cur.take ((i + 1) * 3) ++ (cur.drop (i * 3)).take ((n - i) * 3) ++ cur.drop ((i + 1) * 3 + ((cur.drop (i * 3)).take ((n - i) * 3)).length)
  let c2 := c1.take (i * 3) ++ news ++ c1.drop (i * 3 + news.length)
  c1.length = cap * 3 ∧ c2.length = cap * 3 ∧ c2.take ((n + 1) * 3) = (cur.take (n * 3)).take (i * 3) ++ news ++ (cur.take (n * 3)).drop (i * 3) := by
 have cX : ((cur.drop (i * 3)).take ((n - i) * 3)).length = (n - i) * 3 := by rw [dK, h3]; omega
 intro c1 c2;have aF : c1.length = cap * 3 := by simp only [c1, cJ, dK, h3, cX]; omega
 have aM : c2.length = cap * 3 := by simp only [c2, cJ, dK, h3, aF, gV]; omega
 have g1 : ∀ j, c1[j]? = if j < (i + 1) * 3 then cur[j]? else if j < (n + 1) * 3 then cur[j - 3]? else cur[j]? := fun j => by
  simp only [c1];have t1 : (cur.take ((i + 1) * 3)).length = (i + 1) * 3 := by rw [dK]; omega
  by_cases q1 : j < (i + 1) * 3
  ·rw [if_pos q1, iu, gd (by omega), fE q1]
  ·rw [if_neg q1]
   by_cases q2 : j < (n + 1) * 3
   ·rw [if_pos q2, gd (by rw [cJ]; omega), gz (by omega), fE (by omega), fV, t1];congr 1; omega
   ·rw [if_neg q2, gz (by rw [cJ]; omega), fV, cJ, t1, cX];congr 1; omega
 refine ⟨aF, aM, ?_⟩;have t2 : (c1.take (i * 3)).length = i * 3 := by rw [dK]; omega
 have t3 : ((cur.take (n * 3)).take (i * 3)).length = i * 3 := by rw [dK, dK]; omega
 apply List.ext_getElem?;intro j
 by_cases di : j < (n + 1) * 3
 ·rw [fE di];simp only [c2]
  by_cases q1 : j < i * 3
  ·rw [iu, gd (by omega), fE q1, g1, if_pos (by omega), iu, gd (by omega), fE q1, fE (by omega)]
  ·by_cases q2 : j < (i + 1) * 3
   ·rw [iu, gz (by omega), gd (by omega), iu, gz (by omega), gd (by omega), t2, t3]
   ·rw [gz (by rw [cJ]; omega), fV, g1, gz (by rw [cJ]; omega), fV, cJ, cJ, t2, t3, gV, if_neg (by omega), if_pos (by omega), fE (by omega)];congr 1; omega
 ·rw [k7 (by rw [dK]; omega), k7];simp only [cJ, t3, gV, h3, dK];omega
section
variable (W : World) (g n cap i : Nat) (cur : Array Value) (news : List Value) (fr : Addr) (qb : Nat)
theorem ZD (aq : W.heap[g]? = some (.cells cur 214 (0, 0))) (hi : i < n) (lW : n + 1 ≤ cap) (XE : cap ≤ 9223372036854775807) (dT : cur.size = cap * 3) (kk : ∀ v ∈ cur.toList.take (n * 3), v.oneCell' = true)
  (gV : news.length = 3) (kj : ∀ j v, news[j]? = some v → W.cell? (fr.add j) = some v) (h1 : ∀ v ∈ news, v.oneCell' = true) (bU : fr.block ≠ g) :
  Calls ag 160 #[.slice (some ⟨g, 0, none⟩) n cap, .int .i64 i, .slice (some fr) 1 qb] W fun e bh =>
   e = .returned (.slice (some ⟨g, 0, none⟩) (n + 1) cap) ∧ ∃ nQ : Array Value, bh = W.drew.setRow g nQ ∧ nQ.size = cap * 3 ∧ nQ.toList.take ((n + 1) * 3) = (cur.toList.take (n * 3)).take (i * 3) ++ news ++ (cur.toList.take (n * 3)).drop (i * 3) := by
 obtain ⟨eE, z, hu, e4, hJ, gW, kg, nv, bI⟩ := p7 (P := ag) (tt := 134) (e := 214) (sz := 3) (bytes := 24) (by kernel_rfl);have zf : (ag.info? 214).map (·.size) = some 3 := by rw [e4]; simp [gW]
 have kn : ¬ ((i : Int) = (n : Int)) := by omega
 have G6 : IntKind.i64.wrap ((i : Int) + 1) = (i : Int) + 1 := by rw [IntKind.wrap_i64]; omega
 have G7 : IntKind.i64.wrap ((n : Int) + 1) = (n : Int) + 1 := by rw [IntKind.wrap_i64]; omega
 have dA : (0 : Int) ≤ (i : Int) + 1 := by omega
 have kh : i ≤ n := by omega
 have dy : ¬ (cap = i + 1) := by omega
 have Gf : (i : Int) ≤ (n : Int) + 1 := by omega
 have u4 : ¬ (cap = i) := by omega
 have YD : (callFunc 183 #[.slice (some fr) 1 qb, .slice (some ⟨g, (i + 1) * 3, none⟩) (n - i) (cap - (i + 1))]).run ag W = .ok (.value (.bool false)) W := by
  rw [run_callFunc_extern Tryz.func183 (by kernel_rfl) (by kernel_rfl) (by kernel_rfl) (e := Extern.SlicesOverlaps.overlaps #[134, 134] #[4]) (by kernel_rfl),
   afy W _ _ 214 hu 3 (fun w => by rw [hB e4, gW]) fr ⟨g, (i + 1) * 3, none⟩ 1 qb _ _ bU news[0] (by have := kj 0 news[0] (bN (by omega)); rwa [show fr.add 0 = fr from by unfold Addr.add; split <;> simp_all] at this) cur _ aq (by omega)]
  rfl
 obtain ⟨bl, bJ, e6⟩ := ZB cur.toList news hi lW (by simpa using dT) gV;generalize nU : (cur.toList.drop (i * 3)).take ((n - i) * 3) = dt at *;have cZ : dt.length = (n - i) * 3 := by rw [← nU, dK, h3, Array.length_toList]; omega
 have XH : ∀ ty jj pa, (Builtin.copy_ #[134, 134] ty #[.slice (some ⟨g, (i + 1) * 3, none⟩) (n - i) jj, .slice (some ⟨g, i * 3, none⟩) (n + 1 - i) pa]).run ag W.drew = .ok (goInt ((n - i : Nat) : Int)) (W.drew.setRow g (cur.toList.take ((i + 1) * 3) ++ dt ++ cur.toList.drop ((i + 1) * 3 + dt.length)).toArray) := fun ty jj pa => by
  have hm : Nat.min (n + 1 - i) (n - i) = n - i := Nat.min_eq_right (by omega);have := D3 (P := ag) W.drew 134 134 ty 214 g ((i + 1) * 3) (n - i) jj 3 ⟨g, i * 3, none⟩ (n + 1 - i) pa cur 214 dt hu zf aq (by rw [hm, cZ]) (fun j v ae => ?_) (by rw [cZ]; omega) (fun v hv => ?_)
  ·rw [hm] at this; exact this
  ·rw [Addr.add_lit];have ak : j < (n - i) * 3 := by rw [← cZ]; exact (bM.1 ae).1
   rw [← nU, fE ak, fV] at ae;show (W.drew.cell? _) = _;unfold World.cell?;rw [show W.drew.heap[(⟨g, i * 3 + j, none⟩ : Addr).block]? = some (.cells cur 214 (0, 0)) from aq];simpa using ae
  ·refine kk v ?_;obtain ⟨j, ae⟩ := j1 hv;have ak : j < (n - i) * 3 := by rw [← cZ]; exact (bM.1 ae).1
   rw [← nU, fE ak, fV] at ae;exact c7 (i := i * 3 + j) (by rw [fE (by omega)]; exact ae)
 generalize hj : cur.toList.take ((i + 1) * 3) ++ dt ++ cur.toList.drop ((i + 1) * 3 + dt.length) = c1 at *;have r5 := setRow_heap W.drew g cur c1.toArray _ (0, 0) aq
 have XI : ∀ ty jj, (Builtin.copy_ #[134, 134] ty #[.slice (some ⟨g, i * 3, none⟩) (n + 1 - i) jj, .slice (some fr) 1 qb]).run ag (W.drew.setRow g c1.toArray) = .ok (goInt ((1 : Nat) : Int)) ((W.drew.setRow g c1.toArray).setRow g (c1.take (i * 3) ++ news ++ c1.drop (i * 3 + news.length)).toArray) := fun ty jj => by
  have hm : Nat.min 1 (n + 1 - i) = 1 := o8 (by omega);have := D3 (P := ag) (W.drew.setRow g c1.toArray) 134 134 ty 214 g (i * 3) (n + 1 - i) jj 3 fr 1 qb c1.toArray 214 news hu zf r5 (by rw [hm, gV]) (fun j v ae => ?_) (by rw [gV]; simp [bl]; omega) h1
  ·rw [hm] at this; simpa using this
  rw [← kj j v ae];refine World.cell?_of_block (w := W) ?_;show (World.setRow _ _ _).heap[(fr.add j).block]? = _;rw [block_add];simp only [World.setRow, uc];rw [if_neg (fun e => bU e.symm)];rfl
 generalize gE : c1.take (i * 3) ++ news ++ c1.drop (i * 3 + news.length) = c2 at *;clear aq nU hj gE kk kj h1 r5 e4 hJ
 go_enter Tryz.func160, Tryz.ntmps160
 go_wp2_with (simp only [YD])
 have mixed : ag.follows .mixedOrders = true := by kernel_rfl
 go_region_law_o (refine step_copy_runI rfl _ _ 134 134 rfl _ _ (by simp [Act.eval, Act.put]) (by simp [Act.eval, Act.put]) (XH _ _ _) ?_)
 go_wp2_with (at_builtin; refine wpList_copy_runI _ rfl _ _ 134 134 rfl _ _ rfl rfl (XI _ _) ?_)
 go_ret
 exact ⟨rfl, c2.toArray, setRow_setRow _ _ _ _, by simpa using bJ, by simpa using e6⟩
theorem ZC (R xs news : List Value) {i n G : Nat} (hi : i < n) (u0 : n + 1 ≤ G) (aw : R.length = G * 3) (aa : xs.length = n * 3) (yP : R.take (i * 3) = xs.take (i * 3)) (gV : news.length = 3) :
  let c1 := R.take (i * 3) ++ news ++ R.drop (i * 3 + news.length)
  let c2 := c1.take ((i + 1) * 3) ++ xs.drop (i * 3) ++ c1.drop ((i + 1) * 3 + (xs.drop (i * 3)).length)
  c1.length = G * 3 ∧ c2.length = G * 3 ∧ c2.take ((n + 1) * 3) = xs.take (i * 3) ++ news ++ xs.drop (i * 3) := by
 have t1 : (xs.take (i * 3)).length = i * 3 := by rw [dK]; omega
 have t2 : (xs.drop (i * 3)).length = (n - i) * 3 := by rw [h3]; omega
 intro c1 c2;have aF : c1.length = G * 3 := by simp only [c1, yP, cJ, t1, h3, aw, gV]; omega
 have cg : c1.take ((i + 1) * 3) = xs.take (i * 3) ++ news := by
  simp only [c1, yP];rw [Ac (by rw [cJ, t1, gV]; omega), gn (by rw [cJ, t1, gV]; omega)]
 have aM : c2.length = G * 3 := by simp only [c2, cg, cJ, t1, t2, h3, aF, gV]; omega
 refine ⟨aF, aM, ?_⟩;simp only [c2, cg];rw [Ac (by simp only [cJ, t1, t2, gV]; omega), gn (by simp only [cJ, t1, t2, gV]; omega)]
theorem ZA (xs : List Value) (aq : W.heap[g]? = some (.cells cur 214 (0, 0))) (CG : cur.toList.take (n * 3) = xs) (oN : xs.length = n * 3) (hi : i < n) (ep : n ≤ cap) (lW : cap < n + 1) (wW : (n + 1) * 24 ≤ 140737488355328) (kk : ∀ v ∈ xs, v.oneCell' = true)
  (gV : news.length = 3) (kj : ∀ j v, news[j]? = some v → W.cell? (fr.add j) = some v) (h1 : ∀ v ∈ news, v.oneCell' = true) :
  Calls ag 160 #[.slice (some ⟨g, 0, none⟩) n cap, .int .i64 i, .slice (some fr) 1 qb] W fun e bh =>
   ∃ G nQ o, e = .returned (.slice (some ⟨W.heap.size, 0, none⟩) (n + 1) G) ∧ bh.heap = ((W.alloc o).setRow W.heap.size nQ).heap ∧ bh.os = W.os ∧ bh.tape = W.tape ∧ bh.output = W.output ∧ (∃ gT, o = .cells gT 214 (0, 0)) ∧ n + 1 ≤ G ∧ G ≤ maxLen ∧ nQ.size = G * 3 ∧ nQ.toList.take ((n + 1) * 3) = xs.take (i * 3) ++ news ++ xs.drop (i * 3) := by
 obtain ⟨eE, z, hu, e4, hJ, gW, kg, nv, bI⟩ := p7 (P := ag) (tt := 134) (e := 214) (sz := 3) (bytes := 24) (by kernel_rfl);have zf : (ag.info? 214).map (·.size) = some 3 := by rw [e4]; simp [gW]
 have jn : ∀ j v, xs[j]? = some v → W.cell? ⟨g, j, none⟩ = some v := fun j v ae => by
  have ak : j < n * 3 := by rw [← oN]; exact (bM.1 ae).1
  rw [← CG, fE ak] at ae;unfold World.cell?;rw [show W.heap[(⟨g, j, none⟩ : Addr).block]? = some (.cells cur 214 (0, 0)) from aq];simpa using ae
 have MT : g < W.heap.size := (jv.1 aq).1
 have mF : fr.block < W.heap.size := by
  have := kj 0 news[0] (bN (by omega));obtain ⟨t, k, h, _⟩ := K2 this;rw [block_add] at h;unfold World.shape? at h;cases al : W.heap[fr.block]? with
  | none => rw [al] at h; cases h
  | some o => exact (jv.1 al).1
 have kn : ¬ ((i : Int) = (n : Int)) := by omega
 have aiB : (cap : Int) < (n : Int) + 1 := by omega
 have G6 : IntKind.i64.wrap ((i : Int) + 1) = (i : Int) + 1 := by rw [IntKind.wrap_i64]; omega
 have G7 : IntKind.i64.wrap ((n : Int) + 1) = (n : Int) + 1 := by rw [IntKind.wrap_i64]; omega
 have oG : (n : Int) + 1 - (i : Int) = ((n + 1 - i : Nat) : Int) := by omega
 have Ns : IntKind.i64.wrap ((n : Int) + 1 - (i : Int)) = (n : Int) + 1 - (i : Int) := by rw [IntKind.wrap_i64]; omega
 have Gv : i + (n + 1 - i) = n + 1 := by omega
 have hold : (Builtin.firstCells eE.size i (.slice (some ⟨g, 0, none⟩) i cap)).run ag W.drew = .ok (xs.take (i * 3)).toArray W.drew := by
  rw [gW]
  exact run_firstCells_some W.drew 3 i ⟨g, 0, none⟩ i cap (xs.take (i * 3)) (by rw [dK]; omega) (fun j v ae => by
   rw [Addr.add_lit, jd];rw [List.getElem?_take] at ae
   split at ae
   ·exact jn j v ae
   ·cases ae)
 obtain ⟨G, u0⟩ : ∃ G, G = grownCap W (n + 1) cap 214 := ⟨_, rfl⟩;have Mr : n + 1 ≤ G := by rw [u0]; exact grownCap_ge W _ _ _
 have Mq : G ≤ maxLen := by rw [u0]; exact grownCap_le_maxLen W (n + 1) cap _ (by unfold maxLen; omega)
 have aia : G ≤ 9223372036854775807 := by unfold maxLen at Mq; omega
 obtain ⟨ms, Ca⟩ : ∃ ms : Array Value, ms = (xs.take (i * 3)).toArray ++ Builtin.zeroCells z.cells (n + 1 - i) ++ Builtin.zeroCells z.cells (G - (n + 1)) := ⟨_, rfl⟩
 have GX : ∀ ty, (Builtin.append_ #[134, 3] ty #[.slice (some ⟨g, 0, none⟩) i cap, .int .i64 ((n : Int) + 1 - (i : Int))]).run ag W =
   .ok (.slice (some ⟨W.heap.size, 0, none⟩) (n + 1) G) (W.drew.alloc (.cells ms 214)) := fun ty => by
  have h := Lib.run_append_grow_zeros W 134 3 ty 214 eE z .i64 .i64 hu Tryz.underlying3 e4 hJ (some ⟨g, 0, none⟩) i cap _ hold (n + 1 - i) (by omega) (by omega) (by omega) (by omega) (by rw [kg]; omega) (by rw [kg, Gv]; exact growslice_fits lW wW);rw [Gv, ← u0, ← Ca] at h;rw [oG];exact h
 have Mz : ms.size = G * 3 := by
  rw [Ca];simp [Builtin.zeroCells, nv, dK];omega
 have yP : ms.toList.take (i * 3) = xs.take (i * 3) := by
  rw [Ca, Array.toList_append, Array.toList_append, iu, Ac (by simp [dK]; omega), gn (by simp [dK]; omega)]
 obtain ⟨bl, bJ, e6⟩ := ZC ms.toList xs news hi Mr (by simpa using Mz) oN yP gV;generalize Ch : xs.drop (i * 3) = BO at *;have Cf : BO.length = (n - i) * 3 := by rw [← Ch, h3]; omega
 obtain ⟨N, fi⟩ : ∃ N, N = W.heap.size := ⟨_, rfl⟩;obtain ⟨ia, rT⟩ : ∃ ia, ia = W.drew.alloc (.cells ms 214) := ⟨_, rfl⟩;have F8 : ia.heap[N]? = some (.cells ms 214 (0, 0)) := by rw [rT, fi]; show (W.heap.push _)[W.heap.size]? = _; simp
 have F9 : ∀ b, b < W.heap.size → ia.heap[b]? = W.heap[b]? := fun b ab => by rw [rT]; show (W.heap.push _)[b]? = _; rw [Array.getElem?_push_lt ab, Array.getElem?_eq_getElem ab]
 generalize hj : ms.toList.take (i * 3) ++ news ++ ms.toList.drop (i * 3 + news.length) = c1 at *
 have XJ : ∀ mw : World, mw.heap = ia.heap → ∀ ty jj, (Builtin.copy_ #[134, 134] ty #[.slice (some ⟨N, i * 3, none⟩) (n + 1 - i) jj, .slice (some fr) 1 qb]).run ag mw = .ok (goInt ((1 : Nat) : Int)) (mw.setRow N c1.toArray) := fun mw dS ty jj => by
  have hm : Nat.min 1 (n + 1 - i) = 1 := o8 (by omega);have := D3 (P := ag) mw 134 134 ty 214 N (i * 3) (n + 1 - i) jj 3 fr 1 qb ms 214 news hu zf (by rw [dS]; exact F8) (by rw [hm, gV]) (fun j v ae => ?_) (by rw [gV, Mz]; omega) h1
  ·rw [hm, hj] at this; exact this
  ·rw [← kj j v ae];refine World.cell?_of_block (w := W) ?_;rw [block_add, dS, F9 _ mF]
 generalize gE : c1.take ((i + 1) * 3) ++ BO ++ c1.drop ((i + 1) * 3 + BO.length) = c2 at *;have X5 : g ≠ N := by omega
 have XK : ∀ mw : World, mw.heap = (ia.setRow N c1.toArray).heap → ∀ ty jj pa, (Builtin.copy_ #[134, 134] ty #[.slice (some ⟨N, (i + 1) * 3, none⟩) (n - i) jj, .slice (some ⟨g, i * 3, none⟩) (n - i) pa]).run ag mw = .ok (goInt ((n - i : Nat) : Int)) (mw.setRow N c2.toArray) := fun mw dS ty jj pa => by
  have hm : Nat.min (n - i) (n - i) = n - i := Nat.min_self _;have := D3 (P := ag) mw 134 134 ty 214 N ((i + 1) * 3) (n - i) jj 3 ⟨g, i * 3, none⟩ (n - i) pa c1.toArray 214 BO hu zf (by rw [dS]; exact setRow_heap ia N ms _ _ (0, 0) F8) (by rw [hm, Cf]) (fun j v ae => ?_) (by rw [Cf]; simp [bl]; omega) (fun v hv => kk v (by rw [← Ch] at hv; exact mO hv))
  ·rw [hm] at this; simpa [gE] using this
  ·rw [Addr.add_lit];rw [← Ch, fV] at ae;rw [← jn _ v ae];refine World.cell?_of_block (w := W) ?_;rw [dS];simp only [World.setRow, uc];rw [if_neg (fun e => X5 e.symm), F9 _ MT]
 rw [← rT] at GX;rw [← fi] at GX ⊢;have fin : ∀ mw : World, mw.heap = ia.heap → mw.heap = (W.alloc (.cells ms 214)).heap := fun mw h => by rw [h, rT]; rfl
 have dA : (0 : Int) ≤ (i : Int) + 1 := by omega
 have kh : i ≤ n := by omega
 have aie : ¬ (G = i) := by omega
 have aid : ¬ (G = i + 1) := by omega
 have Gf : (i : Int) ≤ (n : Int) + 1 := by omega
 have u4 : ¬ (cap = i) := by omega
 have Yz : ia.os = W.os := by rw [rT]; rfl
 have YZ : ia.tape = W.tape := by rw [rT]; rfl
 have YC : ia.output = W.output := by rw [rT]; rfl
 have X9 : ia.heap = (W.alloc (.cells ms 214)).heap := by rw [rT]; rfl
 have mixed : ag.follows .mixedOrders = true := by kernel_rfl
 clear aq CG oN kj h1 kk e4 hJ hold u0 Ca yP Ch rT F8 F9 hj gE jn oG Gv fin fi MT mF
 go_enter Tryz.func160, Tryz.ntmps160
 go_wp2_with (first
  | (at_builtin; refine Lib.wpList_append_run _ rfl _ _ _ _ rfl _ _ rfl rfl _ _ (GX _) ?_)
  | (at_builtin; refine wpList_copy_runI _ rfl _ _ 134 134 rfl _ _ rfl rfl (XJ _ rfl _ _) ?_))
 go_region_law_o (refine step_copy_runI rfl _ _ 134 134 rfl (.slice (some ⟨N, (i + 1) * 3, none⟩) (n - i) (G - (i + 1))) (.slice (some ⟨g, i * 3, none⟩) (n - i) (cap - i)) (by simp [Act.eval, Act.put]) (by simp [Act.eval, Act.put]) (XK (ia.setRow N c1.toArray).drew rfl 3 (G - (i + 1)) (cap - i)) ?_)
 go_wp2
 go_ret
 refine ⟨G, c2.toArray, .cells ms 214 (0, 0), rfl, ?_, Yz, YZ, YC, ⟨_, rfl⟩, Mr, Mq, by simpa using bJ, by simpa using e6⟩;show ((ia.setRow N c1.toArray).setRow N c2.toArray).heap = _;rw [setRow_setRow];simp only [World.setRow, X9]
end
theorem Zz (W : World) (v : Value) (n : Nat) (xs news : List Value) (fr : Addr) (qb : Nat) (cp : W.ownsRow 0 214 3 v n xs) (wW : (n + 1) * 24 ≤ 140737488355328)
  (gV : news.length = 3) (kj : ∀ j v, news[j]? = some v → W.cell? (fr.add j) = some v) (h1 : ∀ v ∈ news, v.oneCell' = true) :
  Calls ag 160 #[v, .int .i64 n, .slice (some fr) 1 qb] W fun e bh =>
   ∃ v', e = .returned v' ∧ bh.ownsRow 0 214 3 v' (n + 1) (xs ++ news) ∧ W.grownBy bh v.ownBlock ∧ (∀ g, v'.ownBlock = some g → v.ownBlock = some g ∨ W.heap.size ≤ g) ∧ v'.oneCell' = true := by
 obtain ⟨eE, z, hu, e4, hJ, gW, kg, nv, bI⟩ := p7 (P := ag) (tt := 134) (e := 214) (sz := 3) (bytes := 24) (by kernel_rfl);obtain ⟨v', w', ap, q⟩ := IA (P := ag) W 0 134 134 214 eE z 3 24 hu e4 hJ gW kg nv bI v n xs cp fr 1 qb news (by rw [gV]) kj h1 (by unfold maxLen; omega) wW (dC _) (by decide);rcases cp.2 with ⟨rfl, rfl⟩ | ⟨g, cap, cur, rfl, nh, aq, ep, iA, dT, lY⟩
 ·clear e4 hJ cp kj
  go_enter Tryz.func160, Tryz.ntmps160
  go_wp2_with (at_builtin; refine Lib.wpList_append_run _ rfl _ _ _ _ rfl _ _ rfl rfl _ _ ap ?_)
  go_ret
  exact ⟨v', rfl, q⟩
 ·have XE : cap ≤ 9223372036854775807 := by unfold maxLen at iA; omega
  clear e4 hJ cp kj aq dT lY iA
  go_enter Tryz.func160, Tryz.ntmps160
  go_wp2_with (at_builtin; refine Lib.wpList_append_run _ rfl _ _ _ _ rfl _ _ rfl rfl _ _ ap ?_)
  all_goals go_ret
  all_goals exact ⟨v', rfl, q⟩
theorem LH : ∀ (l : List dw) (i : Nat), (ei l).take (i * 3) = ei (l.take i)
 | [], i => by simp [ei]
 | e :: l, 0 => by simp [ei]
 | e :: l, i + 1 => by
  rw [show (i + 1) * 3 = i * 3 + 1 + 1 + 1 by omega];simp only [ei, List.take_succ_cons, LH l i]
theorem LF : ∀ (l : List dw) (i : Nat), (ei l).drop (i * 3) = ei (l.drop i)
 | [], i => by simp [ei]
 | e :: l, 0 => by simp
 | e :: l, i + 1 => by
  rw [show (i + 1) * 3 = i * 3 + 1 + 1 + 1 by omega];simp only [ei, List.drop_succ_cons, LF l i]
theorem bL.take {U : Nat → Prop} {ad : Nat → Nat} {W : World} {xs : List AC} {vs : List Value} (h : bL U ad W xs vs) (k : Nat) : bL U ad W (xs.take k) (vs.take k) := by
 have := h.sub 0 k;simpa using this
theorem bL.drop {U : Nat → Prop} {ad : Nat → Nat} {W : World} {xs : List AC} {vs : List Value} (h : bL U ad W xs vs) (k : Nat) : bL U ad W (xs.drop k) (vs.drop k) := by
 refine ⟨by rw [h3, h3, h.1], fun i x v aa hv => ?_⟩;rw [fV] at aa hv;exact h.2 _ x v aa hv
theorem bL.zY {U : Nat → Prop} {ad : Nat → Nat} {W : World} {xs : List AC} {vs : List Value} (h : bL U ad W xs vs) : ∀ v ∈ vs, v.oneCell' = true := fun v hv => by
 obtain ⟨j, ae⟩ := j1 hv;have bg : j < xs.length := by rw [h.1]; exact (bM.1 ae).1
 exact (h.2 j _ v (bN bg) ae).cell
theorem aco {W : World} {b e sz n : Nat} {v : Value} {xs : List Value} (h : W.ownsRow b e sz v n xs) : v.oneCell' = true := by
 rcases h.2 with ⟨rfl, _⟩ | ⟨g, cap, cur, rfl, _⟩ <;> rfl
abbrev sc (l : List dw) (i : Nat) (e : dw) : List dw := l.take i ++ e :: l.drop i
theorem Zx {l : List dw} {i : Nat} {e : dw} (hi : i ≤ l.length) : (sc l i e).length = l.length + 1 := by
 unfold sc; rw [cJ, iI, dK, h3]; omega
theorem Zy {U : Nat → Prop} {ad : Nat → Nat} {W : World} {l : List dw} {xs news : List Value} {e : dw} (i : Nat) (h : bL U ad W (ei l) xs) (ax : bL U ad W (ei [e]) news) : bL U ad W (ei (sc l i e)) (xs.take (i * 3) ++ news ++ xs.drop (i * 3)) := by
 have : ei (sc l i e) = (ei l).take (i * 3) ++ ei [e] ++ (ei l).drop (i * 3) := by
  rw [LH, LF, ← yz, ← yz, iu]; rfl
 rw [this];exact ((h.take _).append ax).append (h.drop _)
theorem LC : ∀ (l : List dw) (y : AC), y ∈ ei l → ∃ u, y = .c u
 | [], y, h => by cases h
 | e :: l, y, h => by
  simp only [ei, fD] at h;rcases h with h | h | h | h
  ·exact ⟨_, h⟩
  ·exact ⟨_, h⟩
  ·exact ⟨_, h⟩
  ·exact LC l y h
theorem Wg {U cF : Nat → Prop} {ad aY : Nat → Nat} {W bh : World} {l : List dw} {vs : List Value} (h : bL U ad W (ei l) vs) : bL cF aY bh (ei l) vs := by
 refine ⟨h.1, fun i x v aa hv => ?_⟩;have := h.2 i x v aa hv;obtain ⟨u, rfl⟩ := LC l x (c7 aa);exact this
theorem Vb {l : List dw} {v : Value} {i : Nat} {x y w : Int} (hi : i ≤ l.length) (ak : l.length ≤ 1000000) :
  ye ag 160 [aR v, aH i, cy 3 1 [.c (.int .i64 x), .c (.int .i64 y), .c (.int .i64 w)]] (gZ v l) fun b0 aX => ∃ v', v'.oneCell' = true ∧ b0 = aR v' ∧ aX = gZ v' (sc l i (x, y, w)) := by
 refine aeP rfl (jw _) (fun b0 aX ⟨v', _, _, e⟩ => by rw [e]; exact jw _) ?_;intro U W vs xs az jV cZ vf cL;obtain ⟨hlen, hv⟩ := cL
 match vs, hlen with
 | [a, b, c], _ =>
  have cX : a = v := (hv 0 _ a rfl rfl).1;have aF : b = .int .i64 i := (hv 1 _ b rfl rfl).1;obtain ⟨⟨A, dt, aM, hj, gE, XB⟩, X3⟩ := hv 2 _ c rfl rfl;obtain ⟨fr, news, rfl, gD⟩ := XB (by decide);subst cX aF aM;have gV : news.length = 3 := gD.k9.1.symm;have qI : bL U id W (ei [(x, y, w)]) news := Wg (U := fun _ => True) (ad := id) (W := W) gD.k9;have pJ := Zy i jV qI;have mC : (sc l i (x, y, w)).length = l.length + 1 := Zx hi;have oN : xs.length = l.length * 3 := az.1;have Y4 : U fr.block := X3 _ ⟨dt, fr, rfl, by decide, .inl rfl⟩;have rV : ∀ q ∈ ei (sc l i (x, y, w)), q.aZ = true := fun q al => cB.1 (LD _) q al
  have fin : ∀ (e : Ending) (bh : World) (v' : Value), e = .returned v' → bh.ownsRow 0 214 3 v' (l.length + 1) (xs.take (i * 3) ++ news ++ xs.drop (i * 3)) → W.grownBy bh a.ownBlock → (∀ g, v'.ownBlock = some g → a.ownBlock = some g ∨ W.heap.size ≤ g) →
    ∃ u b0 aX, e = .returned u ∧ (∃ v', v'.oneCell' = true ∧ b0 = aR v' ∧ aX = gZ v' (sc l i (x, y, w))) ∧ JL W bh (gZ a l) aX U ∧ da U id W b0 u ∧ b0.aZ = true := by
   rintro e bh v' rfl h1 h2 an;have B4 := aco h1;refine ⟨v', _, _, rfl, ⟨v', B4, rfl, rfl⟩, ⟨h2, ⟨_, ?_, pJ⟩, rV, an⟩, ⟨rfl, B4⟩, rfl⟩;show bh.ownsRow 0 214 3 v' (sc l i (x, y, w)).length _;rw [mC]; exact h1
  by_cases rX : i = l.length
  ·subst rX;refine (Zz W a l.length xs news fr dt az (by omega) gV gD.at_ qI.zY).mono ?_;rintro e bh ⟨v', rfl, h1, h2, an, _⟩;refine fin _ _ v' rfl ?_ h2 an;rw [gn (by omega), uf (by omega), nC];exact h1
  ·have bg : i < l.length := by omega
   obtain ⟨g, cap, cur, rfl, nh, aq, ep, iA, dT, lY⟩ : ∃ g cap cur, a = .slice (some ⟨g, 0, none⟩) l.length cap ∧ 0 ≤ g ∧ W.heap[g]? = some (.cells cur 214 (0, 0)) ∧ l.length ≤ cap ∧ cap ≤ maxLen ∧ cur.size = cap * 3 ∧ cur.toList.take (l.length * 3) = xs := by
    rcases az.2 with ⟨_, aD⟩ | h
    ·have : l.length = 0 := aD;omega
    ·exact h
   have X7 : fr.block ≠ g := fun e => vf g rfl (by rw [← e]; exact Y4)
   by_cases lW : l.length + 1 ≤ cap
   ·refine (ZD W g l.length cap i cur news fr dt aq bg lW (by unfold maxLen at iA; omega) dT (by rw [lY]; exact jV.zY) gV gD.at_ qI.zY X7).mono ?_;rintro e bh ⟨rfl, nQ, rfl, bl, bJ⟩;rw [lY] at bJ;have aU := setRow_heap W.drew g cur nQ _ (0, 0) aq;refine fin _ _ _ rfl ⟨?_, .inr ⟨g, cap, nQ, rfl, dC _, aU, lW, iA, bl, bJ⟩⟩ ⟨rfl, rfl, rfl, by (show W.heap.size ≤ (Array.modify W.heap g _).size; rw [Array.size_modify]; exact dJ _), fun k _ af => ?_⟩ fun jk eo => .inl eo
    ·simp only [cJ, dK, h3, gV]; omega
    ·show (Array.modify W.heap g _)[k]? = _;rw [uc];rw [if_neg (fun e => af (by rw [e]; rfl))]
   ·refine (ZA W g l.length cap i cur news fr dt xs aq lY oN bg ep (by omega) (by omega) jV.zY gV gD.at_ qI.zY).mono ?_;rintro e bh ⟨G, nQ, o, rfl, q1, q2, bO, dj, ⟨gT, rfl⟩, bl, bJ, e6, gH⟩;have y9 : (W.alloc (.cells gT 214 (0, 0))).heap[W.heap.size]? = some (.cells gT 214 (0, 0)) := by show (W.heap.push _)[W.heap.size]? = _; simp
    have aU := setRow_heap _ W.heap.size gT nQ _ (0, 0) y9;rw [← q1] at aU;refine fin _ _ _ rfl ⟨?_, .inr ⟨W.heap.size, G, nQ, rfl, dC _, aU, bl, bJ, e6, gH⟩⟩ ⟨q2, bO, dj, ?_, fun k af _ => ?_⟩ fun jk eo => .inr (by simp [Value.ownBlock] at eo; omega)
    ·simp only [cJ, dK, h3, gV]; omega
    ·rw [q1];show W.heap.size ≤ (Array.modify (W.heap.push _) _ _).size;rw [Array.size_modify, Array.size_push]; omega
    ·rw [q1];simp only [World.setRow, uc];rw [if_neg (by omega)];show (W.heap.push _)[k]? = _;rw [Array.getElem?_push_lt af, Array.getElem?_eq_getElem af]
end Go.Proofs.YtbcecodakfejaaaGreat
namespace Go.Proofs.YtbcecodakfejaaaGreat
open Go.RowKit
theorem ad8 {x y a b : Int} : ma x y a b < 0 ↔ l8 x y a b = true := by
 rw [oX];unfold ma b9
 split <;> split <;> first | omega | (split <;> omega)
theorem ad7 {x y a b : Int} : ma x y a b = 0 ↔ x = a ∧ y = b := by
 unfold ma b9
 split <;> split <;> first | omega | (split <;> omega)
theorem P0 {x y v a b : Int} : aC ag 181 [.w (.agg [.c (.int .i64 x), .c (.int .i64 y), .c (.int .i64 v)]), aK a b] (aH (ma x y a b)) := by
 have aT := adp (x := x) (y := y) (x' := a) (y' := b);refine bm (f := 181) Tryz.func181 rfl rfl rfl rfl ?_;(refine bY ?_)
 ((refine bc rfl (bf rfl aN) ?_))
 exact ah.aQ.refl _
abbrev RS : ah := aR (.func (.func 181) #[] #[])
def Sd (l : List dw) (v : Value) (a b : Int) (n : Nat) (R : aI) (aL : List (Nat × ah)) (bd : List (Nat × List AC)) : Prop :=
 ∃ (lo hi : Nat) (k1 ae : Int), lo ≤ e8 l a b ∧ e8 l a b ≤ hi ∧ hi ≤ l.length ∧ n = hi - lo ∧ k1 = lo ∧ ae = hi ∧ R = br 0 (gZ v l) ∧ bd = [(4, C3 a b)] ∧ aL = [(0, aR v), (2, RS), (4, sN 4), (8, aH l.length), (9, aH k1), (10, aH ae)]
theorem Vc {l : List dw} {v : Value} {a b : Int} (ap : ka l) (ak : l.length ≤ 1000000) :
  ye ag 180 [aR v, aK a b, RS] (gZ v l) fun b0 aX => b0 = .cr [.one (.c (.int .i64 (e8 l a b))), .one (.c (.bool (hH l a b)))] ∧ aX = gZ v l := by
 refine aeO rfl (fun v aX h => by rw [h.1]; rfl) ?_;refine dv (f := 180) Tryz.func180 rfl (dq rfl) (by exact nP) ?_;(repeat first | refine c5 ?_ | (with_reducible apply nZ 0); (iterate 4 rfl); kernel_rfl; rfl);refine jz 49 (Sd l v a b) l.length (br 0 (gZ v l)) _ [(4, C3 a b)] ⟨0, l.length, 0, l.length, dC _, Qj l a b, dJ _, rfl, rfl, rfl, rfl, rfl, rfl⟩ (bB.refl _) rfl ⟨rfl, rfl, rfl, rfl, rfl, rfl, trivial⟩ ⟨rfl, trivial⟩ rfl ?_;rintro n R aL bd ⟨lo, hi, k1, ae, h1, h2, an, rfl, aE, cY, rfl, rfl, rfl⟩ c0;clear c0
 by_cases al : lo < hi
 ·subst aE cY;have q2 : (lo : Int) < (hi : Int) := by omega
  obtain ⟨h, aU⟩ : ∃ h, h = (lo + hi) / 2 := ⟨_, rfl⟩;have aF : ((lo : Int) + (hi : Int)) / 2 = (h : Int) := by omega
  have Ya : h < l.length := by omega
  obtain ⟨x, y, w, g1⟩ : ∃ x y w, l[h]? = some (x, y, w) := ⟨_, _, _, bN Ya⟩;have mc : 0 < l.length := by omega
  have jE : (((lo : Int) + (hi : Int)) / 2).toNat * 3 + 3 ≤ (ei l).length ∧ ((ei l).drop ((((lo : Int) + (hi : Int)) / 2).toNat * 3)).take 3 = [.c (.int .i64 x), .c (.int .i64 y), .c (.int .i64 w)] := ⟨by rw [yA]; omega, LI aF g1⟩;have ia : IntKind.i64.wrap ((lo : Int) + hi) = (lo : Int) + hi := n2 (by omega);have ahq : IntKind.u64.wrap ((lo : Int) + hi) = (lo : Int) + hi := by rw [IntKind.wrap_u64]; omega
  have aT := P0 (x := x) (y := y) (v := w) (a := a) (b := b);have gq : h < e8 l a b ↔ ma x y a b < 0 := (xC ap a b h (x, y, w) g1).trans ad8.symm;generalize ma x y a b = c at *;have Io : ((lo : Int) + (hi : Int)) / 2 < (l.length : Int) := by omega
  clear g1
  replace aF := Lib.hid aF
  replace aU := Lib.hid aU
  by_cases aj : c < 0
  ·(repeat first | (with_reducible apply dQ (id := 5) [0,1,2,3,4,5,6,7]); kernel_rfl; kernel_rfl; rfl | refine c5 ?_ | refine iw ?_ | (with_reducible apply jW 0); (iterate 4 rfl); (omega); (assumption); rfl; kernel_rfl; rfl | (with_reducible apply n0 0); (iterate 3 rfl); (assumption); assumption; rfl; kernel_rfl; rfl);have aU := aU.out;have aF := aF.out;refine ⟨hi - (h + 1), br 0 (gZ v l), _, [(4, C3 a b)], by omega, ⟨h + 1, hi, _, hi, gq.2 aj, h2, an, rfl, ?_, rfl, rfl, rfl, rfl⟩, bB.refl _, rfl, ⟨rfl, rfl, rfl, rfl, rfl, rfl, trivial⟩, ⟨rfl, trivial⟩, rfl⟩;omega
  ·have fj : e8 l a b ≤ h := by have := mt gq.1 aj; omega
   (repeat first | (with_reducible apply dQ (id := 5) [0,1,2,3,4,5,6,7]); kernel_rfl; kernel_rfl; rfl | refine c5 ?_ | refine iw ?_ | (with_reducible apply jW 0); (iterate 4 rfl); (omega); (assumption); rfl; kernel_rfl; rfl | (with_reducible apply n0 0); (iterate 3 rfl); (assumption); assumption; rfl; kernel_rfl; rfl);have aU := aU.out;have aF := aF.out;refine ⟨h - lo, br 0 (gZ v l), _, [(4, C3 a b)], by omega, ⟨lo, h, lo, _, h1, fj, by omega, rfl, rfl, aF, rfl, rfl, rfl⟩, bB.refl _, rfl, ⟨rfl, rfl, rfl, rfl, rfl, rfl, trivial⟩, ⟨rfl, trivial⟩, rfl⟩
 ·have cX : lo = e8 l a b := by omega
  subst cX;have q2 : ¬ k1 < ae := by omega
  clear cY al h2 an h1;generalize hp : e8 l a b = p at *
  by_cases ax : p < l.length
  ·subst aE;have bO : (p : Int) < (l.length : Int) := by omega
   have mc : 0 < l.length := by omega
   obtain ⟨x, y, w, g1⟩ : ∃ x y w, l[p]? = some (x, y, w) := ⟨_, _, _, bN ax⟩;have jE : ((p : Int)).toNat * 3 + 3 ≤ (ei l).length ∧ ((ei l).drop (((p : Int)).toNat * 3)).take 3 = [.c (.int .i64 x), .c (.int .i64 y), .c (.int .i64 w)] := ⟨by rw [yA]; omega, LI rfl g1⟩;have aT := P0 (x := x) (y := y) (v := w) (a := a) (b := b)
   have gq : hH l a b = decide (ma x y a b = 0) := by
    rw [lD, Cd ap, hp, g1, decide_eq_true_iff, ad7]
    constructor
    ·rintro ⟨u, hu⟩; cases hu; exact ⟨rfl, rfl⟩
    ·rintro ⟨rfl, rfl⟩; exact ⟨w, rfl⟩
   generalize ma x y a b = c at *;(repeat first | (with_reducible apply dQ (id := 8) [0,1,2,3,4,5,6,7,8,9,10,11,12,13,14,15]); kernel_rfl; kernel_rfl; rfl | refine c5 ?_ | (with_reducible apply jo); rfl; (repeat first | refine jC ?_ | refine jB ?_ | (with_reducible apply cW (c := true)); rfl; rfl; (exact cw (by omega))); (with_reducible apply iy) | (with_reducible apply jW 0); (iterate 4 rfl); (omega); (assumption); rfl; kernel_rfl; rfl | (with_reducible apply n0 0); (iterate 3 rfl); (assumption); assumption; rfl; kernel_rfl; rfl)
   ((refine MP rfl (bf rfl (bf rfl aN)) rfl rfl ?_))
   exact ⟨by rw [gq]; rfl, rfl⟩
  ·subst aE;have bO : ¬ (p : Int) < (l.length : Int) := by omega
   have gq : hH l a b = false := by
    cases aU : hH l a b with
    | false => rfl
    | true =>
     obtain ⟨u, hu⟩ := (Cd ap).1 aU;rw [hp] at hu;have := (bM.1 hu).1;omega
   (repeat first | (with_reducible apply dQ (id := 8) [0,1,2,3,4,5,6,7,8,9,10,11,12,13,14,15]); kernel_rfl; kernel_rfl; rfl | refine c5 ?_ | (with_reducible apply jo); rfl; (repeat first | refine jC ?_ | (with_reducible apply cW (c := false)); rfl; rfl; (exact c3 (by omega))); (with_reducible apply iy))
   ((refine MP rfl (bf rfl (bf rfl aN)) rfl rfl ?_))
   exact ⟨by rw [gq]; rfl, rfl⟩
theorem ago {l : List dw} {p : Nat} {x y u w : Int} (hu : l[p]? = some (x, y, u)) : eD (ei l) ((p : Int).toNat * 3 + 2) [.c (.int .i64 w)] = ei (l.take p ++ (x, y, w) :: l.drop (p + 1)) := by
 have bg := (bM.1 hu).1;have he := (bM.1 hu).2
 have aF : l = l.take p ++ (x, y, u) :: l.drop (p + 1) := by
  conv => lhs; rw [← j2 p l, mN bg, he]
 have t1 : (ei (l.take p)).length = p * 3 := by rw [yA, dK]; omega
 rw [kK]
 conv => lhs; rw [aF]
 unfold eD;rw [yz, yz];simp only [ei];rw [List.take_append, List.drop_append, t1, show (ei (l.take p)).take (p * 3 + 2) = ei (l.take p) from gn (by omega), show (ei (l.take p)).drop (p * 3 + 2 + [AC.c (.int .i64 w)].length) = [] from uf (by rw [t1, List.length_singleton]; omega)];rw [show p * 3 + 2 - p * 3 = 2 by omega, show p * 3 + 2 + [AC.c (.int .i64 w)].length - p * 3 = 3 by simp; omega];simp
def Sp (n : Nat) : Prop := ∀ (u9 : Value) l v (x y w : Int), v.oneCell' = true → ka l → l.length ≤ n → ql ag 142 [aK x y, aH w] [.c v, .c u9] (gZ v l) fun r au aX => r = bk (!hH l x y) ∧ ∃ v', v'.oneCell' = true ∧ au = [.c v', .c u9] ∧ aX = gZ v' (sy l x y w)
def Sl (n : Nat) : Prop := ∀ (u9 : Value) l v (x y : Int), v.oneCell' = true → ka l → l.length ≤ n → ql ag 158 [aK x y] [.c v, .c u9] (gZ v l) fun r au aX => r = .cr [.one (.c (.int .i64 (oi l x y))), .one (.c (.bool (hH l x y)))] ∧ au = [.c v, .c u9] ∧ aX = gZ v l
def Sm (n : Nat) : Prop := ∀ (u9 : Value) l v, v.oneCell' = true → ka l → l.length ≤ n → ql ag 141 [] [.c v, .c u9] (gZ v l) fun r au aX => r = aH l.length ∧ au = [.c v, .c u9] ∧ aX = gZ v l
theorem KX {u9 : Value} {l : List dw} {v : Value} {a b : Int} (hv : v.oneCell' = true) (ap : ka l) (ak : l.length ≤ 1000000) : ql ag 159 [aK a b] [.c v, .c u9] (gZ v l) fun b0 au aX => b0 = .cr [.one (.c (.int .i64 (e8 l a b))), .one (.c (.bool (hH l a b)))] ∧ au = [.c v, .c u9] ∧ aX = gZ v l := by
 have aT := Vc (v := v) (a := a) (b := b) ap ak;refine tP rfl rfl (fun v au aX h => by obtain ⟨rfl, rfl, rfl⟩ := h; exact ⟨rfl, rfl⟩) ?_;refine dv (f := 159) Tryz.func159 rfl (dq rfl) (by exact eu rfl) ?_;(repeat first | (with_reducible apply lG (id := 1) [0,1,2,3,4,5,6,7,8,9] [11]); kernel_rfl; kernel_rfl; rfl | refine c5 ?_);refine Ng 0 rfl rfl rfl rfl aT rfl rfl rfl (fun b0 aX h => ?_);obtain ⟨rfl, rfl⟩ := h;(refine a7 ?_)
 ((refine qE rfl (bf rfl (bf rfl aN)) rfl rfl rfl rfl ?_))
 exact ⟨rfl, rfl, rfl⟩
theorem ZV : Sm 1100 := by
 intro u9 l v hv ap ak;refine tP rfl rfl (fun v au aX h => by obtain ⟨rfl, rfl, rfl⟩ := h; exact ⟨rfl, rfl⟩) ?_;refine dv (f := 141) Tryz.func141 rfl (dq rfl) (by exact eu rfl) ?_;(repeat first | refine c5 ?_ | (with_reducible apply nZ 0); (iterate 4 rfl); kernel_rfl; rfl)
 ((refine qE rfl (bf rfl aN) rfl rfl rfl rfl ?_))
 exact ⟨rfl, rfl, rfl⟩
theorem ZU : Sl 1100 := by
 intro u9 l v x y hv ap ak;have aT := KX (u9 := u9) (v := v) (a := x) (b := y) hv ap (by omega);have hp := Cd (l := l) ap (x := x) (y := y);refine tP rfl rfl (fun v au aX h => by obtain ⟨rfl, rfl, rfl⟩ := h; exact ⟨rfl, rfl⟩) ?_;cases aU : hH l x y with
 | false =>
  rw [aU] at aT;rw [ag2 aU];refine dv (f := 158) Tryz.func158 rfl (dq rfl) (by exact eu rfl) ?_;(refine a7 ?_);refine r6 1000 0 rfl rfl rfl rfl aT rfl rfl rfl rfl rfl rfl (fun r au aX h => ?_);obtain ⟨rfl, rfl, rfl⟩ := h;(refine a7 ?_)
  ((refine qE rfl (bf rfl (bf rfl aN)) rfl rfl rfl rfl ?_))
  exact ⟨rfl, rfl, rfl⟩
 | true =>
  rw [aU] at aT;obtain ⟨u, hu⟩ := hp.1 aU;rw [(ag3 ap hu).2];have bg := (bM.1 hu).1;generalize e8 l x y = p at *;clear hp;have bO : (p : Int) < (l.length : Int) := by omega
  have mc : 0 < l.length := by omega
  have jE : (ei l)[(p : Int).toNat * 3 + 2]? = some (.c (.int .i64 u)) := by
   have h1 := FE l p (x, y, u) hu;have h2 : ((((ei l).drop (p * 3)).take 3))[2]? = some (.c (.int .i64 u)) := by rw [h1]; rfl
   rw [fE (by decide), fV] at h2;exact h2
  refine dv (f := 158) Tryz.func158 rfl (dq rfl) (by exact eu rfl) ?_;(refine a7 ?_);refine r6 1000 0 rfl rfl rfl rfl aT rfl rfl rfl rfl rfl rfl (fun r au aX h => ?_);obtain ⟨rfl, rfl, rfl⟩ := h;(repeat first | refine c5 ?_ | (with_reducible apply jW 0); (iterate 4 rfl); (omega); (assumption); rfl; kernel_rfl; rfl | (with_reducible apply zg 0); (iterate 3 rfl); (assumption); kernel_rfl; rfl | (with_reducible apply zh 0); (iterate 3 rfl); (assumption); assumption; rfl; kernel_rfl; rfl)
  ((refine qE rfl (bf rfl (bf rfl aN)) rfl rfl rfl rfl ?_))
  exact ⟨rfl, rfl, rfl⟩
theorem ZZ : Sp 1100 := by
 intro u9 l v x y w hv ap ak;have aT := KX (u9 := u9) (v := v) (a := x) (b := y) hv ap (by omega);have hp := Cd (l := l) ap (x := x) (y := y);have qJ := Qj l x y;refine tP rfl rfl (fun v au aX h => by obtain ⟨rfl, v', bR, rfl, rfl⟩ := h; exact ⟨rfl, rfl⟩) ?_;cases aU : hH l x y with
 | false =>
  rw [aU] at aT;rw [QE ap aU];have bH := Vb (l := l) (v := v) (i := e8 l x y) (x := x) (y := y) (w := w) qJ (by omega);generalize e8 l x y = p at *;clear hp;refine dv (f := 142) Tryz.func142 rfl (dq rfl) (by exact eu rfl) ?_;(refine a7 ?_);refine r6 1000 0 rfl rfl rfl rfl aT rfl rfl rfl rfl rfl rfl (fun r au aX h => ?_);obtain ⟨rfl, rfl, rfl⟩ := h;(repeat first | (with_reducible apply lG (id := 5) [0,1,2,3,4,5,6,7,8,9,10,11,12,13] [34]); kernel_rfl; kernel_rfl; rfl | refine c5 ?_);refine Ng 0 rfl rfl rfl rfl bH rfl rfl rfl (fun b0 aX h => ?_);obtain ⟨v', bR, rfl, rfl⟩ := h;(refine a7 ?_)
  ((refine qE rfl (bf rfl aN) rfl rfl rfl rfl ?_))
  exact ⟨rfl, v', bR, rfl, rfl⟩
 | true =>
  rw [aU] at aT;obtain ⟨u, hu⟩ := hp.1 aU;rw [aeo ap hu];have bg := (bM.1 hu).1;generalize e8 l x y = p at *;clear hp;have bO : (p : Int) < (l.length : Int) := by omega
  have mc : 0 < l.length := by omega
  refine dv (f := 142) Tryz.func142 rfl (dq rfl) (by exact eu rfl) ?_;(refine a7 ?_);refine r6 1000 0 rfl rfl rfl rfl aT rfl rfl rfl rfl rfl rfl (fun r au aX h => ?_);obtain ⟨rfl, rfl, rfl⟩ := h;(repeat first | refine c5 ?_ | (with_reducible apply jW 0); (iterate 4 rfl); (omega); (assumption); rfl; kernel_rfl; rfl | (with_reducible apply zg 0); (iterate 3 rfl); (assumption); kernel_rfl; rfl);refine zl 0 rfl rfl rfl rfl mc rfl rfl ?_ rfl ?_
  ·show (p : Int).toNat * 3 + 2 + 1 ≤ (ei l).length;rw [yA]; omega
  ·have aF := ago (w := w) hu
   have aM : (l.take p ++ (x, y, w) :: l.drop (p + 1)).length = l.length := by
    rw [cJ, iI, dK, h3]; omega
   have cg : (⟨214, 3, v, l.length, eD (ei l) ((p : Int).toNat * 3 + 2) [.c (.int .i64 w)]⟩ : bG) = gZ v (l.take p ++ (x, y, w) :: l.drop (p + 1)) := by
    rw [aF]; unfold gZ; rw [aM]
   (refine a7 ?_)
   ((refine qE rfl (bf rfl aN) rfl rfl rfl rfl ?_))
   exact ⟨rfl, v, hv, rfl, cg⟩
abbrev sJ (v : Value) (r : Int) : List AC := [.c v, .c (.int .i64 r)]
def sZ : Bi := fun r L p S => ∃ (ad : Nat → Nat) (v : Value) (es : List dw), p = ea (ad 1000) ∧ v.oneCell' = true ∧ nL L es ∧ S = la ad (cN 1000 (sJ v r)) (br 0 (gZ v es)) 1000
theorem LG : ∀ l, (ei l).all AC.vK = true
 | [] => rfl
 | p :: l => by
  have := LG l;simp only [ei, ku, this]; rfl
theorem II (v : Value) (r : Int) (es : List dw) : nz (cN 1000 (sJ v r)) (br 0 (gZ v es)) := by
 refine ⟨fun k cs h => ?_, fun i q h => ?_⟩
 ·obtain ⟨rfl, rfl⟩ := hK h; rfl
 ·obtain ⟨rfl, rfl⟩ := fK h; exact ⟨jw _, LG es⟩
theorem Ou (k : Nat) (cs : List AC) : ∃ ds, cN k cs k = some ds := ⟨cs, by unfold cN; exact cx _ _ _⟩
theorem Qx {b c : Nat} (h : ea b = ea c) : b = c := by cases h; rfl
theorem vS {r q : bG} : bK (br 0 r) 0 q = br 0 q := by
 funext i;unfold br
 by_cases e : i = 0
 ·subst e; rw [cx, cx]
 ·rw [cl _ _ e, cl _ _ e, cl _ _ e]
theorem NU : Sq sZ := by
 intro r L b S h ak;obtain ⟨ad, v, es, hp, hv, bj, rfl⟩ := h;obtain rfl := Qx hp;refine RL (Ou _ _) rfl (Post := fun w m1 ba => w = aH r ∧ m1 = cN 1000 (sJ v r) ∧ ba = br 0 (gZ v es)) ?_ (fun w m1 ba h => ?_)
 ·refine dv (f := 52) Tryz.func52 rfl (dq rfl) (by exact eu rfl) ?_;(refine a7 ?_)
  ((refine eP rfl (bf rfl aN) rfl (bB.refl _) rfl rfl (fun i r h => ⟨r, h⟩) ?_))
  exact ⟨rfl, rfl, rfl⟩
 ·obtain ⟨rfl, rfl, rfl⟩ := h;exact ⟨rfl, II _ _ _, fun eG jq => ⟨rfl, eG, v, es, by rw [jq], hv, bj, rfl⟩⟩
theorem ZX : So sZ := by
 intro n;refine agF (Post := fun w m1 ba => w = .w (.one (.own 7 0)) ∧ m1 = cN 7 (sJ (.slice none 0 0) (lF n)) ∧ ba = br 0 (gZ (.slice none 0 0) [])) ?_ (fun w m1 ba h => ?_)
 ·have e : lF n = if 1024 < if 1 > n then 1 else n then 1024 else if 1 > n then 1 else n := by unfold lF; (repeat split) <;> omega
  rw [e];refine dv (f := 50) Tryz.func50 rfl (dq rfl) (by exact nP) ?_;refine lH 0 214 3 rfl ?_;(refine a7 ?_)
  ((refine Cm 7 rfl (bf rfl aN) rfl (bB.refl _) rfl rfl ?_))
  exact ⟨rfl, rfl, rfl⟩
 ·obtain ⟨rfl, rfl, rfl⟩ := h;refine ⟨7, rfl, ⟨fun k cs h => ?_, (II (.slice none 0 0) 0 []).2⟩, fun eG => ⟨eG 7, rfl, fun j => eG (swp 1000 7 j), .slice none 0 0, [], rfl, rfl, .nil, ?_⟩⟩
  ·obtain ⟨rfl, rfl⟩ := hK h; rfl
  ·have h1 := agH (mS 1000 7) (b4 := fun j => j) (ix := fun j => j) (fun _ => rfl) (fun _ => rfl) (ad := eG) (m := cN 1000 (sJ (.slice none 0 0) (lF n))) (R := br 0 (gZ (.slice none 0 0) [])) (k := 1000);rw [vw rfl] at h1;exact h1
theorem ab1 {r : Int} {L : List ao} {v : Value} {es : List dw} (x y : Int) (hv : v.oneCell' = true) (bj : nL L es) (ak : L.length ≤ 1100) : ql ag 140 [aK x y] (sJ v r) (gZ v es) fun w au aX => w = .cr [.one (.c (.int .i64 (oi es x y))), .one (.c (.bool (hH es x y)))] ∧ au = sJ v r ∧ aX = gZ v es := by
 have aT := ZU (.int .i64 r) es v x y hv bj.1 (by rw [bj.len]; exact ak);refine tP rfl rfl (fun v au aX h => by obtain ⟨rfl, rfl, rfl⟩ := h; exact ⟨rfl, rfl⟩) ?_;generalize oi es x y = a at *;generalize hH es x y = c at *;refine dv (f := 140) Tryz.func140 rfl (dq rfl) (by exact eu rfl) ?_;(repeat first | (with_reducible apply lG (id := 1) [0,1,2,3,4,5,6,7,8] [10]); kernel_rfl; kernel_rfl; rfl | refine c5 ?_);refine GZ 1000 0 rfl rfl rfl rfl aT rfl (fun v au aX h => h.2.1) rfl rfl rfl rfl (fun b0 au aX h => ?_);obtain ⟨rfl, rfl, rfl⟩ := h;(refine a7 ?_)
 ((refine qE rfl (bf rfl (bf rfl aN)) rfl rfl rfl rfl ?_))
 exact ⟨rfl, rfl, rfl⟩
theorem afO {f : FuncId} {args : List ah} {r : Int} {L L' : List ao} {b : Nat} {S : e0} {post : ah → Prop} (ek : args.all ah.aZ = true) (h : sZ r L (ea b) S)
  (aj : ∀ v es, v.oneCell' = true → nL L es → ql ag f args (sJ v r) (gZ v es) fun w au aX => w.aZ = true ∧ post w ∧ ∃ v' uW, v'.oneCell' = true ∧ nL L' uW ∧ au = sJ v' r ∧ aX = gZ v' uW) : yj ag f (aR (ea b) :: args) (ea b) S fun w dm => post w ∧ sZ r L' (ea b) dm := by
 obtain ⟨ad, v, es, hp, hv, bj, rfl⟩ := h;obtain rfl := Qx hp;refine RL (Ou _ _) ek (aj v es hv bj 1000 0) (fun w m1 ba h => ?_);obtain ⟨au, aX, rfl, rfl, hw, YI, v', uW, bR, ck, rfl, rfl⟩ := h;exact ⟨hw, II _ _ _, fun eG jq => ⟨YI, eG, v', uW, by rw [jq], bR, ck, rfl⟩⟩
abbrev agZ (b : Bool) (e : Int) : ah := .cr [.one (.c (.bool b)), .one (.c (.int .i64 e))]
theorem ZQ : Si sZ := by
 intro r L b S x y h ak;refine afO (L' := qm r L x y) (post := fun w => w = agZ (nM r L x y) (nN r L x y)) rfl h fun v es hv bj => ?_;have yY := bj.len;have ax := bj.num x y;have aT := ab1 (r := r) x y hv bj ak
 by_cases aU : 0 ≤ k4 L x y
 ·obtain ⟨aF, aM, cg⟩ := TH (r := r) aU;rw [aF, aM, cg];rw [ax.1, cw aU] at aT;refine tP rfl rfl (fun w au aX h => by obtain ⟨c1, _, v', uW, _, _, rfl, _⟩ := h; exact ⟨c1, rfl⟩) ?_;generalize oi es x y = a at *;refine dv (f := 121) Tryz.func121 rfl (dq rfl) (by exact eu rfl) ?_;(refine a7 ?_);refine r6 1000 0 rfl rfl rfl rfl aT rfl rfl rfl rfl rfl rfl (fun b0 au aX h => ?_);obtain ⟨rfl, rfl, rfl⟩ := h;rw [vS];(refine a7 ?_)
  ((refine qE rfl (bf rfl (bf rfl aN)) rfl rfl rfl rfl ?_))
  exact ⟨rfl, rfl, v, es, hv, bj, rfl, rfl⟩
 ·have ar := ax.1;rw [c3 aU] at ar;rw [ar] at aT;have bH := ZV (.int .i64 r) es v hv bj.1 (by omega);rw [yY] at bH
  by_cases h2 : r ≤ (L.length : Int)
  ·obtain ⟨aF, aM, cg⟩ := TG (r := r) aU h2;rw [aF, aM, cg];refine tP rfl rfl (fun w au aX h => by obtain ⟨c1, _, v', uW, _, _, rfl, _⟩ := h; exact ⟨c1, rfl⟩) ?_;generalize oi es x y = a at *;have wR : (L.length : Int) ≥ r := h2;refine dv (f := 121) Tryz.func121 rfl (dq rfl) (by exact eu rfl) ?_;(refine a7 ?_);refine r6 1000 0 rfl rfl rfl rfl aT rfl rfl rfl rfl rfl rfl (fun b0 au aX h => ?_);obtain ⟨rfl, rfl, rfl⟩ := h;rw [vS];(repeat first | (with_reducible apply lG (id := 4) [0,1,2,4,5,6,7,3,8] [18]); kernel_rfl; kernel_rfl; rfl | refine c5 ?_);refine GZ 1000 0 rfl rfl rfl rfl bH rfl (fun v au aX h => h.2.1) rfl rfl rfl rfl (fun b0 au aX h => ?_);obtain ⟨rfl, rfl, rfl⟩ := h;rw [vS];(refine a7 ?_)
   ((refine qE rfl (bf rfl (bf rfl aN)) rfl rfl rfl rfl ?_))
   exact ⟨rfl, rfl, v, es, hv, bj, rfl, rfl⟩
  ·obtain ⟨aF, aM, cg⟩ := TI (r := r) aU h2;rw [aF, aM, cg];have ck := bj.add aU;have et := ZZ (.int .i64 r) es v x y L.length hv bj.1 (by omega);rw [ar] at et;refine tP rfl rfl (fun w au aX h => by obtain ⟨c1, _, v', uW, _, _, rfl, _⟩ := h; exact ⟨c1, rfl⟩) ?_;generalize oi es x y = a at *;generalize sy es x y L.length = FG at *;have wR : ¬ (L.length : Int) ≥ r := h2;refine dv (f := 121) Tryz.func121 rfl (dq rfl) (by exact eu rfl) ?_;(refine a7 ?_);refine r6 1000 0 rfl rfl rfl rfl aT rfl rfl rfl rfl rfl rfl (fun b0 au aX h => ?_);obtain ⟨rfl, rfl, rfl⟩ := h;rw [vS];(repeat first | (with_reducible apply lG (id := 4) [0,1,2,4,5,6,7,3,8] [18]); kernel_rfl; kernel_rfl; rfl | refine c5 ?_);refine GZ 1000 0 rfl rfl rfl rfl bH rfl (fun v au aX h => h.2.1) rfl rfl rfl rfl (fun b0 au aX h => ?_);obtain ⟨rfl, rfl, rfl⟩ := h;rw [vS];(repeat first | (with_reducible apply lG (id := 6) [0,1,2,3,4,5,6,7,8,9,10] [31,32,2001000]); kernel_rfl; kernel_rfl; rfl | refine c5 ?_);refine r6 1000 0 rfl rfl rfl rfl bH rfl rfl rfl rfl rfl rfl (fun b0 au aX h => ?_);obtain ⟨rfl, rfl, rfl⟩ := h;rw [vS]
   skip
   refine r6 1000 0 rfl rfl rfl rfl et rfl rfl rfl rfl rfl rfl (fun b0 au aX h => ?_);obtain ⟨rfl, v', bR, rfl, rfl⟩ := h;rw [vS];(refine a7 ?_)
   ((refine qE rfl (bf rfl (bf rfl aN)) rfl rfl rfl rfl ?_))
   exact ⟨rfl, rfl, v', FG, bR, ck, rfl, rfl⟩
theorem QG (v : Value) (l : List ao) (p : ao) : iH v (l ++ [p]) = ⟨36, 2, v, l.length + 1, bP l ++ [.c (.int .i64 p.1), .c (.int .i64 p.2)]⟩ := by
 unfold iH; rw [← Hf, cJ]; rfl
end Go.Proofs.YtbcecodakfejaaaGreat
namespace Go.Proofs.YtbcecodakfejaaaGreat
open Go.RowKit
open bu
abbrev qa (a b c d : Int) : ah := .w (.agg [.c (.int .i64 a), .c (.int .i64 b), .c (.int .i64 c), .c (.int .i64 d)])
def oR (l : ao × ao) : List AC := [.c (.int .i64 l.1.1), .c (.int .i64 l.1.2), .c (.int .i64 l.2.1), .c (.int .i64 l.2.2)]
def jX (l : List (ao × ao)) : List AC := l.flatMap oR
theorem NE {V : List ao} {j : Nat} {a b : Int} {ji : Int} (ae : ji = j) (h : V[j]? = some (a, b)) : ji < (V.length : Int) := by
 have := (bM.1 h).1; omega
theorem PY {V : List ao} {D : List Int} {j : Nat} {a b c d : Int} (h1 : V[j]? = some (a, b)) (h2 : V[j + 1]? = some (c, d)) (ak : V.length ≤ 100000) : aC ag 96 [mT V D, aH j] (qa a b c d) := by
 obtain ⟨ji, ae⟩ : ∃ ji : Int, ji = j := ⟨_, rfl⟩;have q1 := NE (ji := ji) ae h1;have q2 := NE (ji := ji + 1) (j := j + 1) (by omega) h2;have di : 0 ≤ ji := by omega
 have bO : 0 ≤ ji + 1 := by omega
 have ab : ji ≤ 100000 := by omega
 have jE := pR ae h1;have x1 := pR (j := ji + 1) (i := j + 1) (by omega) h2;rw [show aH (j : Int) = aH ji by rw [ae]];clear ae h1 h2 ak;refine bm (f := 96) Tryz.func96 rfl rfl rfl rfl ?_;(refine eF ?_)
 ((refine bc rfl (cu rfl rfl rfl aN) ?_))
 exact ah.aQ.refl _
theorem Dy {a b c d k A B C D : Int} (aT : aC ag 13 [aK a b, aH k] (aK A B)) (bH : aC ag 13 [aK c d, aH k] (aK C D)) : aC ag 102 [qa a b c d, aH k] (.cr [.agg [.c (.int .i64 A), .c (.int .i64 B)], .agg [.c (.int .i64 C), .c (.int .i64 D)]]) := by
 refine bm (f := 102) Tryz.func102 rfl rfl rfl rfl ?_;(refine bY ?_)
 ((refine bc rfl (cu rfl rfl rfl (cu rfl rfl rfl aN)) ?_))
 exact ah.aQ.refl _
theorem adG {a b c d x y k A B C D : Int} {h r : Bool} (aT : aC ag 102 [qa a b c d, aH k] (.cr [.agg [.c (.int .i64 A), .c (.int .i64 B)], .agg [.c (.int .i64 C), .c (.int .i64 D)]])) (H1 : aC ag 131 [aK A B, aK C D, aK x y, aH k] (bk h)) (aF : b8 x y a b = false → b8 x y c d = false → r = h) (aM : b8 x y a b = true → r = false) (cg : b8 x y c d = true → r = false) : aC ag 97 [qa a b c d, aK x y, aH k] (bk r) := by
 cases q1 : b8 x y a b with
 | true =>
  rw [aM q1];refine bm (f := 97) Tryz.func97 rfl rfl rfl rfl ?_;(repeat first | refine ez ?_ | refine jB ?_ | (with_reducible apply cW (c := false)); rfl; rfl; ((simp only [qs]; (omega))))
  ((refine bc rfl (bf rfl aN) ?_))
  exact ah.aQ.refl _
 | false =>
  cases q2 : b8 x y c d with
  | true =>
   rw [cg q2];refine bm (f := 97) Tryz.func97 rfl rfl rfl rfl ?_;(repeat first | refine ez ?_ | refine jB ?_ | (with_reducible apply cW (c := true)); rfl; rfl; ((simp only [qs]; (omega))) | (with_reducible apply cW (c := false)); rfl; rfl; ((simp only [qs]; (omega))))
   ((refine bc rfl (bf rfl aN) ?_))
   exact ah.aQ.refl _
  | false =>
   rw [aF q1 q2];refine bm (f := 97) Tryz.func97 rfl rfl rfl rfl ?_;(repeat first | refine ez ?_ | refine jB ?_ | (with_reducible apply cW (c := true)); rfl; rfl; ((simp only [qs]; (omega))))
   ((refine bc rfl (bf rfl aN) ?_))
   exact ah.aQ.refl _
theorem adF {E : List bS} {r R : Nat} (ap : r ≤ 28) {p q x : ao} (hp : eM r p.1 p.2 = true) (al : eM r q.1 q.2 = true) : aC ag 97 [qa p.1 p.2 q.1 q.2, aK x.1 x.2, aH r] (bk (jl (qZ E r R) p q x)) := by
 have aw : gB (r : Int) r := ⟨ap, .inr (.inr rfl)⟩;have e : ∀ a b : ao, b8 a.1 a.2 b.1 b.2 = decide (a = b) := fun a b => by rw [lD, mz, cq, Prod.ext_iff]
 have aq : jl (qZ E r R) p q x = (!decide (x = p) && !decide (x = q) && w6 (2 ^ r * p.1) (2 ^ r * p.2) (2 ^ r * q.1) (2 ^ r * q.2) x.1 x.2 r) := by
  unfold jl;simp only [decide_not];rfl
 refine adG (Dy (sv aw hp) (sv aw al)) acB (fun h1 h2 => ?_) (fun h1 => ?_) (fun h1 => ?_)
 ·rw [e] at h1 h2;rw [aq, h1, h2]; rfl
 ·rw [e] at h1;rw [aq, h1]; rfl
 ·rw [e] at h1;rw [aq, h1]; simp
theorem ada {a b c d a' bT c' d' k A B C D dR qf Ex v7 : Int} {h : Bool} {M : eI} (aT : aC ag 102 [qa a b c d, aH k] (.cr [.agg [.c (.int .i64 A), .c (.int .i64 B)], .agg [.c (.int .i64 C), .c (.int .i64 D)]])) (bH : aC ag 102 [qa a' bT c' d', aH k] (.cr [.agg [.c (.int .i64 dR), .c (.int .i64 qf)], .agg [.c (.int .i64 Ex), .c (.int .i64 v7)]])) (H1 : aC ag 138 [aK A B, aK C D, aK dR qf, aK Ex v7] (bk h)) (c9 : aC ag 93 [aK A B, aK C D, aK dR qf, aK Ex v7] (oh M)) : aC ag 103 [qa a b c d, qa a' bT c' d', aH k] (oh (if h = true then e7 else M)) := by
 cases h with
 | true =>
  refine bm (f := 103) Tryz.func103 rfl rfl rfl rfl ?_;(refine bY ?_)
  ((refine bc rfl (cu rfl rfl rfl aN) ?_))
  exact ah.aQ.refl _
 | false =>
  refine bm (f := 103) Tryz.func103 rfl rfl rfl rfl ?_;(refine bY ?_)
  ((refine bc rfl (cu rfl rfl rfl aN) ?_))
  exact ah.aQ.refl _
theorem Hy {a b : bS} (h1 : bA a.1.1 a.1.2 = true) (h2 : bA a.2.1 a.2.2 = true) (an : bA b.1.1 b.1.2 = true) (aE : bA b.2.1 b.2.2 = true) : kp a.1.1 a.1.2 a.2.1 a.2.2 b.1.1 b.1.2 b.2.1 b.2.2 = ht a b := by
 unfold kp; rw [h1, h2, an, aE]; rfl
def oy (r : Nat) (l m : ao × ao) : eI := if tg (fz r l) (fz r m) = true then e7 else ht (fz r l) (fz r m)
theorem ac9 {r : Nat} (ap : r ≤ 28) {l m : ao × ao} (h1 : eM r l.1.1 l.1.2 = true) (h2 : eM r l.2.1 l.2.2 = true) (an : eM r m.1.1 m.1.2 = true) (aE : eM r m.2.1 m.2.2 = true) : aC ag 103 [qa l.1.1 l.1.2 l.2.1 l.2.2, qa m.1.1 m.1.2 m.2.1 m.2.2, aH r] (oh (oy r l m)) := by
 have aw : gB (r : Int) r := ⟨ap, .inr (.inr rfl)⟩;have e := Hy (a := fz r l) (b := fz r m) (nc h1) (nc h2) (nc an) (nc aE)
 have H1 : aC ag 138 [aK (2 ^ r * l.1.1) (2 ^ r * l.1.2), aK (2 ^ r * l.2.1) (2 ^ r * l.2.2), aK (2 ^ r * m.1.1) (2 ^ r * m.1.2), aK (2 ^ r * m.2.1) (2 ^ r * m.2.2)] (bk (tg (fz r l) (fz r m))) := by
  have := ac6 (a1 := 2 ^ r * l.1.1) (a2 := 2 ^ r * l.1.2) (b1 := 2 ^ r * l.2.1) (b2 := 2 ^ r * l.2.2) (c1 := 2 ^ r * m.1.1) (c2 := 2 ^ r * m.1.2) (d1 := 2 ^ r * m.2.1) (d2 := 2 ^ r * m.2.2);rw [show kp (2 ^ r * l.1.1) (2 ^ r * l.1.2) (2 ^ r * l.2.1) (2 ^ r * l.2.2) (2 ^ r * m.1.1) (2 ^ r * m.1.2) (2 ^ r * m.2.1) (2 ^ r * m.2.2) = ht (fz r l) (fz r m) from e] at this;exact this
 have c9 : aC ag 93 [aK (2 ^ r * l.1.1) (2 ^ r * l.1.2), aK (2 ^ r * l.2.1) (2 ^ r * l.2.2), aK (2 ^ r * m.1.1) (2 ^ r * m.1.2), aK (2 ^ r * m.2.1) (2 ^ r * m.2.2)] (oh (ht (fz r l) (fz r m))) := by
  have := H5 (a1 := 2 ^ r * l.1.1) (a2 := 2 ^ r * l.1.2) (b1 := 2 ^ r * l.2.1) (b2 := 2 ^ r * l.2.2) (c1 := 2 ^ r * m.1.1) (c2 := 2 ^ r * m.1.2) (d1 := 2 ^ r * m.2.1) (d2 := 2 ^ r * m.2.2);rw [show kp (2 ^ r * l.1.1) (2 ^ r * l.1.2) (2 ^ r * l.2.1) (2 ^ r * l.2.2) (2 ^ r * m.1.1) (2 ^ r * m.1.2) (2 ^ r * m.2.1) (2 ^ r * m.2.2) = ht (fz r l) (fz r m) from e] at this;exact this
 exact ada (Dy (sv aw h1) (sv aw h2)) (Dy (sv aw an) (sv aw aE)) H1 c9
theorem Lk (r : Nat) (l m : ao × ao) : rM r l m = if (oy r l m).k = 1 then some (iG r (oy r l m)) else none := by
 unfold rM oy;cases h : tg (fz r l) (fz r m) with
 | true => simp [e7]
 | false => simp
abbrev sg (v : Value) (l : List (ao × ao)) : bG := ⟨155, 4, v, l.length, jX l⟩
instance aiM : kR ag 76 155 4 32 := ⟨by kernel_rfl⟩
def ox (c : List ao × List Int) : List AC := [.p (cc 2 c.1.length (bP c.1)), .p (cc 1 c.2.length (cA c.2))]
def ev (l : List (List ao × List Int)) : List AC := l.flatMap ox
abbrev re (l : List (List ao × List Int)) : ah := cy 2 l.length (ev l)
theorem yH {β : Type} {f : β → List AC} {z : Nat} (ar : ∀ x, (f x).length = z) : ∀ {l : List β} {i : Nat} {x : β}, l[i]? = some x → ((l.flatMap f).drop (i * z)).take z = f x
 | [], i, x, h => by simp at h
 | y :: l, 0, x, h => by
  simp at h; subst h;rw [List.flatMap_cons, Nat.zero_mul, List.drop_zero, ← ar y, List.take_left]
 | y :: l, i + 1, x, h => by
  rw [List.flatMap_cons, kq, Nat.one_mul, o6, ← List.drop_drop, ← ar y, List.drop_left, ar y];exact yH ar (by simpa using h)
theorem B0 {β : Type} {f : β → List AC} {z : Nat} (ar : ∀ x, (f x).length = z) : ∀ l : List β, (l.flatMap f).length = l.length * z
 | [] => by simp
 | y :: l => by rw [List.flatMap_cons, cJ, ar, B0 ar l, iI, kq, Nat.one_mul, o6]
theorem Oc {l : List (ao × ao)} {i : Nat} {ii a b c d : Int} (hi : ii = i) (h : l[i]? = some ((a, b), (c, d))) : ((jX l).drop (ii.toNat * 4)).take 4 = [.c (.int .i64 a), .c (.int .i64 b), .c (.int .i64 c), .c (.int .i64 d)] := by
 subst hi; rw [kK]; exact yH (f := oR) (fun _ => rfl) h
theorem uQ {l : List (List ao × List Int)} {i : Nat} {ii : Int} {c : List ao × List Int} (hi : ii = i) (h : l[i]? = some c) : ((ev l).drop (ii.toNat * 2)).take 2 = [.p (cc 2 c.1.length (bP c.1)), .p (cc 1 c.2.length (cA c.2))] := by
 subst hi; rw [kK]; exact yH (f := ox) (fun _ => rfl) h
theorem aaJ (l : List (ao × ao)) (x : ao × ao) : jX l ++ oR x = jX (l ++ [x]) := by simp [jX, List.flatMap_append]
theorem aiY (l : List (ao × ao)) : (jX l).all AC.aZ = true := by
 rw [cB]; intro x aa;obtain ⟨y, _, ai⟩ := List.mem_flatMap.1 aa;simp only [oR, fD, sC, or_false] at ai;rcases ai with rfl | rfl | rfl | rfl <;> rfl
theorem Vo (l : List (List ao × List Int)) : (ev l).all AC.aZ = true := by
 rw [cB]; intro x aa;obtain ⟨y, _, ai⟩ := List.mem_flatMap.1 aa;simp only [ox, fD, sC, or_false] at ai;rcases ai with rfl | rfl <;> rfl
theorem aaH (v : Value) (l : List (ao × ao)) (x : ao × ao) : sg v (l ++ [x]) = ⟨155, 4, v, l.length + 1, jX l ++ oR x⟩ := by rw [sg, ← aaJ, cJ]; rfl
def SU (ch : List (List ao × List Int)) (n : Nat) (R : aI) (aL : List (Nat × ah)) (bd : List (Nat × List AC)) : Prop :=
 ∃ (i : Nat) (ii : Int) (v : Value), i ≤ ch.length ∧ n = ch.length - i ∧ ii = i ∧ R = br 0 (sg v (aW (ch.take i))) ∧ aL = [(3, aR v), (7, re ch), (8, aH ch.length), (9, aH ii)] ∧ bd = []
def SS (ch : List (List ao × List Int)) (V : List ao) (D : List Int) (ii : Int) (pre : List (ao × ao)) (n : Nat) (R : aI) (aL : List (Nat × ah)) (bd : List (Nat × List AC)) : Prop :=
 ∃ (j : Nat) (ee : Int) (v : Value), j ≤ D.length ∧ n = D.length - j ∧ ee = j ∧ R = br 0 (sg v (pre ++ (fI V).take j)) ∧ aL = [(3, aR v), (5, jg 5 0), (7, re ch), (8, aH ch.length), (9, aH ii), (15, aH D.length), (16, aH ee)] ∧ bd = [(5, [.p (cc 2 V.length (bP V)), .p (cc 1 D.length (cA D))])]
theorem Od {V : List ao} {j : Nat} (h : j + 1 < V.length) : (fI V)[j]? = some (V[j], V[j + 1]) := by
 induction V generalizing j with
 | nil => simp at h
 | cons p W b5 =>
  cases W with
  | nil => simp at h
  | cons q W =>
   cases j with
   | zero => rfl
   | succ j => exact b5 (j := j) (by simpa using h)
section
variable {P : Program} {R : aI} {s : aA} {ops : Array Oper} {dr : Option (List Nat)} {ty : Nat} {pos : String} {after : Array Edge} {guard : Option (Nat × Bool)} {K : aI → aA → Prop} {rest : List Oper}
def ol (k : Nat) (fj : ah → List AC → aI → Prop) : ah → Mem → aI → Prop := fun b0 aG ay => ∃ au, aG = cN k au ∧ fj b0 au ay
theorem CA (k : Nat) {R0 : aI} {dst : Option Nat} {f : FuncId} {g : Operand} {aL : Array TypeId} {l : List Operand} {args : List ah} {cs : List AC} {fj : ah → List AC → aI → Prop} [E : Enters P f] (hw : want ops ⟨dst, .call ⟨.value g, l.toArray, aL⟩, ty, pos, after, guard⟩ s = some true) (hm : dW dr ⟨dst, .call ⟨.value g, l.toArray, aL⟩, ty, pos, after, guard⟩ = true)
  (aq : s.look g = some (aR (.func (.func f) #[] #[]))) (aJ : l.map s.look = (ah.w (.one (.own k 0)) :: args).map some) (hp : dk P f (.w (.one (.own k 0)) :: args) (cN k cs) R0 (ol k fj)) (af : s.mem k = some cs) (hq : pc dr k = true) (ap : bB R0 R) (aj : cs.all AC.aZ = true) (ek : args.all ah.aZ = true) (hd : kT dst s.n = true)
  (h : ∀ v au ay, fj v au ay → cQ P ops dr K rest (bV ay R) ((s.eh k au).put dst v)) : cQ P ops dr K (⟨dst, .call ⟨.value g, l.toArray, aL⟩, ty, pos, after, guard⟩ :: rest) R s := by
 refine vl hw hm aq aJ hp (fun x aa j ae => ?_) (fun k' au aO => ?_) ap (fun k' au x j aO aa ae => ?_) hd ?_
 ·rcases fD.1 aa with rfl | aa
  ·obtain ⟨y, ai, ae⟩ := ae;simp [bz.cells] at ai;subst ai;cases ae;exact ⟨cs, by unfold cN; exact cx _ _ _⟩
  ·exact absurd ae (ah.du (cB.1 ek x aa) j)
 ·obtain ⟨rfl, rfl⟩ := hK aO;exact ⟨af, .inl hq⟩
 ·obtain ⟨rfl, rfl⟩ := hK aO;exact absurd ae (AC.du (cB.1 aj x aa) j)
 ·rintro v aG ay ⟨au, rfl, al⟩;refine ⟨fun k' c aO => ?_, ?_⟩
  ·obtain ⟨rfl, rfl⟩ := hK aO;exact .inl ⟨cs, by unfold cN; exact cx _ _ _⟩
  ·have aM : s.over (cN k au) = s.eh k au := by
    show ({ s with mem := bV (bK ca k au) s.mem } : aA) = { s with mem := bK s.mem k au };rw [show bV (bK ca k au) s.mem = bK s.mem k au from vI s.mem k au]
   rw [aM];exact h v au ay al
theorem kl (k : Nat) {dst : Option Nat} {f : FuncId} {g : Operand} {aL : Array TypeId} {l : List Operand} {args : List ah} {cs au : List AC} {v : ah} [E : Enters P f] (hw : want ops ⟨dst, .call ⟨.value g, l.toArray, aL⟩, ty, pos, after, guard⟩ s = some true) (hm : dW dr ⟨dst, .call ⟨.value g, l.toArray, aL⟩, ty, pos, after, guard⟩ = true)
  (aq : s.look g = some (aR (.func (.func f) #[] #[]))) (aJ : l.map s.look = (ah.w (.one (.own k 0)) :: args).map some) (hp : dk P f (.w (.one (.own k 0)) :: args) (cN k cs) gj (ol k fun b0 ds ay => b0 = v ∧ ds = au ∧ ay = gj)) (af : s.mem k = some cs) (hq : pc dr k = true) (aj : cs.all AC.aZ = true) (ek : args.all ah.aZ = true) (hd : kT dst s.n = true)
  (h : cQ P ops dr K rest R ((s.eh k au).put dst v)) : cQ P ops dr K (⟨dst, .call ⟨.value g, l.toArray, aL⟩, ty, pos, after, guard⟩ :: rest) R s := by
 refine CA k hw hm aq aJ hp af hq (fun i r h => by cases h) aj ek hd ?_;rintro _ _ _ ⟨rfl, rfl, rfl⟩;rw [show bV gj R = R from PC R];exact h
end
def BP (x : Int × bS) : List AC := [.c (.int .i64 x.2.1.1), .c (.int .i64 x.2.1.2), .c (.int .i64 x.2.2.1), .c (.int .i64 x.2.2.2), .c (.int .i64 x.1)]
def nR (l : List (Int × bS)) : List AC := l.flatMap BP
abbrev jA (l : List (Int × bS)) : ah := cy 5 l.length (nR l)
theorem wK {l : List (Int × bS)} {i : Nat} {ii o a b c d : Int} (hi : ii = i) (h : l[i]? = some (o, (a, b), (c, d))) : ((nR l).drop (ii.toNat * 5)).take 5 = [.c (.int .i64 a), .c (.int .i64 b), .c (.int .i64 c), .c (.int .i64 d), .c (.int .i64 o)] := by
 subst hi; rw [kK]; exact yH (f := BP) (fun _ => rfl) h
abbrev eC (E : List (Int × bS)) (k rm ph I J T : Int) (dirty : Bool) (hv fv cv : Value) (b : Nat) (lk : AC) : List AC :=
 [.p (cc 5 E.length (nR E)), .c (.int .i64 k), .c (.int .i64 rm), .c (.int .i64 ph), .c (.int .i64 I), .c (.int .i64 J), .c (.int .i64 T), .c (.bool dirty), .c hv, .c fv, .c cv, .c (ea b), lk]
abbrev wE (v : Value) (l : List (List ao × List Int)) : bG := ⟨34, 2, v, l.length, ev l⟩
instance aiN : kR ag 28 34 2 48 := ⟨by kernel_rfl⟩
abbrev dP (b : Nat) (S : e0) (hv fv cv : Value) (hot fnd : List ao) (ch : List (List ao × List Int)) : aI := bK (bK (bK (br 0 (jb (ea b) S)) 1 (iH hv hot)) 2 (iH fv fnd)) 3 (wE cv ch)
theorem Q0 {b bT : Nat} {S dm : e0} {hv fv cv bR dh db : Value} {hot fnd hot' fnd' : List ao} {ch ch' : List (List ao × List Int)} : bV (dP bT dm bR dh db hot' fnd' ch') (dP b S hv fv cv hot fnd ch) = dP bT dm bR dh db hot' fnd' ch' := by
 funext i
 match i with
 | 0 => rfl
 | 1 => rfl
 | 2 => rfl
 | 3 => rfl
 | i + 4 => rfl
theorem fc {b bT : Nat} {S dm : e0} {hv fv cv bR dh db : Value} {hot fnd hot' fnd' : List ao} {ch ch' : List (List ao × List Int)} : ∀ i r, dP b S hv fv cv hot fnd ch i = some r → ∃ aX, dP bT dm bR dh db hot' fnd' ch' i = some aX
 | 0, _, _ => ⟨_, rfl⟩
 | 1, _, _ => ⟨_, rfl⟩
 | 2, _, _ => ⟨_, rfl⟩
 | 3, _, _ => ⟨_, rfl⟩
 | i + 4, _, h => by cases h
theorem ae0 {b : Nat} {S : e0} {hv fv cv v : Value} {hot fnd l : List ao} {ch : List (List ao × List Int)} : bK (dP b S hv fv cv hot fnd ch) 1 (iH v l) = dP b S v fv cv l fnd ch := by
 funext i
 match i with
 | 0 => rfl
 | 1 => rfl
 | 2 => rfl
 | 3 => rfl
 | i + 4 => rfl
theorem Iw {b c : Nat} {S dm : e0} {hv fv cv : Value} {hot fnd : List ao} {ch : List (List ao × List Int)} : bK (dP b S hv fv cv hot fnd ch) 0 (jb (ea c) dm) = dP c dm hv fv cv hot fnd ch := by
 funext i
 match i with
 | 0 => rfl
 | 1 => rfl
 | 2 => rfl
 | 3 => rfl
 | i + 4 => rfl
abbrev rh : ah := .w (.one (.own 1000 0))
abbrev lJ : ah := .cr []
abbrev A9 (f : FuncId) (args : List ah) (cs : List AC) (v : ah) (au : List AC) : Prop := dk ag f (rh :: args) (cN 1000 cs) gj (ol 1000 fun b0 ds ay => b0 = v ∧ ds = au ∧ ay = gj)
section
variable {E : List (Int × bS)} {k rm ph I J T : Int} {dirty : Bool} {hv fv cv : Value} {b : Nat} {lk : AC}
theorem CT (ak : lk.aZ = true) (p j : Int) : A9 88 [aH p, aH j] (eC E k rm ph I J T dirty hv fv cv b lk) lJ (eC E k rm p 0 j 0 dirty hv fv cv b lk) := by
 have dF : (eC E k rm p 0 j 0 dirty hv fv cv b lk).all AC.aZ = true := by simp only [ku, mR, ak]; rfl
 refine dv (f := 88) Tryz.func88 rfl (dq rfl) (by exact eu rfl) ?_;(refine a7 ?_)
 ((refine eP rfl aN rfl (bB.refl _) dF rfl (fun i r h => ⟨r, h⟩) ?_))
 exact ⟨_, rfl, rfl, rfl, rfl⟩
theorem Hn (ak : lk.aZ = true) (p : Int) : A9 53 [aH p] (eC E k rm ph I J T dirty hv fv cv b lk) lJ (eC E k rm p 0 0 0 dirty hv fv cv b (.c (.slice none 0 0))) := by
 have dF : (eC E k rm ph I J T dirty hv fv cv b lk).all AC.aZ = true := by simp only [ku, mR, ak]; rfl
 have aT := CT (E := E) (k := k) (rm := rm) (ph := ph) (I := I) (J := J) (T := T) (dirty := dirty) (hv := hv) (fv := fv) (cv := cv) (b := b) ak p 0;refine dv (f := 53) Tryz.func53 rfl (dq rfl) (by exact eu rfl) ?_;(refine a7 ?_);refine kl 1000 rfl rfl rfl rfl aT rfl rfl dF rfl rfl ?_;(refine a7 ?_)
 ((refine eP rfl aN rfl (bB.refl _) rfl rfl (fun i r h => ⟨r, h⟩) ?_))
 exact ⟨_, rfl, rfl, rfl, rfl⟩
theorem zE (ak : lk.aZ = true) (n : Int) (bj : 0 ≤ I ∧ I ≤ 1000000) (kB : 0 ≤ J ∧ J ≤ 1000000) : A9 94 [aH n] (eC E k rm ph I J T dirty hv fv cv b lk) (bk (decide ((if J + 1 = n then I + 2 else J + 1) < n))) (eC E k rm ph (if J + 1 = n then I + 1 else I) (if J + 1 = n then I + 2 else J + 1) T dirty hv fv cv b lk) := by
 have dF : ∀ I J : Int, (eC E k rm ph I J T dirty hv fv cv b lk).all AC.aZ = true := fun I J => by simp only [ku, mR, ak]; rfl
 by_cases h : J + 1 = n
 ·rw [if_pos h, if_pos h];have e : I + 1 + 1 = I + 2 := by omega
  rw [← e];refine dv (f := 94) Tryz.func94 rfl (dq rfl) (by exact eu rfl) ?_;(refine a7 ?_)
  ((refine eP rfl (bf rfl aN) rfl (bB.refl _) (dF _ _) rfl (fun i r h => ⟨r, h⟩) ?_))
  exact ⟨_, rfl, rfl, rfl, rfl⟩
 ·rw [if_neg h, if_neg h];refine dv (f := 94) Tryz.func94 rfl (dq rfl) (by exact eu rfl) ?_;(refine a7 ?_)
  ((refine eP rfl (bf rfl aN) rfl (bB.refl _) (dF _ _) rfl (fun i r h => ⟨r, h⟩) ?_))
  exact ⟨_, rfl, rfl, rfl, rfl⟩
theorem Ho {r : Nat} (ap : r ≤ 28) (af : k = r) (ak : lk.aZ = true) {i : Nat} {o p1 p2 q1 q2 : Int} (fF : E.length ≤ 1000) (h : E[i]? = some (o, (p1, p2), (q1, q2))) (hp : gJ (p1, p2) = true) (al : gJ (q1, q2) = true) :
  A9 89 [aH i] (eC E k rm ph I J T dirty hv fv cv b lk) (.cr [.agg [.c (.int .i64 (cC p1 r)), .c (.int .i64 (cC p2 r))], .agg [.c (.int .i64 (cC q1 r)), .c (.int .i64 (cC q2 r))]]) (eC E k rm ph I J T dirty hv fv cv b lk) := by
 have dF : (eC E k rm ph I J T dirty hv fv cv b lk).all AC.aZ = true := by simp only [ku, mR, ak]; rfl
 obtain ⟨ji, ae⟩ : ∃ ji : Int, ji = i := ⟨_, rfl⟩;have bg := (bM.1 h).1;have g0 : 0 ≤ ji := by omega
 have g1 : ji < (E.length : Int) := by omega
 have jE := wK ae h;have hp := sr.1 hp;have al := sr.1 al;have aw : gB (r : Int) r := ⟨ap, .inr (.inr rfl)⟩;have aT := PQ (x := p1) (y := p2) aw (by omega) (by omega) (by omega) (by omega);have bH := PQ (x := q1) (y := q2) aw (by omega) (by omega) (by omega) (by omega);rw [← af] at aT bH;rw [show aH (i : Int) = aH ji by rw [ae]];clear hp al aw ae h;generalize cC p1 r = a at *;generalize cC p2 r = a' at *;generalize cC q1 r = c at *;generalize cC q2 r = c' at *;refine dv (f := 89) Tryz.func89 rfl (dq rfl) (by exact eu rfl) ?_;(repeat first | (with_reducible apply dQ (id := 2) [0,1,2,3,4,5,6,7,8,9,10,11,12,13,14,15,16,17]); kernel_rfl; kernel_rfl; rfl | refine c5 ?_ | refine iw ?_)
 ((refine eP rfl (cu rfl rfl rfl (cu rfl rfl rfl aN)) rfl (bB.refl _) dF rfl (fun i r h => ⟨r, h⟩) ?_))
 exact ⟨_, rfl, rfl, rfl, rfl⟩
end
def dE (E : List (Int × bS)) (r rm : Nat) (s : bu.aV ao) (cs : List AC) (R : aI) : Prop := ∃ (hv fv cv : Value) (b : Nat) (S : e0) (lk : AC), sZ rm s.hot (ea b) S ∧ lk.aZ = true ∧ (s.ph = 3 → lk = .p (cc 4 (aW s.ch).length (jX (aW s.ch)))) ∧ cs = eC E r rm s.ph s.I s.J s.T s.dirty hv fv cv b lk ∧ R = dP b S hv fv cv s.hot s.fnd s.ch
def gg (E : List (Int × bS)) (r rm : Nat) (f : FuncId) (args : List ah) (s : bu.aV ao) (v : ah) (s' : bu.aV ao) : Prop :=
 ∀ cs R, dE E r rm s cs R → dk ag f (rh :: args) (cN 1000 cs) R (ol 1000 fun b0 au ay => b0 = v ∧ dE E r rm s' au ay)
abbrev bx (E : List (Int × bS)) (r rm : Nat) : cU ao := qZ (E.map Prod.snd) r rm
theorem bB.of_eq {R ay : aI} (h : R = ay) : bB R ay := by rw [h]; exact bB.refl _
theorem ae1 {b : Nat} {S : e0} {hv fv cv v : Value} {hot fnd l : List ao} {ch : List (List ao × List Int)} : bK (dP b S hv fv cv hot fnd ch) 2 (iH v l) = dP b S hv v cv hot l ch := by
 funext i
 match i with
 | 0 => rfl
 | 1 => rfl
 | 2 => rfl
 | 3 => rfl
 | i + 4 => rfl
theorem ae3 {b : Nat} {S : e0} {hv fv cv v : Value} {hot fnd : List ao} {ch : List (List ao × List Int)} {x y : Int} : bK (dP b S hv fv cv hot fnd ch) 1 ⟨36, 2, v, hot.length + 1, bP hot ++ [.c (.int .i64 x), .c (.int .i64 y)]⟩ = dP b S v fv cv (hot ++ [(x, y)]) fnd ch :=
 (congrArg (bK (dP b S hv fv cv hot fnd ch) 1) (QG v hot (x, y)).symm).trans ae0
theorem ae2 {b : Nat} {S : e0} {hv fv cv v : Value} {hot fnd : List ao} {ch : List (List ao × List Int)} {x y : Int} : bK (dP b S hv fv cv hot fnd ch) 2 ⟨36, 2, v, fnd.length + 1, bP fnd ++ [.c (.int .i64 x), .c (.int .i64 y)]⟩ = dP b S hv v cv hot (fnd ++ [(x, y)]) ch :=
 (congrArg (bK (dP b S hv fv cv hot fnd ch) 2) (QG v fnd (x, y)).symm).trans ae1
theorem XS {E : List (Int × bS)} {r rm : Nat} {s : bu.aV ao} {x y : Int} : (qm rm s.hot x y = (dO (bx E r rm) s (x, y)).hot) ∧ (nM rm s.hot x y = true → dO (bx E r rm) s (x, y) = { s with hot := s.hot ++ [(x, y)] } ∧ nN rm s.hot x y = 0) ∧ (nM rm s.hot x y = false → nN rm s.hot x y = 0 → dO (bx E r rm) s (x, y) = s) ∧ (nN rm s.hot x y = 0 ∨ (nN rm s.hot x y = 90 ∧ nM rm s.hot x y = false ∧ dO (bx E r rm) s (x, y) = fo s 5 0 0)) := by
 unfold qm nM nN dO
 by_cases h : (x, y) ∈ s.hot
 ·rw [if_pos (tN.2 h), if_pos (tN.2 h), if_pos (tN.2 h), if_pos h];exact ⟨rfl, fun h => (by cases h), fun _ _ => rfl, .inl rfl⟩
 ·have aO : ¬ 0 ≤ k4 s.hot x y := fun aU => h (tN.1 aU);rw [if_neg aO, if_neg aO, if_neg aO, if_neg h]
  by_cases ak : (rm : Int) ≤ (s.hot.length : Int)
  ·have e1 : ¬ s.hot.length < (bx E r rm).R := by show ¬ s.hot.length < rm; omega
   rw [if_pos ak, if_pos ak, if_pos ak, if_neg e1];exact ⟨rfl, fun h => (by cases h), fun _ h => (by cases h), .inr ⟨rfl, rfl, rfl⟩⟩
  ·have e1 : s.hot.length < (bx E r rm).R := by show s.hot.length < rm; omega
   rw [if_neg ak, if_neg ak, if_neg ak, if_pos e1];exact ⟨rfl, fun _ => ⟨rfl, rfl⟩, fun h => (by cases h), .inl rfl⟩
theorem Hp {E : List (Int × bS)} {r rm : Nat} {s : bu.aV ao} {x y : Int} (ak : s.hot.length ≤ 1100) (ar : s.fnd = []) (ho : s.ph ≠ 5) : gg E r rm 90 [aK x y] s (bk (!Nat.beq (dO (bx E r rm) s (x, y)).ph 5)) (dO (bx E r rm) s (x, y)) := by
 obtain ⟨ph, I, J, T, dirty, hot, fnd, ch⟩ := s;obtain rfl : fnd = [] := ar;have ak : hot.length ≤ 1100 := ak
 have ho : Nat.beq ph 5 = false := by
  cases h : Nat.beq ph 5 with
  | false => rfl
  | true => exact absurd (hb h) ho
 obtain ⟨h1, h2, an, aE⟩ := XS (E := E) (r := r) (rm := rm) (s := ⟨ph, I, J, T, dirty, hot, [], ch⟩) (x := x) (y := y);rintro cs R ⟨hv, fv, cv, b, S, lk, hS, c6, ga, rfl, rfl⟩;have aT := ZQ (rm : Int) hot b S x y hS ak;have dF : ∀ hv, (eC E r rm ph I J T dirty hv fv cv b lk).all AC.aZ = true := fun hv => by simp only [ku, mR, c6]; rfl
 have bH := Hn (E := E) (k := r) (rm := rm) (ph := ph) (I := I) (J := J) (T := T) (dirty := dirty) (hv := hv) (fv := fv) (cv := cv) (b := b) c6 5;simp only at h1 h2 an aE ga;rw [h1] at aT;rcases aE with aE | ⟨aE, cY, fh⟩
 ·rw [aE] at aT;cases ab : nM rm hot x y with
  | true =>
   rw [ab] at aT;rw [(h2 ab).1] at aT ⊢;simp only at aT ⊢;rw [ho];have aF : (hot ++ [(x, y)]).length = hot.length + 1 := by rw [cJ]; rfl
   refine dv (f := 90) Tryz.func90 rfl (dq rfl) (by exact eu rfl) ?_;(repeat first | (with_reducible apply lG (id := 1) [0,1,2,3,4,5,6,7,8,9,10] [13]); kernel_rfl; kernel_rfl; rfl | refine c5 ?_);refine zm 0 rfl rfl rfl rfl aT rfl rfl rfl (fun v dm h => ?_);obtain ⟨rfl, fQ⟩ := h;rw [Iw];(repeat first | (with_reducible apply lG (id := 6) [0,1,2,3,4,5,6,7,8,9,10,11,12] [3000028]); kernel_rfl; kernel_rfl; rfl | refine c5 ?_);refine nr 1 rfl rfl rfl rfl ?q1 ?q2 rfl rfl (fun v1 hI => ?_)
   case q1 => exact iY (by show hot.length + 1 ≤ 1000000; omega)
   case q2 => show (hot.length + 1) * 16 ≤ 140737488355328; omega
   (refine a7 ?_)
   ((refine eP rfl (bf rfl aN) rfl (bB.of_eq (ae3 (x := x) (y := y)).symm) (dF v1) rfl fc ?_))
   exact ⟨_, rfl, rfl, v1, fv, cv, b, dm, lk, fQ, c6, ga, rfl, rfl⟩
  | false =>
   rw [ab] at aT;rw [an ab aE] at aT ⊢;simp only at aT ⊢;rw [ho];refine dv (f := 90) Tryz.func90 rfl (dq rfl) (by exact eu rfl) ?_;(repeat first | (with_reducible apply lG (id := 1) [0,1,2,3,4,5,6,7,8,9,10] [13]); kernel_rfl; kernel_rfl; rfl | refine c5 ?_);refine zm 0 rfl rfl rfl rfl aT rfl rfl rfl (fun v dm h => ?_);obtain ⟨rfl, fQ⟩ := h;rw [Iw];(refine a7 ?_)
   ((refine eP rfl (bf rfl aN) rfl (bB.refl _) (dF _) rfl fc ?_))
   exact ⟨_, rfl, rfl, hv, fv, cv, b, dm, lk, fQ, c6, ga, rfl, rfl⟩
 ·rw [aE, cY] at aT;rw [fh] at aT ⊢;simp only [fo] at aT ⊢;rw [show (!Nat.beq 5 5) = false from rfl];refine dv (f := 90) Tryz.func90 rfl (dq rfl) (by exact eu rfl) ?_;(repeat first | (with_reducible apply lG (id := 1) [0,1,2,3,4,5,6,7,8,9,10] [13]); kernel_rfl; kernel_rfl; rfl | refine c5 ?_);refine zm 0 rfl rfl rfl rfl aT rfl rfl rfl (fun v dm h => ?_);obtain ⟨rfl, fQ⟩ := h;rw [Iw];(refine a7 ?_);refine kl 1000 rfl rfl rfl rfl bH rfl rfl (dF _) rfl rfl ?_;(refine a7 ?_)
  ((refine eP rfl (bf rfl aN) rfl (bB.refl _) rfl rfl fc ?_))
  exact ⟨_, rfl, rfl, hv, fv, cv, b, dm, .c (.slice none 0 0), fQ, rfl, fun h => (by cases h), rfl, rfl⟩
section
variable {P : Program} {R : aI} {s : aA} {ops : Array Oper} {dr : Option (List Nat)} {ty : Nat} {pos : String} {after : Array Edge} {guard : Option (Nat × Bool)} {K : aI → aA → Prop} {rest : List Oper}
theorem dE.closed {E : List (Int × bS)} {r rm : Nat} {s : bu.aV ao} {cs : List AC} {R : aI} (h : dE E r rm s cs R) : cs.all AC.aZ = true := by
 obtain ⟨hv, fv, cv, b, S, lk, _, c6, _, rfl, _⟩ := h;simp only [ku, mR, c6]; rfl
theorem dE.bV {E : List (Int × bS)} {r rm : Nat} {s s' : bu.aV ao} {cs au : List AC} {R ay : aI} (h : dE E r rm s cs R) (aO : dE E r rm s' au ay) : Go.Proofs.YtbcecodakfejaaaGreat.bV ay R = ay := by
 obtain ⟨_, _, _, _, _, _, _, _, _, _, rfl⟩ := h;obtain ⟨_, _, _, _, _, _, _, _, _, _, rfl⟩ := aO;exact Q0
theorem il {E : List (Int × bS)} {r rm : Nat} {er s1 : bu.aV ao} {v : ah} {dst : Option Nat} {f : FuncId} {g : Operand} {aL : Array TypeId} {l : List Operand} {args : List ah} {cs : List AC} [x2 : Enters ag f] (hw : want ops ⟨dst, .call ⟨.value g, l.toArray, aL⟩, ty, pos, after, guard⟩ s = some true) (hm : dW dr ⟨dst, .call ⟨.value g, l.toArray, aL⟩, ty, pos, after, guard⟩ = true)
  (aq : s.look g = some (aR (.func (.func f) #[] #[]))) (aJ : l.map s.look = (rh :: args).map some) (af : s.mem 1000 = some cs) (hq : pc dr 1000 = true) (ek : args.all ah.aZ = true) (hd : kT dst s.n = true) (hp : gg E r rm f args er v s1) (bj : dE E r rm er cs R)
  (h : ∀ au ay, dE E r rm s1 au ay → cQ ag ops dr K rest ay ((s.eh 1000 au).put dst v)) : cQ ag ops dr K (⟨dst, .call ⟨.value g, l.toArray, aL⟩, ty, pos, after, guard⟩ :: rest) R s := by
 refine CA 1000 hw hm aq aJ (hp cs R bj) af hq (bB.refl _) bj.closed ek hd ?_;rintro _ au ay ⟨rfl, aO⟩;rw [bj.bV aO];exact h au ay aO
end
theorem Ry (n d : Int) (r : Nat) (hd : 0 < d) : lI n d r = gm (2 ^ r) n d := by
 rw [← agh r hd];unfold gm;congr 1
 ·rw [hA d]; omega
 ·rw [oa, hA d];rw [kv, hA 2 d, ← kv, hA (2 ^ r * d) 2]
def mb (r : Nat) (M : eI) : Option ao := if M.k = 1 then some (iG r M) else none
theorem FK {n : Int} (h : -19342813113834066795298816 ≤ n ∧ n ≤ 19342813113834066795298816) : fits n = true := by
 unfold fits; rw [cq]; omega
theorem NW {E : List (Int × bS)} {r rm : Nat} {s : bu.aV ao} {M : eI} (ap : r ≤ 28) (fP : A2 M) (kh : M.k = 1 → eM r (iG r M).1 (iG r M).2 = true) (ak : s.hot.length ≤ 1100) (ar : s.fnd = []) (ho : s.ph ≠ 5) : gg E r rm 92 [oh M] s (bk (!Nat.beq (kD (bx E r rm) s (mb r M)).ph 5)) (kD (bx E r rm) s (mb r M)) := by
 intro cs R bj
 have YH : Nat.beq s.ph 5 = false := by
  cases h : Nat.beq s.ph 5 with
  | false => rfl
  | true => exact absurd (hb h) ho
 have aj := bj.closed
 by_cases h1 : M.k = 1
 ·rcases fP with rfl | ⟨x, y, d, rfl, hd, wY, aa, ai⟩ | ⟨f1, f2, g1, g2, rfl⟩
  ·simp [e7] at h1
  ·have kh := kh rfl;have aw : gB (r : Int) r := ⟨ap, .inr (.inr rfl)⟩;have fd := FK (n := d) (by omega);have ex := Ry x d r hd;have jK := Ry y d r hd
   have aT := acs (n := x) (d := d) (n' := y) (d' := d) aw (FK aa) fd (FK ai) fd (b := true) (by
    unfold sL;rw [cw hd, ex, jK];unfold eM iG gl at kh;simp only at kh;rw [p0, p0]; exact kh)
   simp only [if_true, ex, jK] at aT;have bH := Hp (E := E) (r := r) (rm := rm) (s := s) (x := gm (2 ^ r) x d) (y := gm (2 ^ r) y d) ak ar ho;rw [show mb r (gl x d y d) = some (gm (2 ^ r) x d, gm (2 ^ r) y d) from rfl];show dk _ _ _ _ _ (ol 1000 fun b0 au ay => b0 = bk (!Nat.beq (dO (bx E r rm) s (gm (2 ^ r) x d, gm (2 ^ r) y d)).ph 5) ∧ dE E r rm (dO (bx E r rm) s (gm (2 ^ r) x d, gm (2 ^ r) y d)) au ay);generalize dO (bx E r rm) s (gm (2 ^ r) x d, gm (2 ^ r) y d) = s1 at *;generalize gm (2 ^ r) x d = X at *;generalize gm (2 ^ r) y d = Y at *;generalize (!Nat.beq s1.ph 5) = b0 at *;obtain ⟨hv, fv, cv, b, S, lk, hS, c6, ga, rfl, rfl⟩ := id bj;unfold gl;refine dv (f := 92) Tryz.func92 rfl (dq rfl) (by exact eu rfl) ?_;(repeat first | (with_reducible apply dQ (id := 3) [13,0,1,2,3,4,5,6,7,8,9,10,11,12,14,15]); kernel_rfl; kernel_rfl; rfl | refine c5 ?_ | refine iw ?_);refine il rfl rfl rfl rfl rfl rfl rfl rfl bH bj (fun au ay ck => ?_);(refine a7 ?_);obtain ⟨bR, dh, db, bT, dm, gY, fQ, hk, iD, rfl, rfl⟩ := id ck
   ((refine eP rfl (bf rfl aN) rfl (bB.refl _) ck.closed rfl fc ?_))
   exact ⟨_, rfl, rfl, ck⟩
  ·simp [kc] at h1
 ·rw [show mb r M = none from if_neg h1];show dk _ _ _ _ _ (ol 1000 fun b0 au ay => b0 = bk (!Nat.beq s.ph 5) ∧ dE E r rm s au ay);rw [YH, Bool.not_false];obtain ⟨mk, HD, md, dn, Hz, HE, HF, HG, HH⟩ := M;have h1 : ¬ mk = 1 := h1;obtain ⟨hv, fv, cv, b, S, lk, hS, c6, ga, rfl, rfl⟩ := id bj;refine dv (f := 92) Tryz.func92 rfl (dq rfl) (by exact eu rfl) ?_;(refine a7 ?_)
  ((refine eP rfl (bf rfl aN) rfl (bB.refl _) aj rfl fc ?_))
  exact ⟨_, rfl, rfl, bj⟩
end Go.Proofs.YtbcecodakfejaaaGreat
