/-
  My own texts, without what this claim does not need. My own text.
-/
import Derived.Shelf.Spec.SlicesInsert
import Derived.Lib.AppendZerosOnto
import Derived.Test.YtpochbhajmbfdaaGreatSEndsK10
set_option maxRecDepth 100000
set_option maxHeartbeats 64000000
set_option linter.unusedVariables false
set_option linter.unusedSimpArgs false
set_option linter.unusedSectionVars false
open Go.Proofs.Tryz renaming prog → ai
namespace Go.Proofs.YtpochbhajmbfdaaGreat
open Go.RowKit Go.Lib
section
variable {P : Program}
theorem Ec (w : World) (s3 Al ty elem : TypeId) (g o qi yo z : Nat) (a : Addr) (qT Ak : Nat) (cur : Array Value) (t : TypeId) (cs : List Value)
  (hu : P.underlying s3 = some (.slice elem)) (hs : (P.info? elem).map (·.size) = some z)
  (aw : w.heap[g]? = some (.cells cur t (0, 0))) (aE : cs.length = Nat.min qT qi * z)
  (Hf : ∀ j v, cs[j]? = some v → w.cell? (a.add j) = some v) (wR : o + cs.length ≤ cur.size) (h1 : ∀ v ∈ cs, v.oneCell' = true) :
  (Builtin.copy_ #[s3, Al] ty #[.slice (some ⟨g, o, none⟩) qi yo, .slice (some a) qT Ak]).run P w =
   .ok (goInt (Nat.min qT qi)) (w.setRow g (cur.toList.take o ++ cs ++ cur.toList.drop (o + cs.length)).toArray) := by
 have ao := run_loadCells_list (P := P) w a cs Hf;have jz := run_storeCells_at P g o t cs 0 cur w aw (by simpa using wR) h1;cases al : P.info? elem with
 | none => simp [al] at hs
 | some i =>
  have hi : i.size = z := by simpa [al] using hs
  simp [Builtin.copy_, run_underlying hu, Builtin.lenOf, Builtin.firstCells, sizeOf, typeInfo, al, hi, ← aE, ao, jz]
end
theorem KN {w : World} {a : Addr} {v : Value} (h : w.cell? a = some v) : ∃ t k, w.shape? a.block = some (t, k) ∧ k ≠ 0 := by
 unfold World.cell? at h;unfold World.shape?;cases ab : w.heap[a.block]? with
 | none => rw [ab] at h; cases h
 | some o =>
  rw [ab] at h;cases o with
  | cells c t agT =>
   refine ⟨t, c.size, rfl, fun e => ?_⟩;simp only at h
   split at h
   ·cases h
   ·have := (kr.1 h).1; omega
  | _ => cases h
theorem aef {P : Program} (w : World) (As QM e : TypeId) (aD : P.underlying As = some (.slice e)) (size : Nat) (aZ : ∀ w, (Go.sizeOf e).run P w = .ok size w)
  (a b : Addr) (dM jn HK KL : Nat) (cq : a.block ≠ b.block) (v : Value) (aK : w.cell? a = some v) (cur : Array Value) (QL : TypeId) (ab : w.heap[b.block]? = some (.cells cur QL (0, 0))) (ak : cur.size ≠ 0) :
  (Extern.SlicesOverlaps.overlaps #[As, As] #[QM] #[.slice (some a) dM jn, .slice (some b) HK KL]).run P w = .ok (.bool false) w := by
 obtain ⟨aiN, C5, Ys, ahj⟩ := KN aK;have Yt : w.shape? b.block = some (QL, cur.size) := by unfold World.shape?; rw [ab]
 have Mq : ∀ x : Addr, x.block = b.block → w.frozen? x = false := fun x aa => by unfold World.frozen?; rw [aa, ab]; simp
 have X2 : (a.block != b.block) = true := by simpa using cq
 have X3 : (a.block == b.block) = false := by simpa using cq
 have f1 := Mq b rfl;have f2 := Mq { block := b.block, off := cur.size } rfl
 have key : ∀ (m : Sem Value), m = Extern.SlicesOverlaps.overlaps #[As, As] #[QM] #[.slice (some a) dM jn, .slice (some b) HK KL] → m.run P w = .ok (.bool false) w := by
  intro m hm
  conv at hm => rhs; whnf
  subst hm;have lI : ∀ {α β : Type} (x : Sem α) (f : α → Sem β), x.bind f = x >>= f := fun _ _ => rfl;have rF : ∀ {α : Type} (x : α), Sem.pure x = (pure x : Sem α) := fun _ => rfl;have VG : ∀ {α : Type} (f : Program → Sem α), (Sem.program f).run P w = (f P).run P w := fun _ => rfl;rw [VG];simp only [lI, rF, Sem.run_bind, Sem.run_pure, Result.andThen_ok, List.getElem_toArray, List.getElem_cons_zero, aD]
  by_cases aH : dM = 0 ∨ HK = 0 ∨ size = 0
  ·simp [aZ, aH]
  ·obtain ⟨C5, rfl⟩ : ∃ k, C5 = k + 1 := ⟨C5 - 1, by omega⟩;generalize cur.size = Hy at *;obtain ⟨Hy, rfl⟩ : ∃ k, Hy = k + 1 := ⟨Hy - 1, by omega⟩
   cases XE : w.frozen? a <;> cases XF : w.frozen? { block := a.block, off := C5 + 1 } <;>
    simp [aZ, aH, X2, X3, frozen, noView, viewAt, mayBeOne, stringish, shape, Sem.run, Ys, Yt, f1, f2, XE, XF]
 exact key _ rfl
theorem Y6 (cur news : List Value) {i n cap : Nat} (hi : i < n) (lN : n + 1 ≤ cap) (ak : cur.length = cap * 3) (gE : news.length = 3) :
  let c1 := cur.take ((i + 1) * 3) ++ (cur.drop (i * 3)).take ((n - i) * 3) ++ cur.drop ((i + 1) * 3 + ((cur.drop (i * 3)).take ((n - i) * 3)).length)
  let c2 := c1.take (i * 3) ++ news ++ c1.drop (i * 3 + news.length)
  c1.length = cap * 3 ∧ c2.length = cap * 3 ∧ c2.take ((n + 1) * 3) = (cur.take (n * 3)).take (i * 3) ++ news ++ (cur.take (n * 3)).drop (i * 3) := by
 have dp : ((cur.drop (i * 3)).take ((n - i) * 3)).length = (n - i) * 3 := by rw [eh, hZ]; omega
 intro c1 c2;have aI : c1.length = cap * 3 := by simp only [c1, cS, eh, hZ, dp]; omega
 have aO : c2.length = cap * 3 := by simp only [c2, cS, eh, hZ, aI, gE]; omega
 have g1 : ∀ j, c1[j]? = if j < (i + 1) * 3 then cur[j]? else if j < (n + 1) * 3 then cur[j - 3]? else cur[j]? := fun j => by
  simp only [c1];have t1 : (cur.take ((i + 1) * 3)).length = (i + 1) * 3 := by rw [eh]; omega
  by_cases q1 : j < (i + 1) * 3
  ·rw [if_pos q1, iq, fY (by omega), fN q1]
  ·rw [if_neg q1]
   by_cases q2 : j < (n + 1) * 3
   ·rw [if_pos q2, fY (by rw [cS]; omega), gy (by omega), fN (by omega), gl, t1];congr 1; omega
   ·rw [if_neg q2, gy (by rw [cS]; omega), gl, cS, t1, dp];congr 1; omega
 refine ⟨aI, aO, ?_⟩;have t2 : (c1.take (i * 3)).length = i * 3 := by rw [eh]; omega
 have t3 : ((cur.take (n * 3)).take (i * 3)).length = i * 3 := by rw [eh, eh]; omega
 apply List.ext_getElem?;intro j
 by_cases cY : j < (n + 1) * 3
 ·rw [fN cY];simp only [c2]
  by_cases q1 : j < i * 3
  ·rw [iq, fY (by omega), fN q1, g1, if_pos (by omega), iq, fY (by omega), fN q1, fN (by omega)]
  ·by_cases q2 : j < (i + 1) * 3
   ·rw [iq, gy (by omega), fY (by omega), iq, gy (by omega), fY (by omega), t2, t3]
   ·rw [gy (by rw [cS]; omega), gl, g1, gy (by rw [cS]; omega), gl, cS, cS, t2, t3, gE, if_neg (by omega), if_pos (by omega), fN (by omega)];congr 1; omega
 ·rw [qM (by rw [eh]; omega), qM];simp only [cS, t3, gE, hZ, eh];omega
section
variable (W : World) (g n cap i : Nat) (cur : Array Value) (news : List Value) (fm : Addr) (pY : Nat)
theorem Y8 (aw : W.heap[g]? = some (.cells cur 261 (0, 0))) (hi : i < n) (lN : n + 1 ≤ cap) (Xm : cap ≤ 9223372036854775807) (ev : cur.size = cap * 3) (ny : ∀ v ∈ cur.toList.take (n * 3), v.oneCell' = true)
  (gE : news.length = 3) (kM : ∀ j v, news[j]? = some v → W.cell? (fm.add j) = some v) (h1 : ∀ v ∈ news, v.oneCell' = true) (cq : fm.block ≠ g) :
  Calls ai 231 #[.slice (some ⟨g, 0, none⟩) n cap, .int .i64 i, .slice (some fm) 1 pY] W fun e bo =>
   e = .returned (.slice (some ⟨g, 0, none⟩) (n + 1) cap) ∧ ∃ nn : Array Value, bo = W.drew.setRow g nn ∧ nn.size = cap * 3 ∧ nn.toList.take ((n + 1) * 3) = (cur.toList.take (n * 3)).take (i * 3) ++ news ++ (cur.toList.take (n * 3)).drop (i * 3) := by
 obtain ⟨eB, z, hu, e4, hk, hh, kJ, ot, bW⟩ := qS (P := ai) (tt := 137) (e := 261) (sz := 3) (bytes := 24) (by kernel_rfl);have za : (ai.info? 261).map (·.size) = some 3 := by rw [e4]; simp [hh]
 have tD : ¬ ((i : Int) = (n : Int)) := by omega
 have Hk : IntKind.i64.wrap ((i : Int) + 1) = (i : Int) + 1 := by rw [IntKind.wrap_i64]; omega
 have Hl : IntKind.i64.wrap ((n : Int) + 1) = (n : Int) + 1 := by rw [IntKind.wrap_i64]; omega
 have bD : (0 : Int) ≤ (i : Int) + 1 := by omega
 have lg : i ≤ n := by omega
 have bZ : ¬ (cap = i + 1) := by omega
 have cV : (i : Int) ≤ (n : Int) + 1 := by omega
 have eZ : ¬ (cap = i) := by omega
 have Ye : (callFunc 262 #[.slice (some fm) 1 pY, .slice (some ⟨g, (i + 1) * 3, none⟩) (n - i) (cap - (i + 1))]).run ai W = .ok (.value (.bool false)) W := by
  rw [run_callFunc_extern Tryz.func262 (by kernel_rfl) (by kernel_rfl) (by kernel_rfl) (e := Extern.SlicesOverlaps.overlaps #[137, 137] #[4]) (by kernel_rfl),
   aef W _ _ 261 hu 3 (fun w => by rw [hq e4, hh]) fm ⟨g, (i + 1) * 3, none⟩ 1 pY _ _ cq news[0] (by have := kM 0 news[0] (cp (by omega)); rwa [show fm.add 0 = fm from by unfold Addr.add; split <;> simp_all] at this) cur _ aw (by omega)]
  rfl
 obtain ⟨bB, cf, hE⟩ := Y6 cur.toList news hi lN (by simpa using ev) gE;generalize nu : (cur.toList.drop (i * 3)).take ((n - i) * 3) = pb at *;have cO : pb.length = (n - i) * 3 := by rw [← nu, eh, hZ, Array.length_toList]; omega
 have Xp : ∀ ty iV vF, (Builtin.copy_ #[137, 137] ty #[.slice (some ⟨g, (i + 1) * 3, none⟩) (n - i) iV, .slice (some ⟨g, i * 3, none⟩) (n + 1 - i) vF]).run ai W.drew = .ok (goInt ((n - i : Nat) : Int)) (W.drew.setRow g (cur.toList.take ((i + 1) * 3) ++ pb ++ cur.toList.drop ((i + 1) * 3 + pb.length)).toArray) := fun ty iV vF => by
  have hm : Nat.min (n + 1 - i) (n - i) = n - i := Nat.min_eq_right (by omega);have := Ec (P := ai) W.drew 137 137 ty 261 g ((i + 1) * 3) (n - i) iV 3 ⟨g, i * 3, none⟩ (n + 1 - i) vF cur 261 pb hu za aw (by rw [hm, cO]) (fun j v ae => ?_) (by rw [cO]; omega) (fun v hv => ?_)
  ·rw [hm] at this; exact this
  ·rw [Addr.add_lit];have ao : j < (n - i) * 3 := by rw [← cO]; exact (bX.1 ae).1
   rw [← nu, fN ao, gl] at ae;show (W.drew.cell? _) = _;unfold World.cell?;rw [show W.drew.heap[(⟨g, i * 3 + j, none⟩ : Addr).block]? = some (.cells cur 261 (0, 0)) from aw];simpa using ae
  ·refine ny v ?_;obtain ⟨j, ae⟩ := jZ hv;have ao : j < (n - i) * 3 := by rw [← cO]; exact (bX.1 ae).1
   rw [← nu, fN ao, gl] at ae;exact dG (i := i * 3 + j) (by rw [fN (by omega)]; exact ae)
 generalize jU : cur.toList.take ((i + 1) * 3) ++ pb ++ cur.toList.drop ((i + 1) * 3 + pb.length) = c1 at *;have kn := setRow_heap W.drew g cur c1.toArray _ (0, 0) aw
 have Xq : ∀ ty iV, (Builtin.copy_ #[137, 137] ty #[.slice (some ⟨g, i * 3, none⟩) (n + 1 - i) iV, .slice (some fm) 1 pY]).run ai (W.drew.setRow g c1.toArray) = .ok (goInt ((1 : Nat) : Int)) ((W.drew.setRow g c1.toArray).setRow g (c1.take (i * 3) ++ news ++ c1.drop (i * 3 + news.length)).toArray) := fun ty iV => by
  have hm : Nat.min 1 (n + 1 - i) = 1 := pM (by omega);have := Ec (P := ai) (W.drew.setRow g c1.toArray) 137 137 ty 261 g (i * 3) (n + 1 - i) iV 3 fm 1 pY c1.toArray 261 news hu za kn (by rw [hm, gE]) (fun j v ae => ?_) (by rw [gE]; simp [bB]; omega) h1
  ·rw [hm] at this; simpa using this
  rw [← kM j v ae];refine World.cell?_of_block (w := W) ?_;show (World.setRow _ _ _).heap[(fm.add j).block]? = _;rw [block_add];simp only [World.setRow, tW];rw [if_neg (fun e => cq e.symm)];rfl
 generalize hB : c1.take (i * 3) ++ news ++ c1.drop (i * 3 + news.length) = c2 at *;clear aw nu jU hB ny kM h1 kn e4 hk
 go_enter Tryz.func231, Tryz.ntmps231
 go_wp2_with (simp only [Ye])
 have mixed : ai.follows .mixedOrders = true := by kernel_rfl
 go_region_law_o (refine step_copy_runI rfl _ _ 137 137 rfl _ _ (by simp [Act.eval, Act.put]) (by simp [Act.eval, Act.put]) (Xp _ _ _) ?_)
 go_wp2_with (at_builtin; refine wpList_copy_runI _ rfl _ _ 137 137 rfl _ _ rfl rfl (Xq _ _) ?_)
 go_ret
 exact ⟨rfl, c2.toArray, setRow_setRow _ _ _ _, by simpa using cf, by simpa using hE⟩
theorem Y7 (R xs news : List Value) {i n G : Nat} (hi : i < n) (qo : n + 1 ≤ G) (ax : R.length = G * 3) (aa : xs.length = n * 3) (yK : R.take (i * 3) = xs.take (i * 3)) (gE : news.length = 3) :
  let c1 := R.take (i * 3) ++ news ++ R.drop (i * 3 + news.length)
  let c2 := c1.take ((i + 1) * 3) ++ xs.drop (i * 3) ++ c1.drop ((i + 1) * 3 + (xs.drop (i * 3)).length)
  c1.length = G * 3 ∧ c2.length = G * 3 ∧ c2.take ((n + 1) * 3) = xs.take (i * 3) ++ news ++ xs.drop (i * 3) := by
 have t1 : (xs.take (i * 3)).length = i * 3 := by rw [eh]; omega
 have t2 : (xs.drop (i * 3)).length = (n - i) * 3 := by rw [hZ]; omega
 intro c1 c2;have aI : c1.length = G * 3 := by simp only [c1, yK, cS, t1, hZ, ax, gE]; omega
 have cD : c1.take ((i + 1) * 3) = xs.take (i * 3) ++ news := by
  simp only [c1, yK];rw [z6 (by rw [cS, t1, gE]; omega), h0 (by rw [cS, t1, gE]; omega)]
 have aO : c2.length = G * 3 := by simp only [c2, cD, cS, t1, t2, hZ, aI, gE]; omega
 refine ⟨aI, aO, ?_⟩;simp only [c2, cD];rw [z6 (by simp only [cS, t1, t2, gE]; omega), h0 (by simp only [cS, t1, t2, gE]; omega)]
theorem Y5 (xs : List Value) (aw : W.heap[g]? = some (.cells cur 261 (0, 0))) (CU : cur.toList.take (n * 3) = xs) (oo : xs.length = n * 3) (hi : i < n) (eM : n ≤ cap) (lN : cap < n + 1) (wN : (n + 1) * 24 ≤ 140737488355328) (ny : ∀ v ∈ xs, v.oneCell' = true)
  (gE : news.length = 3) (kM : ∀ j v, news[j]? = some v → W.cell? (fm.add j) = some v) (h1 : ∀ v ∈ news, v.oneCell' = true) :
  Calls ai 231 #[.slice (some ⟨g, 0, none⟩) n cap, .int .i64 i, .slice (some fm) 1 pY] W fun e bo =>
   ∃ G nn o, e = .returned (.slice (some ⟨W.heap.size, 0, none⟩) (n + 1) G) ∧ bo.heap = ((W.alloc o).setRow W.heap.size nn).heap ∧ bo.os = W.os ∧ bo.tape = W.tape ∧ bo.output = W.output ∧ (∃ k7, o = .cells k7 261 (0, 0)) ∧ n + 1 ≤ G ∧ G ≤ maxLen ∧ nn.size = G * 3 ∧ nn.toList.take ((n + 1) * 3) = xs.take (i * 3) ++ news ++ xs.drop (i * 3) := by
 obtain ⟨eB, z, hu, e4, hk, hh, kJ, ot, bW⟩ := qS (P := ai) (tt := 137) (e := 261) (sz := 3) (bytes := 24) (by kernel_rfl);have za : (ai.info? 261).map (·.size) = some 3 := by rw [e4]; simp [hh]
 have nv : ∀ j v, xs[j]? = some v → W.cell? ⟨g, j, none⟩ = some v := fun j v ae => by
  have ao : j < n * 3 := by rw [← oo]; exact (bX.1 ae).1
  rw [← CU, fN ao] at ae;unfold World.cell?;rw [show W.heap[(⟨g, j, none⟩ : Addr).block]? = some (.cells cur 261 (0, 0)) from aw];simpa using ae
 have Mu : g < W.heap.size := (kr.1 aw).1
 have mg : fm.block < W.heap.size := by
  have := kM 0 news[0] (cp (by omega));obtain ⟨t, k, h, _⟩ := KN this;rw [block_add] at h;unfold World.shape? at h;cases al : W.heap[fm.block]? with
  | none => rw [al] at h; cases h
  | some o => exact (kr.1 al).1
 have tD : ¬ ((i : Int) = (n : Int)) := by omega
 have ahy : (cap : Int) < (n : Int) + 1 := by omega
 have Hk : IntKind.i64.wrap ((i : Int) + 1) = (i : Int) + 1 := by rw [IntKind.wrap_i64]; omega
 have Hl : IntKind.i64.wrap ((n : Int) + 1) = (n : Int) + 1 := by rw [IntKind.wrap_i64]; omega
 have og : (n : Int) + 1 - (i : Int) = ((n + 1 - i : Nat) : Int) := by omega
 have M4 : IntKind.i64.wrap ((n : Int) + 1 - (i : Int)) = (n : Int) + 1 - (i : Int) := by rw [IntKind.wrap_i64]; omega
 have GN : i + (n + 1 - i) = n + 1 := by omega
 have hold : (Builtin.firstCells eB.size i (.slice (some ⟨g, 0, none⟩) i cap)).run ai W.drew = .ok (xs.take (i * 3)).toArray W.drew := by
  rw [hh]
  exact run_firstCells_some W.drew 3 i ⟨g, 0, none⟩ i cap (xs.take (i * 3)) (by rw [eh]; omega) (fun j v ae => by
   rw [Addr.add_lit, jH];rw [List.getElem?_take] at ae
   split at ae
   ·exact nv j v ae
   ·cases ae)
 obtain ⟨G, qo⟩ : ∃ G, G = grownCap W (n + 1) cap 261 := ⟨_, rfl⟩;have L5 : n + 1 ≤ G := by rw [qo]; exact grownCap_ge W _ _ _
 have L4 : G ≤ maxLen := by rw [qo]; exact grownCap_le_maxLen W (n + 1) cap _ (by unfold maxLen; omega)
 have ag7 : G ≤ 9223372036854775807 := by unfold maxLen at L4; omega
 obtain ⟨l0, Cp⟩ : ∃ l0 : Array Value, l0 = (xs.take (i * 3)).toArray ++ Builtin.zeroCells z.cells (n + 1 - i) ++ Builtin.zeroCells z.cells (G - (n + 1)) := ⟨_, rfl⟩
 have Ha : ∀ ty, (Builtin.append_ #[137, 3] ty #[.slice (some ⟨g, 0, none⟩) i cap, .int .i64 ((n : Int) + 1 - (i : Int))]).run ai W =
   .ok (.slice (some ⟨W.heap.size, 0, none⟩) (n + 1) G) (W.drew.alloc (.cells l0 261)) := fun ty => by
  have h := Lib.run_append_grow_zeros W 137 3 ty 261 eB z .i64 .i64 hu Tryz.underlying3 e4 hk (some ⟨g, 0, none⟩) i cap _ hold (n + 1 - i) (by omega) (by omega) (by omega) (by omega) (by rw [kJ]; omega) (by rw [kJ, GN]; exact growslice_fits lN wN);rw [GN, ← qo, ← Cp] at h;rw [og];exact h
 have Mb : l0.size = G * 3 := by
  rw [Cp];simp [Builtin.zeroCells, ot, eh];omega
 have yK : l0.toList.take (i * 3) = xs.take (i * 3) := by
  rw [Cp, Array.toList_append, Array.toList_append, iq, z6 (by simp [eh]; omega), h0 (by simp [eh]; omega)]
 obtain ⟨bB, cf, hE⟩ := Y7 l0.toList xs news hi L5 (by simpa using Mb) oo yK gE;generalize Cx : xs.drop (i * 3) = BW at *;have Cv : BW.length = (n - i) * 3 := by rw [← Cx, hZ]; omega
 obtain ⟨N, kh⟩ : ∃ N, N = W.heap.size := ⟨_, rfl⟩;obtain ⟨gD, rM⟩ : ∃ gD, gD = W.drew.alloc (.cells l0 261) := ⟨_, rfl⟩;have Gp : gD.heap[N]? = some (.cells l0 261 (0, 0)) := by rw [rM, kh]; show (W.heap.push _)[W.heap.size]? = _; simp
 have Gq : ∀ b, b < W.heap.size → gD.heap[b]? = W.heap[b]? := fun b ab => by rw [rM]; show (W.heap.push _)[b]? = _; rw [Array.getElem?_push_lt ab, Array.getElem?_eq_getElem ab]
 generalize jU : l0.toList.take (i * 3) ++ news ++ l0.toList.drop (i * 3 + news.length) = c1 at *
 have Xr : ∀ l5 : World, l5.heap = gD.heap → ∀ ty iV, (Builtin.copy_ #[137, 137] ty #[.slice (some ⟨N, i * 3, none⟩) (n + 1 - i) iV, .slice (some fm) 1 pY]).run ai l5 = .ok (goInt ((1 : Nat) : Int)) (l5.setRow N c1.toArray) := fun l5 eY ty iV => by
  have hm : Nat.min 1 (n + 1 - i) = 1 := pM (by omega);have := Ec (P := ai) l5 137 137 ty 261 N (i * 3) (n + 1 - i) iV 3 fm 1 pY l0 261 news hu za (by rw [eY]; exact Gp) (by rw [hm, gE]) (fun j v ae => ?_) (by rw [gE, Mb]; omega) h1
  ·rw [hm, jU] at this; exact this
  ·rw [← kM j v ae];refine World.cell?_of_block (w := W) ?_;rw [block_add, eY, Gq _ mg]
 generalize hB : c1.take ((i + 1) * 3) ++ BW ++ c1.drop ((i + 1) * 3 + BW.length) = c2 at *;have XO : g ≠ N := by omega
 have Xs : ∀ l5 : World, l5.heap = (gD.setRow N c1.toArray).heap → ∀ ty iV vF, (Builtin.copy_ #[137, 137] ty #[.slice (some ⟨N, (i + 1) * 3, none⟩) (n - i) iV, .slice (some ⟨g, i * 3, none⟩) (n - i) vF]).run ai l5 = .ok (goInt ((n - i : Nat) : Int)) (l5.setRow N c2.toArray) := fun l5 eY ty iV vF => by
  have hm : Nat.min (n - i) (n - i) = n - i := Nat.min_self _;have := Ec (P := ai) l5 137 137 ty 261 N ((i + 1) * 3) (n - i) iV 3 ⟨g, i * 3, none⟩ (n - i) vF c1.toArray 261 BW hu za (by rw [eY]; exact setRow_heap gD N l0 _ _ (0, 0) Gp) (by rw [hm, Cv]) (fun j v ae => ?_) (by rw [Cv]; simp [bB]; omega) (fun v hv => ny v (by rw [← Cx] at hv; exact mW hv))
  ·rw [hm] at this; simpa [hB] using this
  ·rw [Addr.add_lit];rw [← Cx, gl] at ae;rw [← nv _ v ae];refine World.cell?_of_block (w := W) ?_;rw [eY];simp only [World.setRow, tW];rw [if_neg (fun e => XO e.symm), Gq _ Mu]
 rw [← rM] at Ha;rw [← kh] at Ha ⊢;have fin : ∀ l5 : World, l5.heap = gD.heap → l5.heap = (W.alloc (.cells l0 261)).heap := fun l5 h => by rw [h, rM]; rfl
 have bD : (0 : Int) ≤ (i : Int) + 1 := by omega
 have lg : i ≤ n := by omega
 have aha : ¬ (G = i) := by omega
 have ag9 : ¬ (G = i + 1) := by omega
 have cV : (i : Int) ≤ (n : Int) + 1 := by omega
 have eZ : ¬ (cap = i) := by omega
 have Ya : gD.os = W.os := by rw [rM]; rfl
 have Yy : gD.tape = W.tape := by rw [rM]; rfl
 have Yd : gD.output = W.output := by rw [rM]; rfl
 have XQ : gD.heap = (W.alloc (.cells l0 261)).heap := by rw [rM]; rfl
 have mixed : ai.follows .mixedOrders = true := by kernel_rfl
 clear aw CU oo kM h1 ny e4 hk hold qo Cp yK Cx rM Gp Gq jU hB nv og GN fin kh Mu mg
 go_enter Tryz.func231, Tryz.ntmps231
 go_wp2_with (first
  | (at_builtin; refine Lib.wpList_append_run _ rfl _ _ _ _ rfl _ _ rfl rfl _ _ (Ha _) ?_)
  | (at_builtin; refine wpList_copy_runI _ rfl _ _ 137 137 rfl _ _ rfl rfl (Xr _ rfl _ _) ?_))
 go_region_law_o (refine step_copy_runI rfl _ _ 137 137 rfl (.slice (some ⟨N, (i + 1) * 3, none⟩) (n - i) (G - (i + 1))) (.slice (some ⟨g, i * 3, none⟩) (n - i) (cap - i)) (by simp [Act.eval, Act.put]) (by simp [Act.eval, Act.put]) (Xs (gD.setRow N c1.toArray).drew rfl 3 (G - (i + 1)) (cap - i)) ?_)
 go_wp2
 go_ret
 refine ⟨G, c2.toArray, .cells l0 261 (0, 0), rfl, ?_, Ya, Yy, Yd, ⟨_, rfl⟩, L5, L4, by simpa using cf, by simpa using hE⟩;show ((gD.setRow N c1.toArray).setRow N c2.toArray).heap = _;rw [setRow_setRow];simp only [World.setRow, XQ]
end
theorem Y4 (W : World) (v : Value) (n : Nat) (xs news : List Value) (fm : Addr) (pY : Nat) (ef : W.ownsRow 0 261 3 v n xs) (wN : (n + 1) * 24 ≤ 140737488355328)
  (gE : news.length = 3) (kM : ∀ j v, news[j]? = some v → W.cell? (fm.add j) = some v) (h1 : ∀ v ∈ news, v.oneCell' = true) :
  Calls ai 231 #[v, .int .i64 n, .slice (some fm) 1 pY] W fun e bo =>
   ∃ aV, e = .returned aV ∧ bo.ownsRow 0 261 3 aV (n + 1) (xs ++ news) ∧ W.grownBy bo v.ownBlock ∧ (∀ g, aV.ownBlock = some g → v.ownBlock = some g ∨ W.heap.size ≤ g) ∧ aV.oneCell' = true := by
 obtain ⟨eB, z, hu, e4, hk, hh, kJ, ot, bW⟩ := qS (P := ai) (tt := 137) (e := 261) (sz := 3) (bytes := 24) (by kernel_rfl);obtain ⟨aV, w', aq, q⟩ := Qn (P := ai) W 0 137 137 261 eB z 3 24 hu e4 hk hh kJ ot bW v n xs ef fm 1 pY news (by rw [gE]) kM h1 (by unfold maxLen; omega) wN (eF _) (by decide);rcases ef.2 with ⟨rfl, rfl⟩ | ⟨g, cap, cur, rfl, qp, aw, eM, js, ev, nC⟩
 ·clear e4 hk ef kM
  go_enter Tryz.func231, Tryz.ntmps231
  go_wp2_with (at_builtin; refine Lib.wpList_append_run _ rfl _ _ _ _ rfl _ _ rfl rfl _ _ aq ?_)
  go_ret
  exact ⟨aV, rfl, q⟩
 ·have Xm : cap ≤ 9223372036854775807 := by unfold maxLen at js; omega
  clear e4 hk ef kM aw ev nC js
  go_enter Tryz.func231, Tryz.ntmps231
  go_wp2_with (at_builtin; refine Lib.wpList_append_run _ rfl _ _ _ _ rfl _ _ rfl rfl _ _ aq ?_)
  all_goals go_ret
  all_goals exact ⟨aV, rfl, q⟩
theorem Lp : ∀ (l : List di) (i : Nat), (dY l).take (i * 3) = dY (l.take i)
 | [], i => by simp [dY]
 | e :: l, 0 => by simp [dY]
 | e :: l, i + 1 => by
  rw [show (i + 1) * 3 = i * 3 + 1 + 1 + 1 by omega];simp only [dY, List.take_succ_cons, Lp l i]
theorem Ln : ∀ (l : List di) (i : Nat), (dY l).drop (i * 3) = dY (l.drop i)
 | [], i => by simp [dY]
 | e :: l, 0 => by simp
 | e :: l, i + 1 => by
  rw [show (i + 1) * 3 = i * 3 + 1 + 1 + 1 by omega];simp only [dY, List.drop_succ_cons, Ln l i]
theorem bV.take {U : Nat → Prop} {ad : Nat → Nat} {W : World} {xs : List AC} {vs : List Value} (h : bV U ad W xs vs) (k : Nat) : bV U ad W (xs.take k) (vs.take k) := by
 have := h.sub 0 k;simpa using this
theorem bV.drop {U : Nat → Prop} {ad : Nat → Nat} {W : World} {xs : List AC} {vs : List Value} (h : bV U ad W xs vs) (k : Nat) : bV U ad W (xs.drop k) (vs.drop k) := by
 refine ⟨by rw [hZ, hZ, h.1], fun i x v aa hv => ?_⟩;rw [gl] at aa hv;exact h.2 _ x v aa hv
theorem bV.zT {U : Nat → Prop} {ad : Nat → Nat} {W : World} {xs : List AC} {vs : List Value} (h : bV U ad W xs vs) : ∀ v ∈ vs, v.oneCell' = true := fun v hv => by
 obtain ⟨j, ae⟩ := jZ hv;have bj : j < xs.length := by rw [h.1]; exact (bX.1 ae).1
 exact (h.2 j _ v (cp bj) ae).cell
theorem abQ {W : World} {b e sz n : Nat} {v : Value} {xs : List Value} (h : W.ownsRow b e sz v n xs) : v.oneCell' = true := by
 rcases h.2 with ⟨rfl, _⟩ | ⟨g, cap, cur, rfl, _⟩ <;> rfl
abbrev r2 (l : List di) (i : Nat) (e : di) : List di := l.take i ++ e :: l.drop i
theorem Y2 {l : List di} {i : Nat} {e : di} (hi : i ≤ l.length) : (r2 l i e).length = l.length + 1 := by
 unfold r2; rw [cS, lr, eh, hZ]; omega
theorem Y3 {U : Nat → Prop} {ad : Nat → Nat} {W : World} {l : List di} {xs news : List Value} {e : di} (i : Nat) (h : bV U ad W (dY l) xs) (aE : bV U ad W (dY [e]) news) : bV U ad W (dY (r2 l i e)) (xs.take (i * 3) ++ news ++ xs.drop (i * 3)) := by
 have : dY (r2 l i e) = (dY l).take (i * 3) ++ dY [e] ++ (dY l).drop (i * 3) := by
  rw [Lp, Ln, ← ys, ← ys, iq]; rfl
 rw [this];exact ((h.take _).append aE).append (h.drop _)
theorem Ll : ∀ (l : List di) (y : AC), y ∈ dY l → ∃ u, y = .c u
 | [], y, h => by cases h
 | e :: l, y, h => by
  simp only [dY, gM] at h;rcases h with h | h | h | h
  ·exact ⟨_, h⟩
  ·exact ⟨_, h⟩
  ·exact ⟨_, h⟩
  ·exact Ll l y h
theorem Vq {U cC : Nat → Prop} {ad bg : Nat → Nat} {W bo : World} {l : List di} {vs : List Value} (h : bV U ad W (dY l) vs) : bV cC bg bo (dY l) vs := by
 refine ⟨h.1, fun i x v aa hv => ?_⟩;have := h.2 i x v aa hv;obtain ⟨u, rfl⟩ := Ll l x (dG aa);exact this
theorem TX {l : List di} {v : Value} {i : Nat} {x y w : Int} (hi : i ≤ l.length) (ao : l.length ≤ 1000000) :
  xW ai 231 [aQ v, aT i, cM 3 1 [.c (.int .i64 x), .c (.int .i64 y), .c (.int .i64 w)]] (gK v l) fun ca a7 => ∃ aV, aV.oneCell' = true ∧ ca = aQ aV ∧ a7 = gK aV (r2 l i (x, y, w)) := by
 refine adB rfl (jd _) (fun ca a7 ⟨aV, _, _, e⟩ => by rw [e]; exact jd _) ?_;intro U W vs xs ay jx cO u2 dJ;obtain ⟨hlen, hv⟩ := dJ
 match vs, hlen with
 | [a, b, c], _ =>
  have dp : a = v := (hv 0 _ a rfl rfl).1;have aI : b = .int .i64 i := (hv 1 _ b rfl rfl).1;obtain ⟨⟨A, pb, aO, jU, hB, Xj⟩, XK⟩ := hv 2 _ c rfl rfl;obtain ⟨fm, news, rfl, gq⟩ := Xj (by decide);subst dp aI aO;have gE : news.length = 3 := gq.nP.1.symm;have qv : bV U id W (dY [(x, y, w)]) news := Vq (U := fun _ => True) (ad := id) (W := W) gq.nP;have pA := Y3 i jx qv;have nw : (r2 l i (x, y, w)).length = l.length + 1 := Y2 hi;have oo : xs.length = l.length * 3 := ay.1;have YD : U fm.block := XK _ ⟨pb, fm, rfl, by decide, .inl rfl⟩;have rN : ∀ q ∈ dY (r2 l i (x, y, w)), q.bb = true := fun q al => ct.1 (Lm _) q al
  have fin : ∀ (e : Ending) (bo : World) (aV : Value), e = .returned aV → bo.ownsRow 0 261 3 aV (l.length + 1) (xs.take (i * 3) ++ news ++ xs.drop (i * 3)) → W.grownBy bo a.ownBlock → (∀ g, aV.ownBlock = some g → a.ownBlock = some g ∨ W.heap.size ≤ g) →
    ∃ u ca a7, e = .returned u ∧ (∃ aV, aV.oneCell' = true ∧ ca = aQ aV ∧ a7 = gK aV (r2 l i (x, y, w))) ∧ JN W bo (gK a l) a7 U ∧ c9 U id W ca u ∧ ca.bb = true := by
   rintro e bo aV rfl h1 h2 ap;have Gg := abQ h1;refine ⟨aV, _, _, rfl, ⟨aV, Gg, rfl, rfl⟩, ⟨h2, ⟨_, ?_, pA⟩, rN, ap⟩, ⟨rfl, Gg⟩, rfl⟩;show bo.ownsRow 0 261 3 aV (r2 l i (x, y, w)).length _;rw [nw]; exact h1
  by_cases rQ : i = l.length
  ·subst rQ;refine (Y4 W a l.length xs news fm pb ay (by omega) gE gq.at_ qv.zT).mono ?_;rintro e bo ⟨aV, rfl, h1, h2, ap, _⟩;refine fin _ _ aV rfl ?_ h2 ap;rw [h0 (by omega), tY (by omega), pJ];exact h1
  ·have bj : i < l.length := by omega
   obtain ⟨g, cap, cur, rfl, qp, aw, eM, js, ev, nC⟩ : ∃ g cap cur, a = .slice (some ⟨g, 0, none⟩) l.length cap ∧ 0 ≤ g ∧ W.heap[g]? = some (.cells cur 261 (0, 0)) ∧ l.length ≤ cap ∧ cap ≤ maxLen ∧ cur.size = cap * 3 ∧ cur.toList.take (l.length * 3) = xs := by
    rcases ay.2 with ⟨_, aH⟩ | h
    ·have : l.length = 0 := aH;omega
    ·exact h
   have XP : fm.block ≠ g := fun e => u2 g rfl (by rw [← e]; exact YD)
   by_cases lN : l.length + 1 ≤ cap
   ·refine (Y8 W g l.length cap i cur news fm pb aw bj lN (by unfold maxLen at js; omega) ev (by rw [nC]; exact jx.zT) gE gq.at_ qv.zT XP).mono ?_;rintro e bo ⟨rfl, nn, rfl, bB, cf⟩;rw [nC] at cf;have a6 := setRow_heap W.drew g cur nn _ (0, 0) aw;refine fin _ _ _ rfl ⟨?_, .inr ⟨g, cap, nn, rfl, eF _, a6, lN, js, bB, cf⟩⟩ ⟨rfl, rfl, rfl, by (show W.heap.size ≤ (Array.modify W.heap g _).size; rw [Array.size_modify]; exact dW _), fun k _ af => ?_⟩ fun iW ew => .inl ew
    ·simp only [cS, eh, hZ, gE]; omega
    ·show (Array.modify W.heap g _)[k]? = _;rw [tW];rw [if_neg (fun e => af (by rw [e]; rfl))]
   ·refine (Y5 W g l.length cap i cur news fm pb xs aw nC oo bj eM (by omega) (by omega) jx.zT gE gq.at_ qv.zT).mono ?_;rintro e bo ⟨G, nn, o, rfl, q1, q2, cg, ep, ⟨k7, rfl⟩, bB, cf, hE, jb⟩;have y1 : (W.alloc (.cells k7 261 (0, 0))).heap[W.heap.size]? = some (.cells k7 261 (0, 0)) := by show (W.heap.push _)[W.heap.size]? = _; simp
    have a6 := setRow_heap _ W.heap.size k7 nn _ (0, 0) y1;rw [← q1] at a6;refine fin _ _ _ rfl ⟨?_, .inr ⟨W.heap.size, G, nn, rfl, eF _, a6, bB, cf, hE, jb⟩⟩ ⟨q2, cg, ep, ?_, fun k af _ => ?_⟩ fun iW ew => .inr (by simp [Value.ownBlock] at ew; omega)
    ·simp only [cS, eh, hZ, gE]; omega
    ·rw [q1];show W.heap.size ≤ (Array.modify (W.heap.push _) _ _).size;rw [Array.size_modify, Array.size_push]; omega
    ·rw [q1];simp only [World.setRow, tW];rw [if_neg (by omega)];show (W.heap.push _)[k]? = _;rw [Array.getElem?_push_lt af, Array.getElem?_eq_getElem af]
end Go.Proofs.YtpochbhajmbfdaaGreat
namespace Go.Proofs.YtpochbhajmbfdaaGreat
open Go.RowKit
theorem ac7 {x y a b : Int} : lT x y a b < 0 ↔ lS x y a b = true := by
 rw [oF];unfold lT fM
 split <;> split <;> first | omega | (split <;> omega)
theorem ac6 {x y a b : Int} : lT x y a b = 0 ↔ x = a ∧ y = b := by
 unfold lT fM
 split <;> split <;> first | omega | (split <;> omega)
theorem Pu {x y v a b : Int} : aR ai 260 [.w (.agg [.c (.int .i64 x), .c (.int .i64 y), .c (.int .i64 v)]), bh a b] (aT (lT x y a b)) := by
 have aM := acG (x := x) (y := y) (x' := a) (y' := b);refine cc (f := 260) Tryz.func260 rfl rfl rfl rfl ?_;(repeat first | (with_reducible apply aA); exact rfl | refine dI rfl rfl rfl rfl (by (exact aM)) rfl ?_ | (with_reducible first | apply bN | apply bH | apply bL | apply aB | apply b6))
 ((refine bR rfl (bC rfl bf) ?_))
 exact aj.bp.refl _
abbrev QZ : aj := aQ (.func (.func 260) #[] #[])
def Rn (l : List di) (v : Value) (a b : Int) (n : Nat) (R : aJ) (aS : List (Nat × aj)) (bF : List (Nat × List AC)) : Prop :=
 ∃ (lo hi : Nat) (kP ae : Int), lo ≤ e6 l a b ∧ e6 l a b ≤ hi ∧ hi ≤ l.length ∧ n = hi - lo ∧ kP = lo ∧ ae = hi ∧ R = bJ 0 (gK v l) ∧ bF = [(4, Dl a b)] ∧ aS = [(0, aQ v), (2, QZ), (4, Q0 4), (8, aT l.length), (9, aT kP), (10, aT ae)]
theorem TY {l : List di} {v : Value} {a b : Int} (aq : jQ l) (ao : l.length ≤ 1000000) :
  xW ai 259 [aQ v, bh a b, QZ] (gK v l) fun ca a7 => ca = .cZ [.one (.c (.int .i64 (e6 l a b))), .one (.c (.bool (hf l a b)))] ∧ a7 = gK v l := by
 refine adA rfl (fun v a7 h => by rw [h.1]; rfl) ?_;refine dh (f := 259) Tryz.func259 rfl (de rfl) (by exact nm) ?_;(repeat first | (with_reducible first | apply bd | apply aX | apply a8 | apply aY | apply fZ) | (with_reducible apply aN); exact rfl; (repeat first | (with_reducible apply aA); exact rfl); (with_reducible apply aB) | (with_reducible apply nA 0); (iterate 4 exact rfl); kernel_rfl; exact rfl);refine mx 49 (Rn l v a b) l.length (bJ 0 (gK v l)) _ [(4, Dl a b)] ⟨0, l.length, 0, l.length, eF _, PE l a b, dW _, rfl, rfl, rfl, rfl, rfl, rfl⟩ (bM.refl _) rfl ⟨rfl, rfl, rfl, rfl, rfl, rfl, trivial⟩ ⟨rfl, trivial⟩ rfl ?_;rintro n R aS bF ⟨lo, hi, kP, ae, h1, h2, ap, rfl, aL, dk, rfl, rfl, rfl⟩ ee;clear ee
 by_cases al : lo < hi
 ·subst aL dk;have q2 : (lo : Int) < (hi : Int) := by omega
  obtain ⟨h, a6⟩ : ∃ h, h = (lo + hi) / 2 := ⟨_, rfl⟩;have aI : ((lo : Int) + (hi : Int)) / 2 = (h : Int) := by omega
  have XR : h < l.length := by omega
  obtain ⟨x, y, w, g1⟩ : ∃ x y w, l[h]? = some (x, y, w) := ⟨_, _, _, cp XR⟩;have ln : 0 < l.length := by omega
  have iU : (((lo : Int) + (hi : Int)) / 2).toNat * 3 + 3 ≤ (dY l).length ∧ ((dY l).drop ((((lo : Int) + (hi : Int)) / 2).toNat * 3)).take 3 = [.c (.int .i64 x), .c (.int .i64 y), .c (.int .i64 w)] := ⟨by rw [yt]; omega, Lq aI g1⟩;have gD : IntKind.i64.wrap ((lo : Int) + hi) = (lo : Int) + hi := cX (by omega);have Bl : IntKind.u64.wrap ((lo : Int) + hi) = (lo : Int) + hi := by rw [IntKind.wrap_u64]; omega
  have aM := Pu (x := x) (y := y) (v := w) (a := a) (b := b);have kB : h < e6 l a b ↔ lT x y a b < 0 := (xo aq a b h (x, y, w) g1).trans ac7.symm;generalize lT x y a b = c at *;have zY : ((lo : Int) + (hi : Int)) / 2 < (l.length : Int) := by omega
  clear g1
  replace aI := Lib.hid aI
  replace a6 := Lib.hid a6
  by_cases ak : c < 0
  ·(repeat first | (with_reducible apply ey); kernel_rfl | (with_reducible apply dT (id := 5) [0,1,2,3,4,5,6,7]); kernel_rfl; kernel_rfl; exact rfl | (with_reducible first | apply bd | apply aX | apply a8 | apply aY | apply dm | apply fZ | apply ls) | (with_reducible apply eu); exact rfl; (exact bG (by omega)) | (with_reducible apply aN); exact rfl; (repeat first | (with_reducible apply aA); exact rfl | (with_reducible apply fe); (iterate 3 exact rfl); (exact cX (by omega)); exact rfl | (with_reducible apply Ff); exact rfl; exact rfl; (first | exact cX (by omega) | assumption); exact rfl | refine dI rfl rfl rfl rfl (by (exact aM)) rfl ?_ | (with_reducible apply rp); (iterate 5 exact rfl); (intro W; go_simp; try rfl); (intro W; go_simp; try rfl); exact rfl; exact rfl); (with_reducible apply aB) | (with_reducible apply jy 0); (iterate 4 exact rfl); (omega); (assumption); exact rfl; kernel_rfl; exact rfl | (with_reducible apply nB 0); (iterate 3 exact rfl); (assumption); assumption; exact rfl; kernel_rfl; exact rfl);have a6 := a6.out;have aI := aI.out;refine ⟨hi - (h + 1), bJ 0 (gK v l), _, [(4, Dl a b)], by omega, ⟨h + 1, hi, _, hi, kB.2 ak, h2, ap, rfl, ?_, rfl, rfl, rfl, rfl⟩, bM.refl _, rfl, ⟨rfl, rfl, rfl, rfl, rfl, rfl, trivial⟩, ⟨rfl, trivial⟩, rfl⟩;omega
  ·have iB : e6 l a b ≤ h := by have := mt kB.1 ak; omega
   (repeat first | (with_reducible apply ey); kernel_rfl | (with_reducible apply dT (id := 5) [0,1,2,3,4,5,6,7]); kernel_rfl; kernel_rfl; exact rfl | (with_reducible first | apply bd | apply aX | apply a8 | apply aY | apply dm | apply fZ | apply ls) | (with_reducible apply eu); exact rfl; (exact bG (by omega)) | (with_reducible apply c8); exact rfl; (exact b3 (by omega)) | (with_reducible apply aN); exact rfl; (repeat first | (with_reducible apply aA); exact rfl | (with_reducible apply fe); (iterate 3 exact rfl); (exact cX (by omega)); exact rfl | (with_reducible apply Ff); exact rfl; exact rfl; (first | exact cX (by omega) | assumption); exact rfl | refine dI rfl rfl rfl rfl (by (exact aM)) rfl ?_ | (with_reducible apply rp); (iterate 5 exact rfl); (intro W; go_simp; try rfl); (intro W; go_simp; try rfl); exact rfl; exact rfl); (with_reducible apply aB) | (with_reducible apply jy 0); (iterate 4 exact rfl); (omega); (assumption); exact rfl; kernel_rfl; exact rfl | (with_reducible apply nB 0); (iterate 3 exact rfl); (assumption); assumption; exact rfl; kernel_rfl; exact rfl);have a6 := a6.out;have aI := aI.out;refine ⟨h - lo, bJ 0 (gK v l), _, [(4, Dl a b)], by omega, ⟨lo, h, lo, _, h1, iB, by omega, rfl, rfl, aI, rfl, rfl, rfl⟩, bM.refl _, rfl, ⟨rfl, rfl, rfl, rfl, rfl, rfl, trivial⟩, ⟨rfl, trivial⟩, rfl⟩
 ·have dp : lo = e6 l a b := by omega
  subst dp;have q2 : ¬ kP < ae := by omega
  clear dk al h2 ap h1;generalize hp : e6 l a b = p at *
  by_cases aE : p < l.length
  ·subst aL;have cg : (p : Int) < (l.length : Int) := by omega
   have ln : 0 < l.length := by omega
   obtain ⟨x, y, w, g1⟩ : ∃ x y w, l[p]? = some (x, y, w) := ⟨_, _, _, cp aE⟩;have iU : ((p : Int)).toNat * 3 + 3 ≤ (dY l).length ∧ ((dY l).drop (((p : Int)).toNat * 3)).take 3 = [.c (.int .i64 x), .c (.int .i64 y), .c (.int .i64 w)] := ⟨by rw [yt]; omega, Lq rfl g1⟩;have aM := Pu (x := x) (y := y) (v := w) (a := a) (b := b)
   have kB : hf l a b = decide (lT x y a b = 0) := by
    rw [oL, Cs aq, hp, g1, decide_eq_true_iff, ac6]
    constructor
    ·rintro ⟨u, hu⟩; cases hu; exact ⟨rfl, rfl⟩
    ·rintro ⟨rfl, rfl⟩; exact ⟨w, rfl⟩
   generalize lT x y a b = c at *;(repeat first | (with_reducible apply ey); kernel_rfl | (with_reducible apply dT (id := 8) [0,1,2,3,4,5,6,7,8,9,10,11,12,13,14,15]); kernel_rfl; kernel_rfl; exact rfl | (with_reducible first | apply bd | apply aX | apply a8 | apply aY | apply dA | apply kX | apply kZ | apply kY) | (with_reducible apply c8); exact rfl; (exact b3 (by omega)) | (with_reducible apply aN); exact rfl; (repeat first | (with_reducible apply aA); exact rfl | refine dI rfl rfl rfl rfl (by (exact aM)) rfl ?_ | (with_reducible apply dv (c := true)); exact rfl; exact rfl; (exact bG (by omega))); (with_reducible apply aB) | (with_reducible apply jy 0); (iterate 4 exact rfl); (omega); (assumption); exact rfl; kernel_rfl; exact rfl | (with_reducible apply nB 0); (iterate 3 exact rfl); (assumption); assumption; exact rfl; kernel_rfl; exact rfl)
   ((refine Mr rfl (bC rfl (bC rfl bf)) rfl rfl ?_))
   exact ⟨by rw [kB]; rfl, rfl⟩
  ·subst aL;have cg : ¬ (p : Int) < (l.length : Int) := by omega
   have kB : hf l a b = false := by
    cases a6 : hf l a b with
    | false => rfl
    | true =>
     obtain ⟨u, hu⟩ := (Cs aq).1 a6;rw [hp] at hu;have := (bX.1 hu).1;omega
   (repeat first | (with_reducible apply ey); kernel_rfl | (with_reducible apply dT (id := 8) [0,1,2,3,4,5,6,7,8,9,10,11,12,13,14,15]); kernel_rfl; kernel_rfl; exact rfl | (with_reducible first | apply bd | apply aX | apply a8 | apply aY | apply dA | apply kX | apply kZ | apply kY) | (with_reducible apply c8); exact rfl; (exact b3 (by omega)) | (with_reducible apply aN); exact rfl; (repeat first | (with_reducible apply aA); exact rfl | (with_reducible apply dv (c := false)); exact rfl; exact rfl; (exact b3 (by omega))); (with_reducible apply aB))
   ((refine Mr rfl (bC rfl (bC rfl bf)) rfl rfl ?_))
   exact ⟨by rw [kB]; rfl, rfl⟩
theorem aeW {l : List di} {p : Nat} {x y u w : Int} (hu : l[p]? = some (x, y, u)) : eA (dY l) ((p : Int).toNat * 3 + 2) [.c (.int .i64 w)] = dY (l.take p ++ (x, y, w) :: l.drop (p + 1)) := by
 have bj := (bX.1 hu).1;have he := (bX.1 hu).2
 have aI : l = l.take p ++ (x, y, u) :: l.drop (p + 1) := by
  conv => lhs; rw [← kq p l, mV bj, he]
 have t1 : (dY (l.take p)).length = p * 3 := by rw [yt, eh]; omega
 rw [ks]
 conv => lhs; rw [aI]
 unfold eA;rw [ys, ys];simp only [dY];rw [List.take_append, List.drop_append, t1, show (dY (l.take p)).take (p * 3 + 2) = dY (l.take p) from h0 (by omega), show (dY (l.take p)).drop (p * 3 + 2 + [AC.c (.int .i64 w)].length) = [] from tY (by rw [t1, List.length_singleton]; omega)];rw [show p * 3 + 2 - p * 3 = 2 by omega, show p * 3 + 2 + [AC.c (.int .i64 w)].length - p * 3 = 3 by simp; omega];simp
def RA (n : Nat) : Prop := ∀ (u9 : Value) l v (x y w : Int), v.oneCell' = true → jQ l → l.length ≤ n → qa ai 202 [bh x y, aT w] [.c v, .c u9] (gK v l) fun r au a7 => r = bE (!hf l x y) ∧ ∃ aV, aV.oneCell' = true ∧ au = [.c aV, .c u9] ∧ a7 = gK aV (sg l x y w)
def Rw (n : Nat) : Prop := ∀ (u9 : Value) l v (x y : Int), v.oneCell' = true → jQ l → l.length ≤ n → qa ai 229 [bh x y] [.c v, .c u9] (gK v l) fun r au a7 => r = .cZ [.one (.c (.int .i64 (nV l x y))), .one (.c (.bool (hf l x y)))] ∧ au = [.c v, .c u9] ∧ a7 = gK v l
def Rx (n : Nat) : Prop := ∀ (u9 : Value) l v, v.oneCell' = true → jQ l → l.length ≤ n → qa ai 201 [] [.c v, .c u9] (gK v l) fun r au a7 => r = aT l.length ∧ au = [.c v, .c u9] ∧ a7 = gK v l
theorem KG {u9 : Value} {l : List di} {v : Value} {a b : Int} (hv : v.oneCell' = true) (aq : jQ l) (ao : l.length ≤ 1000000) : qa ai 230 [bh a b] [.c v, .c u9] (gK v l) fun ca au a7 => ca = .cZ [.one (.c (.int .i64 (e6 l a b))), .one (.c (.bool (hf l a b)))] ∧ au = [.c v, .c u9] ∧ a7 = gK v l := by
 have aM := TY (v := v) (a := a) (b := b) aq ao;refine tN rfl rfl (fun v au a7 h => by obtain ⟨rfl, rfl, rfl⟩ := h; exact ⟨rfl, rfl⟩) ?_;refine dh (f := 230) Tryz.func230 rfl (de rfl) (by exact ej rfl) ?_;(repeat first | (with_reducible apply lx (id := 1) [0,1,2,3,4,5,6,7,8,9] [11]); kernel_rfl; kernel_rfl; exact rfl | (with_reducible first | apply bd | apply aX | apply a8 | apply aY) | (with_reducible apply aN); exact rfl; (repeat first | (with_reducible apply aA); exact rfl | (with_reducible apply c3); (iterate 3 exact rfl)); (with_reducible apply aB));refine MT 0 rfl rfl rfl rfl aM rfl rfl rfl (fun ca a7 h => ?_);obtain ⟨rfl, rfl⟩ := h;(repeat first | (with_reducible apply ey); kernel_rfl | (with_reducible first | apply aX | apply dA) | (with_reducible apply aN); exact rfl; (repeat first | (with_reducible apply aA); exact rfl); (with_reducible apply aB))
 ((refine qs rfl (bC rfl (bC rfl bf)) rfl rfl rfl rfl ?_))
 exact ⟨rfl, rfl, rfl⟩
theorem Zp : Rx 1100 := by
 intro u9 l v hv aq ao;refine tN rfl rfl (fun v au a7 h => by obtain ⟨rfl, rfl, rfl⟩ := h; exact ⟨rfl, rfl⟩) ?_;refine dh (f := 201) Tryz.func201 rfl (de rfl) (by exact ej rfl) ?_;(repeat first | (with_reducible first | apply bd | apply aX | apply a8 | apply aY | apply dA) | (with_reducible apply aN); exact rfl; (repeat first | (with_reducible apply aA); exact rfl | (with_reducible apply c3); (iterate 3 exact rfl)); (with_reducible apply aB) | (with_reducible apply nA 0); (iterate 4 exact rfl); kernel_rfl; exact rfl)
 ((refine qs rfl (bC rfl bf) rfl rfl rfl rfl ?_))
 exact ⟨rfl, rfl, rfl⟩
theorem Zo : Rw 1100 := by
 intro u9 l v x y hv aq ao;have aM := KG (u9 := u9) (v := v) (a := x) (b := y) hv aq (by omega);have hp := Cs (l := l) aq (x := x) (y := y);refine tN rfl rfl (fun v au a7 h => by obtain ⟨rfl, rfl, rfl⟩ := h; exact ⟨rfl, rfl⟩) ?_;cases a6 : hf l x y with
 | false =>
  rw [a6] at aM;rw [afv a6];refine dh (f := 229) Tryz.func229 rfl (de rfl) (by exact ej rfl) ?_;(repeat first | (with_reducible first | apply bd | apply aX | apply a8 | apply aY) | (with_reducible apply aN); exact rfl; (repeat first | (with_reducible apply aA); exact rfl); (with_reducible apply aB));refine rT 1000 0 rfl rfl rfl rfl aM rfl rfl rfl rfl rfl rfl (fun r au a7 h => ?_);obtain ⟨rfl, rfl, rfl⟩ := h;(repeat first | (with_reducible first | apply bd | apply aX | apply a8 | apply aY | apply dA | apply kt) | (with_reducible apply eu); exact rfl; (exact rfl) | (with_reducible apply aN); exact rfl; (repeat first | (with_reducible apply aA); exact rfl); (with_reducible apply aB))
  ((refine qs rfl (bC rfl (bC rfl bf)) rfl rfl rfl rfl ?_))
  exact ⟨rfl, rfl, rfl⟩
 | true =>
  rw [a6] at aM;obtain ⟨u, hu⟩ := hp.1 a6;rw [(afw aq hu).2];have bj := (bX.1 hu).1;generalize e6 l x y = p at *;clear hp;have cg : (p : Int) < (l.length : Int) := by omega
  have ln : 0 < l.length := by omega
  have iU : (dY l)[(p : Int).toNat * 3 + 2]? = some (.c (.int .i64 u)) := by
   have h1 := FT l p (x, y, u) hu;have h2 : ((((dY l).drop (p * 3)).take 3))[2]? = some (.c (.int .i64 u)) := by rw [h1]; rfl
   rw [fN (by decide), gl] at h2;exact h2
  refine dh (f := 229) Tryz.func229 rfl (de rfl) (by exact ej rfl) ?_;(repeat first | (with_reducible first | apply bd | apply aX | apply a8 | apply aY) | (with_reducible apply aN); exact rfl; (repeat first | (with_reducible apply aA); exact rfl); (with_reducible apply aB));refine rT 1000 0 rfl rfl rfl rfl aM rfl rfl rfl rfl rfl rfl (fun r au a7 h => ?_);obtain ⟨rfl, rfl, rfl⟩ := h;(repeat first | (with_reducible first | apply bd | apply aX | apply a8 | apply aY | apply dA | apply dm) | (with_reducible apply c8); exact rfl; (exact rfl) | (with_reducible apply aN); exact rfl; (repeat first | (with_reducible apply aA); exact rfl | (with_reducible apply c3); (iterate 3 exact rfl)); (with_reducible apply aB) | (with_reducible apply jy 0); (iterate 4 exact rfl); (omega); (assumption); exact rfl; kernel_rfl; exact rfl | (with_reducible apply zb 0); (iterate 3 exact rfl); (assumption); kernel_rfl; exact rfl | (with_reducible apply zc 0); (iterate 3 exact rfl); (assumption); assumption; exact rfl; kernel_rfl; exact rfl)
  ((refine qs rfl (bC rfl (bC rfl bf)) rfl rfl rfl rfl ?_))
  exact ⟨rfl, rfl, rfl⟩
theorem Zt : RA 1100 := by
 intro u9 l v x y w hv aq ao;have aM := KG (u9 := u9) (v := v) (a := x) (b := y) hv aq (by omega);have hp := Cs (l := l) aq (x := x) (y := y);have oj := PE l x y;refine tN rfl rfl (fun v au a7 h => by obtain ⟨rfl, aV, b8, rfl, rfl⟩ := h; exact ⟨rfl, rfl⟩) ?_;cases a6 : hf l x y with
 | false =>
  rw [a6] at aM;rw [PT aq a6];have bU := TX (l := l) (v := v) (i := e6 l x y) (x := x) (y := y) (w := w) oj (by omega);generalize e6 l x y = p at *;clear hp;refine dh (f := 202) Tryz.func202 rfl (de rfl) (by exact ej rfl) ?_;(repeat first | (with_reducible first | apply bd | apply aX | apply a8 | apply aY) | (with_reducible apply aN); exact rfl; (repeat first | (with_reducible apply aA); exact rfl); (with_reducible apply aB));refine rT 1000 0 rfl rfl rfl rfl aM rfl rfl rfl rfl rfl rfl (fun r au a7 h => ?_);obtain ⟨rfl, rfl, rfl⟩ := h;(repeat first | (with_reducible apply lx (id := 5) [0,1,2,3,4,5,6,7,8,9,10,11,12,13] [34]); kernel_rfl; kernel_rfl; exact rfl | (with_reducible first | apply bd | apply aX | apply a8 | apply aY | apply dm) | (with_reducible apply c8); exact rfl; (exact rfl) | (with_reducible apply aN); exact rfl; (repeat first | (with_reducible apply aA); exact rfl | (with_reducible apply c3); (iterate 3 exact rfl) | (with_reducible apply mH); (iterate 10 exact rfl)); (with_reducible apply aB));refine MT 0 rfl rfl rfl rfl bU rfl rfl rfl (fun ca a7 h => ?_);obtain ⟨aV, b8, rfl, rfl⟩ := h;(repeat first | (with_reducible apply ey); kernel_rfl | (with_reducible first | apply bd | apply aX | apply a8 | apply aY | apply dA) | (with_reducible apply aN); exact rfl; (repeat first | (with_reducible apply aA); exact rfl | (with_reducible apply c3); (iterate 3 exact rfl)); (with_reducible apply aB))
  ((refine qs rfl (bC rfl bf) rfl rfl rfl rfl ?_))
  exact ⟨rfl, aV, b8, rfl, rfl⟩
 | true =>
  rw [a6] at aM;obtain ⟨u, hu⟩ := hp.1 a6;rw [adi aq hu];have bj := (bX.1 hu).1;generalize e6 l x y = p at *;clear hp;have cg : (p : Int) < (l.length : Int) := by omega
  have ln : 0 < l.length := by omega
  refine dh (f := 202) Tryz.func202 rfl (de rfl) (by exact ej rfl) ?_;(repeat first | (with_reducible first | apply bd | apply aX | apply a8 | apply aY) | (with_reducible apply aN); exact rfl; (repeat first | (with_reducible apply aA); exact rfl); (with_reducible apply aB));refine rT 1000 0 rfl rfl rfl rfl aM rfl rfl rfl rfl rfl rfl (fun r au a7 h => ?_);obtain ⟨rfl, rfl, rfl⟩ := h;(repeat first | (with_reducible first | apply bd | apply aX | apply a8 | apply aY) | (with_reducible apply eu); exact rfl; (exact rfl) | (with_reducible apply aN); exact rfl; (repeat first | (with_reducible apply aA); exact rfl | (with_reducible apply c3); (iterate 3 exact rfl)); (with_reducible apply aB) | (with_reducible apply jy 0); (iterate 4 exact rfl); (omega); (assumption); exact rfl; kernel_rfl; exact rfl | (with_reducible apply zb 0); (iterate 3 exact rfl); (assumption); kernel_rfl; exact rfl);refine zg 0 rfl rfl rfl rfl ln rfl rfl ?_ rfl ?_
  ·show (p : Int).toNat * 3 + 2 + 1 ≤ (dY l).length;rw [yt]; omega
  ·have aI := aeW (w := w) hu
   have aO : (l.take p ++ (x, y, w) :: l.drop (p + 1)).length = l.length := by
    rw [cS, lr, eh, hZ]; omega
   have cD : (⟨261, 3, v, l.length, eA (dY l) ((p : Int).toNat * 3 + 2) [.c (.int .i64 w)]⟩ : bP) = gK v (l.take p ++ (x, y, w) :: l.drop (p + 1)) := by
    rw [aI]; unfold gK; rw [aO]
   (repeat first | (with_reducible first | apply bd | apply aX | apply a8 | apply aY | apply dA | apply kt) | (with_reducible apply aN); exact rfl; (repeat first | (with_reducible apply aA); exact rfl); (with_reducible apply aB))
   ((refine qs rfl (bC rfl bf) rfl rfl rfl rfl ?_))
   exact ⟨rfl, v, hv, rfl, cD⟩
abbrev sA (v : Value) (r : Int) : List AC := [.c v, .c (.int .i64 r)]
def sM : Bj := fun r L p S => ∃ (ad : Nat → Nat) (v : Value) (es : List di), p = dR (ad 1000) ∧ v.oneCell' = true ∧ nf L es ∧ S = k1 ad (cI 1000 (sA v r)) (bJ 0 (gK v es)) 1000
theorem Lo : ∀ l, (dY l).all AC.vv = true
 | [] => rfl
 | p :: l => by
  have := Lo l;simp only [dY, j3, this]; rfl
theorem IU (v : Value) (r : Int) (es : List di) : mT (cI 1000 (sA v r)) (bJ 0 (gK v es)) := by
 refine ⟨fun k cs h => ?_, fun i q h => ?_⟩
 ·obtain ⟨rfl, rfl⟩ := hl h; rfl
 ·obtain ⟨rfl, rfl⟩ := fI h; exact ⟨jd _, Lo es⟩
theorem N7 (k : Nat) (cs : List AC) : ∃ ds, cI k cs k = some ds := ⟨cs, by unfold cI; exact cr _ _ _⟩
theorem PQ {b c : Nat} (h : dR b = dR c) : b = c := by cases h; rfl
theorem vH {r q : bP} : bQ (bJ 0 r) 0 q = bJ 0 q := by
 funext i;unfold bJ
 by_cases e : i = 0
 ·subst e; rw [cr, cr]
 ·rw [cl _ _ e, cl _ _ e, cl _ _ e]
theorem Nx : RB sM := by
 intro r L b S h ao;obtain ⟨ad, v, es, hp, hv, br, rfl⟩ := h;obtain rfl := PQ hp;refine QQ (N7 _ _) rfl (Post := fun w m1 bl => w = aT r ∧ m1 = cI 1000 (sA v r) ∧ bl = bJ 0 (gK v es)) ?_ (fun w m1 bl h => ?_)
 ·refine dh (f := 56) Tryz.func56 rfl (de rfl) (by exact ej rfl) ?_;(repeat first | (with_reducible first | apply bd | apply aX | apply a8 | apply aY | apply dA) | (with_reducible apply aN); exact rfl; (repeat first | (with_reducible apply aA); exact rfl | (with_reducible apply c3); (iterate 3 exact rfl)); (with_reducible apply aB))
  ((refine eK rfl (bC rfl bf) rfl (bM.refl _) rfl rfl (fun i r h => ⟨r, h⟩) ?_))
  exact ⟨rfl, rfl, rfl⟩
 ·obtain ⟨rfl, rfl, rfl⟩ := h;exact ⟨rfl, IU _ _ _, fun eQ ja => ⟨rfl, eQ, v, es, by rw [ja], hv, br, rfl⟩⟩
theorem Zr : Rz sM := by
 intro n;refine afa (Post := fun w m1 bl => w = .w (.one (.own 7 0)) ∧ m1 = cI 7 (sA (.slice none 0 0) (lv n)) ∧ bl = bJ 0 (gK (.slice none 0 0) [])) ?_ (fun w m1 bl h => ?_)
 ·have e : lv n = if 1024 < if 1 > n then 1 else n then 1024 else if 1 > n then 1 else n := by unfold lv; (repeat split) <;> omega
  rw [e];refine dh (f := 54) Tryz.func54 rfl (de rfl) (by exact nm) ?_;refine nQ 0 261 3 rfl ?_;(repeat first | (with_reducible first | apply bd | apply aX | apply a8 | apply aY | apply dA) | (with_reducible apply aN); exact rfl; (repeat first | (with_reducible apply aA); exact rfl | (with_reducible apply v8); (iterate 4 exact rfl) | (with_reducible apply sR); (iterate 4 exact rfl)); (with_reducible apply aB))
  ((refine CC 7 rfl (bC rfl bf) rfl (bM.refl _) rfl rfl ?_))
  exact ⟨rfl, rfl, rfl⟩
 ·obtain ⟨rfl, rfl, rfl⟩ := h;refine ⟨7, rfl, ⟨fun k cs h => ?_, (IU (.slice none 0 0) 0 []).2⟩, fun eQ => ⟨eQ 7, rfl, fun j => eQ (swp 1000 7 j), .slice none 0 0, [], rfl, rfl, .nil, ?_⟩⟩
  ·obtain ⟨rfl, rfl⟩ := hl h; rfl
  ·have h1 := afc (mz 1000 7) (b7 := fun j => j) (h4 := fun j => j) (fun _ => rfl) (fun _ => rfl) (ad := eQ) (m := cI 1000 (sA (.slice none 0 0) (lv n))) (R := bJ 0 (gK (.slice none 0 0) [])) (k := 1000);rw [vk rfl] at h1;exact h1
theorem abz {r : Int} {L : List an} {v : Value} {es : List di} (x y : Int) (hv : v.oneCell' = true) (br : nf L es) (ao : L.length ≤ 1100) : qa ai 200 [bh x y] (sA v r) (gK v es) fun w au a7 => w = .cZ [.one (.c (.int .i64 (nV es x y))), .one (.c (.bool (hf es x y)))] ∧ au = sA v r ∧ a7 = gK v es := by
 have aM := Zo (.int .i64 r) es v x y hv br.1 (by rw [br.len]; exact ao);refine tN rfl rfl (fun v au a7 h => by obtain ⟨rfl, rfl, rfl⟩ := h; exact ⟨rfl, rfl⟩) ?_;generalize nV es x y = a at *;generalize hf es x y = c at *;refine dh (f := 200) Tryz.func200 rfl (de rfl) (by exact ej rfl) ?_;(repeat first | (with_reducible apply lx (id := 1) [0,1,2,3,4,5,6,7,8] [10]); kernel_rfl; kernel_rfl; exact rfl | (with_reducible first | apply bd | apply aX | apply a8 | apply aY) | (with_reducible apply aN); exact rfl; (repeat first | (with_reducible apply aA); exact rfl | (with_reducible apply c3); (iterate 3 exact rfl)); (with_reducible apply aB));refine Hc 1000 0 rfl rfl rfl rfl aM rfl (fun v au a7 h => h.2.1) rfl rfl rfl rfl (fun ca au a7 h => ?_);obtain ⟨rfl, rfl, rfl⟩ := h;(repeat first | (with_reducible apply ey); kernel_rfl | (with_reducible first | apply aX | apply dA) | (with_reducible apply aN); exact rfl; (repeat first | (with_reducible apply aA); exact rfl); (with_reducible apply aB))
 ((refine qs rfl (bC rfl (bC rfl bf)) rfl rfl rfl rfl ?_))
 exact ⟨rfl, rfl, rfl⟩
theorem aen {f : FuncId} {args : List aj} {r : Int} {L L' : List an} {b : Nat} {S : e2} {post : aj → Prop} (ea : args.all aj.bb = true) (h : sM r L (dR b) S)
  (ak : ∀ v es, v.oneCell' = true → nf L es → qa ai f args (sA v r) (gK v es) fun w au a7 => w.bb = true ∧ post w ∧ ∃ aV uP, aV.oneCell' = true ∧ nf L' uP ∧ au = sA aV r ∧ a7 = gK aV uP) : x1 ai f (aQ (dR b) :: args) (dR b) S fun w da => post w ∧ sM r L' (dR b) da := by
 obtain ⟨ad, v, es, hp, hv, br, rfl⟩ := h;obtain rfl := PQ hp;refine QQ (N7 _ _) ea (ak v es hv br 1000 0) (fun w m1 bl h => ?_);obtain ⟨au, a7, rfl, rfl, hw, Yi, aV, uP, b8, ck, rfl, rfl⟩ := h;exact ⟨hw, IU _ _ _, fun eQ ja => ⟨Yi, eQ, aV, uP, by rw [ja], b8, ck, rfl⟩⟩
abbrev afs (b : Bool) (e : Int) : aj := .cZ [.one (.c (.bool b)), .one (.c (.int .i64 e))]
theorem Zk : Rt sM := by
 intro r L b S x y h ao;refine aen (L' := qc r L x y) (post := fun w => w = afs (ni r L x y) (nj r L x y)) rfl h fun v es hv br => ?_;have yR := br.len;have aE := br.num x y;have aM := abz (r := r) x y hv br ao
 by_cases a6 : 0 ≤ kR L x y
 ·obtain ⟨aI, aO, cD⟩ := SP (r := r) a6;rw [aI, aO, cD];rw [aE.1, bG a6] at aM;refine tN rfl rfl (fun w au a7 h => by obtain ⟨c1, _, aV, uP, _, _, rfl, _⟩ := h; exact ⟨c1, rfl⟩) ?_;generalize nV es x y = a at *;refine dh (f := 154) Tryz.func154 rfl (de rfl) (by exact ej rfl) ?_;(repeat first | (with_reducible first | apply bd | apply aX | apply a8 | apply aY) | (with_reducible apply aN); exact rfl; (repeat first | (with_reducible apply aA); exact rfl); (with_reducible apply aB));refine rT 1000 0 rfl rfl rfl rfl aM rfl rfl rfl rfl rfl rfl (fun ca au a7 h => ?_);obtain ⟨rfl, rfl, rfl⟩ := h;rw [vH];(repeat first | (with_reducible first | apply bd | apply aX | apply a8 | apply aY | apply dA | apply kt) | (with_reducible apply eu); exact rfl; (exact rfl) | (with_reducible apply aN); exact rfl; (repeat first | (with_reducible apply aA); exact rfl); (with_reducible apply aB))
  ((refine qs rfl (bC rfl (bC rfl bf)) rfl rfl rfl rfl ?_))
  exact ⟨rfl, rfl, v, es, hv, br, rfl, rfl⟩
 ·have ar := aE.1;rw [b3 a6] at ar;rw [ar] at aM;have bU := Zp (.int .i64 r) es v hv br.1 (by omega);rw [yR] at bU
  by_cases h2 : r ≤ (L.length : Int)
  ·obtain ⟨aI, aO, cD⟩ := SO (r := r) a6 h2;rw [aI, aO, cD];refine tN rfl rfl (fun w au a7 h => by obtain ⟨c1, _, aV, uP, _, _, rfl, _⟩ := h; exact ⟨c1, rfl⟩) ?_;generalize nV es x y = a at *;have wI : (L.length : Int) ≥ r := h2;refine dh (f := 154) Tryz.func154 rfl (de rfl) (by exact ej rfl) ?_;(repeat first | (with_reducible first | apply bd | apply aX | apply a8 | apply aY) | (with_reducible apply aN); exact rfl; (repeat first | (with_reducible apply aA); exact rfl); (with_reducible apply aB));refine rT 1000 0 rfl rfl rfl rfl aM rfl rfl rfl rfl rfl rfl (fun ca au a7 h => ?_);obtain ⟨rfl, rfl, rfl⟩ := h;rw [vH];(repeat first | (with_reducible apply lx (id := 4) [0,1,2,4,5,6,7,3,8] [18]); kernel_rfl; kernel_rfl; exact rfl | (with_reducible first | apply bd | apply aX | apply a8 | apply aY | apply dm) | (with_reducible apply c8); exact rfl; (exact rfl) | (with_reducible apply aN); exact rfl; (repeat first | (with_reducible apply aA); exact rfl | (with_reducible apply c3); (iterate 3 exact rfl)); (with_reducible apply aB));refine Hc 1000 0 rfl rfl rfl rfl bU rfl (fun v au a7 h => h.2.1) rfl rfl rfl rfl (fun ca au a7 h => ?_);obtain ⟨rfl, rfl, rfl⟩ := h;rw [vH];(repeat first | (with_reducible apply ey); kernel_rfl | (with_reducible first | apply bd | apply aX | apply a8 | apply aY | apply dA | apply kt) | (with_reducible apply eu); exact rfl; (exact bG (by omega)) | (with_reducible apply aN); exact rfl; (repeat first | (with_reducible apply aA); exact rfl); (with_reducible apply aB))
   ((refine qs rfl (bC rfl (bC rfl bf)) rfl rfl rfl rfl ?_))
   exact ⟨rfl, rfl, v, es, hv, br, rfl, rfl⟩
  ·obtain ⟨aI, aO, cD⟩ := SQ (r := r) a6 h2;rw [aI, aO, cD];have ck := br.add a6;have e8 := Zt (.int .i64 r) es v x y L.length hv br.1 (by omega);rw [ar] at e8;refine tN rfl rfl (fun w au a7 h => by obtain ⟨c1, _, aV, uP, _, _, rfl, _⟩ := h; exact ⟨c1, rfl⟩) ?_;generalize nV es x y = a at *;generalize sg es x y L.length = FW at *;have wI : ¬ (L.length : Int) ≥ r := h2;refine dh (f := 154) Tryz.func154 rfl (de rfl) (by exact ej rfl) ?_;(repeat first | (with_reducible first | apply bd | apply aX | apply a8 | apply aY) | (with_reducible apply aN); exact rfl; (repeat first | (with_reducible apply aA); exact rfl); (with_reducible apply aB));refine rT 1000 0 rfl rfl rfl rfl aM rfl rfl rfl rfl rfl rfl (fun ca au a7 h => ?_);obtain ⟨rfl, rfl, rfl⟩ := h;rw [vH];(repeat first | (with_reducible apply lx (id := 4) [0,1,2,4,5,6,7,3,8] [18]); kernel_rfl; kernel_rfl; exact rfl | (with_reducible first | apply bd | apply aX | apply a8 | apply aY | apply dm) | (with_reducible apply c8); exact rfl; (exact rfl) | (with_reducible apply aN); exact rfl; (repeat first | (with_reducible apply aA); exact rfl | (with_reducible apply c3); (iterate 3 exact rfl)); (with_reducible apply aB));refine Hc 1000 0 rfl rfl rfl rfl bU rfl (fun v au a7 h => h.2.1) rfl rfl rfl rfl (fun ca au a7 h => ?_);obtain ⟨rfl, rfl, rfl⟩ := h;rw [vH];(repeat first | (with_reducible apply ey); kernel_rfl | (with_reducible apply lx (id := 6) [0,1,2,3,4,5,6,7,8,9,10] [31,32,2001000]); kernel_rfl; kernel_rfl; exact rfl | (with_reducible first | apply bd | apply aX | apply dm) | (with_reducible apply c8); exact rfl; (exact b3 (by omega)) | (with_reducible apply aN); exact rfl; (repeat first | (with_reducible apply aA); exact rfl | (with_reducible apply c3); (iterate 3 exact rfl)); (with_reducible apply aB));refine rT 1000 0 rfl rfl rfl rfl bU rfl rfl rfl rfl rfl rfl (fun ca au a7 h => ?_);obtain ⟨rfl, rfl, rfl⟩ := h;rw [vH]
   skip
   refine rT 1000 0 rfl rfl rfl rfl e8 rfl rfl rfl rfl rfl rfl (fun ca au a7 h => ?_);obtain ⟨rfl, aV, b8, rfl, rfl⟩ := h;rw [vH];(repeat first | (with_reducible apply ey); kernel_rfl | (with_reducible first | apply aX | apply dA) | (with_reducible apply aN); exact rfl; (repeat first | (with_reducible apply aA); exact rfl); (with_reducible apply aB))
   ((refine qs rfl (bC rfl (bC rfl bf)) rfl rfl rfl rfl ?_))
   exact ⟨rfl, rfl, aV, FW, b8, ck, rfl, rfl⟩
theorem PV (v : Value) (l : List an) (p : an) : im v (l ++ [p]) = ⟨59, 2, v, l.length + 1, b5 l ++ [.c (.int .i64 p.1), .c (.int .i64 p.2)]⟩ := by
 unfold im; rw [← Hu, cS]; rfl
end Go.Proofs.YtpochbhajmbfdaaGreat
namespace Go.Proofs.YtpochbhajmbfdaaGreat
open Go.RowKit
open bA
abbrev pX (a b c d : Int) : aj := .w (.agg [.c (.int .i64 a), .c (.int .i64 b), .c (.int .i64 c), .c (.int .i64 d)])
def w9 (l : an × an) : List AC := [.c (.int .i64 l.1.1), .c (.int .i64 l.1.2), .c (.int .i64 l.2.1), .c (.int .i64 l.2.2)]
def mj (l : List (an × an)) : List AC := l.flatMap w9
theorem Nc {V : List an} {j : Nat} {a b : Int} {ji : Int} (ae : ji = j) (h : V[j]? = some (a, b)) : ji < (V.length : Int) := by
 have := (bX.1 h).1; omega
theorem Pt {V : List an} {D : List Int} {j : Nat} {a b c d : Int} (h1 : V[j]? = some (a, b)) (h2 : V[j + 1]? = some (c, d)) (ao : V.length ≤ 100000) : aR ai 122 [nS V D, aT j] (pX a b c d) := by
 obtain ⟨ji, ae⟩ : ∃ ji : Int, ji = j := ⟨_, rfl⟩;have q1 := Nc (ji := ji) ae h1;have q2 := Nc (ji := ji + 1) (j := j + 1) (by omega) h2;have cY : 0 ≤ ji := by omega
 have cg : 0 ≤ ji + 1 := by omega
 have ab : ji ≤ 100000 := by omega
 have iU := vg ae h1;have p7 := vg (j := ji + 1) (i := j + 1) (by omega) h2;rw [show aT (j : Int) = aT ji by rw [ae]];clear ae h1 h2 ao;refine cc (f := 122) Tryz.func122 rfl rfl rfl rfl ?_;(repeat first | (with_reducible apply aA); exact rfl | (with_reducible apply ha); (iterate 5 exact rfl) | (with_reducible apply fB); (iterate 3 exact rfl); (omega); (omega); (assumption); exact rfl | (with_reducible apply fe); (iterate 3 exact rfl); (exact cX (by omega)); exact rfl | (with_reducible apply h6); kernel_rfl | (with_reducible apply h9); kernel_rfl; kernel_rfl; exact rfl | (with_reducible first | apply bN | apply bH | apply bL | apply aB | apply b6))
 ((refine bR rfl (e0 rfl rfl rfl bf) ?_))
 exact aj.bp.refl _
theorem DO {a b c d k A B C D : Int} (aM : aR ai 37 [bh a b, aT k] (bh A B)) (bU : aR ai 37 [bh c d, aT k] (bh C D)) : aR ai 128 [pX a b c d, aT k] (.cZ [.agg [.c (.int .i64 A), .c (.int .i64 B)], .agg [.c (.int .i64 C), .c (.int .i64 D)]]) := by
 refine cc (f := 128) Tryz.func128 rfl rfl rfl rfl ?_;(repeat first | (with_reducible apply aA); exact rfl | refine dI rfl rfl rfl rfl (by (first | exact aM | exact bU)) rfl ?_ | (with_reducible apply h6); kernel_rfl | (with_reducible apply h9); kernel_rfl; kernel_rfl; exact rfl | (with_reducible first | apply bN | apply bH | apply bL | apply aB | apply b6))
 ((refine bR rfl (e0 rfl rfl rfl (e0 rfl rfl rfl bf)) ?_))
 exact aj.bp.refl _
theorem acT {a b c d x y k A B C D : Int} {h r : Bool} (aM : aR ai 128 [pX a b c d, aT k] (.cZ [.agg [.c (.int .i64 A), .c (.int .i64 B)], .agg [.c (.int .i64 C), .c (.int .i64 D)]])) (H1 : aR ai 178 [bh A B, bh C D, bh x y, aT k] (bE h)) (aI : dP x y a b = false → dP x y c d = false → r = h) (aO : dP x y a b = true → r = false) (cD : dP x y c d = true → r = false) : aR ai 123 [pX a b c d, bh x y, aT k] (bE r) := by
 cases q1 : dP x y a b with
 | true =>
  rw [aO q1];refine cc (f := 123) Tryz.func123 rfl rfl rfl rfl ?_;(repeat first | (with_reducible apply aA); exact rfl | (with_reducible apply ya); (iterate 4 exact rfl) | refine dI rfl rfl rfl rfl (by (exact aM)) rfl ?_ | (with_reducible apply dv (c := false)); exact rfl; exact rfl; ((simp only [iF]; (omega))) | (with_reducible first | apply bN | apply bH | apply bL | apply aB | apply b6))
  ((refine bR rfl (bC rfl bf) ?_))
  exact aj.bp.refl _
 | false =>
  cases q2 : dP x y c d with
  | true =>
   rw [cD q2];refine cc (f := 123) Tryz.func123 rfl rfl rfl rfl ?_;(repeat first | (with_reducible apply aA); exact rfl | (with_reducible apply ya); (iterate 4 exact rfl) | refine dI rfl rfl rfl rfl (by (exact aM)) rfl ?_ | (with_reducible apply dv (c := true)); exact rfl; exact rfl; ((simp only [iF]; (omega))) | (with_reducible apply dv (c := false)); exact rfl; exact rfl; ((simp only [iF]; (omega))) | (with_reducible first | apply bN | apply bH | apply bL | apply aB | apply b6))
   ((refine bR rfl (bC rfl bf) ?_))
   exact aj.bp.refl _
  | false =>
   rw [aI q1 q2];refine cc (f := 123) Tryz.func123 rfl rfl rfl rfl ?_;(repeat first | (with_reducible apply aA); exact rfl | (with_reducible apply ya); (iterate 4 exact rfl) | refine dI rfl rfl rfl rfl (by (exact aM)) rfl ?_ | refine nl rfl rfl rfl rfl rfl rfl (by (exact H1)) rfl ?_ | (with_reducible apply dv (c := true)); exact rfl; exact rfl; ((simp only [iF]; (omega))) | (with_reducible first | apply bN | apply bH | apply bL | apply aB | apply b6))
   ((refine bR rfl (bC rfl bf) ?_))
   exact aj.bp.refl _
theorem acS {E : List b9} {r R : Nat} (aq : r ≤ 28) {p q x : an} (hp : eS r p.1 p.2 = true) (al : eS r q.1 q.2 = true) : aR ai 123 [pX p.1 p.2 q.1 q.2, bh x.1 x.2, aT r] (bE (iX (qI E r R) p q x)) := by
 have ax : gB (r : Int) r := ⟨aq, .inr (.inr rfl)⟩;have e : ∀ a b : an, dP a.1 a.2 b.1 b.2 = decide (a = b) := fun a b => by rw [oL, rG, cE, Prod.ext_iff]
 have aw : iX (qI E r R) p q x = (!decide (x = p) && !decide (x = q) && wU (2 ^ r * p.1) (2 ^ r * p.2) (2 ^ r * q.1) (2 ^ r * q.2) x.1 x.2 r) := by
  unfold iX;simp only [decide_not];rfl
 refine acT (DO (se ax hp) (se ax al)) ab1 (fun h1 h2 => ?_) (fun h1 => ?_) (fun h1 => ?_)
 ·rw [e] at h1 h2;rw [aw, h1, h2]; rfl
 ·rw [e] at h1;rw [aw, h1]; rfl
 ·rw [e] at h1;rw [aw, h1]; simp
theorem acw {a b c d a' bO c' d' k A B C D ei p5 EK vN : Int} {h : Bool} {M : fA} (aM : aR ai 128 [pX a b c d, aT k] (.cZ [.agg [.c (.int .i64 A), .c (.int .i64 B)], .agg [.c (.int .i64 C), .c (.int .i64 D)]])) (bU : aR ai 128 [pX a' bO c' d', aT k] (.cZ [.agg [.c (.int .i64 ei), .c (.int .i64 p5)], .agg [.c (.int .i64 EK), .c (.int .i64 vN)]])) (H1 : aR ai 185 [bh A B, bh C D, bh ei p5, bh EK vN] (bE h)) (cd : aR ai 119 [bh A B, bh C D, bh ei p5, bh EK vN] (nU M)) : aR ai 129 [pX a b c d, pX a' bO c' d', aT k] (nU (if h = true then hG else M)) := by
 cases h with
 | true =>
  refine cc (f := 129) Tryz.func129 rfl rfl rfl rfl ?_;(repeat first | (with_reducible apply aA); exact rfl | refine dI rfl rfl rfl rfl (by (first | exact aM | exact bU)) rfl ?_ | refine nl rfl rfl rfl rfl rfl rfl (by (exact H1)) rfl ?_ | (with_reducible first | apply bN | apply bH | apply bL | apply aB | apply b6 | apply fC) | (with_reducible apply h8); exact rfl)
  ((refine bR rfl (e0 rfl rfl rfl bf) ?_))
  exact aj.bp.refl _
 | false =>
  refine cc (f := 129) Tryz.func129 rfl rfl rfl rfl ?_;(repeat first | (with_reducible apply aA); exact rfl | refine dI rfl rfl rfl rfl (by (first | exact aM | exact bU)) rfl ?_ | refine nl rfl rfl rfl rfl rfl rfl (by (first | exact H1 | exact cd)) rfl ?_ | (with_reducible first | apply bN | apply bH | apply bL | apply aB | apply b6 | apply eR) | (with_reducible apply hA); exact rfl)
  ((refine bR rfl (e0 rfl rfl rfl bf) ?_))
  exact aj.bp.refl _
theorem HP {a b : b9} (h1 : cy a.1.1 a.1.2 = true) (h2 : cy a.2.1 a.2.2 = true) (ap : cy b.1.1 b.1.2 = true) (aL : cy b.2.1 b.2.2 = true) : qC a.1.1 a.1.2 a.2.1 a.2.2 b.1.1 b.1.2 b.2.1 b.2.2 = gW a b := by
 unfold qC; rw [h1, h2, ap, aL]; rfl
def n7 (r : Nat) (l m : an × an) : fA := if s7 (gg r l) (gg r m) = true then hG else gW (gg r l) (gg r m)
theorem acv {r : Nat} (aq : r ≤ 28) {l m : an × an} (h1 : eS r l.1.1 l.1.2 = true) (h2 : eS r l.2.1 l.2.2 = true) (ap : eS r m.1.1 m.1.2 = true) (aL : eS r m.2.1 m.2.2 = true) : aR ai 129 [pX l.1.1 l.1.2 l.2.1 l.2.2, pX m.1.1 m.1.2 m.2.1 m.2.2, aT r] (nU (n7 r l m)) := by
 have ax : gB (r : Int) r := ⟨aq, .inr (.inr rfl)⟩;have e := HP (a := gg r l) (b := gg r m) (qm h1) (qm h2) (qm ap) (qm aL)
 have H1 : aR ai 185 [bh (2 ^ r * l.1.1) (2 ^ r * l.1.2), bh (2 ^ r * l.2.1) (2 ^ r * l.2.2), bh (2 ^ r * m.1.1) (2 ^ r * m.1.2), bh (2 ^ r * m.2.1) (2 ^ r * m.2.2)] (bE (s7 (gg r l) (gg r m))) := by
  have := acr (a1 := 2 ^ r * l.1.1) (a2 := 2 ^ r * l.1.2) (b1 := 2 ^ r * l.2.1) (b2 := 2 ^ r * l.2.2) (c1 := 2 ^ r * m.1.1) (c2 := 2 ^ r * m.1.2) (d1 := 2 ^ r * m.2.1) (d2 := 2 ^ r * m.2.2);rw [show qC (2 ^ r * l.1.1) (2 ^ r * l.1.2) (2 ^ r * l.2.1) (2 ^ r * l.2.2) (2 ^ r * m.1.1) (2 ^ r * m.1.2) (2 ^ r * m.2.1) (2 ^ r * m.2.2) = gW (gg r l) (gg r m) from e] at this;exact this
 have cd : aR ai 119 [bh (2 ^ r * l.1.1) (2 ^ r * l.1.2), bh (2 ^ r * l.2.1) (2 ^ r * l.2.2), bh (2 ^ r * m.1.1) (2 ^ r * m.1.2), bh (2 ^ r * m.2.1) (2 ^ r * m.2.2)] (nU (gW (gg r l) (gg r m))) := by
  have := Ij (a1 := 2 ^ r * l.1.1) (a2 := 2 ^ r * l.1.2) (b1 := 2 ^ r * l.2.1) (b2 := 2 ^ r * l.2.2) (c1 := 2 ^ r * m.1.1) (c2 := 2 ^ r * m.1.2) (d1 := 2 ^ r * m.2.1) (d2 := 2 ^ r * m.2.2);rw [show qC (2 ^ r * l.1.1) (2 ^ r * l.1.2) (2 ^ r * l.2.1) (2 ^ r * l.2.2) (2 ^ r * m.1.1) (2 ^ r * m.1.2) (2 ^ r * m.2.1) (2 ^ r * m.2.2) = gW (gg r l) (gg r m) from e] at this;exact this
 exact acw (DO (se ax h1) (se ax h2)) (DO (se ax ap) (se ax aL)) H1 cd
theorem K3 (r : Nat) (l m : an × an) : rD r l m = if (n7 r l m).k = 1 then some (il r (n7 r l m)) else none := by
 unfold rD n7;cases h : s7 (gg r l) (gg r m) with
 | true => simp [hG]
 | false => simp
abbrev r6 (v : Value) (l : List (an × an)) : bP := ⟨167, 4, v, l.length, mj l⟩
instance ahH : n0 ai 96 167 4 32 := ⟨by kernel_rfl⟩
def pc (c : List an × List Int) : List AC := [.p (cB 2 c.1.length (b5 c.1)), .p (cB 1 c.2.length (cF c.2))]
def eC (l : List (List an × List Int)) : List AC := l.flatMap pc
abbrev sF (l : List (List an × List Int)) : aj := cM 2 l.length (eC l)
theorem Ce {β : Type} {f : β → List AC} {z : Nat} (ar : ∀ x, (f x).length = z) : ∀ {l : List β} {i : Nat} {x : β}, l[i]? = some x → ((l.flatMap f).drop (i * z)).take z = f x
 | [], i, x, h => by simp at h
 | y :: l, 0, x, h => by
  simp at h; subst h;rw [List.flatMap_cons, Nat.zero_mul, List.drop_zero, ← ar y, List.take_left]
 | y :: l, i + 1, x, h => by
  rw [List.flatMap_cons, j0, Nat.one_mul, Nat.add_comm, ← List.drop_drop, ← ar y, List.drop_left, ar y];exact Ce ar (by simpa using h)
theorem Cf {β : Type} {f : β → List AC} {z : Nat} (ar : ∀ x, (f x).length = z) : ∀ l : List β, (l.flatMap f).length = l.length * z
 | [] => by simp
 | y :: l => by rw [List.flatMap_cons, cS, ar, Cf ar l, lr, j0, Nat.one_mul, Nat.add_comm]
theorem NP {l : List (an × an)} {i : Nat} {ii a b c d : Int} (hi : ii = i) (h : l[i]? = some ((a, b), (c, d))) : ((mj l).drop (ii.toNat * 4)).take 4 = [.c (.int .i64 a), .c (.int .i64 b), .c (.int .i64 c), .c (.int .i64 d)] := by
 subst hi; rw [ks]; exact Ce (f := w9) (fun _ => rfl) h
theorem yl {l : List (List an × List Int)} {i : Nat} {ii : Int} {c : List an × List Int} (hi : ii = i) (h : l[i]? = some c) : ((eC l).drop (ii.toNat * 2)).take 2 = [.p (cB 2 c.1.length (b5 c.1)), .p (cB 1 c.2.length (cF c.2))] := by
 subst hi; rw [ks]; exact Ce (f := pc) (fun _ => rfl) h
theorem aah (l : List (an × an)) (x : an × an) : mj l ++ w9 x = mj (l ++ [x]) := by simp [mj, List.flatMap_append]
theorem ahV (l : List (an × an)) : (mj l).all AC.bb = true := by
 rw [ct]; intro x aa;obtain ⟨y, _, ah⟩ := List.mem_flatMap.1 aa;simp only [w9, gM, qL, or_false] at ah;rcases ah with rfl | rfl | rfl | rfl <;> rfl
theorem Uo (l : List (List an × List Int)) : (eC l).all AC.bb = true := by
 rw [ct]; intro x aa;obtain ⟨y, _, ah⟩ := List.mem_flatMap.1 aa;simp only [pc, gM, qL, or_false] at ah;rcases ah with rfl | rfl <;> rfl
theorem aaf (v : Value) (l : List (an × an)) (x : an × an) : r6 v (l ++ [x]) = ⟨167, 4, v, l.length + 1, mj l ++ w9 x⟩ := by rw [r6, ← aah, cS]; rfl
def R6 (ch : List (List an × List Int)) (n : Nat) (R : aJ) (aS : List (Nat × aj)) (bF : List (Nat × List AC)) : Prop :=
 ∃ (i : Nat) (ii : Int) (v : Value), i ≤ ch.length ∧ n = ch.length - i ∧ ii = i ∧ R = bJ 0 (r6 v (bc (ch.take i))) ∧ aS = [(3, aQ v), (7, sF ch), (8, aT ch.length), (9, aT ii)] ∧ bF = []
def R5 (ch : List (List an × List Int)) (V : List an) (D : List Int) (ii : Int) (pre : List (an × an)) (n : Nat) (R : aJ) (aS : List (Nat × aj)) (bF : List (Nat × List AC)) : Prop :=
 ∃ (j : Nat) (fu : Int) (v : Value), j ≤ D.length ∧ n = D.length - j ∧ fu = j ∧ R = bJ 0 (r6 v (pre ++ (iN V).take j)) ∧ aS = [(3, aQ v), (5, mA 5 0), (7, sF ch), (8, aT ch.length), (9, aT ii), (15, aT D.length), (16, aT fu)] ∧ bF = [(5, [.p (cB 2 V.length (b5 V)), .p (cB 1 D.length (cF D))])]
theorem aai {V : List an} {j : Nat} (h : j + 1 < V.length) : (iN V)[j]? = some (V[j], V[j + 1]) := by
 induction V generalizing j with
 | nil => simp at h
 | cons p W cw =>
  cases W with
  | nil => simp at h
  | cons q W =>
   cases j with
   | zero => rfl
   | succ j => exact cw (j := j) (by simpa using h)
section
variable {P : Program} {R : aJ} {s : aC} {ops : Array Oper} {dr : Option (List Nat)} {ty : Nat} {pos : String} {after : Array Edge} {guard : Option (Nat × Bool)} {K : aJ → aC → Prop} {rest : List Oper}
def nY (k : Nat) (iB : aj → List AC → aJ → Prop) : aj → Mem → aJ → Prop := fun ca aG az => ∃ au, aG = cI k au ∧ iB ca au az
theorem CP (k : Nat) {R0 : aJ} {dst : Option Nat} {f : FuncId} {g : Operand} {aS : Array TypeId} {l : List Operand} {args : List aj} {cs : List AC} {iB : aj → List AC → aJ → Prop} [E : Enters P f] (hw : want ops ⟨dst, .call ⟨.value g, l.toArray, aS⟩, ty, pos, after, guard⟩ s = some true) (hm : dL dr ⟨dst, .call ⟨.value g, l.toArray, aS⟩, ty, pos, after, guard⟩ = true)
  (aw : s.look g = some (aQ (.func (.func f) #[] #[]))) (aK : l.map s.look = (aj.w (.one (.own k 0)) :: args).map some) (hp : c6 P f (.w (.one (.own k 0)) :: args) (cI k cs) R0 (nY k iB)) (af : s.mem k = some cs) (hj : oS dr k = true) (aq : bM R0 R) (ak : cs.all AC.bb = true) (ea : args.all aj.bb = true) (hd : kF dst s.n = true)
  (h : ∀ v au az, iB v au az → cL P ops dr K rest (b0 az R) ((s.dX k au).put dst v)) : cL P ops dr K (⟨dst, .call ⟨.value g, l.toArray, aS⟩, ty, pos, after, guard⟩ :: rest) R s := by
 refine u6 hw hm aw aK hp (fun x aa j ae => ?_) (fun k' au aF => ?_) aq (fun k' au x j aF aa ae => ?_) hd ?_
 ·rcases gM.1 aa with rfl | aa
  ·obtain ⟨y, ah, ae⟩ := ae;simp [bI.cells] at ah;subst ah;cases ae;exact ⟨cs, by unfold cI; exact cr _ _ _⟩
  ·exact absurd ae (aj.dy (ct.1 ea x aa) j)
 ·obtain ⟨rfl, rfl⟩ := hl aF;exact ⟨af, .inl hj⟩
 ·obtain ⟨rfl, rfl⟩ := hl aF;exact absurd ae (AC.dy (ct.1 ak x aa) j)
 ·rintro v aG az ⟨au, rfl, al⟩;refine ⟨fun k' c aF => ?_, ?_⟩
  ·obtain ⟨rfl, rfl⟩ := hl aF;exact .inl ⟨cs, by unfold cI; exact cr _ _ _⟩
  ·have aO : s.over (cI k au) = s.dX k au := by
    show ({ s with mem := b0 (bQ cb k au) s.mem } : aC) = { s with mem := bQ s.mem k au };rw [show b0 (bQ cb k au) s.mem = bQ s.mem k au from vu s.mem k au]
   rw [aO];exact h v au az al
theorem jX (k : Nat) {dst : Option Nat} {f : FuncId} {g : Operand} {aS : Array TypeId} {l : List Operand} {args : List aj} {cs au : List AC} {v : aj} [E : Enters P f] (hw : want ops ⟨dst, .call ⟨.value g, l.toArray, aS⟩, ty, pos, after, guard⟩ s = some true) (hm : dL dr ⟨dst, .call ⟨.value g, l.toArray, aS⟩, ty, pos, after, guard⟩ = true)
  (aw : s.look g = some (aQ (.func (.func f) #[] #[]))) (aK : l.map s.look = (aj.w (.one (.own k 0)) :: args).map some) (hp : c6 P f (.w (.one (.own k 0)) :: args) (cI k cs) fW (nY k fun ca ds az => ca = v ∧ ds = au ∧ az = fW)) (af : s.mem k = some cs) (hj : oS dr k = true) (ak : cs.all AC.bb = true) (ea : args.all aj.bb = true) (hd : kF dst s.n = true)
  (h : cL P ops dr K rest R ((s.dX k au).put dst v)) : cL P ops dr K (⟨dst, .call ⟨.value g, l.toArray, aS⟩, ty, pos, after, guard⟩ :: rest) R s := by
 refine CP k hw hm aw aK hp af hj (fun i r h => by cases h) ak ea hd ?_;rintro _ _ _ ⟨rfl, rfl, rfl⟩;rw [show b0 fW R = R from Pb R];exact h
end
def BX (x : Int × b9) : List AC := [.c (.int .i64 x.2.1.1), .c (.int .i64 x.2.1.2), .c (.int .i64 x.2.2.1), .c (.int .i64 x.2.2.2), .c (.int .i64 x.1)]
def pj (l : List (Int × b9)) : List AC := l.flatMap BX
abbrev jK (l : List (Int × b9)) : aj := cM 5 l.length (pj l)
theorem wz {l : List (Int × b9)} {i : Nat} {ii o a b c d : Int} (hi : ii = i) (h : l[i]? = some (o, (a, b), (c, d))) : ((pj l).drop (ii.toNat * 5)).take 5 = [.c (.int .i64 a), .c (.int .i64 b), .c (.int .i64 c), .c (.int .i64 d), .c (.int .i64 o)] := by
 subst hi; rw [ks]; exact Ce (f := BX) (fun _ => rfl) h
abbrev et (E : List (Int × b9)) (k rm ph I J T : Int) (dirty : Bool) (hv fv cv : Value) (b : Nat) (lk : AC) : List AC :=
 [.p (cB 5 E.length (pj E)), .c (.int .i64 k), .c (.int .i64 rm), .c (.int .i64 ph), .c (.int .i64 I), .c (.int .i64 J), .c (.int .i64 T), .c (.bool dirty), .c hv, .c fv, .c cv, .c (dR b), lk]
abbrev wo (v : Value) (l : List (List an × List Int)) : bP := ⟨53, 2, v, l.length, eC l⟩
instance ahI : n0 ai 43 53 2 48 := ⟨by kernel_rfl⟩
abbrev dH (b : Nat) (S : e2) (hv fv cv : Value) (hot fnd : List an) (ch : List (List an × List Int)) : aJ := bQ (bQ (bQ (bJ 0 (hY (dR b) S)) 1 (im hv hot)) 2 (im fv fnd)) 3 (wo cv ch)
theorem Qd {b bO : Nat} {S da : e2} {hv fv cv b8 c4 cU : Value} {hot fnd hot' fnd' : List an} {ch ch' : List (List an × List Int)} : b0 (dH bO da b8 c4 cU hot' fnd' ch') (dH b S hv fv cv hot fnd ch) = dH bO da b8 c4 cU hot' fnd' ch' := by
 funext i
 match i with
 | 0 => rfl
 | 1 => rfl
 | 2 => rfl
 | 3 => rfl
 | i + 4 => rfl
theorem fb {b bO : Nat} {S da : e2} {hv fv cv b8 c4 cU : Value} {hot fnd hot' fnd' : List an} {ch ch' : List (List an × List Int)} : ∀ i r, dH b S hv fv cv hot fnd ch i = some r → ∃ a7, dH bO da b8 c4 cU hot' fnd' ch' i = some a7
 | 0, _, _ => ⟨_, rfl⟩
 | 1, _, _ => ⟨_, rfl⟩
 | 2, _, _ => ⟨_, rfl⟩
 | 3, _, _ => ⟨_, rfl⟩
 | i + 4, _, h => by cases h
theorem adN {b : Nat} {S : e2} {hv fv cv v : Value} {hot fnd l : List an} {ch : List (List an × List Int)} : bQ (dH b S hv fv cv hot fnd ch) 1 (im v l) = dH b S v fv cv l fnd ch := by
 funext i
 match i with
 | 0 => rfl
 | 1 => rfl
 | 2 => rfl
 | 3 => rfl
 | i + 4 => rfl
theorem IF {b c : Nat} {S da : e2} {hv fv cv : Value} {hot fnd : List an} {ch : List (List an × List Int)} : bQ (dH b S hv fv cv hot fnd ch) 0 (hY (dR c) da) = dH c da hv fv cv hot fnd ch := by
 funext i
 match i with
 | 0 => rfl
 | 1 => rfl
 | 2 => rfl
 | 3 => rfl
 | i + 4 => rfl
abbrev qX : aj := .w (.one (.own 1000 0))
abbrev ly : aj := .cZ []
abbrev Bc (f : FuncId) (args : List aj) (cs : List AC) (v : aj) (au : List AC) : Prop := c6 ai f (qX :: args) (cI 1000 cs) fW (nY 1000 fun ca ds az => ca = v ∧ ds = au ∧ az = fW)
section
variable {E : List (Int × b9)} {k rm ph I J T : Int} {dirty : Bool} {hv fv cv : Value} {b : Nat} {lk : AC}
theorem C7 (ao : lk.bb = true) (p j : Int) : Bc 102 [aT p, aT j] (et E k rm ph I J T dirty hv fv cv b lk) ly (et E k rm p 0 j 0 dirty hv fv cv b lk) := by
 have dc : (et E k rm p 0 j 0 dirty hv fv cv b lk).all AC.bb = true := by simp only [j3, mw, ao]; rfl
 refine dh (f := 102) Tryz.func102 rfl (de rfl) (by exact ej rfl) ?_;(repeat first | (with_reducible first | apply bd | apply aX | apply a8 | apply aY) | (with_reducible apply aN); exact rfl; (repeat first | (with_reducible apply aA); exact rfl | (with_reducible apply c3); (iterate 3 exact rfl)); (with_reducible apply aB))
 ((refine eK rfl bf rfl (bM.refl _) dc rfl (fun i r h => ⟨r, h⟩) ?_))
 exact ⟨_, rfl, rfl, rfl, rfl⟩
theorem HC (ao : lk.bb = true) (p : Int) : Bc 57 [aT p] (et E k rm ph I J T dirty hv fv cv b lk) ly (et E k rm p 0 0 0 dirty hv fv cv b (.c (.slice none 0 0))) := by
 have dc : (et E k rm ph I J T dirty hv fv cv b lk).all AC.bb = true := by simp only [j3, mw, ao]; rfl
 have aM := C7 (E := E) (k := k) (rm := rm) (ph := ph) (I := I) (J := J) (T := T) (dirty := dirty) (hv := hv) (fv := fv) (cv := cv) (b := b) ao p 0;refine dh (f := 57) Tryz.func57 rfl (de rfl) (by exact ej rfl) ?_;(repeat first | (with_reducible first | apply bd | apply a8) | (with_reducible apply aN); exact rfl; (repeat first | (with_reducible apply aA); exact rfl); (with_reducible apply aB));refine jX 1000 rfl rfl rfl rfl aM rfl rfl dc rfl rfl ?_;(repeat first | (with_reducible first | apply aX | apply a8 | apply aY) | (with_reducible apply aN); exact rfl; (repeat first | (with_reducible apply aA); exact rfl | (with_reducible apply c3); (iterate 3 exact rfl)); (with_reducible apply aB))
 ((refine eK rfl bf rfl (bM.refl _) rfl rfl (fun i r h => ⟨r, h⟩) ?_))
 exact ⟨_, rfl, rfl, rfl, rfl⟩
theorem zu (ao : lk.bb = true) (n : Int) (br : 0 ≤ I ∧ I ≤ 1000000) (kg : 0 ≤ J ∧ J ≤ 1000000) : Bc 120 [aT n] (et E k rm ph I J T dirty hv fv cv b lk) (bE (decide ((if J + 1 = n then I + 2 else J + 1) < n))) (et E k rm ph (if J + 1 = n then I + 1 else I) (if J + 1 = n then I + 2 else J + 1) T dirty hv fv cv b lk) := by
 have dc : ∀ I J : Int, (et E k rm ph I J T dirty hv fv cv b lk).all AC.bb = true := fun I J => by simp only [j3, mw, ao]; rfl
 by_cases h : J + 1 = n
 ·rw [if_pos h, if_pos h];have e : I + 1 + 1 = I + 2 := by omega
  rw [← e];refine dh (f := 120) Tryz.func120 rfl (de rfl) (by exact ej rfl) ?_;(repeat first | (with_reducible first | apply bd | apply aX | apply a8 | apply aY | apply dA) | (with_reducible apply eu); exact rfl; (exact bG (by omega)) | (with_reducible apply aN); exact rfl; (repeat first | (with_reducible apply aA); exact rfl | (with_reducible apply c3); (iterate 3 exact rfl) | (with_reducible apply fe); (iterate 3 exact rfl); (exact cX (by omega)); exact rfl); (with_reducible apply aB))
  ((refine eK rfl (bC rfl bf) rfl (bM.refl _) (dc _ _) rfl (fun i r h => ⟨r, h⟩) ?_))
  exact ⟨_, rfl, rfl, rfl, rfl⟩
 ·rw [if_neg h, if_neg h];refine dh (f := 120) Tryz.func120 rfl (de rfl) (by exact ej rfl) ?_;(repeat first | (with_reducible first | apply bd | apply aX | apply a8 | apply aY | apply dA | apply dm) | (with_reducible apply c8); exact rfl; (exact b3 (by omega)) | (with_reducible apply aN); exact rfl; (repeat first | (with_reducible apply aA); exact rfl | (with_reducible apply c3); (iterate 3 exact rfl) | (with_reducible apply fe); (iterate 3 exact rfl); (exact cX (by omega)); exact rfl); (with_reducible apply aB))
  ((refine eK rfl (bC rfl bf) rfl (bM.refl _) (dc _ _) rfl (fun i r h => ⟨r, h⟩) ?_))
  exact ⟨_, rfl, rfl, rfl, rfl⟩
theorem HD {r : Nat} (aq : r ≤ 28) (af : k = r) (ao : lk.bb = true) {i : Nat} {o p1 p2 q1 q2 : Int} (jq : E.length ≤ 1000) (h : E[i]? = some (o, (p1, p2), (q1, q2))) (hp : gx (p1, p2) = true) (al : gx (q1, q2) = true) :
  Bc 115 [aT i] (et E k rm ph I J T dirty hv fv cv b lk) (.cZ [.agg [.c (.int .i64 (cz p1 r)), .c (.int .i64 (cz p2 r))], .agg [.c (.int .i64 (cz q1 r)), .c (.int .i64 (cz q2 r))]]) (et E k rm ph I J T dirty hv fv cv b lk) := by
 have dc : (et E k rm ph I J T dirty hv fv cv b lk).all AC.bb = true := by simp only [j3, mw, ao]; rfl
 obtain ⟨ji, ae⟩ : ∃ ji : Int, ji = i := ⟨_, rfl⟩;have bj := (bX.1 h).1;have g0 : 0 ≤ ji := by omega
 have g1 : ji < (E.length : Int) := by omega
 have iU := wz ae h;have hp := sb.1 hp;have al := sb.1 al;have ax : gB (r : Int) r := ⟨aq, .inr (.inr rfl)⟩;have aM := Pm (x := p1) (y := p2) ax (by omega) (by omega) (by omega) (by omega);have bU := Pm (x := q1) (y := q2) ax (by omega) (by omega) (by omega) (by omega);rw [← af] at aM bU;rw [show aT (i : Int) = aT ji by rw [ae]];clear hp al ax ae h;generalize cz p1 r = a at *;generalize cz p2 r = a' at *;generalize cz q1 r = c at *;generalize cz q2 r = c' at *;refine dh (f := 115) Tryz.func115 rfl (de rfl) (by exact ej rfl) ?_;(repeat first | (with_reducible apply ey); kernel_rfl | (with_reducible apply dT (id := 2) [0,1,2,3,4,5,6,7,8,9,10,11,12,13,14,15,16,17]); kernel_rfl; kernel_rfl; exact rfl | (with_reducible first | apply bd | apply aX | apply a8 | apply aY | apply dA) | (with_reducible apply aN); exact rfl; (repeat first | (with_reducible apply aA); exact rfl | (with_reducible apply ha); (iterate 5 exact rfl) | (with_reducible apply fB); (iterate 3 exact rfl); (omega); (omega); (assumption); exact rfl | (with_reducible apply c3); (iterate 3 exact rfl) | refine dI rfl rfl rfl rfl (by (first | exact aM | exact bU)) rfl ?_); (with_reducible apply aB))
 ((refine eK rfl (e0 rfl rfl rfl (e0 rfl rfl rfl bf)) rfl (bM.refl _) dc rfl (fun i r h => ⟨r, h⟩) ?_))
 exact ⟨_, rfl, rfl, rfl, rfl⟩
end
def du (E : List (Int × b9)) (r rm : Nat) (s : bA.aW an) (cs : List AC) (R : aJ) : Prop := ∃ (hv fv cv : Value) (b : Nat) (S : e2) (lk : AC), sM rm s.hot (dR b) S ∧ lk.bb = true ∧ (s.ph = 3 → lk = .p (cB 4 (bc s.ch).length (mj (bc s.ch)))) ∧ cs = et E r rm s.ph s.I s.J s.T s.dirty hv fv cv b lk ∧ R = dH b S hv fv cv s.hot s.fnd s.ch
def fT (E : List (Int × b9)) (r rm : Nat) (f : FuncId) (args : List aj) (s : bA.aW an) (v : aj) (s' : bA.aW an) : Prop :=
 ∀ cs R, du E r rm s cs R → c6 ai f (qX :: args) (cI 1000 cs) R (nY 1000 fun ca au az => ca = v ∧ du E r rm s' au az)
abbrev bz (E : List (Int × b9)) (r rm : Nat) : cP an := qI (E.map Prod.snd) r rm
theorem bM.of_eq {R az : aJ} (h : R = az) : bM R az := by rw [h]; exact bM.refl _
theorem adO {b : Nat} {S : e2} {hv fv cv v : Value} {hot fnd l : List an} {ch : List (List an × List Int)} : bQ (dH b S hv fv cv hot fnd ch) 2 (im v l) = dH b S hv v cv hot l ch := by
 funext i
 match i with
 | 0 => rfl
 | 1 => rfl
 | 2 => rfl
 | 3 => rfl
 | i + 4 => rfl
theorem adQ {b : Nat} {S : e2} {hv fv cv v : Value} {hot fnd : List an} {ch : List (List an × List Int)} {x y : Int} : bQ (dH b S hv fv cv hot fnd ch) 1 ⟨59, 2, v, hot.length + 1, b5 hot ++ [.c (.int .i64 x), .c (.int .i64 y)]⟩ = dH b S v fv cv (hot ++ [(x, y)]) fnd ch :=
 (congrArg (bQ (dH b S hv fv cv hot fnd ch) 1) (PV v hot (x, y)).symm).trans adN
theorem adP {b : Nat} {S : e2} {hv fv cv v : Value} {hot fnd : List an} {ch : List (List an × List Int)} {x y : Int} : bQ (dH b S hv fv cv hot fnd ch) 2 ⟨59, 2, v, fnd.length + 1, b5 fnd ++ [.c (.int .i64 x), .c (.int .i64 y)]⟩ = dH b S hv v cv hot (fnd ++ [(x, y)]) ch :=
 (congrArg (bQ (dH b S hv fv cv hot fnd ch) 2) (PV v fnd (x, y)).symm).trans adO
theorem XB {E : List (Int × b9)} {r rm : Nat} {s : bA.aW an} {x y : Int} : (qc rm s.hot x y = (dF (bz E r rm) s (x, y)).hot) ∧ (ni rm s.hot x y = true → dF (bz E r rm) s (x, y) = { s with hot := s.hot ++ [(x, y)] } ∧ nj rm s.hot x y = 0) ∧ (ni rm s.hot x y = false → nj rm s.hot x y = 0 → dF (bz E r rm) s (x, y) = s) ∧ (nj rm s.hot x y = 0 ∨ (nj rm s.hot x y = 90 ∧ ni rm s.hot x y = false ∧ dF (bz E r rm) s (x, y) = fl s 5 0 0)) := by
 unfold qc ni nj dF
 by_cases h : (x, y) ∈ s.hot
 ·rw [if_pos (tM.2 h), if_pos (tM.2 h), if_pos (tM.2 h), if_pos h];exact ⟨rfl, fun h => (by cases h), fun _ _ => rfl, .inl rfl⟩
 ·have aF : ¬ 0 ≤ kR s.hot x y := fun a6 => h (tM.1 a6);rw [if_neg aF, if_neg aF, if_neg aF, if_neg h]
  by_cases ao : (rm : Int) ≤ (s.hot.length : Int)
  ·have hD : ¬ s.hot.length < (bz E r rm).R := by show ¬ s.hot.length < rm; omega
   rw [if_pos ao, if_pos ao, if_pos ao, if_neg hD];exact ⟨rfl, fun h => (by cases h), fun _ h => (by cases h), .inr ⟨rfl, rfl, rfl⟩⟩
  ·have hD : s.hot.length < (bz E r rm).R := by show s.hot.length < rm; omega
   rw [if_neg ao, if_neg ao, if_neg ao, if_pos hD];exact ⟨rfl, fun _ => ⟨rfl, rfl⟩, fun h => (by cases h), .inl rfl⟩
theorem HE {E : List (Int × b9)} {r rm : Nat} {s : bA.aW an} {x y : Int} (ao : s.hot.length ≤ 1100) (ar : s.fnd = []) (gU : s.ph ≠ 5) : fT E r rm 116 [bh x y] s (bE (!Nat.beq (dF (bz E r rm) s (x, y)).ph 5)) (dF (bz E r rm) s (x, y)) := by
 obtain ⟨ph, I, J, T, dirty, hot, fnd, ch⟩ := s;obtain rfl : fnd = [] := ar;have ao : hot.length ≤ 1100 := ao
 have gU : Nat.beq ph 5 = false := by
  cases h : Nat.beq ph 5 with
  | false => rfl
  | true => exact absurd (gZ h) gU
 obtain ⟨h1, h2, ap, aL⟩ := XB (E := E) (r := r) (rm := rm) (s := ⟨ph, I, J, T, dirty, hot, [], ch⟩) (x := x) (y := y);rintro cs R ⟨hv, fv, cv, b, S, lk, hS, cR, fR, rfl, rfl⟩;have aM := Zk (rm : Int) hot b S x y hS ao;have dc : ∀ hv, (et E r rm ph I J T dirty hv fv cv b lk).all AC.bb = true := fun hv => by simp only [j3, mw, cR]; rfl
 have bU := HC (E := E) (k := r) (rm := rm) (ph := ph) (I := I) (J := J) (T := T) (dirty := dirty) (hv := hv) (fv := fv) (cv := cv) (b := b) cR 5;simp only at h1 h2 ap aL fR;rw [h1] at aM;rcases aL with aL | ⟨aL, dk, fV⟩
 ·rw [aL] at aM;cases ab : ni rm hot x y with
  | true =>
   rw [ab] at aM;rw [(h2 ab).1] at aM ⊢;simp only at aM ⊢;rw [gU];have aI : (hot ++ [(x, y)]).length = hot.length + 1 := by rw [cS]; rfl
   refine dh (f := 116) Tryz.func116 rfl (de rfl) (by exact ej rfl) ?_;(repeat first | (with_reducible apply lx (id := 1) [0,1,2,3,4,5,6,7,8,9,10] [13]); kernel_rfl; kernel_rfl; exact rfl | (with_reducible first | apply bd | apply aX | apply a8 | apply aY) | (with_reducible apply aN); exact rfl; (repeat first | (with_reducible apply aA); exact rfl | (with_reducible apply c3); (iterate 3 exact rfl)); (with_reducible apply aB));refine zh 0 rfl rfl rfl rfl aM rfl rfl rfl (fun v da h => ?_);obtain ⟨rfl, fk⟩ := h;rw [IF];(repeat first | (with_reducible apply ey); kernel_rfl | (with_reducible apply lx (id := 6) [0,1,2,3,4,5,6,7,8,9,10,11,12] [3000028]); kernel_rfl; kernel_rfl; exact rfl | (with_reducible first | apply bd | apply aX | apply a8 | apply aY | apply dm) | (with_reducible apply eu); exact rfl; (exact rfl) | (with_reducible apply c8); exact rfl; (exact rfl) | (with_reducible apply aN); exact rfl; (repeat first | (with_reducible apply aA); exact rfl | (with_reducible apply c3); (iterate 3 exact rfl) | (with_reducible apply mH); (iterate 10 exact rfl)); (with_reducible apply aB));refine qx 1 rfl rfl rfl rfl ?q1 ?q2 rfl rfl (fun v1 iL => ?_)
   case q1 => exact kO (by show hot.length + 1 ≤ 1000000; omega)
   case q2 => show (hot.length + 1) * 16 ≤ 140737488355328; omega
   (repeat first | (with_reducible apply ey); kernel_rfl | (with_reducible first | apply bd | apply aX | apply a8 | apply aY | apply dA) | (with_reducible apply aN); exact rfl; (repeat first | (with_reducible apply aA); exact rfl | (with_reducible apply c3); (iterate 3 exact rfl)); (with_reducible apply aB))
   ((refine eK rfl (bC rfl bf) rfl (bM.of_eq (adQ (x := x) (y := y)).symm) (dc v1) rfl fb ?_))
   exact ⟨_, rfl, rfl, v1, fv, cv, b, da, lk, fk, cR, fR, rfl, rfl⟩
  | false =>
   rw [ab] at aM;rw [ap ab aL] at aM ⊢;simp only at aM ⊢;rw [gU];refine dh (f := 116) Tryz.func116 rfl (de rfl) (by exact ej rfl) ?_;(repeat first | (with_reducible apply lx (id := 1) [0,1,2,3,4,5,6,7,8,9,10] [13]); kernel_rfl; kernel_rfl; exact rfl | (with_reducible first | apply bd | apply aX | apply a8 | apply aY) | (with_reducible apply aN); exact rfl; (repeat first | (with_reducible apply aA); exact rfl | (with_reducible apply c3); (iterate 3 exact rfl)); (with_reducible apply aB));refine zh 0 rfl rfl rfl rfl aM rfl rfl rfl (fun v da h => ?_);obtain ⟨rfl, fk⟩ := h;rw [IF];(repeat first | (with_reducible apply ey); kernel_rfl | (with_reducible first | apply bd | apply aX | apply a8 | apply aY | apply dA | apply dm) | (with_reducible apply c8); exact rfl; (exact rfl) | (with_reducible apply aN); exact rfl; (repeat first | (with_reducible apply aA); exact rfl); (with_reducible apply aB))
   ((refine eK rfl (bC rfl bf) rfl (bM.refl _) (dc _) rfl fb ?_))
   exact ⟨_, rfl, rfl, hv, fv, cv, b, da, lk, fk, cR, fR, rfl, rfl⟩
 ·rw [aL, dk] at aM;rw [fV] at aM ⊢;simp only [fl] at aM ⊢;rw [show (!Nat.beq 5 5) = false from rfl];refine dh (f := 116) Tryz.func116 rfl (de rfl) (by exact ej rfl) ?_;(repeat first | (with_reducible apply lx (id := 1) [0,1,2,3,4,5,6,7,8,9,10] [13]); kernel_rfl; kernel_rfl; exact rfl | (with_reducible first | apply bd | apply aX | apply a8 | apply aY) | (with_reducible apply aN); exact rfl; (repeat first | (with_reducible apply aA); exact rfl | (with_reducible apply c3); (iterate 3 exact rfl)); (with_reducible apply aB));refine zh 0 rfl rfl rfl rfl aM rfl rfl rfl (fun v da h => ?_);obtain ⟨rfl, fk⟩ := h;rw [IF];(repeat first | (with_reducible apply ey); kernel_rfl | (with_reducible first | apply bd | apply aX | apply a8 | apply aY) | (with_reducible apply eu); exact rfl; ((simp only [iF]; (omega))) | (with_reducible apply aN); exact rfl; (repeat first | (with_reducible apply aA); exact rfl); (with_reducible apply aB));refine jX 1000 rfl rfl rfl rfl bU rfl rfl (dc _) rfl rfl ?_;(repeat first | (with_reducible first | apply bd | apply aX | apply a8 | apply aY | apply dA | apply kt) | (with_reducible apply aN); exact rfl; (repeat first | (with_reducible apply aA); exact rfl); (with_reducible apply aB))
  ((refine eK rfl (bC rfl bf) rfl (bM.refl _) rfl rfl fb ?_))
  exact ⟨_, rfl, rfl, hv, fv, cv, b, da, .c (.slice none 0 0), fk, rfl, fun h => (by cases h), rfl, rfl⟩
section
variable {P : Program} {R : aJ} {s : aC} {ops : Array Oper} {dr : Option (List Nat)} {ty : Nat} {pos : String} {after : Array Edge} {guard : Option (Nat × Bool)} {K : aJ → aC → Prop} {rest : List Oper}
theorem du.closed {E : List (Int × b9)} {r rm : Nat} {s : bA.aW an} {cs : List AC} {R : aJ} (h : du E r rm s cs R) : cs.all AC.bb = true := by
 obtain ⟨hv, fv, cv, b, S, lk, _, cR, _, rfl, _⟩ := h;simp only [j3, mw, cR]; rfl
theorem du.b0 {E : List (Int × b9)} {r rm : Nat} {s s' : bA.aW an} {cs au : List AC} {R az : aJ} (h : du E r rm s cs R) (aF : du E r rm s' au az) : Go.Proofs.YtpochbhajmbfdaaGreat.b0 az R = az := by
 obtain ⟨_, _, _, _, _, _, _, _, _, _, rfl⟩ := h;obtain ⟨_, _, _, _, _, _, _, _, _, _, rfl⟩ := aF;exact Qd
theorem hV {E : List (Int × b9)} {r rm : Nat} {en s1 : bA.aW an} {v : aj} {dst : Option Nat} {f : FuncId} {g : Operand} {aS : Array TypeId} {l : List Operand} {args : List aj} {cs : List AC} [EN : Enters ai f] (hw : want ops ⟨dst, .call ⟨.value g, l.toArray, aS⟩, ty, pos, after, guard⟩ s = some true) (hm : dL dr ⟨dst, .call ⟨.value g, l.toArray, aS⟩, ty, pos, after, guard⟩ = true)
  (aw : s.look g = some (aQ (.func (.func f) #[] #[]))) (aK : l.map s.look = (qX :: args).map some) (af : s.mem 1000 = some cs) (hj : oS dr 1000 = true) (ea : args.all aj.bb = true) (hd : kF dst s.n = true) (hp : fT E r rm f args en v s1) (br : du E r rm en cs R)
  (h : ∀ au az, du E r rm s1 au az → cL ai ops dr K rest az ((s.dX 1000 au).put dst v)) : cL ai ops dr K (⟨dst, .call ⟨.value g, l.toArray, aS⟩, ty, pos, after, guard⟩ :: rest) R s := by
 refine CP 1000 hw hm aw aK (hp cs R br) af hj (bM.refl _) br.closed ea hd ?_;rintro _ au az ⟨rfl, aF⟩;rw [br.b0 aF];exact h au az aF
end
theorem QE (n d : Int) (r : Nat) (hd : 0 < d) : k0 n d r = fX (2 ^ r) n d := by
 rw [← aeP r hd];unfold fX;congr 1
 ·rw [jG d]; omega
 ·rw [Int.pow_succ, jG d];rw [kV, jG 2 d, ← kV, jG (2 ^ r * d) 2]
def lU (r : Nat) (M : fA) : Option an := if M.k = 1 then some (il r M) else none
theorem F2 {n : Int} (h : -19342813113834066795298816 ≤ n ∧ n ≤ 19342813113834066795298816) : fits n = true := by
 unfold fits; rw [cE]; omega
theorem Nz {E : List (Int × b9)} {r rm : Nat} {s : bA.aW an} {M : fA} (aq : r ≤ 28) (iY : A0 M) (lg : M.k = 1 → eS r (il r M).1 (il r M).2 = true) (ao : s.hot.length ≤ 1100) (ar : s.fnd = []) (gU : s.ph ≠ 5) : fT E r rm 118 [nU M] s (bE (!Nat.beq (kj (bz E r rm) s (lU r M)).ph 5)) (kj (bz E r rm) s (lU r M)) := by
 intro cs R br
 have Yh : Nat.beq s.ph 5 = false := by
  cases h : Nat.beq s.ph 5 with
  | false => rfl
  | true => exact absurd (gZ h) gU
 have ak := br.closed
 by_cases h1 : M.k = 1
 ·rcases iY with rfl | ⟨x, y, d, rfl, hd, wO, aa, ah⟩ | ⟨f1, f2, g1, g2, rfl⟩
  ·simp [hG] at h1
  ·have lg := lg rfl;have ax : gB (r : Int) r := ⟨aq, .inr (.inr rfl)⟩;have fd := F2 (n := d) (by omega);have ex := QE x d r hd;have ke := QE y d r hd
   have aM := abU (n := x) (d := d) (n' := y) (d' := d) ax (F2 aa) fd (F2 ah) fd (b := true) (by
    unfold sC;rw [bG hd, ex, ke];unfold eS il iP at lg;simp only at lg;rw [pR, pR]; exact lg)
   simp only [if_true, ex, ke] at aM;have bU := HE (E := E) (r := r) (rm := rm) (s := s) (x := fX (2 ^ r) x d) (y := fX (2 ^ r) y d) ao ar gU;rw [show lU r (iP x d y d) = some (fX (2 ^ r) x d, fX (2 ^ r) y d) from rfl];show c6 _ _ _ _ _ (nY 1000 fun ca au az => ca = bE (!Nat.beq (dF (bz E r rm) s (fX (2 ^ r) x d, fX (2 ^ r) y d)).ph 5) ∧ du E r rm (dF (bz E r rm) s (fX (2 ^ r) x d, fX (2 ^ r) y d)) au az);generalize dF (bz E r rm) s (fX (2 ^ r) x d, fX (2 ^ r) y d) = s1 at *;generalize fX (2 ^ r) x d = X at *;generalize fX (2 ^ r) y d = Y at *;generalize (!Nat.beq s1.ph 5) = ca at *;obtain ⟨hv, fv, cv, b, S, lk, hS, cR, fR, rfl, rfl⟩ := id br;unfold iP;refine dh (f := 118) Tryz.func118 rfl (de rfl) (by exact ej rfl) ?_;(repeat first | (with_reducible apply ey); kernel_rfl | (with_reducible apply dT (id := 3) [13,0,1,2,3,4,5,6,7,8,9,10,11,12,14,15]); kernel_rfl; kernel_rfl; exact rfl | (with_reducible first | apply bd | apply aX | apply a8 | apply aY | apply dm) | (with_reducible apply c8); exact rfl; (exact rfl) | (with_reducible apply aN); exact rfl; (repeat first | (with_reducible apply aA); exact rfl | (with_reducible apply c3); (iterate 3 exact rfl) | refine jS rfl rfl rfl rfl rfl (by (exact aM)) rfl ?_); (with_reducible apply aB));refine hV rfl rfl rfl rfl rfl rfl rfl rfl bU br (fun au az ck => ?_);(repeat first | (with_reducible first | apply aX | apply aY | apply dA) | (with_reducible apply aN); exact rfl; (repeat first | (with_reducible apply aA); exact rfl); (with_reducible apply aB));obtain ⟨b8, c4, cU, bO, da, gJ, fk, gS, ic, rfl, rfl⟩ := id ck
   ((refine eK rfl (bC rfl bf) rfl (bM.refl _) ck.closed rfl fb ?_))
   exact ⟨_, rfl, rfl, ck⟩
  ·simp [sN] at h1
 ·rw [show lU r M = none from if_neg h1];show c6 _ _ _ _ _ (nY 1000 fun ca au az => ca = bE (!Nat.beq s.ph 5) ∧ du E r rm s au az);rw [Yh, Bool.not_false];obtain ⟨mk, HV, md, dx, HQ, HW, HX, HY, HZ⟩ := M;have h1 : ¬ mk = 1 := h1;obtain ⟨hv, fv, cv, b, S, lk, hS, cR, fR, rfl, rfl⟩ := id br;refine dh (f := 118) Tryz.func118 rfl (de rfl) (by exact ej rfl) ?_;(repeat first | (with_reducible first | apply bd | apply aX | apply a8 | apply aY | apply dA | apply kt) | (with_reducible apply eu); exact rfl; ((simp only [iF]; (omega))) | (with_reducible apply aN); exact rfl; (repeat first | (with_reducible apply aA); exact rfl); (with_reducible apply aB))
  ((refine eK rfl (bC rfl bf) rfl (bM.refl _) ak rfl fb ?_))
  exact ⟨_, rfl, rfl, br⟩
theorem SM {ch : List (List an × List Int)} (ak : ∀ c ∈ ch, c.1.length = c.2.length + 1 ∧ c.1.length ≤ 1100) (ao : ch.length ≤ 300) : oV ai 91 [sF ch] (fun v q => v = aQ q.v ∧ q = r6 q.v (bc ch)) := by
 refine Fc rfl (fun v q h => by obtain ⟨rfl, _⟩ := h; rfl) ?_;refine dh (f := 91) Tryz.func91 rfl (de rfl) (by exact nm) ?_;(repeat first | (with_reducible first | apply bd | apply aX | apply a8 | apply aY | apply fZ) | (with_reducible apply aN); exact rfl; (repeat first | (with_reducible apply aA); exact rfl | (with_reducible apply db); (iterate 3 exact rfl)); (with_reducible apply aB));refine nQ 0 167 4 rfl ?_
 skip
 refine mx 28 (R6 ch) ch.length (bJ 0 (r6 (.slice none 0 0) [])) _ [] ⟨0, 0, .slice none 0 0, eF _, rfl, rfl, rfl, rfl, rfl⟩ (nO _ _ _) rfl ⟨rfl, rfl, rfl, rfl, trivial⟩ trivial rfl ?_;rintro n R aS bF ⟨i, ii, v, hi, rfl, hT, rfl, rfl, rfl⟩ ee;clear ee
 by_cases al : i < ch.length
 ·have q2 : ii < (ch.length : Int) := by omega
  have cg : 0 ≤ ii := by omega
  obtain ⟨c, g1⟩ : ∃ c, ch[i]? = some c := ⟨_, cp al⟩;obtain ⟨jU, hB⟩ := ak c (dG g1);have iU := yl hT g1
  have ahr : (bc (ch.take i)).length ≤ 300 * 1100 := by
   refine kS (Dh (m := 1100) fun c tn => (ak c (oN tn)).2) (j1 _ ?_);rw [eh]; omega
  have cD : bc (ch.take (i + 1)) = bc (ch.take i) ++ iN c.1 := by
   rw [oO al, Df, show ch[i] = c from ms ((cp al).symm.trans g1)];simp [bc]
  have MA : (iN c.1).length = c.2.length := by rw [tE]; omega
  obtain ⟨V, D⟩ := c;simp only at jU hB iU cD MA;generalize bc (ch.take i) = pre at *;(repeat first | (with_reducible first | apply bd | apply aX | apply a8 | apply aY | apply dm | apply fZ) | (with_reducible apply eu); exact rfl; (exact bG (by omega)) | (with_reducible apply aN); exact rfl; (repeat first | (with_reducible apply aA); exact rfl | (with_reducible apply ha); (iterate 5 exact rfl) | (with_reducible apply fB); (iterate 3 exact rfl); (omega); (omega); (assumption); exact rfl | (with_reducible apply db); (iterate 3 exact rfl)); (with_reducible apply aB));refine mx 28 (R5 ch V D ii pre) D.length (bJ 0 (r6 v pre)) _ [(5, [.p (cB 2 V.length (b5 V)), .p (cB 1 D.length (cF D))])] ⟨0, 0, v, eF _, rfl, rfl, by simp, rfl, rfl⟩ (bM.refl _) rfl ⟨rfl, rfl, rfl, rfl, rfl, rfl, rfl, trivial⟩ ⟨rfl, trivial⟩ rfl ?_;rintro n R aS bF ⟨j, fu, v, ae, rfl, qt, rfl, rfl, rfl⟩ ee;clear ee;have hj : ((iN V).take j).length = j := by rw [eh]; omega
  by_cases hs : j < D.length
  ·have s2 : fu < (D.length : Int) := by omega
   obtain ⟨a, b, g2⟩ : ∃ a b, V[j]? = some (a, b) := ⟨_, _, cp (by omega)⟩;obtain ⟨c, d, g3⟩ : ∃ a b, V[j + 1]? = some (a, b) := ⟨_, _, cp (by omega)⟩;have aM := Pt (D := D) g2 g3 (by omega);rw [← qt] at aM
   have eD : pre ++ (iN V).take (j + 1) = (pre ++ (iN V).take j) ++ [((a, b), (c, d))] := by
    have h1 : j + 1 < V.length := by omega
    have h2 := aai h1;rw [show V[j] = (a, b) from ms ((cp (by omega)).symm.trans g2), show V[j + 1] = (c, d) from ms ((cp (by omega)).symm.trans g3)] at h2;obtain ⟨ap, aL⟩ := bX.1 h2;rw [oO ap, aL, iq]
   have hlen : (pre ++ (iN V).take j).length ≤ 300 * 1100 + 1100 := by rw [cS, hj]; omega
   (repeat first | (with_reducible first | apply bd | apply aX | apply a8 | apply aY | apply dm | apply fZ) | (with_reducible apply eu); exact rfl; (exact bG (by omega)) | (with_reducible apply aN); exact rfl; (repeat first | (with_reducible apply aA); exact rfl | (with_reducible apply mH); (iterate 10 exact rfl) | refine dI rfl rfl rfl rfl (by (exact aM)) rfl ?_); (with_reducible apply aB));refine qx 0 rfl rfl rfl rfl ?q1 ?q2 rfl rfl (fun aV b8 => ?_)
   case q1 => exact kO (by show (pre ++ (iN V).take j).length + 1 ≤ 1000000; omega)
   case q2 => show ((pre ++ (iN V).take j).length + 1) * 32 ≤ 140737488355328; omega
   (repeat first | (with_reducible first | apply aX | apply a8 | apply aY | apply ls) | (with_reducible apply aN); exact rfl; (repeat first | (with_reducible apply aA); exact rfl | (with_reducible apply fe); (iterate 3 exact rfl); (exact cX (by omega)); exact rfl); (with_reducible apply aB));exact ⟨D.length - (j + 1), bJ 0 (r6 aV (pre ++ (iN V).take (j + 1))), _, [(5, [.p (cB 2 V.length (b5 V)), .p (cB 1 D.length (cF D))])], by omega, ⟨j + 1, fu + 1, aV, by omega, rfl, by omega, rfl, rfl, rfl⟩, by rw [eD, aaf]; exact nO _ _ _, rfl, ⟨rfl, rfl, rfl, rfl, rfl, rfl, rfl, trivial⟩, ⟨rfl, trivial⟩, rfl⟩
  ·have s2 : ¬ fu < (D.length : Int) := by omega
   have k9 : (iN V).take j = iN V := h0 (by omega);rw [k9, ← cD];(repeat first | (with_reducible first | apply bd | apply aX | apply a8 | apply aY | apply ls | apply kX | apply kZ | apply kY) | (with_reducible apply c8); exact rfl; (exact b3 (by omega)) | (with_reducible apply aN); exact rfl; (repeat first | (with_reducible apply aA); exact rfl | (with_reducible apply fe); (iterate 3 exact rfl); (exact cX (by omega)); exact rfl); (with_reducible apply aB));exact ⟨ch.length - (i + 1), bJ 0 (r6 v (bc (ch.take (i + 1)))), _, [], by omega, ⟨i + 1, ii + 1, v, by omega, rfl, by omega, rfl, rfl, rfl⟩, bM.refl _, rfl, ⟨rfl, rfl, rfl, rfl, trivial⟩, trivial, rfl⟩
 ·have q2 : ¬ ii < (ch.length : Int) := by omega
  have dp : ch.take i = ch := h0 (by omega);rw [dp];(repeat first | (with_reducible first | apply bd | apply aX | apply a8 | apply aY | apply dA | apply kX | apply kZ | apply kY) | (with_reducible apply c8); exact rfl; (exact b3 (by omega)) | (with_reducible apply aN); exact rfl; (repeat first | (with_reducible apply aA); exact rfl); (with_reducible apply aB))
  ((refine yU rfl (bC rfl bf) rfl rfl (jd _) ?_))
  exact ⟨rfl, rfl⟩
theorem aag (l : List (an × an)) : ui (mj l) := .of fun y ah => by
 obtain ⟨x, _, aa⟩ := List.mem_flatMap.1 ah;simp only [w9, gM, qL, or_false] at aa;rcases aa with rfl | rfl | rfl | rfl <;> exact ⟨_, rfl⟩
theorem BM {l : List (List an × List Int)} {i : Nat} {ii : Int} {V : List an} {D : List Int} (hi : ii = i) (h : l[i]? = some (V, D)) : (ii.toNat * 2 + 2 ≤ (eC l).length ∧ ((eC l).drop (ii.toNat * 2)).take 2 = [.p (cB 2 V.length (b5 V)), .p (cB 1 D.length (cF D))]) ∧ (eC l)[ii.toNat * 2 + 1]? = some (.p (cB 1 D.length (cF D))) := by
 have h2 := yl hi h
 have h1 : ii.toNat * 2 + 2 ≤ (eC l).length := by
  have := Cf (f := pc) (z := 2) (fun _ => rfl) l;unfold eC;rw [this];have := (bX.1 h).1;omega
 refine ⟨⟨h1, h2⟩, ?_⟩;have ap : (((eC l).drop (ii.toNat * 2)).take 2)[1]? = some (.p (cB 1 D.length (cF D))) := by rw [h2]; rfl
 rw [fN (by decide), gl] at ap;exact ap
theorem YX {l : List an} {i : Nat} {ii x y : Int} (hi : ii = i) (h : l[i]? = some (x, y)) : ii.toNat * 2 + 2 ≤ (b5 l).length ∧ ((b5 l).drop (ii.toNat * 2)).take 2 = [.c (.int .i64 x), .c (.int .i64 y)] := by
 have := (bX.1 h).1;refine ⟨by rw [nG]; omega, vg hi h⟩
section
variable {E : List (Int × b9)} {r rm : Nat}
def j8 (ch : List (List an × List Int)) : Prop := ch.length ≤ 300 ∧ ∀ c ∈ ch, c.1.length = c.2.length + 1 ∧ c.1.length ≤ 1100
theorem NC {s : bA.aW an} (hd : s.dirty = false) (ar : s.fnd = []) : fT E r rm 130 [] s ly (fl s 4 0 0) := by
 obtain ⟨ph, I, J, T, dirty, hot, fnd, ch⟩ := s;obtain rfl : dirty = false := hd;obtain rfl : fnd = [] := ar;rintro cs R ⟨hv, fv, cv, b, S, lk, hS, cR, fR, rfl, rfl⟩;have dc : (et E r rm ph I J T false hv fv cv b lk).all AC.bb = true := by simp only [j3, mw, cR]; rfl
 have bU := HC (E := E) (k := r) (rm := rm) (ph := ph) (I := I) (J := J) (T := T) (dirty := false) (hv := hv) (fv := fv) (cv := cv) (b := b) cR 4;refine dh (f := 130) Tryz.func130 rfl (de rfl) (by exact ej rfl) ?_;(repeat first | (with_reducible first | apply bd | apply aX | apply a8 | apply aY) | (with_reducible apply eu); exact rfl; (exact rfl) | (with_reducible apply aN); exact rfl; (repeat first | (with_reducible apply aA); exact rfl | (with_reducible apply c3); (iterate 3 exact rfl)); (with_reducible apply aB));refine jX 1000 rfl rfl rfl rfl bU rfl rfl dc rfl rfl ?_;(repeat first | (with_reducible first | apply aX | apply aY | apply dA | apply kt))
 ((refine eK rfl bf rfl (bM.refl _) rfl rfl fb ?_))
 exact ⟨_, rfl, rfl, hv, fv, cv, b, S, .c (.slice none 0 0), hS, rfl, fun h => (by cases h), rfl, rfl⟩
theorem ZH {s : bA.aW an} (hd : s.dirty = false) (ar : s.fnd = []) (ak : j8 s.ch) : fT E r rm 179 [] s ly (if (bc s.ch).length < 2 then fl s 4 0 0 else fl s 3 0 1) := by
 obtain ⟨ph, I, J, T, dirty, hot, fnd, ch⟩ := s;obtain rfl : dirty = false := hd;obtain rfl : fnd = [] := ar;have ak : j8 ch := ak;rintro cs R ⟨hv, fv, cv, b, S, lk, hS, cR, fR, rfl, rfl⟩;have dc : (et E r rm ph I J T false hv fv cv b lk).all AC.bb = true := by simp only [j3, mw, cR]; rfl
 have aM := C7 (E := E) (k := r) (rm := rm) (ph := ph) (I := I) (J := J) (T := T) (dirty := false) (hv := hv) (fv := fv) (cv := cv) (b := b) cR 3 1;have bU := SM (ch := ch) ak.2 ak.1;have e8 := NC (E := E) (r := r) (rm := rm) (s := ⟨3, 0, 1, 0, false, hot, [], ch⟩) rfl rfl;simp only;have Mt := aag (bc ch);have cO := Uo ch;have hS : sM rm hot (dR b) S := hS;generalize iH : bc ch = L at *
 by_cases h2 : L.length < 2
 ·rw [if_pos h2];have wI : (1 : Int) ≥ (L.length : Int) := by omega
  refine dh (f := 179) Tryz.func179 rfl (de rfl) (by exact ej rfl) ?_;(repeat first | (with_reducible first | apply bd | apply a8) | (with_reducible apply aN); exact rfl; (repeat first | (with_reducible apply aA); exact rfl); (with_reducible apply aB));refine jX 1000 rfl rfl rfl rfl aM rfl rfl dc rfl rfl ?_;(repeat first | (with_reducible first | apply bd | apply aX | apply a8 | apply aY) | (with_reducible apply aN); exact rfl; (repeat first | (with_reducible apply aA); exact rfl | (with_reducible apply c3); (iterate 3 exact rfl)); (with_reducible apply aB));refine MW 3 9 (by decide) rfl rfl rfl rfl bU rfl (jd _) (fun y ah => ct.1 cO y ah) rfl rfl (fun v q h => ?_) (fun q h => ?_)
  ·obtain ⟨rfl, h⟩ := h;rw [h]; exact ⟨rfl, Mt⟩
  obtain ⟨_, h⟩ := h;rw [h];(repeat first | (with_reducible apply ey); kernel_rfl | (with_reducible apply dT (id := 2) [0,1,2,3,4,5,6,7,8,9,10]); kernel_rfl; kernel_rfl; exact rfl | (with_reducible first | apply bd | apply aX | apply a8 | apply aY) | (with_reducible apply eu); exact rfl; (exact bG (by omega)) | (with_reducible apply aN); exact rfl; (repeat first | (with_reducible apply aA); exact rfl | (with_reducible apply c3); (iterate 3 exact rfl) | (with_reducible apply db); (iterate 3 exact rfl)); (with_reducible apply aB));refine hV rfl rfl rfl rfl rfl rfl rfl rfl e8 ⟨hv, fv, cv, b, S, .p (cB 4 L.length (mj L)), hS, rfl, fun _ => by rw [iH], rfl, rfl⟩ (fun au az ck => ?_);(repeat first | with_reducible apply aY);obtain ⟨b8, c4, cU, bO, da, gJ, fk, gS, ic, rfl, rfl⟩ := id ck
  ((refine eK rfl bf rfl (bM.refl _) ck.closed rfl fb ?_))
  exact ⟨_, rfl, rfl, ck⟩
 ·rw [if_neg h2];have wI : ¬ (1 : Int) ≥ (L.length : Int) := by omega
  refine dh (f := 179) Tryz.func179 rfl (de rfl) (by exact ej rfl) ?_;(repeat first | (with_reducible first | apply bd | apply a8) | (with_reducible apply aN); exact rfl; (repeat first | (with_reducible apply aA); exact rfl); (with_reducible apply aB));refine jX 1000 rfl rfl rfl rfl aM rfl rfl dc rfl rfl ?_;(repeat first | (with_reducible first | apply bd | apply aX | apply a8 | apply aY) | (with_reducible apply aN); exact rfl; (repeat first | (with_reducible apply aA); exact rfl | (with_reducible apply c3); (iterate 3 exact rfl)); (with_reducible apply aB));refine MW 3 9 (by decide) rfl rfl rfl rfl bU rfl (jd _) (fun y ah => ct.1 cO y ah) rfl rfl (fun v q h => ?_) (fun q h => ?_)
  ·obtain ⟨rfl, h⟩ := h;rw [h]; exact ⟨rfl, Mt⟩
  obtain ⟨_, h⟩ := h;rw [h];(repeat first | (with_reducible apply ey); kernel_rfl | (with_reducible apply dT (id := 2) [0,1,2,3,4,5,6,7,8,9,10]); kernel_rfl; kernel_rfl; exact rfl | (with_reducible first | apply bd | apply aX | apply aY | apply dm) | (with_reducible apply c8); exact rfl; (exact b3 (by omega)) | (with_reducible apply aN); exact rfl; (repeat first | (with_reducible apply aA); exact rfl | (with_reducible apply c3); (iterate 3 exact rfl) | (with_reducible apply db); (iterate 3 exact rfl)); (with_reducible apply aB))
  ((refine eK rfl bf rfl (bM.refl _) rfl rfl fb ?_))
  exact ⟨_, rfl, rfl, hv, fv, cv, b, S, .p (cB 4 L.length (mj L)), hS, rfl, fun _ => by show _ = AC.p (cB 4 (bc ch).length (mj (bc ch))); rw [iH], rfl, rfl⟩
def SC (E : List (Int × b9)) (r rm : Nat) (s : bA.aW an) (hv fv cv : Value) (b : Nat) (S : e2) (lk : AC) (n : Nat) (R : aJ) (aS : List (Nat × aj)) (bF : List (Nat × List AC)) : Prop :=
 ∃ (I J : Nat), I < s.ch.length ∧ n = s.ch.length - I ∧ lX s = lX { s with I := I, J := J } ∧ J ≤ 1100 ∧ R = dH b S hv fv cv s.hot [] s.ch ∧ aS = [(0, qX), (2, .w (.one (.own 1000 1)))] ∧ bF = [(1000, et E r rm s.ph I J s.T false hv fv cv b lk)]
theorem aek {s : bA.aW an} {I J : Nat} {V : List an} {D : List Int} (h : s.ch[I]? = some (V, D)) : lX ({ s with I := I, J := J } : bA.aW an) = if J + 1 < V.length then ({ s with I := I, J := J } : bA.aW an) else lX ({ s with I := I + 1, J := 0 } : bA.aW an) := by
 have ao := (bX.1 h).1;unfold lX;have e : s.ch.drop I = (V, D) :: s.ch.drop (I + 1) := by rw [mV ao, (bX.1 h).2]
 simp only [e, ub]
 by_cases ae : J + 1 < V.length
 ·rw [if_pos ae, if_pos ae]
 ·rw [if_neg ae, if_neg ae]; rfl
theorem ael {s : bA.aW an} (h : s.ch.length ≤ s.I) : lX s = if (bc s.ch).length < 2 then fl s 4 0 0 else fl s 3 0 1 := by
 unfold lX;rw [List.drop_eq_nil_of_le h];rfl
theorem ND {s : bA.aW an} (hd : s.dirty = false) (ar : s.fnd = []) (ak : j8 s.ch) (br : s.I < s.ch.length) (kg : s.J ≤ 1100) (gU : s.ph = 2) : fT E r rm 124 [] s ly (lX s) := by
 rintro cs R ⟨hv, fv, cv, b, S, lk, hS, cR, fR, rfl, rfl⟩;rw [hd, ar];have dc : ∀ I J : Int, (et E r rm s.ph I J s.T false hv fv cv b lk).all AC.bb = true := fun I J => by simp only [j3, mw, cR]; rfl
 refine dh (f := 124) Tryz.func124 rfl (de rfl) (by exact ej rfl) ?_;(repeat first | (with_reducible first | apply bd | apply aX | apply a8 | apply aY | apply fZ) | (with_reducible apply aN); exact rfl; (repeat first | (with_reducible apply aA); exact rfl | (with_reducible apply c3); (iterate 3 exact rfl)); (with_reducible apply aB));refine mx 46 (SC E r rm s hv fv cv b S lk) (s.ch.length - s.I) (dH b S hv fv cv s.hot [] s.ch) _ [(1000, et E r rm s.ph s.I s.J s.T false hv fv cv b lk)] ⟨s.I, s.J, br, rfl, rfl, kg, rfl, rfl, rfl⟩ (bM.refl _) rfl ⟨rfl, rfl, trivial⟩ ⟨rfl, trivial⟩ ?_ ?_
 ·cases lk <;> first | rfl | cases cR
 rintro n R aS bF ⟨I, J, WT, rfl, Hd, WV, rfl, rfl, rfl⟩ ee;clear ee;obtain ⟨V, D, g1⟩ : ∃ V D, s.ch[I]? = some (V, D) := ⟨_, _, cp WT⟩;obtain ⟨jU, hB⟩ := ak.2 _ (dG g1);have hlen := ak.1;simp only at jU hB;obtain ⟨j9, na⟩ := BM (ii := (I : Int)) rfl g1;have zj := aek (s := s) (J := J) g1;have cY : (0 : Int) ≤ (I : Int) := by omega
 have q1 : (I : Int) < (s.ch.length : Int) := by omega
 have q2 : 0 < s.ch.length := by omega
 by_cases ae : J + 1 < V.length
 ·have jV : ¬ (J : Int) ≥ (D.length : Int) := by omega
  rw [if_pos ae] at zj;(repeat first | (with_reducible apply ey); kernel_rfl | (with_reducible apply dT (id := 1) [0,1,2,3,4,5,6,7,8,9,10,11,12,13,14,15,16]); kernel_rfl; kernel_rfl; exact rfl | (with_reducible first | apply bd | apply aX | apply kX | apply kZ | apply kY) | (with_reducible apply c8); exact rfl; (exact b3 (by omega)) | (with_reducible apply aN); exact rfl; (repeat first | (with_reducible apply aA); exact rfl | (with_reducible apply c3); (iterate 3 exact rfl) | (with_reducible apply db); (iterate 3 exact rfl)); (with_reducible apply aB) | (with_reducible apply jy 3); (iterate 4 exact rfl); (omega); (assumption); exact rfl; kernel_rfl; exact rfl | (with_reducible apply zb 3); (iterate 3 exact rfl); (assumption); kernel_rfl; exact rfl | (with_reducible apply zc 3); (iterate 3 exact rfl); (assumption); assumption; exact rfl; kernel_rfl; exact rfl)
  ((refine eK rfl bf rfl (bM.refl _) (dc _ _) rfl fb ?_))
  refine ⟨_, rfl, rfl, hv, fv, cv, b, S, lk, ?_⟩;rw [Hd, zj];exact ⟨hS, cR, fR, by rw [hd], by rw [ar]⟩
 ·have jV : (J : Int) ≥ (D.length : Int) := by omega
  rw [if_neg ae] at zj
  by_cases ao : I + 1 = s.ch.length
  ·have hD : (I : Int) + 1 = (s.ch.length : Int) := by omega
   have e8 := ZH (E := E) (r := r) (rm := rm) (s := { s with I := I + 1, J := 0 }) hd ar ak;have Yu := ael (s := { s with I := I + 1, J := 0 }) (by show s.ch.length ≤ I + 1; omega);rw [← Yu] at e8;(repeat first | (with_reducible apply ey); kernel_rfl | (with_reducible apply dT (id := 1) [0,1,2,3,4,5,6,7,8,9,10,11,12,13,14,15,16]); kernel_rfl; kernel_rfl; exact rfl | (with_reducible apply dT (id := 3) [0,1,2,3,4,5,6,7,8,9]); kernel_rfl; kernel_rfl; exact rfl | (with_reducible first | apply bd | apply aX | apply a8 | apply aY | apply dm | apply fZ) | (with_reducible apply eu); exact rfl; (exact bG (by omega)) | (with_reducible apply aN); exact rfl; (repeat first | (with_reducible apply aA); exact rfl | (with_reducible apply c3); (iterate 3 exact rfl) | (with_reducible apply fe); (iterate 3 exact rfl); (exact cX (by omega)); exact rfl | (with_reducible apply db); (iterate 3 exact rfl)); (with_reducible apply aB) | (with_reducible apply nA 3); (iterate 4 exact rfl); kernel_rfl; exact rfl | (with_reducible apply jy 3); (iterate 4 exact rfl); (omega); (assumption); exact rfl; kernel_rfl; exact rfl | (with_reducible apply zb 3); (iterate 3 exact rfl); (assumption); kernel_rfl; exact rfl | (with_reducible apply zc 3); (iterate 3 exact rfl); (assumption); assumption; exact rfl; kernel_rfl; exact rfl);refine hV rfl rfl rfl rfl rfl rfl rfl rfl e8 ⟨hv, fv, cv, b, S, lk, hS, cR, fR, by rw [hd]; rfl, by rw [ar]⟩ (fun au az ck => ?_);(repeat first | (with_reducible first | apply aX | apply aY | apply dA | apply kt | apply adz));obtain ⟨b8, c4, cU, bO, da, gJ, fk, gS, ic, rfl, rfl⟩ := id ck
   ((refine eK rfl bf rfl (bM.refl _) ck.closed rfl fb ?_))
   refine ⟨_, rfl, rfl, ?_⟩;rw [Hd, zj];exact ck
  ·have hD : ¬ (I : Int) + 1 = (s.ch.length : Int) := by omega
   (repeat first | (with_reducible apply ey); kernel_rfl | (with_reducible apply dT (id := 1) [0,1,2,3,4,5,6,7,8,9,10,11,12,13,14,15,16]); kernel_rfl; kernel_rfl; exact rfl | (with_reducible apply dT (id := 3) [0,1,2,3,4,5,6,7,8,9]); kernel_rfl; kernel_rfl; exact rfl | (with_reducible first | apply bd | apply aX | apply a8 | apply aY | apply dm | apply fZ | apply ls) | (with_reducible apply eu); exact rfl; (exact bG (by omega)) | (with_reducible apply c8); exact rfl; (exact b3 (by omega)) | (with_reducible apply aN); exact rfl; (repeat first | (with_reducible apply aA); exact rfl | (with_reducible apply c3); (iterate 3 exact rfl) | (with_reducible apply fe); (iterate 3 exact rfl); (exact cX (by omega)); exact rfl | (with_reducible apply db); (iterate 3 exact rfl)); (with_reducible apply aB) | (with_reducible apply nA 3); (iterate 4 exact rfl); kernel_rfl; exact rfl | (with_reducible apply jy 3); (iterate 4 exact rfl); (omega); (assumption); exact rfl; kernel_rfl; exact rfl | (with_reducible apply zb 3); (iterate 3 exact rfl); (assumption); kernel_rfl; exact rfl | (with_reducible apply zc 3); (iterate 3 exact rfl); (assumption); assumption; exact rfl; kernel_rfl; exact rfl);refine ⟨s.ch.length - (I + 1), dH b S hv fv cv s.hot [] s.ch, _, [(1000, et E r rm s.ph (I + 1 : Nat) (0 : Nat) s.T false hv fv cv b lk)], by omega, ⟨I + 1, 0, by omega, rfl, by rw [Hd, zj], by omega, rfl, rfl, rfl⟩, bM.refl _, rfl, ⟨rfl, rfl, trivial⟩, ⟨rfl, trivial⟩, ?_⟩;cases lk <;> first | rfl | cases cR
end
end Go.Proofs.YtpochbhajmbfdaaGreat
