/-
  My own texts, without what this claim does not need. My own text.
-/
import Derived.Shelf.Spec.SlicesInsert
import Derived.Lib.AppendZerosOnto
import Derived.Test.YtbcecodakfejaaaGreatSChainsK11
set_option maxRecDepth 100000
set_option maxHeartbeats 64000000
set_option linter.unusedVariables false
set_option linter.unusedSimpArgs false
set_option linter.unusedSectionVars false
open Go.Proofs.Tryz renaming prog → ag
namespace Go.Proofs.YtbcecodakfejaaaGreat
open Go.RowKit Go.Lib
section
variable {P : Program}
theorem D2 (w : World) (s3 Ak ty elem : TypeId) (g o qy yu z : Nat) (a : Addr) (rk Aj : Nat) (cur : Array Value) (t : TypeId) (cs : List Value)
  (hu : P.underlying s3 = some (.slice elem)) (hs : (P.info? elem).map (·.size) = some z)
  (aq : w.heap[g]? = some (.cells cur t (0, 0))) (ax : cs.length = Nat.min rk qy * z)
  (Hj : ∀ j v, cs[j]? = some v → w.cell? (a.add j) = some v) (wN : o + cs.length ≤ cur.size) (h1 : ∀ v ∈ cs, v.oneCell' = true) :
  (Builtin.copy_ #[s3, Ak] ty #[.slice (some ⟨g, o, none⟩) qy yu, .slice (some a) rk Aj]).run P w =
   .ok (goInt (Nat.min rk qy)) (w.setRow g (cur.toList.take o ++ cs ++ cur.toList.drop (o + cs.length)).toArray) := by
 have ak := run_loadCells_list (P := P) w a cs Hj;have iz := run_storeCells_at P g o t cs 0 cur w aq (by simpa using wN) h1;cases an : P.info? elem with
 | none => simp [an] at hs
 | some i =>
  have hi : i.size = z := by simpa [an] using hs
  simp [Builtin.copy_, run_underlying hu, Builtin.lenOf, Builtin.firstCells, sizeOf, typeInfo, an, hi, ← ax, ak, iz]
end
theorem Lu {w : World} {a : Addr} {v : Value} (h : w.cell? a = some v) : ∃ t k, w.shape? a.block = some (t, k) ∧ k ≠ 0 := by
 unfold World.cell? at h;unfold World.shape?;cases ab : w.heap[a.block]? with
 | none => rw [ab] at h; cases h
 | some o =>
  rw [ab] at h;cases o with
  | cells c t yE =>
   refine ⟨t, c.size, rfl, fun e => ?_⟩;simp only at h
   split at h
   ·cases h
   ·have := (jU.1 h).1; omega
  | _ => cases h
theorem afH {P : Program} (w : World) (Aq Sf e : TypeId) (aB : P.underlying Aq = some (.slice e)) (size : Nat) (aN : ∀ w, (Go.sizeOf e).run P w = .ok size w)
  (a b : Addr) (qT jC HJ Ls : Nat) (bU : a.block ≠ b.block) (v : Value) (aJ : w.cell? a = some v) (cur : Array Value) (Se : TypeId) (ab : w.heap[b.block]? = some (.cells cur Se (0, 0))) (al : cur.size ≠ 0) :
  (Extern.SlicesOverlaps.overlaps #[Aq, Aq] #[Sf] #[.slice (some a) qT jC, .slice (some b) HJ Ls]).run P w = .ok (.bool false) w := by
 obtain ⟨ajC, CS, Zr, aiI⟩ := Lu aJ;have Zs : w.shape? b.block = some (Se, cur.size) := by unfold World.shape?; rw [ab]
 have Nh : ∀ x : Addr, x.block = b.block → w.frozen? x = false := fun x aa => by unfold World.frozen?; rw [aa, ab]; simp
 have Y2 : (a.block != b.block) = true := by simpa using bU
 have Y3 : (a.block == b.block) = false := by simpa using bU
 have f1 := Nh b rfl;have f2 := Nh { block := b.block, off := cur.size } rfl
 have key : ∀ (m : Sem Value), m = Extern.SlicesOverlaps.overlaps #[Aq, Aq] #[Sf] #[.slice (some a) qT jC, .slice (some b) HJ Ls] → m.run P w = .ok (.bool false) w := by
  intro m hm
  conv at hm => rhs; whnf
  subst hm;have lO : ∀ {α β : Type} (x : Sem α) (f : α → Sem β), x.bind f = x >>= f := fun _ _ => rfl;have rK : ∀ {α : Type} (x : α), Sem.pure x = (pure x : Sem α) := fun _ => rfl;have W5 : ∀ {α : Type} (f : Program → Sem α), (Sem.program f).run P w = (f P).run P w := fun _ => rfl;rw [W5];simp only [lO, rK, Sem.run_bind, Sem.run_pure, Result.andThen_ok, List.getElem_toArray, List.getElem_cons_zero, aB]
  by_cases az : qT = 0 ∨ HJ = 0 ∨ size = 0
  ·simp [aN, az]
  ·obtain ⟨CS, rfl⟩ : ∃ k, CS = k + 1 := ⟨CS - 1, by omega⟩;generalize cur.size = HA at *;obtain ⟨HA, rfl⟩ : ∃ k, HA = k + 1 := ⟨HA - 1, by omega⟩
   cases Yz : w.frozen? a <;> cases YB : w.frozen? { block := a.block, off := CS + 1 } <;>
    simp [aN, az, Y2, Y3, frozen, noView, viewAt, mayBeOne, stringish, shape, Sem.run, Zr, Zs, f1, f2, Yz, YB]
 exact key _ rfl
theorem Z1 (cur news : List Value) {i n cap : Nat} (hi : i < n) (k1 : n + 1 ≤ cap) (al : cur.length = cap * 3) (gU : news.length = 3) :
  let c1 := cur.take ((i + 1) * 3) ++ (cur.drop (i * 3)).take ((n - i) * 3) ++ cur.drop ((i + 1) * 3 + ((cur.drop (i * 3)).take ((n - i) * 3)).length)
  let c2 := c1.take (i * 3) ++ news ++ c1.drop (i * 3 + news.length)
  c1.length = cap * 3 ∧ c2.length = cap * 3 ∧ c2.take ((n + 1) * 3) = (cur.take (n * 3)).take (i * 3) ++ news ++ (cur.take (n * 3)).drop (i * 3) := by
 have cq : ((cur.drop (i * 3)).take ((n - i) * 3)).length = (n - i) * 3 := by rw [dX, h0]; omega
 intro c1 c2;have aF : c1.length = cap * 3 := by simp only [c1, cF, dX, h0, cq]; omega
 have aP : c2.length = cap * 3 := by simp only [c2, cF, dX, h0, aF, gU]; omega
 have g1 : ∀ j, c1[j]? = if j < (i + 1) * 3 then cur[j]? else if j < (n + 1) * 3 then cur[j - 3]? else cur[j]? := fun j => by
  simp only [c1];have t1 : (cur.take ((i + 1) * 3)).length = (i + 1) * 3 := by rw [dX]; omega
  by_cases q1 : j < (i + 1) * 3
  ·rw [if_pos q1, im, gl (by omega), fw q1]
  ·rw [if_neg q1]
   by_cases q2 : j < (n + 1) * 3
   ·rw [if_pos q2, gl (by rw [cF]; omega), gL (by omega), fw (by omega), fP, t1];congr 1; omega
   ·rw [if_neg q2, gL (by rw [cF]; omega), fP, cF, t1, cq];congr 1; omega
 refine ⟨aF, aP, ?_⟩;have t2 : (c1.take (i * 3)).length = i * 3 := by rw [dX]; omega
 have t3 : ((cur.take (n * 3)).take (i * 3)).length = i * 3 := by rw [dX, dX]; omega
 apply List.ext_getElem?;intro j
 by_cases c0 : j < (n + 1) * 3
 ·rw [fw c0];simp only [c2]
  by_cases q1 : j < i * 3
  ·rw [im, gl (by omega), fw q1, g1, if_pos (by omega), im, gl (by omega), fw q1, fw (by omega)]
  ·by_cases q2 : j < (i + 1) * 3
   ·rw [im, gL (by omega), gl (by omega), im, gL (by omega), gl (by omega), t2, t3]
   ·rw [gL (by rw [cF]; omega), fP, g1, gL (by rw [cF]; omega), fP, cF, cF, t2, t3, gU, if_neg (by omega), if_pos (by omega), fw (by omega)];congr 1; omega
 ·rw [l7 (by rw [dX]; omega), l7];simp only [cF, t3, gU, h0, dX];omega
section
variable (W : World) (g n cap i : Nat) (cur : Array Value) (news : List Value) (vb : Addr) (qd : Nat)
theorem Z3 (aq : W.heap[g]? = some (.cells cur 214 (0, 0))) (hi : i < n) (k1 : n + 1 ≤ cap) (Yf : cap ≤ 9223372036854775807) (eu : cur.size = cap * 3) (n0 : ∀ v ∈ cur.toList.take (n * 3), v.oneCell' = true)
  (gU : news.length = 3) (k0 : ∀ j v, news[j]? = some v → W.cell? (vb.add j) = some v) (h1 : ∀ v ∈ news, v.oneCell' = true) (bU : vb.block ≠ g) :
  Calls ag 160 #[.slice (some ⟨g, 0, none⟩) n cap, .int .i64 i, .slice (some vb) 1 qd] W fun e bf =>
   e = .returned (.slice (some ⟨g, 0, none⟩) (n + 1) cap) ∧ ∃ nT : Array Value, bf = W.drew.setRow g nT ∧ nT.size = cap * 3 ∧ nT.toList.take ((n + 1) * 3) = (cur.toList.take (n * 3)).take (i * 3) ++ news ++ (cur.toList.take (n * 3)).drop (i * 3) := by
 obtain ⟨eE, z, hu, e3, hE, hB, kY, oM, bF⟩ := rj (P := ag) (tt := 134) (e := 214) (sz := 3) (bytes := 24) (by kernel_rfl);have y9 : (ag.info? 214).map (·.size) = some 3 := by rw [e3]; simp [hB]
 have kd : ¬ ((i : Int) = (n : Int)) := by omega
 have Hn : IntKind.i64.wrap ((i : Int) + 1) = (i : Int) + 1 := by rw [IntKind.wrap_i64]; omega
 have Ho : IntKind.i64.wrap ((n : Int) + 1) = (n : Int) + 1 := by rw [IntKind.wrap_i64]; omega
 have dj : (0 : Int) ≤ (i : Int) + 1 := by omega
 have fD : i ≤ n := by omega
 have dk : ¬ (cap = i + 1) := by omega
 have Gy : (i : Int) ≤ (n : Int) + 1 := by omega
 have uT : ¬ (cap = i) := by omega
 have Zd : (callFunc 183 #[.slice (some vb) 1 qd, .slice (some ⟨g, (i + 1) * 3, none⟩) (n - i) (cap - (i + 1))]).run ag W = .ok (.value (.bool false)) W := by
  rw [run_callFunc_extern Tryz.func183 (by kernel_rfl) (by kernel_rfl) (by kernel_rfl) (e := Extern.SlicesOverlaps.overlaps #[134, 134] #[4]) (by kernel_rfl),
   afH W _ _ 214 hu 3 (fun w => by rw [hK e3, hB]) vb ⟨g, (i + 1) * 3, none⟩ 1 qd _ _ bU news[0] (by have := k0 0 news[0] (bJ (by omega)); rwa [show vb.add 0 = vb from by unfold Addr.add; split <;> simp_all] at this) cur _ aq (by omega)]
  rfl
 obtain ⟨bn, bY, fW⟩ := Z1 cur.toList news hi k1 (by simpa using eu) gU;generalize iR : (cur.toList.drop (i * 3)).take ((n - i) * 3) = dp at *;have cC : dp.length = (n - i) * 3 := by rw [← iR, dX, h0, Array.length_toList]; omega
 have Yj : ∀ ty jl vD, (Builtin.copy_ #[134, 134] ty #[.slice (some ⟨g, (i + 1) * 3, none⟩) (n - i) jl, .slice (some ⟨g, i * 3, none⟩) (n + 1 - i) vD]).run ag W.drew = .ok (goInt ((n - i : Nat) : Int)) (W.drew.setRow g (cur.toList.take ((i + 1) * 3) ++ dp ++ cur.toList.drop ((i + 1) * 3 + dp.length)).toArray) := fun ty jl vD => by
  have hm : Nat.min (n + 1 - i) (n - i) = n - i := Nat.min_eq_right (by omega);have := D2 (P := ag) W.drew 134 134 ty 214 g ((i + 1) * 3) (n - i) jl 3 ⟨g, i * 3, none⟩ (n + 1 - i) vD cur 214 dp hu y9 aq (by rw [hm, cC]) (fun j v ae => ?_) (by rw [cC]; omega) (fun v hv => ?_)
  ·rw [hm] at this; exact this
  ·rw [Addr.add_lit];have ak : j < (n - i) * 3 := by rw [← cC]; exact (bA.1 ae).1
   rw [← iR, fw ak, fP] at ae;show (W.drew.cell? _) = _;unfold World.cell?;rw [show W.drew.heap[(⟨g, i * 3 + j, none⟩ : Addr).block]? = some (.cells cur 214 (0, 0)) from aq];simpa using ae
  ·refine n0 v ?_;obtain ⟨j, ae⟩ := jR hv;have ak : j < (n - i) * 3 := by rw [← cC]; exact (bA.1 ae).1
   rw [← iR, fw ak, fP] at ae;exact cV (i := i * 3 + j) (by rw [fw (by omega)]; exact ae)
 generalize gd : cur.toList.take ((i + 1) * 3) ++ dp ++ cur.toList.drop ((i + 1) * 3 + dp.length) = c1 at *;have rY := setRow_heap W.drew g cur c1.toArray _ (0, 0) aq
 have Yk : ∀ ty jl, (Builtin.copy_ #[134, 134] ty #[.slice (some ⟨g, i * 3, none⟩) (n + 1 - i) jl, .slice (some vb) 1 qd]).run ag (W.drew.setRow g c1.toArray) = .ok (goInt ((1 : Nat) : Int)) ((W.drew.setRow g c1.toArray).setRow g (c1.take (i * 3) ++ news ++ c1.drop (i * 3 + news.length)).toArray) := fun ty jl => by
  have hm : Nat.min 1 (n + 1 - i) = 1 := o7 (by omega);have := D2 (P := ag) (W.drew.setRow g c1.toArray) 134 134 ty 214 g (i * 3) (n + 1 - i) jl 3 vb 1 qd c1.toArray 214 news hu y9 rY (by rw [hm, gU]) (fun j v ae => ?_) (by rw [gU]; simp [bn]; omega) h1
  ·rw [hm] at this; simpa using this
  rw [← k0 j v ae];refine World.cell?_of_block (w := W) ?_;show (World.setRow _ _ _).heap[(vb.add j).block]? = _;rw [block_add];simp only [World.setRow, tU];rw [if_neg (fun e => bU e.symm)];rfl
 generalize fT : c1.take (i * 3) ++ news ++ c1.drop (i * 3 + news.length) = c2 at *;clear aq iR gd fT n0 k0 h1 rY e3 hE
 go_enter Tryz.func160, Tryz.ntmps160
 go_wp2_with (simp only [Zd])
 have mixed : ag.follows .mixedOrders = true := by kernel_rfl
 go_region_law_o (refine step_copy_runI rfl _ _ 134 134 rfl _ _ (by simp [Act.eval, Act.put]) (by simp [Act.eval, Act.put]) (Yj _ _ _) ?_)
 go_wp2_with (at_builtin; refine wpList_copy_runI _ rfl _ _ 134 134 rfl _ _ rfl rfl (Yk _ _) ?_)
 go_ret
 exact ⟨rfl, c2.toArray, setRow_setRow _ _ _ _, by simpa using bY, by simpa using fW⟩
theorem Z2 (R xs news : List Value) {i n G : Nat} (hi : i < n) (qF : n + 1 ≤ G) (aw : R.length = G * 3) (aa : xs.length = n * 3) (yK : R.take (i * 3) = xs.take (i * 3)) (gU : news.length = 3) :
  let c1 := R.take (i * 3) ++ news ++ R.drop (i * 3 + news.length)
  let c2 := c1.take ((i + 1) * 3) ++ xs.drop (i * 3) ++ c1.drop ((i + 1) * 3 + (xs.drop (i * 3)).length)
  c1.length = G * 3 ∧ c2.length = G * 3 ∧ c2.take ((n + 1) * 3) = xs.take (i * 3) ++ news ++ xs.drop (i * 3) := by
 have t1 : (xs.take (i * 3)).length = i * 3 := by rw [dX]; omega
 have t2 : (xs.drop (i * 3)).length = (n - i) * 3 := by rw [h0]; omega
 intro c1 c2;have aF : c1.length = G * 3 := by simp only [c1, yK, cF, t1, h0, aw, gU]; omega
 have cr : c1.take ((i + 1) * 3) = xs.take (i * 3) ++ news := by
  simp only [c1, yK];rw [zW (by rw [cF, t1, gU]; omega), gn (by rw [cF, t1, gU]; omega)]
 have aP : c2.length = G * 3 := by simp only [c2, cr, cF, t1, t2, h0, aF, gU]; omega
 refine ⟨aF, aP, ?_⟩;simp only [c2, cr];rw [zW (by simp only [cF, t1, t2, gU]; omega), gn (by simp only [cF, t1, t2, gU]; omega)]
theorem Z0 (xs : List Value) (aq : W.heap[g]? = some (.cells cur 214 (0, 0))) (CE : cur.toList.take (n * 3) = xs) (oK : xs.length = n * 3) (hi : i < n) (eO : n ≤ cap) (k1 : cap < n + 1) (pI : (n + 1) * 24 ≤ 140737488355328) (n0 : ∀ v ∈ xs, v.oneCell' = true)
  (gU : news.length = 3) (k0 : ∀ j v, news[j]? = some v → W.cell? (vb.add j) = some v) (h1 : ∀ v ∈ news, v.oneCell' = true) :
  Calls ag 160 #[.slice (some ⟨g, 0, none⟩) n cap, .int .i64 i, .slice (some vb) 1 qd] W fun e bf =>
   ∃ G nT o, e = .returned (.slice (some ⟨W.heap.size, 0, none⟩) (n + 1) G) ∧ bf.heap = ((W.alloc o).setRow W.heap.size nT).heap ∧ bf.os = W.os ∧ bf.tape = W.tape ∧ bf.output = W.output ∧ (∃ gQ, o = .cells gQ 214 (0, 0)) ∧ n + 1 ≤ G ∧ G ≤ maxLen ∧ nT.size = G * 3 ∧ nT.toList.take ((n + 1) * 3) = xs.take (i * 3) ++ news ++ xs.drop (i * 3) := by
 obtain ⟨eE, z, hu, e3, hE, hB, kY, oM, bF⟩ := rj (P := ag) (tt := 134) (e := 214) (sz := 3) (bytes := 24) (by kernel_rfl);have y9 : (ag.info? 214).map (·.size) = some 3 := by rw [e3]; simp [hB]
 have jq : ∀ j v, xs[j]? = some v → W.cell? ⟨g, j, none⟩ = some v := fun j v ae => by
  have ak : j < n * 3 := by rw [← oK]; exact (bA.1 ae).1
  rw [← CE, fw ak] at ae;unfold World.cell?;rw [show W.heap[(⟨g, j, none⟩ : Addr).block]? = some (.cells cur 214 (0, 0)) from aq];simpa using ae
 have Nl : g < W.heap.size := (jU.1 aq).1
 have mv : vb.block < W.heap.size := by
  have := k0 0 news[0] (bJ (by omega));obtain ⟨t, k, h, _⟩ := Lu this;rw [block_add] at h;unfold World.shape? at h;cases an : W.heap[vb.block]? with
  | none => rw [an] at h; cases h
  | some o => exact (jU.1 an).1
 have kd : ¬ ((i : Int) = (n : Int)) := by omega
 have aiX : (cap : Int) < (n : Int) + 1 := by omega
 have Hn : IntKind.i64.wrap ((i : Int) + 1) = (i : Int) + 1 := by rw [IntKind.wrap_i64]; omega
 have Ho : IntKind.i64.wrap ((n : Int) + 1) = (n : Int) + 1 := by rw [IntKind.wrap_i64]; omega
 have oG : (n : Int) + 1 - (i : Int) = ((n + 1 - i : Nat) : Int) := by omega
 have NZ : IntKind.i64.wrap ((n : Int) + 1 - (i : Int)) = (n : Int) + 1 - (i : Int) := by rw [IntKind.wrap_i64]; omega
 have GO : i + (n + 1 - i) = n + 1 := by omega
 have hold : (Builtin.firstCells eE.size i (.slice (some ⟨g, 0, none⟩) i cap)).run ag W.drew = .ok (xs.take (i * 3)).toArray W.drew := by
  rw [hB]
  exact run_firstCells_some W.drew 3 i ⟨g, 0, none⟩ i cap (xs.take (i * 3)) (by rw [dX]; omega) (fun j v ae => by
   rw [Addr.add_lit, je];rw [List.getElem?_take] at ae
   split at ae
   ·exact jq j v ae
   ·cases ae)
 obtain ⟨G, qF⟩ : ∃ G, G = grownCap W (n + 1) cap 214 := ⟨_, rfl⟩;have MU : n + 1 ≤ G := by rw [qF]; exact grownCap_ge W _ _ _
 have MT : G ≤ maxLen := by rw [qF]; exact grownCap_le_maxLen W (n + 1) cap _ (by unfold maxLen; omega)
 have aiv : G ≤ 9223372036854775807 := by unfold maxLen at MT; omega
 obtain ⟨ml, B3⟩ : ∃ ml : Array Value, ml = (xs.take (i * 3)).toArray ++ Builtin.zeroCells z.cells (n + 1 - i) ++ Builtin.zeroCells z.cells (G - (n + 1)) := ⟨_, rfl⟩
 have Hc : ∀ ty, (Builtin.append_ #[134, 3] ty #[.slice (some ⟨g, 0, none⟩) i cap, .int .i64 ((n : Int) + 1 - (i : Int))]).run ag W =
   .ok (.slice (some ⟨W.heap.size, 0, none⟩) (n + 1) G) (W.drew.alloc (.cells ml 214)) := fun ty => by
  have h := Lib.run_append_grow_zeros W 134 3 ty 214 eE z .i64 .i64 hu Tryz.underlying3 e3 hE (some ⟨g, 0, none⟩) i cap _ hold (n + 1 - i) (by omega) (by omega) (by omega) (by omega) (by rw [kY]; omega) (by rw [kY, GO]; exact growslice_fits k1 pI);rw [GO, ← qF, ← B3] at h;rw [oG];exact h
 have M2 : ml.size = G * 3 := by
  rw [B3];simp [Builtin.zeroCells, oM, dX];omega
 have yK : ml.toList.take (i * 3) = xs.take (i * 3) := by
  rw [B3, Array.toList_append, Array.toList_append, im, zW (by simp [dX]; omega), gn (by simp [dX]; omega)]
 obtain ⟨bn, bY, fW⟩ := Z2 ml.toList xs news hi MU (by simpa using M2) oK yK gU;generalize Cc : xs.drop (i * 3) = BB at *;have Ca : BB.length = (n - i) * 3 := by rw [← Cc, h0]; omega
 obtain ⟨N, ey⟩ : ∃ N, N = W.heap.size := ⟨_, rfl⟩;obtain ⟨hQ, rN⟩ : ∃ hQ, hQ = W.drew.alloc (.cells ml 214) := ⟨_, rfl⟩;have Gn : hQ.heap[N]? = some (.cells ml 214 (0, 0)) := by rw [rN, ey]; show (W.heap.push _)[W.heap.size]? = _; simp
 have Gp : ∀ b, b < W.heap.size → hQ.heap[b]? = W.heap[b]? := fun b ab => by rw [rN]; show (W.heap.push _)[b]? = _; rw [Array.getElem?_push_lt ab, Array.getElem?_eq_getElem ab]
 generalize gd : ml.toList.take (i * 3) ++ news ++ ml.toList.drop (i * 3 + news.length) = c1 at *
 have Yl : ∀ mn : World, mn.heap = hQ.heap → ∀ ty jl, (Builtin.copy_ #[134, 134] ty #[.slice (some ⟨N, i * 3, none⟩) (n + 1 - i) jl, .slice (some vb) 1 qd]).run ag mn = .ok (goInt ((1 : Nat) : Int)) (mn.setRow N c1.toArray) := fun mn dV ty jl => by
  have hm : Nat.min 1 (n + 1 - i) = 1 := o7 (by omega);have := D2 (P := ag) mn 134 134 ty 214 N (i * 3) (n + 1 - i) jl 3 vb 1 qd ml 214 news hu y9 (by rw [dV]; exact Gn) (by rw [hm, gU]) (fun j v ae => ?_) (by rw [gU, M2]; omega) h1
  ·rw [hm, gd] at this; exact this
  ·rw [← k0 j v ae];refine World.cell?_of_block (w := W) ?_;rw [block_add, dV, Gp _ mv]
 generalize fT : c1.take ((i + 1) * 3) ++ BB ++ c1.drop ((i + 1) * 3 + BB.length) = c2 at *;have YI : g ≠ N := by omega
 have Ym : ∀ mn : World, mn.heap = (hQ.setRow N c1.toArray).heap → ∀ ty jl vD, (Builtin.copy_ #[134, 134] ty #[.slice (some ⟨N, (i + 1) * 3, none⟩) (n - i) jl, .slice (some ⟨g, i * 3, none⟩) (n - i) vD]).run ag mn = .ok (goInt ((n - i : Nat) : Int)) (mn.setRow N c2.toArray) := fun mn dV ty jl vD => by
  have hm : Nat.min (n - i) (n - i) = n - i := Nat.min_self _;have := D2 (P := ag) mn 134 134 ty 214 N ((i + 1) * 3) (n - i) jl 3 ⟨g, i * 3, none⟩ (n - i) vD c1.toArray 214 BB hu y9 (by rw [dV]; exact setRow_heap hQ N ml _ _ (0, 0) Gn) (by rw [hm, Ca]) (fun j v ae => ?_) (by rw [Ca]; simp [bn]; omega) (fun v hv => n0 v (by rw [← Cc] at hv; exact mJ hv))
  ·rw [hm] at this; simpa [fT] using this
  ·rw [Addr.add_lit];rw [← Cc, fP] at ae;rw [← jq _ v ae];refine World.cell?_of_block (w := W) ?_;rw [dV];simp only [World.setRow, tU];rw [if_neg (fun e => YI e.symm), Gp _ Nl]
 rw [← rN] at Hc;rw [← ey] at Hc ⊢;have fin : ∀ mn : World, mn.heap = hQ.heap → mn.heap = (W.alloc (.cells ml 214)).heap := fun mn h => by rw [h, rN]; rfl
 have dj : (0 : Int) ≤ (i : Int) + 1 := by omega
 have fD : i ≤ n := by omega
 have aiy : ¬ (G = i) := by omega
 have aix : ¬ (G = i + 1) := by omega
 have Gy : (i : Int) ≤ (n : Int) + 1 := by omega
 have uT : ¬ (cap = i) := by omega
 have Y9 : hQ.os = W.os := by rw [rN]; rfl
 have Zv : hQ.tape = W.tape := by rw [rN]; rfl
 have Zc : hQ.output = W.output := by rw [rN]; rfl
 have YM : hQ.heap = (W.alloc (.cells ml 214)).heap := by rw [rN]; rfl
 have mixed : ag.follows .mixedOrders = true := by kernel_rfl
 clear aq CE oK k0 h1 n0 e3 hE hold qF B3 yK Cc rN Gn Gp gd fT jq oG GO fin ey Nl mv
 go_enter Tryz.func160, Tryz.ntmps160
 go_wp2_with (first
  | (at_builtin; refine Lib.wpList_append_run _ rfl _ _ _ _ rfl _ _ rfl rfl _ _ (Hc _) ?_)
  | (at_builtin; refine wpList_copy_runI _ rfl _ _ 134 134 rfl _ _ rfl rfl (Yl _ rfl _ _) ?_))
 go_region_law_o (refine step_copy_runI rfl _ _ 134 134 rfl (.slice (some ⟨N, (i + 1) * 3, none⟩) (n - i) (G - (i + 1))) (.slice (some ⟨g, i * 3, none⟩) (n - i) (cap - i)) (by simp [Act.eval, Act.put]) (by simp [Act.eval, Act.put]) (Ym (hQ.setRow N c1.toArray).drew rfl 3 (G - (i + 1)) (cap - i)) ?_)
 go_wp2
 go_ret
 refine ⟨G, c2.toArray, .cells ml 214 (0, 0), rfl, ?_, Y9, Zv, Zc, ⟨_, rfl⟩, MU, MT, by simpa using bY, by simpa using fW⟩;show ((hQ.setRow N c1.toArray).setRow N c2.toArray).heap = _;rw [setRow_setRow];simp only [World.setRow, YM]
end
theorem ZZ (W : World) (v : Value) (n : Nat) (xs news : List Value) (vb : Addr) (qd : Nat) (cD : W.ownsRow 0 214 3 v n xs) (pI : (n + 1) * 24 ≤ 140737488355328)
  (gU : news.length = 3) (k0 : ∀ j v, news[j]? = some v → W.cell? (vb.add j) = some v) (h1 : ∀ v ∈ news, v.oneCell' = true) :
  Calls ag 160 #[v, .int .i64 n, .slice (some vb) 1 qd] W fun e bf =>
   ∃ v', e = .returned v' ∧ bf.ownsRow 0 214 3 v' (n + 1) (xs ++ news) ∧ W.grownBy bf v.ownBlock ∧ (∀ g, v'.ownBlock = some g → v.ownBlock = some g ∨ W.heap.size ≤ g) ∧ v'.oneCell' = true := by
 obtain ⟨eE, z, hu, e3, hE, hB, kY, oM, bF⟩ := rj (P := ag) (tt := 134) (e := 214) (sz := 3) (bytes := 24) (by kernel_rfl);obtain ⟨v', w', ap, q⟩ := RR (P := ag) W 0 134 134 214 eE z 3 24 hu e3 hE hB kY oM bF v n xs cD vb 1 qd news (by rw [gU]) k0 h1 (by unfold maxLen; omega) pI (dx _) (by decide);rcases cD.2 with ⟨rfl, rfl⟩ | ⟨g, cap, cur, rfl, qH, aq, eO, iS, eu, n3⟩
 ·clear e3 hE cD k0
  go_enter Tryz.func160, Tryz.ntmps160
  go_wp2_with (at_builtin; refine Lib.wpList_append_run _ rfl _ _ _ _ rfl _ _ rfl rfl _ _ ap ?_)
  go_ret
  exact ⟨v', rfl, q⟩
 ·have Yf : cap ≤ 9223372036854775807 := by unfold maxLen at iS; omega
  clear e3 hE cD k0 aq eu n3 iS
  go_enter Tryz.func160, Tryz.ntmps160
  go_wp2_with (at_builtin; refine Lib.wpList_append_run _ rfl _ _ _ _ rfl _ _ rfl rfl _ _ ap ?_)
  all_goals go_ret
  all_goals exact ⟨v', rfl, q⟩
theorem Mc : ∀ (l : List du) (i : Nat), (ee l).take (i * 3) = ee (l.take i)
 | [], i => by simp [ee]
 | e :: l, 0 => by simp [ee]
 | e :: l, i + 1 => by
  rw [show (i + 1) * 3 = i * 3 + 1 + 1 + 1 by omega];simp only [ee, List.take_succ_cons, Mc l i]
theorem Ma : ∀ (l : List du) (i : Nat), (ee l).drop (i * 3) = ee (l.drop i)
 | [], i => by simp [ee]
 | e :: l, 0 => by simp
 | e :: l, i + 1 => by
  rw [show (i + 1) * 3 = i * 3 + 1 + 1 + 1 by omega];simp only [ee, List.drop_succ_cons, Ma l i]
theorem bL.take {U : Nat → Prop} {ad : Nat → Nat} {W : World} {xs : List AC} {vs : List Value} (h : bL U ad W xs vs) (k : Nat) : bL U ad W (xs.take k) (vs.take k) := by
 have := h.sub 0 k;simpa using this
theorem bL.drop {U : Nat → Prop} {ad : Nat → Nat} {W : World} {xs : List AC} {vs : List Value} (h : bL U ad W xs vs) (k : Nat) : bL U ad W (xs.drop k) (vs.drop k) := by
 refine ⟨by rw [h0, h0, h.1], fun i x v aa hv => ?_⟩;rw [fP] at aa hv;exact h.2 _ x v aa hv
theorem bL.zO {U : Nat → Prop} {ad : Nat → Nat} {W : World} {xs : List AC} {vs : List Value} (h : bL U ad W xs vs) : ∀ v ∈ vs, v.oneCell' = true := fun v hv => by
 obtain ⟨j, ae⟩ := jR hv;have bb : j < xs.length := by rw [h.1]; exact (bA.1 ae).1
 exact (h.2 j _ v (bJ bb) ae).cell
theorem acI {W : World} {b e sz n : Nat} {v : Value} {xs : List Value} (h : W.ownsRow b e sz v n xs) : v.oneCell' = true := by
 rcases h.2 with ⟨rfl, _⟩ | ⟨g, cap, cur, rfl, _⟩ <;> rfl
abbrev r7 (l : List du) (i : Nat) (e : du) : List du := l.take i ++ e :: l.drop i
theorem ZX {l : List du} {i : Nat} {e : du} (hi : i ≤ l.length) : (r7 l i e).length = l.length + 1 := by
 unfold r7; rw [cF, jQ, dX, h0]; omega
theorem ZY {U : Nat → Prop} {ad : Nat → Nat} {W : World} {l : List du} {xs news : List Value} {e : du} (i : Nat) (h : bL U ad W (ee l) xs) (ax : bL U ad W (ee [e]) news) : bL U ad W (ee (r7 l i e)) (xs.take (i * 3) ++ news ++ xs.drop (i * 3)) := by
 have : ee (r7 l i e) = (ee l).take (i * 3) ++ ee [e] ++ (ee l).drop (i * 3) := by
  rw [Mc, Ma, ← yw, ← yw, im]; rfl
 rw [this];exact ((h.take _).append ax).append (h.drop _)
theorem L8 : ∀ (l : List du) (y : AC), y ∈ ee l → ∃ u, y = .c u
 | [], y, h => by cases h
 | e :: l, y, h => by
  simp only [ee, gj] at h;rcases h with h | h | h | h
  ·exact ⟨_, h⟩
  ·exact ⟨_, h⟩
  ·exact ⟨_, h⟩
  ·exact L8 l y h
theorem WQ {U cw : Nat → Prop} {ad a7 : Nat → Nat} {W bf : World} {l : List du} {vs : List Value} (h : bL U ad W (ee l) vs) : bL cw a7 bf (ee l) vs := by
 refine ⟨h.1, fun i x v aa hv => ?_⟩;have := h.2 i x v aa hv;obtain ⟨u, rfl⟩ := L8 l x (cV aa);exact this
theorem VG {l : List du} {v : Value} {i : Nat} {x y w : Int} (hi : i ≤ l.length) (ak : l.length ≤ 1000000) :
  x2 ag 160 [aQ v, aE i, cM 3 1 [.c (.int .i64 x), .c (.int .i64 y), .c (.int .i64 w)]] (gZ v l) fun bW aV => ∃ v', v'.oneCell' = true ∧ bW = aQ v' ∧ aV = gZ v' (r7 l i (x, y, w)) := by
 refine ae0 rfl (jw _) (fun bW aV ⟨v', _, _, e⟩ => by rw [e]; exact jw _) ?_;intro U W vs xs aA jK cC u2 cK;obtain ⟨hlen, hv⟩ := cK
 match vs, hlen with
 | [a, b, c], _ =>
  have cq : a = v := (hv 0 _ a rfl rfl).1;have aF : b = .int .i64 i := (hv 1 _ b rfl rfl).1;obtain ⟨⟨A, dp, aP, gd, fT, Yc⟩, YG⟩ := hv 2 _ c rfl rfl;obtain ⟨vb, news, rfl, gF⟩ := Yc (by decide);subst cq aF aP;have gU : news.length = 3 := gF.oi.1.symm;have qO : bL U id W (ee [(x, y, w)]) news := WQ (U := fun _ => True) (ad := id) (W := W) gF.oi;have pP := ZY i jK qO;have nY : (r7 l i (x, y, w)).length = l.length + 1 := ZX hi;have oK : xs.length = l.length * 3 := aA.1;have ZA : U vb.block := YG _ ⟨dp, vb, rfl, by decide, .inl rfl⟩;have rP : ∀ q ∈ ee (r7 l i (x, y, w)), q.aY = true := fun q an => b6.1 (L9 _) q an
  have fin : ∀ (e : Ending) (bf : World) (v' : Value), e = .returned v' → bf.ownsRow 0 214 3 v' (l.length + 1) (xs.take (i * 3) ++ news ++ xs.drop (i * 3)) → W.grownBy bf a.ownBlock → (∀ g, v'.ownBlock = some g → a.ownBlock = some g ∨ W.heap.size ≤ g) →
    ∃ u bW aV, e = .returned u ∧ (∃ v', v'.oneCell' = true ∧ bW = aQ v' ∧ aV = gZ v' (r7 l i (x, y, w))) ∧ Ka W bf (gZ a l) aV U ∧ cX U id W bW u ∧ bW.aY = true := by
   rintro e bf v' rfl h1 h2 ao;have Gb := acI h1;refine ⟨v', _, _, rfl, ⟨v', Gb, rfl, rfl⟩, ⟨h2, ⟨_, ?_, pP⟩, rP, ao⟩, ⟨rfl, Gb⟩, rfl⟩;show bf.ownsRow 0 214 3 v' (r7 l i (x, y, w)).length _;rw [nY]; exact h1
  by_cases rQ : i = l.length
  ·subst rQ;refine (ZZ W a l.length xs news vb dp aA (by omega) gU gF.at_ qO.zO).mono ?_;rintro e bf ⟨v', rfl, h1, h2, ao, _⟩;refine fin _ _ v' rfl ?_ h2 ao;rw [gn (by omega), tW (by omega), p0];exact h1
  ·have bb : i < l.length := by omega
   obtain ⟨g, cap, cur, rfl, qH, aq, eO, iS, eu, n3⟩ : ∃ g cap cur, a = .slice (some ⟨g, 0, none⟩) l.length cap ∧ 0 ≤ g ∧ W.heap[g]? = some (.cells cur 214 (0, 0)) ∧ l.length ≤ cap ∧ cap ≤ maxLen ∧ cur.size = cap * 3 ∧ cur.toList.take (l.length * 3) = xs := by
    rcases aA.2 with ⟨_, az⟩ | h
    ·have : l.length = 0 := az;omega
    ·exact h
   have YK : vb.block ≠ g := fun e => u2 g rfl (by rw [← e]; exact ZA)
   by_cases k1 : l.length + 1 ≤ cap
   ·refine (Z3 W g l.length cap i cur news vb dp aq bb k1 (by unfold maxLen at iS; omega) eu (by rw [n3]; exact jK.zO) gU gF.at_ qO.zO YK).mono ?_;rintro e bf ⟨rfl, nT, rfl, bn, bY⟩;rw [n3] at bY;have aR := setRow_heap W.drew g cur nT _ (0, 0) aq;refine fin _ _ _ rfl ⟨?_, .inr ⟨g, cap, nT, rfl, dx _, aR, k1, iS, bn, bY⟩⟩ ⟨rfl, rfl, rfl, by (show W.heap.size ≤ (Array.modify W.heap g _).size; rw [Array.size_modify]; exact dE _), fun k _ af => ?_⟩ fun jn dW => .inl dW
    ·simp only [cF, dX, h0, gU]; omega
    ·show (Array.modify W.heap g _)[k]? = _;rw [tU];rw [if_neg (fun e => af (by rw [e]; rfl))]
   ·refine (Z0 W g l.length cap i cur news vb dp xs aq n3 oK bb eO (by omega) (by omega) jK.zO gU gF.at_ qO.zO).mono ?_;rintro e bf ⟨G, nT, o, rfl, q1, q2, bR, dD, ⟨gQ, rfl⟩, bn, bY, fW, iX⟩;have y1 : (W.alloc (.cells gQ 214 (0, 0))).heap[W.heap.size]? = some (.cells gQ 214 (0, 0)) := by show (W.heap.push _)[W.heap.size]? = _; simp
    have aR := setRow_heap _ W.heap.size gQ nT _ (0, 0) y1;rw [← q1] at aR;refine fin _ _ _ rfl ⟨?_, .inr ⟨W.heap.size, G, nT, rfl, dx _, aR, bn, bY, fW, iX⟩⟩ ⟨q2, bR, dD, ?_, fun k af _ => ?_⟩ fun jn dW => .inr (by simp [Value.ownBlock] at dW; omega)
    ·simp only [cF, dX, h0, gU]; omega
    ·rw [q1];show W.heap.size ≤ (Array.modify (W.heap.push _) _ _).size;rw [Array.size_modify, Array.size_push]; omega
    ·rw [q1];simp only [World.setRow, tU];rw [if_neg (by omega)];show (W.heap.push _)[k]? = _;rw [Array.getElem?_push_lt af, Array.getElem?_eq_getElem af]
end Go.Proofs.YtbcecodakfejaaaGreat
namespace Go.Proofs.YtbcecodakfejaaaGreat
open Go.RowKit
theorem aek {x y a b : Int} : l0 x y a b < 0 ↔ lZ x y a b = true := by
 rw [oW];unfold l0 cj
 split <;> split <;> first | omega | (split <;> omega)
theorem aej {x y a b : Int} : l0 x y a b = 0 ↔ x = a ∧ y = b := by
 unfold l0 cj
 split <;> split <;> first | omega | (split <;> omega)
theorem Qy {x y v a b : Int} : aH ag 181 [.w (.agg [.c (.int .i64 x), .c (.int .i64 y), .c (.int .i64 v)]), aZ a b] (aE (l0 x y a b)) := by
 have aW := adK (x := x) (y := y) (x' := a) (y' := b);refine bl (f := 181) Tryz.func181 rfl rfl rfl rfl ?_;(refine cc ?_)
 ((refine bd rfl (a8 rfl aL) ?_))
 exact ah.aS.refl _
abbrev Ss : ah := aQ (.func (.func 181) #[] #[])
def SP (l : List du) (v : Value) (a b : Int) (n : Nat) (R : aI) (aM : List (Nat × ah)) (bi : List (Nat × List AC)) : Prop :=
 ∃ (lo hi : Nat) (k3 ae : Int), lo ≤ e5 l a b ∧ e5 l a b ≤ hi ∧ hi ≤ l.length ∧ n = hi - lo ∧ k3 = lo ∧ ae = hi ∧ R = bt 0 (gZ v l) ∧ bi = [(4, kC a b)] ∧ aM = [(0, aQ v), (2, Ss), (4, jZ 4), (8, aE l.length), (9, aE k3), (10, aE ae)]
theorem VH {l : List du} {v : Value} {a b : Int} (ap : j5 l) (ak : l.length ≤ 1000000) :
  x2 ag 180 [aQ v, aZ a b, Ss] (gZ v l) fun bW aV => bW = .cn [.one (.c (.int .i64 (e5 l a b))), .one (.c (.bool (hz l a b)))] ∧ aV = gZ v l := by
 refine aeZ rfl (fun v aV h => by rw [h.1]; rfl) ?_;refine dt (f := 180) Tryz.func180 rfl (dl rfl) (by exact nQ) ?_;(repeat first | refine cu ?_ | (with_reducible apply lr 0); (iterate 4 rfl); kernel_rfl; rfl);refine jW 49 (SP l v a b) l.length (bt 0 (gZ v l)) _ [(4, kC a b)] ⟨0, l.length, 0, l.length, dx _, QQ l a b, dE _, rfl, rfl, rfl, rfl, rfl, rfl⟩ (bz.refl _) rfl ⟨rfl, rfl, rfl, rfl, rfl, rfl, trivial⟩ ⟨rfl, trivial⟩ rfl ?_;rintro n R aM bi ⟨lo, hi, k3, ae, h1, h2, ao, rfl, aD, cm, rfl, rfl, rfl⟩ cT;clear cT
 by_cases an : lo < hi
 ·subst aD cm;have q2 : (lo : Int) < (hi : Int) := by omega
  obtain ⟨h, aR⟩ : ∃ h, h = (lo + hi) / 2 := ⟨_, rfl⟩;have aF : ((lo : Int) + (hi : Int)) / 2 = (h : Int) := by omega
  have YN : h < l.length := by omega
  obtain ⟨x, y, w, g1⟩ : ∃ x y w, l[h]? = some (x, y, w) := ⟨_, _, _, bJ YN⟩;have l4 : 0 < l.length := by omega
  have iK : (((lo : Int) + (hi : Int)) / 2).toNat * 3 + 3 ≤ (ee l).length ∧ ((ee l).drop ((((lo : Int) + (hi : Int)) / 2).toNat * 3)).take 3 = [.c (.int .i64 x), .c (.int .i64 y), .c (.int .i64 w)] := ⟨by rw [yx]; omega, Md aF g1⟩;have hQ : IntKind.i64.wrap ((lo : Int) + hi) = (lo : Int) + hi := mw (by omega);have ahD : IntKind.u64.wrap ((lo : Int) + hi) = (lo : Int) + hi := by rw [IntKind.wrap_u64]; omega
  have aW := Qy (x := x) (y := y) (v := w) (a := a) (b := b);have ko : h < e5 l a b ↔ l0 x y a b < 0 := (xm ap a b h (x, y, w) g1).trans aek.symm;generalize l0 x y a b = c at *;have DO : ((lo : Int) + (hi : Int)) / 2 < (l.length : Int) := by omega
  clear g1
  replace aF := Lib.hid aF
  replace aR := Lib.hid aR
  by_cases al : c < 0
  ·(repeat first | (with_reducible apply cQ (id := 5) [0,1,2,3,4,5,6,7]); kernel_rfl; kernel_rfl; rfl | refine cu ?_ | refine iJ ?_ | (with_reducible apply ib 0); (iterate 4 rfl); (omega); (assumption); rfl; kernel_rfl; rfl | (with_reducible apply ls 0); (iterate 3 rfl); (assumption); assumption; rfl; kernel_rfl; rfl);have aR := aR.out;have aF := aF.out;refine ⟨hi - (h + 1), bt 0 (gZ v l), _, [(4, kC a b)], by omega, ⟨h + 1, hi, _, hi, ko.2 al, h2, ao, rfl, ?_, rfl, rfl, rfl, rfl⟩, bz.refl _, rfl, ⟨rfl, rfl, rfl, rfl, rfl, rfl, trivial⟩, ⟨rfl, trivial⟩, rfl⟩;omega
  ·have iM : e5 l a b ≤ h := by have := mt ko.1 al; omega
   (repeat first | (with_reducible apply cQ (id := 5) [0,1,2,3,4,5,6,7]); kernel_rfl; kernel_rfl; rfl | refine cu ?_ | refine iJ ?_ | (with_reducible apply ib 0); (iterate 4 rfl); (omega); (assumption); rfl; kernel_rfl; rfl | (with_reducible apply ls 0); (iterate 3 rfl); (assumption); assumption; rfl; kernel_rfl; rfl);have aR := aR.out;have aF := aF.out;refine ⟨h - lo, bt 0 (gZ v l), _, [(4, kC a b)], by omega, ⟨lo, h, lo, _, h1, iM, by omega, rfl, rfl, aF, rfl, rfl, rfl⟩, bz.refl _, rfl, ⟨rfl, rfl, rfl, rfl, rfl, rfl, trivial⟩, ⟨rfl, trivial⟩, rfl⟩
 ·have cq : lo = e5 l a b := by omega
  subst cq;have q2 : ¬ k3 < ae := by omega
  clear cm an h2 ao h1;generalize hp : e5 l a b = p at *
  by_cases ax : p < l.length
  ·subst aD;have bR : (p : Int) < (l.length : Int) := by omega
   have l4 : 0 < l.length := by omega
   obtain ⟨x, y, w, g1⟩ : ∃ x y w, l[p]? = some (x, y, w) := ⟨_, _, _, bJ ax⟩;have iK : ((p : Int)).toNat * 3 + 3 ≤ (ee l).length ∧ ((ee l).drop (((p : Int)).toNat * 3)).take 3 = [.c (.int .i64 x), .c (.int .i64 y), .c (.int .i64 w)] := ⟨by rw [yx]; omega, Md rfl g1⟩;have aW := Qy (x := x) (y := y) (v := w) (a := a) (b := b)
   have ko : hz l a b = decide (l0 x y a b = 0) := by
    rw [nx, B6 ap, hp, g1, decide_eq_true_iff, aej]
    constructor
    ·rintro ⟨u, hu⟩; cases hu; exact ⟨rfl, rfl⟩
    ·rintro ⟨rfl, rfl⟩; exact ⟨w, rfl⟩
   generalize l0 x y a b = c at *;(repeat first | (with_reducible apply cQ (id := 8) [0,1,2,3,4,5,6,7,8,9,10,11,12,13,14,15]); kernel_rfl; kernel_rfl; rfl | refine cu ?_ | (with_reducible apply gf); rfl; (repeat first | refine gP ?_ | refine fi ?_ | (with_reducible apply cg (c := true)); rfl; rfl; (exact bZ (by omega))); (with_reducible apply fL) | (with_reducible apply ib 0); (iterate 4 rfl); (omega); (assumption); rfl; kernel_rfl; rfl | (with_reducible apply ls 0); (iterate 3 rfl); (assumption); assumption; rfl; kernel_rfl; rfl)
   ((refine Ni rfl (a8 rfl (a8 rfl aL)) rfl rfl ?_))
   exact ⟨by rw [ko]; rfl, rfl⟩
  ·subst aD;have bR : ¬ (p : Int) < (l.length : Int) := by omega
   have ko : hz l a b = false := by
    cases aR : hz l a b with
    | false => rfl
    | true =>
     obtain ⟨u, hu⟩ := (B6 ap).1 aR;rw [hp] at hu;have := (bA.1 hu).1;omega
   (repeat first | (with_reducible apply cQ (id := 8) [0,1,2,3,4,5,6,7,8,9,10,11,12,13,14,15]); kernel_rfl; kernel_rfl; rfl | refine cu ?_ | (with_reducible apply gf); rfl; (repeat first | refine gP ?_ | (with_reducible apply cg (c := false)); rfl; rfl; (exact cp (by omega))); (with_reducible apply fL))
   ((refine Ni rfl (a8 rfl (a8 rfl aL)) rfl rfl ?_))
   exact ⟨by rw [ko]; rfl, rfl⟩
theorem agv {l : List du} {p : Nat} {x y u w : Int} (hu : l[p]? = some (x, y, u)) : eD (ee l) ((p : Int).toNat * 3 + 2) [.c (.int .i64 w)] = ee (l.take p ++ (x, y, w) :: l.drop (p + 1)) := by
 have bb := (bA.1 hu).1;have he := (bA.1 hu).2
 have aF : l = l.take p ++ (x, y, u) :: l.drop (p + 1) := by
  conv => lhs; rw [← ju p l, mG bb, he]
 have t1 : (ee (l.take p)).length = p * 3 := by rw [yx, dX]; omega
 rw [kH]
 conv => lhs; rw [aF]
 unfold eD;rw [yw, yw];simp only [ee];rw [List.take_append, List.drop_append, t1, show (ee (l.take p)).take (p * 3 + 2) = ee (l.take p) from gn (by omega), show (ee (l.take p)).drop (p * 3 + 2 + [AC.c (.int .i64 w)].length) = [] from tW (by rw [t1, List.length_singleton]; omega)];rw [show p * 3 + 2 - p * 3 = 2 by omega, show p * 3 + 2 + [AC.c (.int .i64 w)].length - p * 3 = 3 by simp; omega];simp
def S2 (n : Nat) : Prop := ∀ (u9 : Value) l v (x y w : Int), v.oneCell' = true → j5 l → l.length ≤ n → qn ag 142 [aZ x y, aE w] [.c v, .c u9] (gZ v l) fun r ar aV => r = bk (!hz l x y) ∧ ∃ v', v'.oneCell' = true ∧ ar = [.c v', .c u9] ∧ aV = gZ v' (sj l x y w)
def SY (n : Nat) : Prop := ∀ (u9 : Value) l v (x y : Int), v.oneCell' = true → j5 l → l.length ≤ n → qn ag 158 [aZ x y] [.c v, .c u9] (gZ v l) fun r ar aV => r = .cn [.one (.c (.int .i64 (oo l x y))), .one (.c (.bool (hz l x y)))] ∧ ar = [.c v, .c u9] ∧ aV = gZ v l
def SZ (n : Nat) : Prop := ∀ (u9 : Value) l v, v.oneCell' = true → j5 l → l.length ≤ n → qn ag 141 [] [.c v, .c u9] (gZ v l) fun r ar aV => r = aE l.length ∧ ar = [.c v, .c u9] ∧ aV = gZ v l
theorem Lp {u9 : Value} {l : List du} {v : Value} {a b : Int} (hv : v.oneCell' = true) (ap : j5 l) (ak : l.length ≤ 1000000) : qn ag 159 [aZ a b] [.c v, .c u9] (gZ v l) fun bW ar aV => bW = .cn [.one (.c (.int .i64 (e5 l a b))), .one (.c (.bool (hz l a b)))] ∧ ar = [.c v, .c u9] ∧ aV = gZ v l := by
 have aW := VH (v := v) (a := a) (b := b) ap ak;refine tH rfl rfl (fun v ar aV h => by obtain ⟨rfl, rfl, rfl⟩ := h; exact ⟨rfl, rfl⟩) ?_;refine dt (f := 159) Tryz.func159 rfl (dl rfl) (by exact eo rfl) ?_;(repeat first | (with_reducible apply k7 (id := 1) [0,1,2,3,4,5,6,7,8,9] [11]); kernel_rfl; kernel_rfl; rfl | refine cu ?_);refine NP 0 rfl rfl rfl rfl aW rfl rfl rfl (fun bW aV h => ?_);obtain ⟨rfl, rfl⟩ := h;(refine ba ?_)
 ((refine qL rfl (a8 rfl (a8 rfl aL)) rfl rfl rfl rfl ?_))
 exact ⟨rfl, rfl, rfl⟩
theorem aak : SZ 1100 := by
 intro u9 l v hv ap ak;refine tH rfl rfl (fun v ar aV h => by obtain ⟨rfl, rfl, rfl⟩ := h; exact ⟨rfl, rfl⟩) ?_;refine dt (f := 141) Tryz.func141 rfl (dl rfl) (by exact eo rfl) ?_;(repeat first | refine cu ?_ | (with_reducible apply lr 0); (iterate 4 rfl); kernel_rfl; rfl)
 ((refine qL rfl (a8 rfl aL) rfl rfl rfl rfl ?_))
 exact ⟨rfl, rfl, rfl⟩
theorem aaj : SY 1100 := by
 intro u9 l v x y hv ap ak;have aW := Lp (u9 := u9) (v := v) (a := x) (b := y) hv ap (by omega);have hp := B6 (l := l) ap (x := x) (y := y);refine tH rfl rfl (fun v ar aV h => by obtain ⟨rfl, rfl, rfl⟩ := h; exact ⟨rfl, rfl⟩) ?_;cases aR : hz l x y with
 | false =>
  rw [aR] at aW;rw [aha aR];refine dt (f := 158) Tryz.func158 rfl (dl rfl) (by exact eo rfl) ?_;(refine ba ?_);refine r0 1000 0 rfl rfl rfl rfl aW rfl rfl rfl rfl rfl rfl (fun r ar aV h => ?_);obtain ⟨rfl, rfl, rfl⟩ := h;(refine ba ?_)
  ((refine qL rfl (a8 rfl (a8 rfl aL)) rfl rfl rfl rfl ?_))
  exact ⟨rfl, rfl, rfl⟩
 | true =>
  rw [aR] at aW;obtain ⟨u, hu⟩ := hp.1 aR;rw [(ahb ap hu).2];have bb := (bA.1 hu).1;generalize e5 l x y = p at *;clear hp;have bR : (p : Int) < (l.length : Int) := by omega
  have l4 : 0 < l.length := by omega
  have iK : (ee l)[(p : Int).toNat * 3 + 2]? = some (.c (.int .i64 u)) := by
   have h1 := FN l p (x, y, u) hu;have h2 : ((((ee l).drop (p * 3)).take 3))[2]? = some (.c (.int .i64 u)) := by rw [h1]; rfl
   rw [fw (by decide), fP] at h2;exact h2
  refine dt (f := 158) Tryz.func158 rfl (dl rfl) (by exact eo rfl) ?_;(refine ba ?_);refine r0 1000 0 rfl rfl rfl rfl aW rfl rfl rfl rfl rfl rfl (fun r ar aV h => ?_);obtain ⟨rfl, rfl, rfl⟩ := h;(repeat first | refine cu ?_ | (with_reducible apply ib 0); (iterate 4 rfl); (omega); (assumption); rfl; kernel_rfl; rfl | (with_reducible apply rZ 0); (iterate 3 rfl); (assumption); kernel_rfl; rfl | (with_reducible apply za 0); (iterate 3 rfl); (assumption); assumption; rfl; kernel_rfl; rfl)
  ((refine qL rfl (a8 rfl (a8 rfl aL)) rfl rfl rfl rfl ?_))
  exact ⟨rfl, rfl, rfl⟩
theorem aao : S2 1100 := by
 intro u9 l v x y w hv ap ak;have aW := Lp (u9 := u9) (v := v) (a := x) (b := y) hv ap (by omega);have hp := B6 (l := l) ap (x := x) (y := y);have oI := QQ l x y;refine tH rfl rfl (fun v ar aV h => by obtain ⟨rfl, v', bQ, rfl, rfl⟩ := h; exact ⟨rfl, rfl⟩) ?_;cases aR : hz l x y with
 | false =>
  rw [aR] at aW;rw [Rc ap aR];have bH := VG (l := l) (v := v) (i := e5 l x y) (x := x) (y := y) (w := w) oI (by omega);generalize e5 l x y = p at *;clear hp;refine dt (f := 142) Tryz.func142 rfl (dl rfl) (by exact eo rfl) ?_;(refine ba ?_);refine r0 1000 0 rfl rfl rfl rfl aW rfl rfl rfl rfl rfl rfl (fun r ar aV h => ?_);obtain ⟨rfl, rfl, rfl⟩ := h;(repeat first | (with_reducible apply k7 (id := 5) [0,1,2,3,4,5,6,7,8,9,10,11,12,13] [34]); kernel_rfl; kernel_rfl; rfl | refine cu ?_);refine NP 0 rfl rfl rfl rfl bH rfl rfl rfl (fun bW aV h => ?_);obtain ⟨v', bQ, rfl, rfl⟩ := h;(refine ba ?_)
  ((refine qL rfl (a8 rfl aL) rfl rfl rfl rfl ?_))
  exact ⟨rfl, v', bQ, rfl, rfl⟩
 | true =>
  rw [aR] at aW;obtain ⟨u, hu⟩ := hp.1 aR;rw [aeE ap hu];have bb := (bA.1 hu).1;generalize e5 l x y = p at *;clear hp;have bR : (p : Int) < (l.length : Int) := by omega
  have l4 : 0 < l.length := by omega
  refine dt (f := 142) Tryz.func142 rfl (dl rfl) (by exact eo rfl) ?_;(refine ba ?_);refine r0 1000 0 rfl rfl rfl rfl aW rfl rfl rfl rfl rfl rfl (fun r ar aV h => ?_);obtain ⟨rfl, rfl, rfl⟩ := h;(repeat first | refine cu ?_ | (with_reducible apply ib 0); (iterate 4 rfl); (omega); (assumption); rfl; kernel_rfl; rfl | (with_reducible apply rZ 0); (iterate 3 rfl); (assumption); kernel_rfl; rfl);refine ze 0 rfl rfl rfl rfl l4 rfl rfl ?_ rfl ?_
  ·show (p : Int).toNat * 3 + 2 + 1 ≤ (ee l).length;rw [yx]; omega
  ·have aF := agv (w := w) hu
   have aP : (l.take p ++ (x, y, w) :: l.drop (p + 1)).length = l.length := by
    rw [cF, jQ, dX, h0]; omega
   have cr : (⟨214, 3, v, l.length, eD (ee l) ((p : Int).toNat * 3 + 2) [.c (.int .i64 w)]⟩ : bE) = gZ v (l.take p ++ (x, y, w) :: l.drop (p + 1)) := by
    rw [aF]; unfold gZ; rw [aP]
   (refine ba ?_)
   ((refine qL rfl (a8 rfl aL) rfl rfl rfl rfl ?_))
   exact ⟨rfl, v, hv, rfl, cr⟩
abbrev sB (v : Value) (r : Int) : List AC := [.c v, .c (.int .i64 r)]
def sQ : A4 := fun r L p S => ∃ (ad : Nat → Nat) (v : Value) (es : List du), p = eb (ad 1000) ∧ v.oneCell' = true ∧ nJ L es ∧ S = k8 ad (cG 1000 (sB v r)) (bt 0 (gZ v es)) 1000
theorem Mb : ∀ l, (ee l).all AC.vt = true
 | [] => rfl
 | p :: l => by
  have := Mb l;simp only [ee, jV, this]; rfl
theorem I5 (v : Value) (r : Int) (es : List du) : nv (cG 1000 (sB v r)) (bt 0 (gZ v es)) := by
 refine ⟨fun k cs h => ?_, fun i q h => ?_⟩
 ·obtain ⟨rfl, rfl⟩ := hG h; rfl
 ·obtain ⟨rfl, rfl⟩ := fI h; exact ⟨jw _, Mb es⟩
theorem O6 (k : Nat) (cs : List AC) : ∃ ds, cG k cs k = some ds := ⟨cs, by unfold cG; exact cl _ _ _⟩
theorem Q9 {b c : Nat} (h : eb b = eb c) : b = c := by cases h; rfl
theorem vG {r q : bE} : bG (bt 0 r) 0 q = bt 0 q := by
 funext i;unfold bt
 by_cases e : i = 0
 ·subst e; rw [cl, cl]
 ·rw [b9 _ _ e, b9 _ _ e, b9 _ _ e]
theorem Ox : S3 sQ := by
 intro r L b S h ak;obtain ⟨ad, v, es, hp, hv, bj, rfl⟩ := h;obtain rfl := Q9 hp;refine Sl (O6 _ _) rfl (Post := fun w m1 bh => w = aE r ∧ m1 = cG 1000 (sB v r) ∧ bh = bt 0 (gZ v es)) ?_ (fun w m1 bh h => ?_)
 ·refine dt (f := 52) Tryz.func52 rfl (dl rfl) (by exact eo rfl) ?_;(refine ba ?_)
  ((refine eN rfl (a8 rfl aL) rfl (bz.refl _) rfl rfl (fun i r h => ⟨r, h⟩) ?_))
  exact ⟨rfl, rfl, rfl⟩
 ·obtain ⟨rfl, rfl, rfl⟩ := h;exact ⟨rfl, I5 _ _ _, fun eT jr => ⟨rfl, eT, v, es, by rw [jr], hv, bj, rfl⟩⟩
theorem aam : S1 sQ := by
 intro n;refine agM (Post := fun w m1 bh => w = .w (.one (.own 7 0)) ∧ m1 = cG 7 (sB (.slice none 0 0) (lE n)) ∧ bh = bt 0 (gZ (.slice none 0 0) [])) ?_ (fun w m1 bh h => ?_)
 ·have e : lE n = if 1024 < if 1 > n then 1 else n then 1024 else if 1 > n then 1 else n := by unfold lE; (repeat split) <;> omega
  rw [e];refine dt (f := 50) Tryz.func50 rfl (dl rfl) (by exact nQ) ?_;refine mb 0 214 3 rfl ?_;(refine ba ?_)
  ((refine Ch 7 rfl (a8 rfl aL) rfl (bz.refl _) rfl rfl ?_))
  exact ⟨rfl, rfl, rfl⟩
 ·obtain ⟨rfl, rfl, rfl⟩ := h;refine ⟨7, rfl, ⟨fun k cs h => ?_, (I5 (.slice none 0 0) 0 []).2⟩, fun eT => ⟨eT 7, rfl, fun j => eT (swp 1000 7 j), .slice none 0 0, [], rfl, rfl, .nil, ?_⟩⟩
  ·obtain ⟨rfl, rfl⟩ := hG h; rfl
  ·have h1 := agO (mO 1000 7) (bV := fun j => j) (iu := fun j => j) (fun _ => rfl) (fun _ => rfl) (ad := eT) (m := cG 1000 (sB (.slice none 0 0) (lE n))) (R := bt 0 (gZ (.slice none 0 0) [])) (k := 1000);rw [vi rfl] at h1;exact h1
theorem aco {r : Int} {L : List aj} {v : Value} {es : List du} (x y : Int) (hv : v.oneCell' = true) (bj : nJ L es) (ak : L.length ≤ 1100) : qn ag 140 [aZ x y] (sB v r) (gZ v es) fun w ar aV => w = .cn [.one (.c (.int .i64 (oo es x y))), .one (.c (.bool (hz es x y)))] ∧ ar = sB v r ∧ aV = gZ v es := by
 have aW := aaj (.int .i64 r) es v x y hv bj.1 (by rw [bj.len]; exact ak);refine tH rfl rfl (fun v ar aV h => by obtain ⟨rfl, rfl, rfl⟩ := h; exact ⟨rfl, rfl⟩) ?_;generalize oo es x y = a at *;generalize hz es x y = c at *;refine dt (f := 140) Tryz.func140 rfl (dl rfl) (by exact eo rfl) ?_;(repeat first | (with_reducible apply k7 (id := 1) [0,1,2,3,4,5,6,7,8] [10]); kernel_rfl; kernel_rfl; rfl | refine cu ?_);refine He 1000 0 rfl rfl rfl rfl aW rfl (fun v ar aV h => h.2.1) rfl rfl rfl rfl (fun bW ar aV h => ?_);obtain ⟨rfl, rfl, rfl⟩ := h;(refine ba ?_)
 ((refine qL rfl (a8 rfl (a8 rfl aL)) rfl rfl rfl rfl ?_))
 exact ⟨rfl, rfl, rfl⟩
theorem afV {f : FuncId} {args : List ah} {r : Int} {L L' : List aj} {b : Nat} {S : e0} {post : ah → Prop} (eg : args.all ah.aY = true) (h : sQ r L (eb b) S)
  (al : ∀ v es, v.oneCell' = true → nJ L es → qn ag f args (sB v r) (gZ v es) fun w ar aV => w.aY = true ∧ post w ∧ ∃ v' uN, v'.oneCell' = true ∧ nJ L' uN ∧ ar = sB v' r ∧ aV = gZ v' uN) : x9 ag f (aQ (eb b) :: args) (eb b) S fun w dh => post w ∧ sQ r L' (eb b) dh := by
 obtain ⟨ad, v, es, hp, hv, bj, rfl⟩ := h;obtain rfl := Q9 hp;refine Sl (O6 _ _) eg (al v es hv bj 1000 0) (fun w m1 bh h => ?_);obtain ⟨ar, aV, rfl, rfl, hw, Zh, v', uN, bQ, b8, rfl, rfl⟩ := h;exact ⟨hw, I5 _ _ _, fun eT jr => ⟨Zh, eT, v', uN, by rw [jr], bQ, b8, rfl⟩⟩
abbrev ag6 (b : Bool) (e : Int) : ah := .cn [.one (.c (.bool b)), .one (.c (.int .i64 e))]
theorem aag : SV sQ := by
 intro r L b S x y h ak;refine afV (L' := qp r L x y) (post := fun w => w = ag6 (nM r L x y) (nN r L x y)) rfl h fun v es hv bj => ?_;have yR := bj.len;have ax := bj.num x y;have aW := aco (r := r) x y hv bj ak
 by_cases aR : 0 ≤ iB L x y
 ·obtain ⟨aF, aP, cr⟩ := Uh (r := r) aR;rw [aF, aP, cr];rw [ax.1, bZ aR] at aW;refine tH rfl rfl (fun w ar aV h => by obtain ⟨c1, _, v', uN, _, _, rfl, _⟩ := h; exact ⟨c1, rfl⟩) ?_;generalize oo es x y = a at *;refine dt (f := 121) Tryz.func121 rfl (dl rfl) (by exact eo rfl) ?_;(refine ba ?_);refine r0 1000 0 rfl rfl rfl rfl aW rfl rfl rfl rfl rfl rfl (fun bW ar aV h => ?_);obtain ⟨rfl, rfl, rfl⟩ := h;rw [vG];(refine ba ?_)
  ((refine qL rfl (a8 rfl (a8 rfl aL)) rfl rfl rfl rfl ?_))
  exact ⟨rfl, rfl, v, es, hv, bj, rfl, rfl⟩
 ·have au := ax.1;rw [cp aR] at au;rw [au] at aW;have bH := aak (.int .i64 r) es v hv bj.1 (by omega);rw [yR] at bH
  by_cases h2 : r ≤ (L.length : Int)
  ·obtain ⟨aF, aP, cr⟩ := Ug (r := r) aR h2;rw [aF, aP, cr];refine tH rfl rfl (fun w ar aV h => by obtain ⟨c1, _, v', uN, _, _, rfl, _⟩ := h; exact ⟨c1, rfl⟩) ?_;generalize oo es x y = a at *;have wD : (L.length : Int) ≥ r := h2;refine dt (f := 121) Tryz.func121 rfl (dl rfl) (by exact eo rfl) ?_;(refine ba ?_);refine r0 1000 0 rfl rfl rfl rfl aW rfl rfl rfl rfl rfl rfl (fun bW ar aV h => ?_);obtain ⟨rfl, rfl, rfl⟩ := h;rw [vG];(repeat first | (with_reducible apply k7 (id := 4) [0,1,2,4,5,6,7,3,8] [18]); kernel_rfl; kernel_rfl; rfl | refine cu ?_);refine He 1000 0 rfl rfl rfl rfl bH rfl (fun v ar aV h => h.2.1) rfl rfl rfl rfl (fun bW ar aV h => ?_);obtain ⟨rfl, rfl, rfl⟩ := h;rw [vG];(refine ba ?_)
   ((refine qL rfl (a8 rfl (a8 rfl aL)) rfl rfl rfl rfl ?_))
   exact ⟨rfl, rfl, v, es, hv, bj, rfl, rfl⟩
  ·obtain ⟨aF, aP, cr⟩ := Ui (r := r) aR h2;rw [aF, aP, cr];have b8 := bj.add aR;have eF := aao (.int .i64 r) es v x y L.length hv bj.1 (by omega);rw [au] at eF;refine tH rfl rfl (fun w ar aV h => by obtain ⟨c1, _, v', uN, _, _, rfl, _⟩ := h; exact ⟨c1, rfl⟩) ?_;generalize oo es x y = a at *;generalize sj es x y L.length = FP at *;have wD : ¬ (L.length : Int) ≥ r := h2;refine dt (f := 121) Tryz.func121 rfl (dl rfl) (by exact eo rfl) ?_;(refine ba ?_);refine r0 1000 0 rfl rfl rfl rfl aW rfl rfl rfl rfl rfl rfl (fun bW ar aV h => ?_);obtain ⟨rfl, rfl, rfl⟩ := h;rw [vG];(repeat first | (with_reducible apply k7 (id := 4) [0,1,2,4,5,6,7,3,8] [18]); kernel_rfl; kernel_rfl; rfl | refine cu ?_);refine He 1000 0 rfl rfl rfl rfl bH rfl (fun v ar aV h => h.2.1) rfl rfl rfl rfl (fun bW ar aV h => ?_);obtain ⟨rfl, rfl, rfl⟩ := h;rw [vG];(repeat first | (with_reducible apply k7 (id := 6) [0,1,2,3,4,5,6,7,8,9,10] [31,32,2001000]); kernel_rfl; kernel_rfl; rfl | refine cu ?_);refine r0 1000 0 rfl rfl rfl rfl bH rfl rfl rfl rfl rfl rfl (fun bW ar aV h => ?_);obtain ⟨rfl, rfl, rfl⟩ := h;rw [vG]
   skip
   refine r0 1000 0 rfl rfl rfl rfl eF rfl rfl rfl rfl rfl rfl (fun bW ar aV h => ?_);obtain ⟨rfl, v', bQ, rfl, rfl⟩ := h;rw [vG];(refine ba ?_)
   ((refine qL rfl (a8 rfl (a8 rfl aL)) rfl rfl rfl rfl ?_))
   exact ⟨rfl, rfl, v', FP, bQ, b8, rfl, rfl⟩
theorem Re (v : Value) (l : List aj) (p : aj) : iD v (l ++ [p]) = ⟨36, 2, v, l.length + 1, bD l ++ [.c (.int .i64 p.1), .c (.int .i64 p.2)]⟩ := by
 unfold iD; rw [← Hw, cF]; rfl
end Go.Proofs.YtbcecodakfejaaaGreat
namespace Go.Proofs.YtbcecodakfejaaaGreat
open Go.RowKit
open bq
abbrev qc (a b c d : Int) : ah := .w (.agg [.c (.int .i64 a), .c (.int .i64 b), .c (.int .i64 c), .c (.int .i64 d)])
def w8 (l : aj × aj) : List AC := [.c (.int .i64 l.1.1), .c (.int .i64 l.1.2), .c (.int .i64 l.2.1), .c (.int .i64 l.2.2)]
def mA (l : List (aj × aj)) : List AC := l.flatMap w8
theorem Oa {V : List aj} {j : Nat} {a b : Int} {ji : Int} (ae : ji = j) (h : V[j]? = some (a, b)) : ji < (V.length : Int) := by
 have := (bA.1 h).1; omega
theorem Qv {V : List aj} {D : List Int} {j : Nat} {a b c d : Int} (h1 : V[j]? = some (a, b)) (h2 : V[j + 1]? = some (c, d)) (ak : V.length ≤ 100000) : aH ag 96 [jz V D, aE j] (qc a b c d) := by
 obtain ⟨ji, ae⟩ : ∃ ji : Int, ji = j := ⟨_, rfl⟩;have q1 := Oa (ji := ji) ae h1;have q2 := Oa (ji := ji + 1) (j := j + 1) (by omega) h2;have c0 : 0 ≤ ji := by omega
 have bR : 0 ≤ ji + 1 := by omega
 have ab : ji ≤ 100000 := by omega
 have iK := lV ae h1;have uk := lV (j := ji + 1) (i := j + 1) (by omega) h2;rw [show aE (j : Int) = aE ji by rw [ae]];clear ae h1 h2 ak;refine bl (f := 96) Tryz.func96 rfl rfl rfl rfl ?_;(refine eS ?_)
 ((refine bd rfl (cL rfl rfl rfl aL) ?_))
 exact ah.aS.refl _
theorem DD {a b c d k A B C D : Int} (aW : aH ag 13 [aZ a b, aE k] (aZ A B)) (bH : aH ag 13 [aZ c d, aE k] (aZ C D)) : aH ag 102 [qc a b c d, aE k] (.cn [.agg [.c (.int .i64 A), .c (.int .i64 B)], .agg [.c (.int .i64 C), .c (.int .i64 D)]]) := by
 refine bl (f := 102) Tryz.func102 rfl rfl rfl rfl ?_;(refine cc ?_)
 ((refine bd rfl (cL rfl rfl rfl (cL rfl rfl rfl aL)) ?_))
 exact ah.aS.refl _
theorem ad1 {a b c d x y k A B C D : Int} {h r : Bool} (aW : aH ag 102 [qc a b c d, aE k] (.cn [.agg [.c (.int .i64 A), .c (.int .i64 B)], .agg [.c (.int .i64 C), .c (.int .i64 D)]])) (H1 : aH ag 131 [aZ A B, aZ C D, aZ x y, aE k] (bk h)) (aF : c7 x y a b = false → c7 x y c d = false → r = h) (aP : c7 x y a b = true → r = false) (cr : c7 x y c d = true → r = false) : aH ag 97 [qc a b c d, aZ x y, aE k] (bk r) := by
 cases q1 : c7 x y a b with
 | true =>
  rw [aP q1];refine bl (f := 97) Tryz.func97 rfl rfl rfl rfl ?_;(repeat first | refine eA ?_ | refine fi ?_ | (with_reducible apply cg (c := false)); rfl; rfl; ((simp only [nR]; (omega))))
  ((refine bd rfl (a8 rfl aL) ?_))
  exact ah.aS.refl _
 | false =>
  cases q2 : c7 x y c d with
  | true =>
   rw [cr q2];refine bl (f := 97) Tryz.func97 rfl rfl rfl rfl ?_;(repeat first | refine eA ?_ | refine fi ?_ | (with_reducible apply cg (c := true)); rfl; rfl; ((simp only [nR]; (omega))) | (with_reducible apply cg (c := false)); rfl; rfl; ((simp only [nR]; (omega))))
   ((refine bd rfl (a8 rfl aL) ?_))
   exact ah.aS.refl _
  | false =>
   rw [aF q1 q2];refine bl (f := 97) Tryz.func97 rfl rfl rfl rfl ?_;(repeat first | refine eA ?_ | refine fi ?_ | (with_reducible apply cg (c := true)); rfl; rfl; ((simp only [nR]; (omega))))
   ((refine bd rfl (a8 rfl aL) ?_))
   exact ah.aS.refl _
theorem ad0 {E : List bT} {r R : Nat} (ap : r ≤ 28) {p q x : aj} (hp : dd r p.1 p.2 = true) (an : dd r q.1 q.2 = true) : aH ag 97 [qc p.1 p.2 q.1 q.2, aZ x.1 x.2, aE r] (bk (jo (q6 E r R) p q x)) := by
 have aw : fQ (r : Int) r := ⟨ap, .inr (.inr rfl)⟩;have e : ∀ a b : aj, c7 a.1 a.2 b.1 b.2 = decide (a = b) := fun a b => by rw [nx, mX, b4, Prod.ext_iff]
 have aq : jo (q6 E r R) p q x = (!decide (x = p) && !decide (x = q) && wQ (2 ^ r * p.1) (2 ^ r * p.2) (2 ^ r * q.1) (2 ^ r * q.2) x.1 x.2 r) := by
  unfold jo;simp only [decide_not];rfl
 refine ad1 (DD (sf aw hp) (sf aw an)) acW (fun h1 h2 => ?_) (fun h1 => ?_) (fun h1 => ?_)
 ·rw [e] at h1 h2;rw [aq, h1, h2]; rfl
 ·rw [e] at h1;rw [aq, h1]; rfl
 ·rw [e] at h1;rw [aq, h1]; simp
theorem adx {a b c d a' bS c' d' k A B C D dU qi EA vM : Int} {h : Bool} {M : fz} (aW : aH ag 102 [qc a b c d, aE k] (.cn [.agg [.c (.int .i64 A), .c (.int .i64 B)], .agg [.c (.int .i64 C), .c (.int .i64 D)]])) (bH : aH ag 102 [qc a' bS c' d', aE k] (.cn [.agg [.c (.int .i64 dU), .c (.int .i64 qi)], .agg [.c (.int .i64 EA), .c (.int .i64 vM)]])) (H1 : aH ag 138 [aZ A B, aZ C D, aZ dU qi, aZ EA vM] (bk h)) (cW : aH ag 93 [aZ A B, aZ C D, aZ dU qi, aZ EA vM] (om M)) : aH ag 103 [qc a b c d, qc a' bS c' d', aE k] (om (if h = true then hU else M)) := by
 cases h with
 | true =>
  refine bl (f := 103) Tryz.func103 rfl rfl rfl rfl ?_;(refine cc ?_)
  ((refine bd rfl (cL rfl rfl rfl aL) ?_))
  exact ah.aS.refl _
 | false =>
  refine bl (f := 103) Tryz.func103 rfl rfl rfl rfl ?_;(refine cc ?_)
  ((refine bd rfl (cL rfl rfl rfl aL) ?_))
  exact ah.aS.refl _
theorem HN {a b : bT} (h1 : b7 a.1.1 a.1.2 = true) (h2 : b7 a.2.1 a.2.2 = true) (ao : b7 b.1.1 b.1.2 = true) (aD : b7 b.2.1 b.2.2 = true) : qW a.1.1 a.1.2 a.2.1 a.2.2 b.1.1 b.1.2 b.2.1 b.2.2 = hl a b := by
 unfold qW; rw [h1, h2, ao, aD]; rfl
def oy (r : Nat) (l m : aj × aj) : fz := if s5 (gv r l) (gv r m) = true then hU else hl (gv r l) (gv r m)
theorem adw {r : Nat} (ap : r ≤ 28) {l m : aj × aj} (h1 : dd r l.1.1 l.1.2 = true) (h2 : dd r l.2.1 l.2.2 = true) (ao : dd r m.1.1 m.1.2 = true) (aD : dd r m.2.1 m.2.2 = true) : aH ag 103 [qc l.1.1 l.1.2 l.2.1 l.2.2, qc m.1.1 m.1.2 m.2.1 m.2.2, aE r] (om (oy r l m)) := by
 have aw : fQ (r : Int) r := ⟨ap, .inr (.inr rfl)⟩;have e := HN (a := gv r l) (b := gv r m) (qD h1) (qD h2) (qD ao) (qD aD)
 have H1 : aH ag 138 [aZ (2 ^ r * l.1.1) (2 ^ r * l.1.2), aZ (2 ^ r * l.2.1) (2 ^ r * l.2.2), aZ (2 ^ r * m.1.1) (2 ^ r * m.1.2), aZ (2 ^ r * m.2.1) (2 ^ r * m.2.2)] (bk (s5 (gv r l) (gv r m))) := by
  have := adt (a1 := 2 ^ r * l.1.1) (a2 := 2 ^ r * l.1.2) (b1 := 2 ^ r * l.2.1) (b2 := 2 ^ r * l.2.2) (c1 := 2 ^ r * m.1.1) (c2 := 2 ^ r * m.1.2) (d1 := 2 ^ r * m.2.1) (d2 := 2 ^ r * m.2.2);rw [show qW (2 ^ r * l.1.1) (2 ^ r * l.1.2) (2 ^ r * l.2.1) (2 ^ r * l.2.2) (2 ^ r * m.1.1) (2 ^ r * m.1.2) (2 ^ r * m.2.1) (2 ^ r * m.2.2) = hl (gv r l) (gv r m) from e] at this;exact this
 have cW : aH ag 93 [aZ (2 ^ r * l.1.1) (2 ^ r * l.1.2), aZ (2 ^ r * l.2.1) (2 ^ r * l.2.2), aZ (2 ^ r * m.1.1) (2 ^ r * m.1.2), aZ (2 ^ r * m.2.1) (2 ^ r * m.2.2)] (om (hl (gv r l) (gv r m))) := by
  have := Ii (a1 := 2 ^ r * l.1.1) (a2 := 2 ^ r * l.1.2) (b1 := 2 ^ r * l.2.1) (b2 := 2 ^ r * l.2.2) (c1 := 2 ^ r * m.1.1) (c2 := 2 ^ r * m.1.2) (d1 := 2 ^ r * m.2.1) (d2 := 2 ^ r * m.2.2);rw [show qW (2 ^ r * l.1.1) (2 ^ r * l.1.2) (2 ^ r * l.2.1) (2 ^ r * l.2.2) (2 ^ r * m.1.1) (2 ^ r * m.1.2) (2 ^ r * m.2.1) (2 ^ r * m.2.2) = hl (gv r l) (gv r m) from e] at this;exact this
 exact adx (DD (sf aw h1) (sf aw h2)) (DD (sf aw ao) (sf aw aD)) H1 cW
theorem LR (r : Nat) (l m : aj × aj) : rI r l m = if (oy r l m).k = 1 then some (iC r (oy r l m)) else none := by
 unfold rI oy;cases h : s5 (gv r l) (gv r m) with
 | true => simp [hU]
 | false => simp
abbrev sb (v : Value) (l : List (aj × aj)) : bE := ⟨155, 4, v, l.length, mA l⟩
instance ai9 : mV ag 76 155 4 32 := ⟨by kernel_rfl⟩
def pz (c : List aj × List Int) : List AC := [.p (bX 2 c.1.length (bD c.1)), .p (bX 1 c.2.length (ck c.2))]
def eC (l : List (List aj × List Int)) : List AC := l.flatMap pz
abbrev qb (l : List (List aj × List Int)) : ah := cM 2 l.length (eC l)
theorem BN {β : Type} {f : β → List AC} {z : Nat} (au : ∀ x, (f x).length = z) : ∀ {l : List β} {i : Nat} {x : β}, l[i]? = some x → ((l.flatMap f).drop (i * z)).take z = f x
 | [], i, x, h => by simp at h
 | y :: l, 0, x, h => by
  simp at h; subst h;rw [List.flatMap_cons, Nat.zero_mul, List.drop_zero, ← au y, List.take_left]
 | y :: l, i + 1, x, h => by
  rw [List.flatMap_cons, kf, Nat.one_mul, Nat.add_comm, ← re, ← au y, List.drop_left, au y];exact BN au (by simpa using h)
theorem BO {β : Type} {f : β → List AC} {z : Nat} (au : ∀ x, (f x).length = z) : ∀ l : List β, (l.flatMap f).length = l.length * z
 | [] => by simp
 | y :: l => by rw [List.flatMap_cons, cF, au, BO au l, jQ, kf, Nat.one_mul, Nat.add_comm]
theorem OT {l : List (aj × aj)} {i : Nat} {ii a b c d : Int} (hi : ii = i) (h : l[i]? = some ((a, b), (c, d))) : ((mA l).drop (ii.toNat * 4)).take 4 = [.c (.int .i64 a), .c (.int .i64 b), .c (.int .i64 c), .c (.int .i64 d)] := by
 subst hi; rw [kH]; exact BN (f := w8) (fun _ => rfl) h
theorem wk {l : List (List aj × List Int)} {i : Nat} {ii : Int} {c : List aj × List Int} (hi : ii = i) (h : l[i]? = some c) : ((eC l).drop (ii.toNat * 2)).take 2 = [.p (bX 2 c.1.length (bD c.1)), .p (bX 1 c.2.length (ck c.2))] := by
 subst hi; rw [kH]; exact BN (f := pz) (fun _ => rfl) h
theorem aa8 (l : List (aj × aj)) (x : aj × aj) : mA l ++ w8 x = mA (l ++ [x]) := by simp [mA, List.flatMap_append]
theorem ajj (l : List (aj × aj)) : (mA l).all AC.aY = true := by
 rw [b6]; intro x aa;obtain ⟨y, _, ai⟩ := List.mem_flatMap.1 aa;simp only [w8, gj, List.not_mem_nil, or_false] at ai;rcases ai with rfl | rfl | rfl | rfl <;> rfl
theorem VV (l : List (List aj × List Int)) : (eC l).all AC.aY = true := by
 rw [b6]; intro x aa;obtain ⟨y, _, ai⟩ := List.mem_flatMap.1 aa;simp only [pz, gj, List.not_mem_nil, or_false] at ai;rcases ai with rfl | rfl <;> rfl
theorem aa6 (v : Value) (l : List (aj × aj)) (x : aj × aj) : sb v (l ++ [x]) = ⟨155, 4, v, l.length + 1, mA l ++ w8 x⟩ := by rw [sb, ← aa8, cF]; rfl
def TB (ch : List (List aj × List Int)) (n : Nat) (R : aI) (aM : List (Nat × ah)) (bi : List (Nat × List AC)) : Prop :=
 ∃ (i : Nat) (ii : Int) (v : Value), i ≤ ch.length ∧ n = ch.length - i ∧ ii = i ∧ R = bt 0 (sb v (a6 (ch.take i))) ∧ aM = [(3, aQ v), (7, qb ch), (8, aE ch.length), (9, aE ii)] ∧ bi = []
def TA (ch : List (List aj × List Int)) (V : List aj) (D : List Int) (ii : Int) (pre : List (aj × aj)) (n : Nat) (R : aI) (aM : List (Nat × ah)) (bi : List (Nat × List AC)) : Prop :=
 ∃ (j : Nat) (ek : Int) (v : Value), j ≤ D.length ∧ n = D.length - j ∧ ek = j ∧ R = bt 0 (sb v (pre ++ (iZ V).take j)) ∧ aM = [(3, aQ v), (5, mQ 5 0), (7, qb ch), (8, aE ch.length), (9, aE ii), (15, aE D.length), (16, aE ek)] ∧ bi = [(5, [.p (bX 2 V.length (bD V)), .p (bX 1 D.length (ck D))])]
theorem aa9 {V : List aj} {j : Nat} (h : j + 1 < V.length) : (iZ V)[j]? = some (V[j], V[j + 1]) := by
 induction V generalizing j with
 | nil => simp at h
 | cons p W bI =>
  cases W with
  | nil => simp at h
  | cons q W =>
   cases j with
   | zero => rfl
   | succ j => exact bI (j := j) (by simpa using h)
section
variable {P : Program} {R : aI} {s : aC} {ops : Array Oper} {dr : Option (List Nat)} {ty : Nat} {pos : String} {after : Array Edge} {guard : Option (Nat × Bool)} {K : aI → aC → Prop} {rest : List Oper}
def oq (k : Nat) (iM : ah → List AC → aI → Prop) : ah → Mem → aI → Prop := fun bW aG ay => ∃ ar, aG = cG k ar ∧ iM bW ar ay
theorem Cy (k : Nat) {R0 : aI} {dst : Option Nat} {f : FuncId} {g : Operand} {aM : Array TypeId} {l : List Operand} {args : List ah} {cs : List AC} {iM : ah → List AC → aI → Prop} [E : Enters P f] (hw : want ops ⟨dst, .call ⟨.value g, l.toArray, aM⟩, ty, pos, after, guard⟩ s = some true) (hm : dY dr ⟨dst, .call ⟨.value g, l.toArray, aM⟩, ty, pos, after, guard⟩ = true)
  (aq : s.look g = some (aQ (.func (.func f) #[] #[]))) (aJ : l.map s.look = (ah.w (.one (.own k 0)) :: args).map some) (hp : da P f (.w (.one (.own k 0)) :: args) (cG k cs) R0 (oq k iM)) (af : s.mem k = some cs) (hD : pb dr k = true) (ap : bz R0 R) (al : cs.all AC.aY = true) (eg : args.all ah.aY = true) (hd : kT dst s.n = true)
  (h : ∀ v ar ay, iM v ar ay → cJ P ops dr K rest (bP ay R) ((s.ed k ar).put dst v)) : cJ P ops dr K (⟨dst, .call ⟨.value g, l.toArray, aM⟩, ty, pos, after, guard⟩ :: rest) R s := by
 refine u7 hw hm aq aJ hp (fun x aa j ae => ?_) (fun k' ar aK => ?_) ap (fun k' ar x j aK aa ae => ?_) hd ?_
 ·rcases gj.1 aa with rfl | aa
  ·obtain ⟨y, ai, ae⟩ := ae;simp [bx.cells] at ai;subst ai;cases ae;exact ⟨cs, by unfold cG; exact cl _ _ _⟩
  ·exact absurd ae (ah.dq (b6.1 eg x aa) j)
 ·obtain ⟨rfl, rfl⟩ := hG aK;exact ⟨af, .inl hD⟩
 ·obtain ⟨rfl, rfl⟩ := hG aK;exact absurd ae (AC.dq (b6.1 al x aa) j)
 ·rintro v aG ay ⟨ar, rfl, an⟩;refine ⟨fun k' c aK => ?_, ?_⟩
  ·obtain ⟨rfl, rfl⟩ := hG aK;exact .inl ⟨cs, by unfold cG; exact cl _ _ _⟩
  ·have aP : s.over (cG k ar) = s.ed k ar := by
    show ({ s with mem := bP (bG b3 k ar) s.mem } : aC) = { s with mem := bG s.mem k ar };rw [show bP (bG b3 k ar) s.mem = bG s.mem k ar from vq s.mem k ar]
   rw [aP];exact h v ar ay an
theorem kb (k : Nat) {dst : Option Nat} {f : FuncId} {g : Operand} {aM : Array TypeId} {l : List Operand} {args : List ah} {cs ar : List AC} {v : ah} [E : Enters P f] (hw : want ops ⟨dst, .call ⟨.value g, l.toArray, aM⟩, ty, pos, after, guard⟩ s = some true) (hm : dY dr ⟨dst, .call ⟨.value g, l.toArray, aM⟩, ty, pos, after, guard⟩ = true)
  (aq : s.look g = some (aQ (.func (.func f) #[] #[]))) (aJ : l.map s.look = (ah.w (.one (.own k 0)) :: args).map some) (hp : da P f (.w (.one (.own k 0)) :: args) (cG k cs) gh (oq k fun bW ds ay => bW = v ∧ ds = ar ∧ ay = gh)) (af : s.mem k = some cs) (hD : pb dr k = true) (al : cs.all AC.aY = true) (eg : args.all ah.aY = true) (hd : kT dst s.n = true)
  (h : cJ P ops dr K rest R ((s.ed k ar).put dst v)) : cJ P ops dr K (⟨dst, .call ⟨.value g, l.toArray, aM⟩, ty, pos, after, guard⟩ :: rest) R s := by
 refine Cy k hw hm aq aJ hp af hD (fun i r h => by cases h) al eg hd ?_;rintro _ _ _ ⟨rfl, rfl, rfl⟩;rw [show bP gh R = R from Qb R];exact h
end
def BC (x : Int × bT) : List AC := [.c (.int .i64 x.2.1.1), .c (.int .i64 x.2.1.2), .c (.int .i64 x.2.2.1), .c (.int .i64 x.2.2.2), .c (.int .i64 x.1)]
def pC (l : List (Int × bT)) : List AC := l.flatMap BC
abbrev jh (l : List (Int × bT)) : ah := cM 5 l.length (pC l)
theorem uO {l : List (Int × bT)} {i : Nat} {ii o a b c d : Int} (hi : ii = i) (h : l[i]? = some (o, (a, b), (c, d))) : ((pC l).drop (ii.toNat * 5)).take 5 = [.c (.int .i64 a), .c (.int .i64 b), .c (.int .i64 c), .c (.int .i64 d), .c (.int .i64 o)] := by
 subst hi; rw [kH]; exact BN (f := BC) (fun _ => rfl) h
abbrev ez (E : List (Int × bT)) (k rm ph I J T : Int) (dirty : Bool) (hv fv cv : Value) (b : Nat) (lk : AC) : List AC :=
 [.p (bX 5 E.length (pC E)), .c (.int .i64 k), .c (.int .i64 rm), .c (.int .i64 ph), .c (.int .i64 I), .c (.int .i64 J), .c (.int .i64 T), .c (.bool dirty), .c hv, .c fv, .c cv, .c (eb b), lk]
abbrev wh (v : Value) (l : List (List aj × List Int)) : bE := ⟨34, 2, v, l.length, eC l⟩
instance aja : mV ag 28 34 2 48 := ⟨by kernel_rfl⟩
abbrev dT (b : Nat) (S : e0) (hv fv cv : Value) (hot fnd : List aj) (ch : List (List aj × List Int)) : aI := bG (bG (bG (bt 0 (jb (eb b) S)) 1 (iD hv hot)) 2 (iD fv fnd)) 3 (wh cv ch)
theorem Rz {b bS : Nat} {S dh : e0} {hv fv cv bQ c8 cZ : Value} {hot fnd hot' fnd' : List aj} {ch ch' : List (List aj × List Int)} : bP (dT bS dh bQ c8 cZ hot' fnd' ch') (dT b S hv fv cv hot fnd ch) = dT bS dh bQ c8 cZ hot' fnd' ch' := by
 funext i
 match i with
 | 0 => rfl
 | 1 => rfl
 | 2 => rfl
 | 3 => rfl
 | i + 4 => rfl
theorem e8 {b bS : Nat} {S dh : e0} {hv fv cv bQ c8 cZ : Value} {hot fnd hot' fnd' : List aj} {ch ch' : List (List aj × List Int)} : ∀ i r, dT b S hv fv cv hot fnd ch i = some r → ∃ aV, dT bS dh bQ c8 cZ hot' fnd' ch' i = some aV
 | 0, _, _ => ⟨_, rfl⟩
 | 1, _, _ => ⟨_, rfl⟩
 | 2, _, _ => ⟨_, rfl⟩
 | 3, _, _ => ⟨_, rfl⟩
 | i + 4, _, h => by cases h
theorem afa {b : Nat} {S : e0} {hv fv cv v : Value} {hot fnd l : List aj} {ch : List (List aj × List Int)} : bG (dT b S hv fv cv hot fnd ch) 1 (iD v l) = dT b S v fv cv l fnd ch := by
 funext i
 match i with
 | 0 => rfl
 | 1 => rfl
 | 2 => rfl
 | 3 => rfl
 | i + 4 => rfl
theorem IK {b c : Nat} {S dh : e0} {hv fv cv : Value} {hot fnd : List aj} {ch : List (List aj × List Int)} : bG (dT b S hv fv cv hot fnd ch) 0 (jb (eb c) dh) = dT c dh hv fv cv hot fnd ch := by
 funext i
 match i with
 | 0 => rfl
 | 1 => rfl
 | 2 => rfl
 | 3 => rfl
 | i + 4 => rfl
abbrev rr : ah := .w (.one (.own 1000 0))
abbrev lG : ah := .cn []
abbrev AY (f : FuncId) (args : List ah) (cs : List AC) (v : ah) (ar : List AC) : Prop := da ag f (rr :: args) (cG 1000 cs) gh (oq 1000 fun bW ds ay => bW = v ∧ ds = ar ∧ ay = gh)
section
variable {E : List (Int × bT)} {k rm ph I J T : Int} {dirty : Bool} {hv fv cv : Value} {b : Nat} {lk : AC}
theorem CU (ak : lk.aY = true) (p j : Int) : AY 88 [aE p, aE j] (ez E k rm ph I J T dirty hv fv cv b lk) lG (ez E k rm p 0 j 0 dirty hv fv cv b lk) := by
 have dz : (ez E k rm p 0 j 0 dirty hv fv cv b lk).all AC.aY = true := by simp only [jV, l9, ak]; rfl
 refine dt (f := 88) Tryz.func88 rfl (dl rfl) (by exact eo rfl) ?_;(refine ba ?_)
 ((refine eN rfl aL rfl (bz.refl _) dz rfl (fun i r h => ⟨r, h⟩) ?_))
 exact ⟨_, rfl, rfl, rfl, rfl⟩
theorem HE (ak : lk.aY = true) (p : Int) : AY 53 [aE p] (ez E k rm ph I J T dirty hv fv cv b lk) lG (ez E k rm p 0 0 0 dirty hv fv cv b (.c (.slice none 0 0))) := by
 have dz : (ez E k rm ph I J T dirty hv fv cv b lk).all AC.aY = true := by simp only [jV, l9, ak]; rfl
 have aW := CU (E := E) (k := k) (rm := rm) (ph := ph) (I := I) (J := J) (T := T) (dirty := dirty) (hv := hv) (fv := fv) (cv := cv) (b := b) ak p 0;refine dt (f := 53) Tryz.func53 rfl (dl rfl) (by exact eo rfl) ?_;(refine ba ?_);refine kb 1000 rfl rfl rfl rfl aW rfl rfl dz rfl rfl ?_;(refine ba ?_)
 ((refine eN rfl aL rfl (bz.refl _) rfl rfl (fun i r h => ⟨r, h⟩) ?_))
 exact ⟨_, rfl, rfl, rfl, rfl⟩
theorem zw (ak : lk.aY = true) (n : Int) (bj : 0 ≤ I ∧ I ≤ 1000000) (kt : 0 ≤ J ∧ J ≤ 1000000) : AY 94 [aE n] (ez E k rm ph I J T dirty hv fv cv b lk) (bk (decide ((if J + 1 = n then I + 2 else J + 1) < n))) (ez E k rm ph (if J + 1 = n then I + 1 else I) (if J + 1 = n then I + 2 else J + 1) T dirty hv fv cv b lk) := by
 have dz : ∀ I J : Int, (ez E k rm ph I J T dirty hv fv cv b lk).all AC.aY = true := fun I J => by simp only [jV, l9, ak]; rfl
 by_cases h : J + 1 = n
 ·rw [if_pos h, if_pos h];have e : I + 1 + 1 = I + 2 := by omega
  rw [← e];refine dt (f := 94) Tryz.func94 rfl (dl rfl) (by exact eo rfl) ?_;(refine ba ?_)
  ((refine eN rfl (a8 rfl aL) rfl (bz.refl _) (dz _ _) rfl (fun i r h => ⟨r, h⟩) ?_))
  exact ⟨_, rfl, rfl, rfl, rfl⟩
 ·rw [if_neg h, if_neg h];refine dt (f := 94) Tryz.func94 rfl (dl rfl) (by exact eo rfl) ?_;(refine ba ?_)
  ((refine eN rfl (a8 rfl aL) rfl (bz.refl _) (dz _ _) rfl (fun i r h => ⟨r, h⟩) ?_))
  exact ⟨_, rfl, rfl, rfl, rfl⟩
theorem HF {r : Nat} (ap : r ≤ 28) (af : k = r) (ak : lk.aY = true) {i : Nat} {o p1 p2 q1 q2 : Int} (e7 : E.length ≤ 1000) (h : E[i]? = some (o, (p1, p2), (q1, q2))) (hp : gg (p1, p2) = true) (an : gg (q1, q2) = true) :
  AY 89 [aE i] (ez E k rm ph I J T dirty hv fv cv b lk) (.cn [.agg [.c (.int .i64 (bB p1 r)), .c (.int .i64 (bB p2 r))], .agg [.c (.int .i64 (bB q1 r)), .c (.int .i64 (bB q2 r))]]) (ez E k rm ph I J T dirty hv fv cv b lk) := by
 have dz : (ez E k rm ph I J T dirty hv fv cv b lk).all AC.aY = true := by simp only [jV, l9, ak]; rfl
 obtain ⟨ji, ae⟩ : ∃ ji : Int, ji = i := ⟨_, rfl⟩;have bb := (bA.1 h).1;have g0 : 0 ≤ ji := by omega
 have g1 : ji < (E.length : Int) := by omega
 have iK := uO ae h;have hp := pX.1 hp;have an := pX.1 an;have aw : fQ (r : Int) r := ⟨ap, .inr (.inr rfl)⟩;have aW := DE (x := p1) (y := p2) aw (by omega) (by omega) (by omega) (by omega);have bH := DE (x := q1) (y := q2) aw (by omega) (by omega) (by omega) (by omega);rw [← af] at aW bH;rw [show aE (i : Int) = aE ji by rw [ae]];clear hp an aw ae h;generalize bB p1 r = a at *;generalize bB p2 r = a' at *;generalize bB q1 r = c at *;generalize bB q2 r = c' at *;refine dt (f := 89) Tryz.func89 rfl (dl rfl) (by exact eo rfl) ?_;(repeat first | (with_reducible apply cQ (id := 2) [0,1,2,3,4,5,6,7,8,9,10,11,12,13,14,15,16,17]); kernel_rfl; kernel_rfl; rfl | refine cu ?_ | refine iJ ?_)
 ((refine eN rfl (cL rfl rfl rfl (cL rfl rfl rfl aL)) rfl (bz.refl _) dz rfl (fun i r h => ⟨r, h⟩) ?_))
 exact ⟨_, rfl, rfl, rfl, rfl⟩
end
def dy (E : List (Int × bT)) (r rm : Nat) (s : bq.aU aj) (cs : List AC) (R : aI) : Prop := ∃ (hv fv cv : Value) (b : Nat) (S : e0) (lk : AC), sQ rm s.hot (eb b) S ∧ lk.aY = true ∧ (s.ph = 3 → lk = .p (bX 4 (a6 s.ch).length (mA (a6 s.ch)))) ∧ cs = ez E r rm s.ph s.I s.J s.T s.dirty hv fv cv b lk ∧ R = dT b S hv fv cv s.hot s.fnd s.ch
def ga (E : List (Int × bT)) (r rm : Nat) (f : FuncId) (args : List ah) (s : bq.aU aj) (v : ah) (s' : bq.aU aj) : Prop :=
 ∀ cs R, dy E r rm s cs R → da ag f (rr :: args) (cG 1000 cs) R (oq 1000 fun bW ar ay => bW = v ∧ dy E r rm s' ar ay)
abbrev bp (E : List (Int × bT)) (r rm : Nat) : cP aj := q6 (E.map Prod.snd) r rm
theorem bz.of_eq {R ay : aI} (h : R = ay) : bz R ay := by rw [h]; exact bz.refl _
theorem afb {b : Nat} {S : e0} {hv fv cv v : Value} {hot fnd l : List aj} {ch : List (List aj × List Int)} : bG (dT b S hv fv cv hot fnd ch) 2 (iD v l) = dT b S hv v cv hot l ch := by
 funext i
 match i with
 | 0 => rfl
 | 1 => rfl
 | 2 => rfl
 | 3 => rfl
 | i + 4 => rfl
theorem afd {b : Nat} {S : e0} {hv fv cv v : Value} {hot fnd : List aj} {ch : List (List aj × List Int)} {x y : Int} : bG (dT b S hv fv cv hot fnd ch) 1 ⟨36, 2, v, hot.length + 1, bD hot ++ [.c (.int .i64 x), .c (.int .i64 y)]⟩ = dT b S v fv cv (hot ++ [(x, y)]) fnd ch :=
 (congrArg (bG (dT b S hv fv cv hot fnd ch) 1) (Re v hot (x, y)).symm).trans afa
theorem afc {b : Nat} {S : e0} {hv fv cv v : Value} {hot fnd : List aj} {ch : List (List aj × List Int)} {x y : Int} : bG (dT b S hv fv cv hot fnd ch) 2 ⟨36, 2, v, fnd.length + 1, bD fnd ++ [.c (.int .i64 x), .c (.int .i64 y)]⟩ = dT b S hv v cv hot (fnd ++ [(x, y)]) ch :=
 (congrArg (bG (dT b S hv fv cv hot fnd ch) 2) (Re v fnd (x, y)).symm).trans afb
theorem Yw {E : List (Int × bT)} {r rm : Nat} {s : bq.aU aj} {x y : Int} : (qp rm s.hot x y = (dR (bp E r rm) s (x, y)).hot) ∧ (nM rm s.hot x y = true → dR (bp E r rm) s (x, y) = { s with hot := s.hot ++ [(x, y)] } ∧ nN rm s.hot x y = 0) ∧ (nM rm s.hot x y = false → nN rm s.hot x y = 0 → dR (bp E r rm) s (x, y) = s) ∧ (nN rm s.hot x y = 0 ∨ (nN rm s.hot x y = 90 ∧ nM rm s.hot x y = false ∧ dR (bp E r rm) s (x, y) = fh s 5 0 0)) := by
 unfold qp nM nN dR
 by_cases h : (x, y) ∈ s.hot
 ·rw [if_pos (se.2 h), if_pos (se.2 h), if_pos (se.2 h), if_pos h];exact ⟨rfl, fun h => (by cases h), fun _ _ => rfl, .inl rfl⟩
 ·have aK : ¬ 0 ≤ iB s.hot x y := fun aR => h (se.1 aR);rw [if_neg aK, if_neg aK, if_neg aK, if_neg h]
  by_cases ak : (rm : Int) ≤ (s.hot.length : Int)
  ·have fb : ¬ s.hot.length < (bp E r rm).R := by show ¬ s.hot.length < rm; omega
   rw [if_pos ak, if_pos ak, if_pos ak, if_neg fb];exact ⟨rfl, fun h => (by cases h), fun _ h => (by cases h), .inr ⟨rfl, rfl, rfl⟩⟩
  ·have fb : s.hot.length < (bp E r rm).R := by show s.hot.length < rm; omega
   rw [if_neg ak, if_neg ak, if_neg ak, if_pos fb];exact ⟨rfl, fun _ => ⟨rfl, rfl⟩, fun h => (by cases h), .inl rfl⟩
theorem HG {E : List (Int × bT)} {r rm : Nat} {s : bq.aU aj} {x y : Int} (ak : s.hot.length ≤ 1100) (au : s.fnd = []) (hk : s.ph ≠ 5) : ga E r rm 90 [aZ x y] s (bk (!Nat.beq (dR (bp E r rm) s (x, y)).ph 5)) (dR (bp E r rm) s (x, y)) := by
 obtain ⟨ph, I, J, T, dirty, hot, fnd, ch⟩ := s;obtain rfl : fnd = [] := au;have ak : hot.length ≤ 1100 := ak
 have hk : Nat.beq ph 5 = false := by
  cases h : Nat.beq ph 5 with
  | false => rfl
  | true => exact absurd (hr h) hk
 obtain ⟨h1, h2, ao, aD⟩ := Yw (E := E) (r := r) (rm := rm) (s := ⟨ph, I, J, T, dirty, hot, [], ch⟩) (x := x) (y := y);rintro cs R ⟨hv, fv, cv, b, S, lk, hS, cS, fV, rfl, rfl⟩;have aW := aag (rm : Int) hot b S x y hS ak;have dz : ∀ hv, (ez E r rm ph I J T dirty hv fv cv b lk).all AC.aY = true := fun hv => by simp only [jV, l9, cS]; rfl
 have bH := HE (E := E) (k := r) (rm := rm) (ph := ph) (I := I) (J := J) (T := T) (dirty := dirty) (hv := hv) (fv := fv) (cv := cv) (b := b) cS 5;simp only at h1 h2 ao aD fV;rw [h1] at aW;rcases aD with aD | ⟨aD, cm, eQ⟩
 ·rw [aD] at aW;cases ab : nM rm hot x y with
  | true =>
   rw [ab] at aW;rw [(h2 ab).1] at aW ⊢;simp only at aW ⊢;rw [hk];have aF : (hot ++ [(x, y)]).length = hot.length + 1 := by rw [cF]; rfl
   refine dt (f := 90) Tryz.func90 rfl (dl rfl) (by exact eo rfl) ?_;(repeat first | (with_reducible apply k7 (id := 1) [0,1,2,3,4,5,6,7,8,9,10] [13]); kernel_rfl; kernel_rfl; rfl | refine cu ?_);refine zf 0 rfl rfl rfl rfl aW rfl rfl rfl (fun v dh h => ?_);obtain ⟨rfl, fO⟩ := h;rw [IK];(repeat first | (with_reducible apply k7 (id := 6) [0,1,2,3,4,5,6,7,8,9,10,11,12] [3000028]); kernel_rfl; kernel_rfl; rfl | refine cu ?_);refine n2 1 rfl rfl rfl rfl ?q1 ?q2 rfl rfl (fun v1 iW => ?_)
   case q1 => exact js (by show hot.length + 1 ≤ 1000000; omega)
   case q2 => show (hot.length + 1) * 16 ≤ 140737488355328; omega
   (refine ba ?_)
   ((refine eN rfl (a8 rfl aL) rfl (bz.of_eq (afd (x := x) (y := y)).symm) (dz v1) rfl e8 ?_))
   exact ⟨_, rfl, rfl, v1, fv, cv, b, dh, lk, fO, cS, fV, rfl, rfl⟩
  | false =>
   rw [ab] at aW;rw [ao ab aD] at aW ⊢;simp only at aW ⊢;rw [hk];refine dt (f := 90) Tryz.func90 rfl (dl rfl) (by exact eo rfl) ?_;(repeat first | (with_reducible apply k7 (id := 1) [0,1,2,3,4,5,6,7,8,9,10] [13]); kernel_rfl; kernel_rfl; rfl | refine cu ?_);refine zf 0 rfl rfl rfl rfl aW rfl rfl rfl (fun v dh h => ?_);obtain ⟨rfl, fO⟩ := h;rw [IK];(refine ba ?_)
   ((refine eN rfl (a8 rfl aL) rfl (bz.refl _) (dz _) rfl e8 ?_))
   exact ⟨_, rfl, rfl, hv, fv, cv, b, dh, lk, fO, cS, fV, rfl, rfl⟩
 ·rw [aD, cm] at aW;rw [eQ] at aW ⊢;simp only [fh] at aW ⊢;rw [show (!Nat.beq 5 5) = false from rfl];refine dt (f := 90) Tryz.func90 rfl (dl rfl) (by exact eo rfl) ?_;(repeat first | (with_reducible apply k7 (id := 1) [0,1,2,3,4,5,6,7,8,9,10] [13]); kernel_rfl; kernel_rfl; rfl | refine cu ?_);refine zf 0 rfl rfl rfl rfl aW rfl rfl rfl (fun v dh h => ?_);obtain ⟨rfl, fO⟩ := h;rw [IK];(refine ba ?_);refine kb 1000 rfl rfl rfl rfl bH rfl rfl (dz _) rfl rfl ?_;(refine ba ?_)
  ((refine eN rfl (a8 rfl aL) rfl (bz.refl _) rfl rfl e8 ?_))
  exact ⟨_, rfl, rfl, hv, fv, cv, b, dh, .c (.slice none 0 0), fO, rfl, fun h => (by cases h), rfl, rfl⟩
section
variable {P : Program} {R : aI} {s : aC} {ops : Array Oper} {dr : Option (List Nat)} {ty : Nat} {pos : String} {after : Array Edge} {guard : Option (Nat × Bool)} {K : aI → aC → Prop} {rest : List Oper}
theorem dy.closed {E : List (Int × bT)} {r rm : Nat} {s : bq.aU aj} {cs : List AC} {R : aI} (h : dy E r rm s cs R) : cs.all AC.aY = true := by
 obtain ⟨hv, fv, cv, b, S, lk, _, cS, _, rfl, _⟩ := h;simp only [jV, l9, cS]; rfl
theorem dy.bP {E : List (Int × bT)} {r rm : Nat} {s s' : bq.aU aj} {cs ar : List AC} {R ay : aI} (h : dy E r rm s cs R) (aK : dy E r rm s' ar ay) : Go.Proofs.YtbcecodakfejaaaGreat.bP ay R = ay := by
 obtain ⟨_, _, _, _, _, _, _, _, _, _, rfl⟩ := h;obtain ⟨_, _, _, _, _, _, _, _, _, _, rfl⟩ := aK;exact Rz
theorem ic {E : List (Int × bT)} {r rm : Nat} {dJ s1 : bq.aU aj} {v : ah} {dst : Option Nat} {f : FuncId} {g : Operand} {aM : Array TypeId} {l : List Operand} {args : List ah} {cs : List AC} [EC : Enters ag f] (hw : want ops ⟨dst, .call ⟨.value g, l.toArray, aM⟩, ty, pos, after, guard⟩ s = some true) (hm : dY dr ⟨dst, .call ⟨.value g, l.toArray, aM⟩, ty, pos, after, guard⟩ = true)
  (aq : s.look g = some (aQ (.func (.func f) #[] #[]))) (aJ : l.map s.look = (rr :: args).map some) (af : s.mem 1000 = some cs) (hD : pb dr 1000 = true) (eg : args.all ah.aY = true) (hd : kT dst s.n = true) (hp : ga E r rm f args dJ v s1) (bj : dy E r rm dJ cs R)
  (h : ∀ ar ay, dy E r rm s1 ar ay → cJ ag ops dr K rest ay ((s.ed 1000 ar).put dst v)) : cJ ag ops dr K (⟨dst, .call ⟨.value g, l.toArray, aM⟩, ty, pos, after, guard⟩ :: rest) R s := by
 refine Cy 1000 hw hm aq aJ (hp cs R bj) af hD (bz.refl _) bj.closed eg hd ?_;rintro _ ar ay ⟨rfl, aK⟩;rw [bj.bP aK];exact h ar ay aK
end
theorem R8 (n d : Int) (r : Nat) (hd : 0 < d) : lF n d r = gi (2 ^ r) n d := by
 rw [← ago r hd];unfold gi;congr 1
 ·rw [iq d]; omega
 ·rw [oe, iq d];rw [ki, iq 2 d, ← ki, iq (2 ^ r * d) 2]
def l3 (r : Nat) (M : fz) : Option aj := if M.k = 1 then some (iC r M) else none
theorem FV {n : Int} (h : -19342813113834066795298816 ≤ n ∧ n ≤ 19342813113834066795298816) : fits n = true := by
 unfold fits; rw [b4]; omega
theorem Oz {E : List (Int × bT)} {r rm : Nat} {s : bq.aU aj} {M : fz} (ap : r ≤ 28) (gw : AQ M) (fD : M.k = 1 → dd r (iC r M).1 (iC r M).2 = true) (ak : s.hot.length ≤ 1100) (au : s.fnd = []) (hk : s.ph ≠ 5) : ga E r rm 92 [om M] s (bk (!Nat.beq (kw (bp E r rm) s (l3 r M)).ph 5)) (kw (bp E r rm) s (l3 r M)) := by
 intro cs R bj
 have Zg : Nat.beq s.ph 5 = false := by
  cases h : Nat.beq s.ph 5 with
  | false => rfl
  | true => exact absurd (hr h) hk
 have al := bj.closed
 by_cases h1 : M.k = 1
 ·rcases gw with rfl | ⟨x, y, d, rfl, hd, wK, aa, ai⟩ | ⟨f1, f2, g1, g2, rfl⟩
  ·simp [hU] at h1
  ·have fD := fD rfl;have aw : fQ (r : Int) r := ⟨ap, .inr (.inr rfl)⟩;have fd := FV (n := d) (by omega);have ex := R8 x d r hd;have jm := R8 y d r hd
   have aW := acM (n := x) (d := d) (n' := y) (d' := d) aw (FV aa) fd (FV ai) fd (b := true) (by
    unfold sD;rw [bZ hd, ex, jm];unfold dd iC jc at fD;simp only at fD;rw [l8, l8]; exact fD)
   simp only [if_true, ex, jm] at aW;have bH := HG (E := E) (r := r) (rm := rm) (s := s) (x := gi (2 ^ r) x d) (y := gi (2 ^ r) y d) ak au hk;rw [show l3 r (jc x d y d) = some (gi (2 ^ r) x d, gi (2 ^ r) y d) from rfl];show da _ _ _ _ _ (oq 1000 fun bW ar ay => bW = bk (!Nat.beq (dR (bp E r rm) s (gi (2 ^ r) x d, gi (2 ^ r) y d)).ph 5) ∧ dy E r rm (dR (bp E r rm) s (gi (2 ^ r) x d, gi (2 ^ r) y d)) ar ay);generalize dR (bp E r rm) s (gi (2 ^ r) x d, gi (2 ^ r) y d) = s1 at *;generalize gi (2 ^ r) x d = X at *;generalize gi (2 ^ r) y d = Y at *;generalize (!Nat.beq s1.ph 5) = bW at *;obtain ⟨hv, fv, cv, b, S, lk, hS, cS, fV, rfl, rfl⟩ := id bj;unfold jc;refine dt (f := 92) Tryz.func92 rfl (dl rfl) (by exact eo rfl) ?_;(repeat first | (with_reducible apply cQ (id := 3) [13,0,1,2,3,4,5,6,7,8,9,10,11,12,14,15]); kernel_rfl; kernel_rfl; rfl | refine cu ?_ | refine iJ ?_);refine ic rfl rfl rfl rfl rfl rfl rfl rfl bH bj (fun ar ay b8 => ?_);(refine ba ?_);obtain ⟨bQ, c8, cZ, bS, dh, gY, fO, hg, iy, rfl, rfl⟩ := id b8
   ((refine eN rfl (a8 rfl aL) rfl (bz.refl _) b8.closed rfl e8 ?_))
   exact ⟨_, rfl, rfl, b8⟩
  ·simp [sR] at h1
 ·rw [show l3 r M = none from if_neg h1];show da _ _ _ _ _ (oq 1000 fun bW ar ay => bW = bk (!Nat.beq s.ph 5) ∧ dy E r rm s ar ay);rw [Zg, Bool.not_false];obtain ⟨mk, HT, md, dC, HO, HU, HV, HW, HX⟩ := M;have h1 : ¬ mk = 1 := h1;obtain ⟨hv, fv, cv, b, S, lk, hS, cS, fV, rfl, rfl⟩ := id bj;refine dt (f := 92) Tryz.func92 rfl (dl rfl) (by exact eo rfl) ?_;(refine ba ?_)
  ((refine eN rfl (a8 rfl aL) rfl (bz.refl _) al rfl e8 ?_))
  exact ⟨_, rfl, rfl, bj⟩
end Go.Proofs.YtbcecodakfejaaaGreat
