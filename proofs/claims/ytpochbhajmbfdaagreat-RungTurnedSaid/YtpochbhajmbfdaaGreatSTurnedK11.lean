/-
  My own texts, without what this claim does not need. My own text.
-/
import Derived.Shelf.Spec.SlicesInsert
import Derived.Lib.AppendZerosOnto
import Derived.Test.YtpochbhajmbfdaaGreatSTurnedK10
set_option maxRecDepth 100000
set_option maxHeartbeats 64000000
set_option linter.unusedVariables false
set_option linter.unusedSimpArgs false
set_option linter.unusedSectionVars false
open Go.Proofs.Tryz renaming prog → aj
namespace Go.Proofs.YtpochbhajmbfdaaGreat
open Go.RowKit Go.Lib
section
variable {P : Program}
theorem Fz (w : World) (tX BA ty elem : TypeId) (g o q8 zu z : Nat) (a : Addr) (rQ Bz : Nat) (cur : Array Value) (t : TypeId) (cs : List Value)
  (hu : P.underlying tX = some (.slice elem)) (hs : (P.info? elem).map (·.size) = some z)
  (ax : w.heap[g]? = some (.cells cur t (0, 0))) (aD : cs.length = Nat.min rQ q8 * z)
  (IC : ∀ j v, cs[j]? = some v → w.cell? (a.add j) = some v) (xX : o + cs.length ≤ cur.size) (h1 : ∀ v ∈ cs, v.oneCell' = true) :
  (Builtin.copy_ #[tX, BA] ty #[.slice (some ⟨g, o, none⟩) q8 zu, .slice (some a) rQ Bz]).run P w =
   .ok (goInt (Nat.min rQ q8)) (w.setRow g (cur.toList.take o ++ cs ++ cur.toList.drop (o + cs.length)).toArray) := by
 have ap := run_loadCells_list (P := P) w a cs IC;have jn := run_storeCells_at P g o t cs 0 cur w ax (by simpa using xX) h1;cases an : P.info? elem with
 | none => simp [an] at hs
 | some i =>
  have hi : i.size = z := by simpa [an] using hs
  simp [Builtin.copy_, run_underlying hu, Builtin.lenOf, Builtin.firstCells, sizeOf, typeInfo, an, hi, ← aD, ap, jn]
end
theorem Mb {w : World} {a : Addr} {v : Value} (h : w.cell? a = some v) : ∃ t k, w.shape? a.block = some (t, k) ∧ k ≠ 0 := by
 unfold World.cell? at h;unfold World.shape?;cases ab : w.heap[a.block]? with
 | none => rw [ab] at h; cases h
 | some o =>
  rw [ab] at h;cases o with
  | cells c t aiE =>
   refine ⟨t, c.size, rfl, fun e => ?_⟩;simp only at h
   split at h
   ·cases h
   ·have := (k4.1 h).1; omega
  | _ => cases h
theorem afY {P : Program} (w : World) (BH Sl e : TypeId) (aF : P.underlying BH = some (.slice e)) (size : Nat) (a6 : ∀ w, (Go.sizeOf e).run P w = .ok size w)
  (a b : Addr) (ea jX Ja L9 : Nat) (ca : a.block ≠ b.block) (v : Value) (aI : w.cell? a = some v) (cur : Array Value) (Sk : TypeId) (ab : w.heap[b.block]? = some (.cells cur Sk (0, 0))) (ak : cur.size ≠ 0) :
  (Extern.SlicesOverlaps.overlaps #[BH, BH] #[Sl] #[.slice (some a) ea jX, .slice (some b) Ja L9]).run P w = .ok (.bool false) w := by
 obtain ⟨akE, En, Z4, ai2⟩ := Mb aI;have Z5 : w.shape? b.block = some (Sk, cur.size) := by unfold World.shape?; rw [ab]
 have NQ : ∀ x : Addr, x.block = b.block → w.frozen? x = false := fun x aa => by unfold World.frozen?; rw [aa, ab]; simp
 have ZE : (a.block != b.block) = true := by simpa using ca
 have ZF : (a.block == b.block) = false := by simpa using ca
 have f1 := NQ b rfl;have f2 := NQ { block := b.block, off := cur.size } rfl
 have key : ∀ (m : Sem Value), m = Extern.SlicesOverlaps.overlaps #[BH, BH] #[Sl] #[.slice (some a) ea jX, .slice (some b) Ja L9] → m.run P w = .ok (.bool false) w := by
  intro m hm
  conv at hm => rhs; whnf
  subst hm;have ml : ∀ {α β : Type} (x : Sem α) (f : α → Sem β), x.bind f = x >>= f := fun _ _ => rfl;have sw : ∀ {α : Type} (x : α), Sem.pure x = (pure x : Sem α) := fun _ => rfl;have Xj : ∀ {α : Type} (f : Program → Sem α), (Sem.program f).run P w = (f P).run P w := fun _ => rfl;rw [Xj];simp only [ml, sw, Sem.run_bind, Sem.run_pure, Result.andThen_ok, List.getElem_toArray, List.getElem_cons_zero, aF]
  by_cases aJ : ea = 0 ∨ Ja = 0 ∨ size = 0
  ·simp [a6, aJ]
  ·obtain ⟨En, rfl⟩ : ∃ k, En = k + 1 := ⟨En - 1, by omega⟩;generalize cur.size = IZ at *;obtain ⟨IZ, rfl⟩ : ∃ k, IZ = k + 1 := ⟨IZ - 1, by omega⟩
   cases Zh : w.frozen? a <;> cases Zi : w.frozen? { block := a.block, off := En + 1 } <;>
    simp [a6, aJ, ZE, ZF, frozen, noView, viewAt, mayBeOne, stringish, shape, Sem.run, Z4, Z5, f1, f2, Zh, Zi]
 exact key _ rfl
theorem aaL (cur news : List Value) {i n cap : Nat} (hi : i < n) (mr : n + 1 ≤ cap) (ak : cur.length = cap * 3) (hl : news.length = 3) :
  let c1 := cur.take ((i + 1) * 3) ++ (cur.drop (i * 3)).take ((n - i) * 3) ++ cur.drop ((i + 1) * 3 + ((cur.drop (i * 3)).take ((n - i) * 3)).length)
  let c2 := c1.take (i * 3) ++ news ++ c1.drop (i * 3 + news.length)
  c1.length = cap * 3 ∧ c2.length = cap * 3 ∧ c2.take ((n + 1) * 3) = (cur.take (n * 3)).take (i * 3) ++ news ++ (cur.take (n * 3)).drop (i * 3) := by
 have dl : ((cur.drop (i * 3)).take ((n - i) * 3)).length = (n - i) * 3 := by rw [eu, iC]; omega
 intro c1 c2;have aG : c1.length = cap * 3 := by simp only [c1, cX, eu, iC, dl]; omega
 have aM : c2.length = cap * 3 := by simp only [c2, cX, eu, iC, aG, hl]; omega
 have g1 : ∀ j, c1[j]? = if j < (i + 1) * 3 then cur[j]? else if j < (n + 1) * 3 then cur[j - 3]? else cur[j]? := fun j => by
  simp only [c1];have t1 : (cur.take ((i + 1) * 3)).length = (i + 1) * 3 := by rw [eu]; omega
  by_cases q1 : j < (i + 1) * 3
  ·rw [if_pos q1, iV, gG (by omega), gl q1]
  ·rw [if_neg q1]
   by_cases q2 : j < (n + 1) * 3
   ·rw [if_pos q2, gG (by rw [cX]; omega), gf (by omega), gl (by omega), gF, t1];congr 1; omega
   ·rw [if_neg q2, gf (by rw [cX]; omega), gF, cX, t1, dl];congr 1; omega
 refine ⟨aG, aM, ?_⟩;have t2 : (c1.take (i * 3)).length = i * 3 := by rw [eu]; omega
 have t3 : ((cur.take (n * 3)).take (i * 3)).length = i * 3 := by rw [eu, eu]; omega
 apply List.ext_getElem?;intro j
 by_cases db : j < (n + 1) * 3
 ·rw [gl db];simp only [c2]
  by_cases q1 : j < i * 3
  ·rw [iV, gG (by omega), gl q1, g1, if_pos (by omega), iV, gG (by omega), gl q1, gl (by omega)]
  ·by_cases q2 : j < (i + 1) * 3
   ·rw [iV, gf (by omega), gG (by omega), iV, gf (by omega), gG (by omega), t2, t3]
   ·rw [gf (by rw [cX]; omega), gF, g1, gf (by rw [cX]; omega), gF, cX, cX, t2, t3, hl, if_neg (by omega), if_pos (by omega), gl (by omega)];congr 1; omega
 ·rw [rJ (by rw [eu]; omega), rJ];simp only [cX, t3, hl, iC, eu];omega
section
variable (W : World) (g n cap i : Nat) (cur : Array Value) (news : List Value) (fL : Addr) (qQ : Nat)
theorem aaN (ax : W.heap[g]? = some (.cells cur 261 (0, 0))) (hi : i < n) (mr : n + 1 ≤ cap) (Y0 : cap ≤ 9223372036854775807) (eL : cur.size = cap * 3) (oe : ∀ v ∈ cur.toList.take (n * 3), v.oneCell' = true)
  (hl : news.length = 3) (ls : ∀ j v, news[j]? = some v → W.cell? (fL.add j) = some v) (h1 : ∀ v ∈ news, v.oneCell' = true) (ca : fL.block ≠ g) :
  Calls aj 231 #[.slice (some ⟨g, 0, none⟩) n cap, .int .i64 i, .slice (some fL) 1 qQ] W fun e bn =>
   e = .returned (.slice (some ⟨g, 0, none⟩) (n + 1) cap) ∧ ∃ n4 : Array Value, bn = W.drew.setRow g n4 ∧ n4.size = cap * 3 ∧ n4.toList.take ((n + 1) * 3) = (cur.toList.take (n * 3)).take (i * 3) ++ news ++ (cur.toList.take (n * 3)).drop (i * 3) := by
 obtain ⟨eP, z, hu, fj, h0, hY, lp, pa, b4⟩ := rP (P := aj) (tt := 137) (e := 261) (sz := 3) (bytes := 24) (by kernel_rfl);have Ap : (aj.info? 261).map (·.size) = some 3 := by rw [fj]; simp [hY]
 have uG : ¬ ((i : Int) = (n : Int)) := by omega
 have IG : IntKind.i64.wrap ((i : Int) + 1) = (i : Int) + 1 := by rw [IntKind.wrap_i64]; omega
 have IH : IntKind.i64.wrap ((n : Int) + 1) = (n : Int) + 1 := by rw [IntKind.wrap_i64]; omega
 have bE : (0 : Int) ≤ (i : Int) + 1 := by omega
 have ha : i ≤ n := by omega
 have b7 : ¬ (cap = i + 1) := by omega
 have c9 : (i : Int) ≤ (n : Int) + 1 := by omega
 have fa : ¬ (cap = i) := by omega
 have ZQ : (callFunc 262 #[.slice (some fL) 1 qQ, .slice (some ⟨g, (i + 1) * 3, none⟩) (n - i) (cap - (i + 1))]).run aj W = .ok (.value (.bool false)) W := by
  rw [run_callFunc_extern Tryz.func262 (by kernel_rfl) (by kernel_rfl) (by kernel_rfl) (e := Extern.SlicesOverlaps.overlaps #[137, 137] #[4]) (by kernel_rfl),
   afY W _ _ 261 hu 3 (fun w => by rw [h5 fj, hY]) fL ⟨g, (i + 1) * 3, none⟩ 1 qQ _ _ ca news[0] (by have := ls 0 news[0] (cj (by omega)); rwa [show fL.add 0 = fL from by unfold Addr.add; split <;> simp_all] at this) cur _ ax (by omega)]
  rfl
 obtain ⟨bC, cd, ie⟩ := aaL cur.toList news hi mr (by simpa using eL) hl;generalize n9 : (cur.toList.drop (i * 3)).take ((n - i) * 3) = pZ at *;have cW : pZ.length = (n - i) * 3 := by rw [← n9, eu, iC, Array.length_toList]; omega
 have Y3 : ∀ ty jB wV, (Builtin.copy_ #[137, 137] ty #[.slice (some ⟨g, (i + 1) * 3, none⟩) (n - i) jB, .slice (some ⟨g, i * 3, none⟩) (n + 1 - i) wV]).run aj W.drew = .ok (goInt ((n - i : Nat) : Int)) (W.drew.setRow g (cur.toList.take ((i + 1) * 3) ++ pZ ++ cur.toList.drop ((i + 1) * 3 + pZ.length)).toArray) := fun ty jB wV => by
  have hm : Nat.min (n + 1 - i) (n - i) = n - i := Nat.min_eq_right (by omega);have := Fz (P := aj) W.drew 137 137 ty 261 g ((i + 1) * 3) (n - i) jB 3 ⟨g, i * 3, none⟩ (n + 1 - i) wV cur 261 pZ hu Ap ax (by rw [hm, cW]) (fun j v af => ?_) (by rw [cW]; omega) (fun v hv => ?_)
  ·rw [hm] at this; exact this
  ·rw [Addr.add_lit];have ap : j < (n - i) * 3 := by rw [← cW]; exact (bP.1 af).1
   rw [← n9, gl ap, gF] at af;show (W.drew.cell? _) = _;unfold World.cell?;rw [show W.drew.heap[(⟨g, i * 3 + j, none⟩ : Addr).block]? = some (.cells cur 261 (0, 0)) from ax];simpa using af
  ·refine oe v ?_;obtain ⟨j, af⟩ := kA hv;have ap : j < (n - i) * 3 := by rw [← cW]; exact (bP.1 af).1
   rw [← n9, gl ap, gF] at af;exact dL (i := i * 3 + j) (by rw [gl (by omega)]; exact af)
 generalize jG : cur.toList.take ((i + 1) * 3) ++ pZ ++ cur.toList.drop ((i + 1) * 3 + pZ.length) = c1 at *;have kX := setRow_heap W.drew g cur c1.toArray _ (0, 0) ax
 have Y4 : ∀ ty jB, (Builtin.copy_ #[137, 137] ty #[.slice (some ⟨g, i * 3, none⟩) (n + 1 - i) jB, .slice (some fL) 1 qQ]).run aj (W.drew.setRow g c1.toArray) = .ok (goInt ((1 : Nat) : Int)) ((W.drew.setRow g c1.toArray).setRow g (c1.take (i * 3) ++ news ++ c1.drop (i * 3 + news.length)).toArray) := fun ty jB => by
  have hm : Nat.min 1 (n + 1 - i) = 1 := qC (by omega);have := Fz (P := aj) (W.drew.setRow g c1.toArray) 137 137 ty 261 g (i * 3) (n + 1 - i) jB 3 fL 1 qQ c1.toArray 261 news hu Ap kX (by rw [hm, hl]) (fun j v af => ?_) (by rw [hl]; simp [bC]; omega) h1
  ·rw [hm] at this; simpa using this
  rw [← ls j v af];refine World.cell?_of_block (w := W) ?_;show (World.setRow _ _ _).heap[(fL.add j).block]? = _;rw [block_add];simp only [World.setRow, u1];rw [if_neg (fun e => ca e.symm)];rfl
 generalize hH : c1.take (i * 3) ++ news ++ c1.drop (i * 3 + news.length) = c2 at *;clear ax n9 jG hH oe ls h1 kX fj h0
 go_enter Tryz.func231, Tryz.ntmps231
 go_wp2_with (simp only [ZQ])
 have mixed : aj.follows .mixedOrders = true := by kernel_rfl
 go_region_law_o (refine step_copy_runI rfl _ _ 137 137 rfl _ _ (by simp [Act.eval, Act.put]) (by simp [Act.eval, Act.put]) (Y3 _ _ _) ?_)
 go_wp2_with (at_builtin; refine wpList_copy_runI _ rfl _ _ 137 137 rfl _ _ rfl rfl (Y4 _ _) ?_)
 go_ret
 exact ⟨rfl, c2.toArray, setRow_setRow _ _ _ _, by simpa using cd, by simpa using ie⟩
theorem aaM (R xs news : List Value) {i n G : Nat} (hi : i < n) (rf : n + 1 ≤ G) (ay : R.length = G * 3) (aa : xs.length = n * 3) (zS : R.take (i * 3) = xs.take (i * 3)) (hl : news.length = 3) :
  let c1 := R.take (i * 3) ++ news ++ R.drop (i * 3 + news.length)
  let c2 := c1.take ((i + 1) * 3) ++ xs.drop (i * 3) ++ c1.drop ((i + 1) * 3 + (xs.drop (i * 3)).length)
  c1.length = G * 3 ∧ c2.length = G * 3 ∧ c2.take ((n + 1) * 3) = xs.take (i * 3) ++ news ++ xs.drop (i * 3) := by
 have t1 : (xs.take (i * 3)).length = i * 3 := by rw [eu]; omega
 have t2 : (xs.drop (i * 3)).length = (n - i) * 3 := by rw [iC]; omega
 intro c1 c2;have aG : c1.length = G * 3 := by simp only [c1, zS, cX, t1, iC, ay, hl]; omega
 have cD : c1.take ((i + 1) * 3) = xs.take (i * 3) ++ news := by
  simp only [c1, zS];rw [Bk (by rw [cX, t1, hl]; omega), hQ (by rw [cX, t1, hl]; omega)]
 have aM : c2.length = G * 3 := by simp only [c2, cD, cX, t1, t2, iC, aG, hl]; omega
 refine ⟨aG, aM, ?_⟩;simp only [c2, cD];rw [Bk (by simp only [cX, t1, t2, hl]; omega), hQ (by simp only [cX, t1, t2, hl]; omega)]
theorem aaK (xs : List Value) (ax : W.heap[g]? = some (.cells cur 261 (0, 0))) (Ef : cur.toList.take (n * 3) = xs) (o8 : xs.length = n * 3) (hi : i < n) (eX : n ≤ cap) (mr : cap < n + 1) (vU : (n + 1) * 24 ≤ 140737488355328) (oe : ∀ v ∈ xs, v.oneCell' = true)
  (hl : news.length = 3) (ls : ∀ j v, news[j]? = some v → W.cell? (fL.add j) = some v) (h1 : ∀ v ∈ news, v.oneCell' = true) :
  Calls aj 231 #[.slice (some ⟨g, 0, none⟩) n cap, .int .i64 i, .slice (some fL) 1 qQ] W fun e bn =>
   ∃ G n4 o, e = .returned (.slice (some ⟨W.heap.size, 0, none⟩) (n + 1) G) ∧ bn.heap = ((W.alloc o).setRow W.heap.size n4).heap ∧ bn.os = W.os ∧ bn.tape = W.tape ∧ bn.output = W.output ∧ (∃ lO, o = .cells lO 261 (0, 0)) ∧ n + 1 ≤ G ∧ G ≤ maxLen ∧ n4.size = G * 3 ∧ n4.toList.take ((n + 1) * 3) = xs.take (i * 3) ++ news ++ xs.drop (i * 3) := by
 obtain ⟨eP, z, hu, fj, h0, hY, lp, pa, b4⟩ := rP (P := aj) (tt := 137) (e := 261) (sz := 3) (bytes := 24) (by kernel_rfl);have Ap : (aj.info? 261).map (·.size) = some 3 := by rw [fj]; simp [hY]
 have oa : ∀ j v, xs[j]? = some v → W.cell? ⟨g, j, none⟩ = some v := fun j v af => by
  have ap : j < n * 3 := by rw [← o8]; exact (bP.1 af).1
  rw [← Ef, gl ap] at af;unfold World.cell?;rw [show W.heap[(⟨g, j, none⟩ : Addr).block]? = some (.cells cur 261 (0, 0)) from ax];simpa using af
 have NU : g < W.heap.size := (k4.1 ax).1
 have mX : fL.block < W.heap.size := by
  have := ls 0 news[0] (cj (by omega));obtain ⟨t, k, h, _⟩ := Mb this;rw [block_add] at h;unfold World.shape? at h;cases an : W.heap[fL.block]? with
  | none => rw [an] at h; cases h
  | some o => exact (k4.1 an).1
 have uG : ¬ ((i : Int) = (n : Int)) := by omega
 have aji : (cap : Int) < (n : Int) + 1 := by omega
 have IG : IntKind.i64.wrap ((i : Int) + 1) = (i : Int) + 1 := by rw [IntKind.wrap_i64]; omega
 have IH : IntKind.i64.wrap ((n : Int) + 1) = (n : Int) + 1 := by rw [IntKind.wrap_i64]; omega
 have o4 : (n : Int) + 1 - (i : Int) = ((n + 1 - i : Nat) : Int) := by omega
 have Oz : IntKind.i64.wrap ((n : Int) + 1 - (i : Int)) = (n : Int) + 1 - (i : Int) := by rw [IntKind.wrap_i64]; omega
 have Ib : i + (n + 1 - i) = n + 1 := by omega
 have hold : (Builtin.firstCells eP.size i (.slice (some ⟨g, 0, none⟩) i cap)).run aj W.drew = .ok (xs.take (i * 3)).toArray W.drew := by
  rw [hY]
  exact run_firstCells_some W.drew 3 i ⟨g, 0, none⟩ i cap (xs.take (i * 3)) (by rw [eu]; omega) (fun j v af => by
   rw [Addr.add_lit, ju];rw [List.getElem?_take] at af
   split at af
   ·exact oa j v af
   ·cases af)
 obtain ⟨G, rf⟩ : ∃ G, G = grownCap W (n + 1) cap 261 := ⟨_, rfl⟩;have Nv : n + 1 ≤ G := by rw [rf]; exact grownCap_ge W _ _ _
 have Nu : G ≤ maxLen := by rw [rf]; exact grownCap_le_maxLen W (n + 1) cap _ (by unfold maxLen; omega)
 have aiR : G ≤ 9223372036854775807 := by unfold maxLen at Nu; omega
 obtain ⟨mI, DE⟩ : ∃ mI : Array Value, mI = (xs.take (i * 3)).toArray ++ Builtin.zeroCells z.cells (n + 1 - i) ++ Builtin.zeroCells z.cells (G - (n + 1)) := ⟨_, rfl⟩
 have Iy : ∀ ty, (Builtin.append_ #[137, 3] ty #[.slice (some ⟨g, 0, none⟩) i cap, .int .i64 ((n : Int) + 1 - (i : Int))]).run aj W =
   .ok (.slice (some ⟨W.heap.size, 0, none⟩) (n + 1) G) (W.drew.alloc (.cells mI 261)) := fun ty => by
  have h := Lib.run_append_grow_zeros W 137 3 ty 261 eP z .i64 .i64 hu Tryz.underlying3 fj h0 (some ⟨g, 0, none⟩) i cap _ hold (n + 1 - i) (by omega) (by omega) (by omega) (by omega) (by rw [lp]; omega) (by rw [lp, Ib]; exact growslice_fits mr vU);rw [Ib, ← rf, ← DE] at h;rw [o4];exact h
 have NB : mI.size = G * 3 := by
  rw [DE];simp [Builtin.zeroCells, pa, eu];omega
 have zS : mI.toList.take (i * 3) = xs.take (i * 3) := by
  rw [DE, Array.toList_append, Array.toList_append, iV, Bk (by simp [eu]; omega), hQ (by simp [eu]; omega)]
 obtain ⟨bC, cd, ie⟩ := aaM mI.toList xs news hi Nv (by simpa using NB) o8 zS hl;generalize DM : xs.drop (i * 3) = Da at *;have DK : Da.length = (n - i) * 3 := by rw [← DM, iC]; omega
 obtain ⟨N, kS⟩ : ∃ N, N = W.heap.size := ⟨_, rfl⟩;obtain ⟨hj, sF⟩ : ∃ hj, hj = W.drew.alloc (.cells mI 261) := ⟨_, rfl⟩;have HK : hj.heap[N]? = some (.cells mI 261 (0, 0)) := by rw [sF, kS]; show (W.heap.push _)[W.heap.size]? = _; simp
 have HL : ∀ b, b < W.heap.size → hj.heap[b]? = W.heap[b]? := fun b ab => by rw [sF]; show (W.heap.push _)[b]? = _; rw [Array.getElem?_push_lt ab, Array.getElem?_eq_getElem ab]
 generalize jG : mI.toList.take (i * 3) ++ news ++ mI.toList.drop (i * 3 + news.length) = c1 at *
 have Y5 : ∀ mL : World, mL.heap = hj.heap → ∀ ty jB, (Builtin.copy_ #[137, 137] ty #[.slice (some ⟨N, i * 3, none⟩) (n + 1 - i) jB, .slice (some fL) 1 qQ]).run aj mL = .ok (goInt ((1 : Nat) : Int)) (mL.setRow N c1.toArray) := fun mL e9 ty jB => by
  have hm : Nat.min 1 (n + 1 - i) = 1 := qC (by omega);have := Fz (P := aj) mL 137 137 ty 261 N (i * 3) (n + 1 - i) jB 3 fL 1 qQ mI 261 news hu Ap (by rw [e9]; exact HK) (by rw [hm, hl]) (fun j v af => ?_) (by rw [hl, NB]; omega) h1
  ·rw [hm, jG] at this; exact this
  ·rw [← ls j v af];refine World.cell?_of_block (w := W) ?_;rw [block_add, e9, HL _ mX]
 generalize hH : c1.take ((i + 1) * 3) ++ Da ++ c1.drop ((i + 1) * 3 + Da.length) = c2 at *;have Zp : g ≠ N := by omega
 have Y6 : ∀ mL : World, mL.heap = (hj.setRow N c1.toArray).heap → ∀ ty jB wV, (Builtin.copy_ #[137, 137] ty #[.slice (some ⟨N, (i + 1) * 3, none⟩) (n - i) jB, .slice (some ⟨g, i * 3, none⟩) (n - i) wV]).run aj mL = .ok (goInt ((n - i : Nat) : Int)) (mL.setRow N c2.toArray) := fun mL e9 ty jB wV => by
  have hm : Nat.min (n - i) (n - i) = n - i := Nat.min_self _;have := Fz (P := aj) mL 137 137 ty 261 N ((i + 1) * 3) (n - i) jB 3 ⟨g, i * 3, none⟩ (n - i) wV c1.toArray 261 Da hu Ap (by rw [e9]; exact setRow_heap hj N mI _ _ (0, 0) HK) (by rw [hm, DK]) (fun j v af => ?_) (by rw [DK]; simp [bC]; omega) (fun v hv => oe v (by rw [← DM] at hv; exact nN hv))
  ·rw [hm] at this; simpa [hH] using this
  ·rw [Addr.add_lit];rw [← DM, gF] at af;rw [← oa _ v af];refine World.cell?_of_block (w := W) ?_;rw [e9];simp only [World.setRow, u1];rw [if_neg (fun e => Zp e.symm), HL _ NU]
 rw [← sF] at Iy;rw [← kS] at Iy ⊢;have fin : ∀ mL : World, mL.heap = hj.heap → mL.heap = (W.alloc (.cells mI 261)).heap := fun mL h => by rw [h, sF]; rfl
 have bE : (0 : Int) ≤ (i : Int) + 1 := by omega
 have ha : i ≤ n := by omega
 have aiU : ¬ (G = i) := by omega
 have aiT : ¬ (G = i + 1) := by omega
 have c9 : (i : Int) ≤ (n : Int) + 1 := by omega
 have fa : ¬ (cap = i) := by omega
 have ZM : hj.os = W.os := by rw [sF]; rfl
 have aab : hj.tape = W.tape := by rw [sF]; rfl
 have ZP : hj.output = W.output := by rw [sF]; rfl
 have Zr : hj.heap = (W.alloc (.cells mI 261)).heap := by rw [sF]; rfl
 have mixed : aj.follows .mixedOrders = true := by kernel_rfl
 clear ax Ef o8 ls h1 oe fj h0 hold rf DE zS DM sF HK HL jG hH oa o4 Ib fin kS NU mX
 go_enter Tryz.func231, Tryz.ntmps231
 go_wp2_with (first
  | (at_builtin; refine Lib.wpList_append_run _ rfl _ _ _ _ rfl _ _ rfl rfl _ _ (Iy _) ?_)
  | (at_builtin; refine wpList_copy_runI _ rfl _ _ 137 137 rfl _ _ rfl rfl (Y5 _ rfl _ _) ?_))
 go_region_law_o (refine step_copy_runI rfl _ _ 137 137 rfl (.slice (some ⟨N, (i + 1) * 3, none⟩) (n - i) (G - (i + 1))) (.slice (some ⟨g, i * 3, none⟩) (n - i) (cap - i)) (by simp [Act.eval, Act.put]) (by simp [Act.eval, Act.put]) (Y6 (hj.setRow N c1.toArray).drew rfl 3 (G - (i + 1)) (cap - i)) ?_)
 go_wp2
 go_ret
 refine ⟨G, c2.toArray, .cells mI 261 (0, 0), rfl, ?_, ZM, aab, ZP, ⟨_, rfl⟩, Nv, Nu, by simpa using cd, by simpa using ie⟩;show ((hj.setRow N c1.toArray).setRow N c2.toArray).heap = _;rw [setRow_setRow];simp only [World.setRow, Zr]
end
theorem aaJ (W : World) (v : Value) (n : Nat) (xs news : List Value) (fL : Addr) (qQ : Nat) (ez : W.ownsRow 0 261 3 v n xs) (vU : (n + 1) * 24 ≤ 140737488355328)
  (hl : news.length = 3) (ls : ∀ j v, news[j]? = some v → W.cell? (fL.add j) = some v) (h1 : ∀ v ∈ news, v.oneCell' = true) :
  Calls aj 231 #[v, .int .i64 n, .slice (some fL) 1 qQ] W fun e bn =>
   ∃ a7, e = .returned a7 ∧ bn.ownsRow 0 261 3 a7 (n + 1) (xs ++ news) ∧ W.grownBy bn v.ownBlock ∧ (∀ g, a7.ownBlock = some g → v.ownBlock = some g ∨ W.heap.size ≤ g) ∧ a7.oneCell' = true := by
 obtain ⟨eP, z, hu, fj, h0, hY, lp, pa, b4⟩ := rP (P := aj) (tt := 137) (e := 261) (sz := 3) (bytes := 24) (by kernel_rfl);obtain ⟨a7, w', al, q⟩ := RV (P := aj) W 0 137 137 261 eP z 3 24 hu fj h0 hY lp pa b4 v n xs ez fL 1 qQ news (by rw [hl]) ls h1 (by unfold maxLen; omega) vU (eF _) (by decide);rcases ez.2 with ⟨rfl, rfl⟩ | ⟨g, cap, cur, rfl, ri, ax, eX, j3, eL, om⟩
 ·clear fj h0 ez ls
  go_enter Tryz.func231, Tryz.ntmps231
  go_wp2_with (at_builtin; refine Lib.wpList_append_run _ rfl _ _ _ _ rfl _ _ rfl rfl _ _ al ?_)
  go_ret
  exact ⟨a7, rfl, q⟩
 ·have Y0 : cap ≤ 9223372036854775807 := by unfold maxLen at j3; omega
  clear fj h0 ez ls ax eL om j3
  go_enter Tryz.func231, Tryz.ntmps231
  go_wp2_with (at_builtin; refine Lib.wpList_append_run _ rfl _ _ _ _ rfl _ _ rfl rfl _ _ al ?_)
  all_goals go_ret
  all_goals exact ⟨a7, rfl, q⟩
theorem MQ : ∀ (l : List dw) (i : Nat), (er l).take (i * 3) = er (l.take i)
 | [], i => by simp [er]
 | e :: l, 0 => by simp [er]
 | e :: l, i + 1 => by
  rw [show (i + 1) * 3 = i * 3 + 1 + 1 + 1 by omega];simp only [er, List.take_succ_cons, MQ l i]
theorem MO : ∀ (l : List dw) (i : Nat), (er l).drop (i * 3) = er (l.drop i)
 | [], i => by simp [er]
 | e :: l, 0 => by simp
 | e :: l, i + 1 => by
  rw [show (i + 1) * 3 = i * 3 + 1 + 1 + 1 by omega];simp only [er, List.drop_succ_cons, MO l i]
theorem b3.take {U : Nat → Prop} {ad : Nat → Nat} {W : World} {xs : List AC} {vs : List Value} (h : b3 U ad W xs vs) (k : Nat) : b3 U ad W (xs.take k) (vs.take k) := by
 have := h.sub 0 k;simpa using this
theorem b3.drop {U : Nat → Prop} {ad : Nat → Nat} {W : World} {xs : List AC} {vs : List Value} (h : b3 U ad W xs vs) (k : Nat) : b3 U ad W (xs.drop k) (vs.drop k) := by
 refine ⟨by rw [iC, iC, h.1], fun i x v aa hv => ?_⟩;rw [gF] at aa hv;exact h.2 _ x v aa hv
theorem b3.Bc {U : Nat → Prop} {ad : Nat → Nat} {W : World} {xs : List AC} {vs : List Value} (h : b3 U ad W xs vs) : ∀ v ∈ vs, v.oneCell' = true := fun v hv => by
 obtain ⟨j, af⟩ := kA hv;have bh : j < xs.length := by rw [h.1]; exact (bP.1 af).1
 exact (h.2 j _ v (cj bh) af).cell
theorem adz {W : World} {b e sz n : Nat} {v : Value} {xs : List Value} (h : W.ownsRow b e sz v n xs) : v.oneCell' = true := by
 rcases h.2 with ⟨rfl, _⟩ | ⟨g, cap, cur, rfl, _⟩ <;> rfl
abbrev sY (l : List dw) (i : Nat) (e : dw) : List dw := l.take i ++ e :: l.drop i
theorem aaH {l : List dw} {i : Nat} {e : dw} (hi : i ≤ l.length) : (sY l i e).length = l.length + 1 := by
 unfold sY; rw [cX, lB, eu, iC]; omega
theorem aaI {U : Nat → Prop} {ad : Nat → Nat} {W : World} {l : List dw} {xs news : List Value} {e : dw} (i : Nat) (h : b3 U ad W (er l) xs) (aD : b3 U ad W (er [e]) news) : b3 U ad W (er (sY l i e)) (xs.take (i * 3) ++ news ++ xs.drop (i * 3)) := by
 have : er (sY l i e) = (er l).take (i * 3) ++ er [e] ++ (er l).drop (i * 3) := by
  rw [MQ, MO, ← zz, ← zz, iV]; rfl
 rw [this];exact ((h.take _).append aD).append (h.drop _)
theorem MM : ∀ (l : List dw) (y : AC), y ∈ er l → ∃ u, y = .c u
 | [], y, h => by cases h
 | e :: l, y, h => by
  simp only [er, gS] at h;rcases h with h | h | h | h
  ·exact ⟨_, h⟩
  ·exact ⟨_, h⟩
  ·exact ⟨_, h⟩
  ·exact MM l y h
theorem W5 {U cK : Nat → Prop} {ad bg : Nat → Nat} {W bn : World} {l : List dw} {vs : List Value} (h : b3 U ad W (er l) vs) : b3 cK bg bn (er l) vs := by
 refine ⟨h.1, fun i x v aa hv => ?_⟩;have := h.2 i x v aa hv;obtain ⟨u, rfl⟩ := MM l x (dL aa);exact this
theorem VA {l : List dw} {v : Value} {i : Nat} {x y w : Int} (hi : i ≤ l.length) (ap : l.length ≤ 1000000) :
  y4 aj 231 [aU v, aR i, cT 3 1 [.c (.int .i64 x), .c (.int .i64 y), .c (.int .i64 w)]] (hx v l) fun ck ba => ∃ a7, a7.oneCell' = true ∧ ck = aU a7 ∧ ba = hx a7 (sY l i (x, y, w)) := by
 refine afh rfl (jL _) (fun ck ba ⟨a7, _, _, e⟩ => by rw [e]; exact jL _) ?_;intro U W vs xs aB j8 cW we dX;obtain ⟨hlen, hv⟩ := dX
 match vs, hlen with
 | [a, b, c], _ =>
  have dl : a = v := (hv 0 _ a rfl rfl).1;have aG : b = .int .i64 i := (hv 1 _ b rfl rfl).1;obtain ⟨⟨A, pZ, aM, jG, hH, YX⟩, Zm⟩ := hv 2 _ c rfl rfl;obtain ⟨fL, news, rfl, fq⟩ := YX (by decide);subst dl aG aM;have hl : news.length = 3 := fq.oF.1.symm;have rq : b3 U id W (er [(x, y, w)]) news := W5 (U := fun _ => True) (ad := id) (W := W) fq.oF;have qo := aaI i j8 rq;have oc : (sY l i (x, y, w)).length = l.length + 1 := aaH hi;have o8 : xs.length = l.length * 3 := aB.1;have aag : U fL.block := Zm _ ⟨pZ, fL, rfl, by decide, .inl rfl⟩;have sG : ∀ q ∈ er (sY l i (x, y, w)), q.bd = true := fun q an => cB.1 (MN _) q an
  have fin : ∀ (e : Ending) (bn : World) (a7 : Value), e = .returned a7 → bn.ownsRow 0 261 3 a7 (l.length + 1) (xs.take (i * 3) ++ news ++ xs.drop (i * 3)) → W.grownBy bn a.ownBlock → (∀ g, a7.ownBlock = some g → a.ownBlock = some g ∨ W.heap.size ≤ g) →
    ∃ u ck ba, e = .returned u ∧ (∃ a7, a7.oneCell' = true ∧ ck = aU a7 ∧ ba = hx a7 (sY l i (x, y, w))) ∧ K7 W bn (hx a l) ba U ∧ dn U id W ck u ∧ ck.bd = true := by
   rintro e bn a7 rfl h1 h2 ao;have HC := adz h1;refine ⟨a7, _, _, rfl, ⟨a7, HC, rfl, rfl⟩, ⟨h2, ⟨_, ?_, qo⟩, sG, ao⟩, ⟨rfl, HC⟩, rfl⟩;show bn.ownsRow 0 261 3 a7 (sY l i (x, y, w)).length _;rw [oc]; exact h1
  by_cases sK : i = l.length
  ·subst sK;refine (aaJ W a l.length xs news fL pZ aB (by omega) hl fq.at_ rq.Bc).mono ?_;rintro e bn ⟨a7, rfl, h1, h2, ao, _⟩;refine fin _ _ a7 rfl ?_ h2 ao;rw [hQ (by omega), u4 (by omega), qz];exact h1
  ·have bh : i < l.length := by omega
   obtain ⟨g, cap, cur, rfl, ri, ax, eX, j3, eL, om⟩ : ∃ g cap cur, a = .slice (some ⟨g, 0, none⟩) l.length cap ∧ 0 ≤ g ∧ W.heap[g]? = some (.cells cur 261 (0, 0)) ∧ l.length ≤ cap ∧ cap ≤ maxLen ∧ cur.size = cap * 3 ∧ cur.toList.take (l.length * 3) = xs := by
    rcases aB.2 with ⟨_, aJ⟩ | h
    ·have : l.length = 0 := aJ;omega
    ·exact h
   have Zq : fL.block ≠ g := fun e => we g rfl (by rw [← e]; exact aag)
   by_cases mr : l.length + 1 ≤ cap
   ·refine (aaN W g l.length cap i cur news fL pZ ax bh mr (by unfold maxLen at j3; omega) eL (by rw [om]; exact j8.Bc) hl fq.at_ rq.Bc Zq).mono ?_;rintro e bn ⟨rfl, n4, rfl, bC, cd⟩;rw [om] at cd;have aW := setRow_heap W.drew g cur n4 _ (0, 0) ax;refine fin _ _ _ rfl ⟨?_, .inr ⟨g, cap, n4, rfl, eF _, aW, mr, j3, bC, cd⟩⟩ ⟨rfl, rfl, rfl, by (show W.heap.size ≤ (Array.modify W.heap g _).size; rw [Array.size_modify]; exact eb _), fun k _ ae => ?_⟩ fun jD eM => .inl eM
    ·simp only [cX, eu, iC, hl]; omega
    ·show (Array.modify W.heap g _)[k]? = _;rw [u1];rw [if_neg (fun e => ae (by rw [e]; rfl))]
   ·refine (aaK W g l.length cap i cur news fL pZ xs ax om o8 bh eX (by omega) (by omega) j8.Bc hl fq.at_ rq.Bc).mono ?_;rintro e bn ⟨G, n4, o, rfl, q1, q2, cr, eE, ⟨lO, rfl⟩, bC, cd, ie, jI⟩;have Af : (W.alloc (.cells lO 261 (0, 0))).heap[W.heap.size]? = some (.cells lO 261 (0, 0)) := by show (W.heap.push _)[W.heap.size]? = _; simp
    have aW := setRow_heap _ W.heap.size lO n4 _ (0, 0) Af;rw [← q1] at aW;refine fin _ _ _ rfl ⟨?_, .inr ⟨W.heap.size, G, n4, rfl, eF _, aW, bC, cd, ie, jI⟩⟩ ⟨q2, cr, eE, ?_, fun k ae _ => ?_⟩ fun jD eM => .inr (by simp [Value.ownBlock] at eM; omega)
    ·simp only [cX, eu, iC, hl]; omega
    ·rw [q1];show W.heap.size ≤ (Array.modify (W.heap.push _) _ _).size;rw [Array.size_modify, Array.size_push]; omega
    ·rw [q1];simp only [World.setRow, u1];rw [if_neg (by omega)];show (W.heap.push _)[k]? = _;rw [Array.getElem?_push_lt ae, Array.getElem?_eq_getElem ae]
end Go.Proofs.YtpochbhajmbfdaaGreat
namespace Go.Proofs.YtpochbhajmbfdaaGreat
open Go.RowKit
theorem aeP {x y a b : Int} : mz x y a b < 0 ↔ my x y a b = true := by
 rw [pr];unfold mz gj
 split <;> split <;> first | omega | (split <;> omega)
theorem aeO {x y a b : Int} : mz x y a b = 0 ↔ x = a ∧ y = b := by
 unfold mz gj
 split <;> split <;> first | omega | (split <;> omega)
theorem Q1 {x y v a b : Int} : aY aj 260 [.w (.agg [.c (.int .i64 x), .c (.int .i64 y), .c (.int .i64 v)]), bi a b] (aR (mz x y a b)) := by
 have aP := aen (x := x) (y := y) (x' := a) (y' := b);refine cq (f := 260) Tryz.func260 rfl rfl rfl rfl ?_;(repeat first | (with_reducible apply az); exact rfl | refine dP rfl rfl rfl rfl (by (exact aP)) rfl ?_ | (with_reducible first | apply bQ | apply bI | apply bO | apply aA | apply cf))
 ((refine bY rfl (bD rfl bf) ?_))
 exact ai.bo.refl _
abbrev Sz : ai := aU (.func (.func 260) #[] #[])
def SX (l : List dw) (v : Value) (a b : Int) (n : Nat) (R : aL) (aS : List (Nat × ai)) (bw : List (Nat × List AC)) : Prop :=
 ∃ (lo hi : Nat) (lx af : Int), lo ≤ fm l a b ∧ fm l a b ≤ hi ∧ hi ≤ l.length ∧ n = hi - lo ∧ lx = lo ∧ af = hi ∧ R = bH 0 (hx v l) ∧ bw = [(4, EG a b)] ∧ aS = [(0, aU v), (2, Sz), (4, pG 4), (8, aR l.length), (9, aR lx), (10, aR af)]
theorem VB {l : List dw} {v : Value} {a b : Int} (al : kr l) (ap : l.length ≤ 1000000) :
  y4 aj 259 [aU v, bi a b, Sz] (hx v l) fun ck ba => ck = .dd [.one (.c (.int .i64 (fm l a b))), .one (.c (.bool (hW l a b)))] ∧ ba = hx v l := by
 refine afg rfl (fun v ba h => by rw [h.1]; rfl) ?_;refine dv (f := 259) Tryz.func259 rfl (du rfl) (by exact n3) ?_;(repeat first | (with_reducible first | apply bb | apply aV | apply a8 | apply aX | apply fu) | (with_reducible apply aO); exact rfl; (repeat first | (with_reducible apply az); exact rfl); (with_reducible apply aA) | (with_reducible apply oj 0); (iterate 4 exact rfl); kernel_rfl; exact rfl);refine k7 49 (SX l v a b) l.length (bH 0 (hx v l)) _ [(4, EG a b)] ⟨0, l.length, 0, l.length, eF _, Rb l a b, eb _, rfl, rfl, rfl, rfl, rfl, rfl⟩ (bL.refl _) rfl ⟨rfl, rfl, rfl, rfl, rfl, rfl, trivial⟩ ⟨rfl, trivial⟩ rfl ?_;rintro n R aS bw ⟨lo, hi, lx, af, h1, h2, ao, rfl, aH, cM, rfl, rfl, rfl⟩ dK;clear dK
 by_cases an : lo < hi
 ·subst aH cM;have q2 : (lo : Int) < (hi : Int) := by omega
  obtain ⟨h, aW⟩ : ∃ h, h = (lo + hi) / 2 := ⟨_, rfl⟩;have aG : ((lo : Int) + (hi : Int)) / 2 = (h : Int) := by omega
  have Zs : h < l.length := by omega
  obtain ⟨x, y, w, g1⟩ : ∃ x y w, l[h]? = some (x, y, w) := ⟨_, _, _, cj Zs⟩;have lZ : 0 < l.length := by omega
  have jz : (((lo : Int) + (hi : Int)) / 2).toNat * 3 + 3 ≤ (er l).length ∧ ((er l).drop ((((lo : Int) + (hi : Int)) / 2).toNat * 3)).take 3 = [.c (.int .i64 x), .c (.int .i64 y), .c (.int .i64 w)] := ⟨by rw [zA]; omega, MR aG g1⟩;have hj : IntKind.i64.wrap ((lo : Int) + hi) = (lo : Int) + hi := cZ (by omega);have vv : IntKind.u64.wrap ((lo : Int) + hi) = (lo : Int) + hi := by rw [IntKind.wrap_u64]; omega
  have aP := Q1 (x := x) (y := y) (v := w) (a := a) (b := b);have jA : h < fm l a b ↔ mz x y a b < 0 := (yu al a b h (x, y, w) g1).trans aeP.symm;generalize mz x y a b = c at *;have Bh : ((lo : Int) + (hi : Int)) / 2 < (l.length : Int) := by omega
  clear g1
  replace aG := Lib.hid aG
  replace aW := Lib.hid aW
  by_cases ak : c < 0
  ·(repeat first | (with_reducible apply eD); kernel_rfl | (with_reducible apply dU (id := 5) [0,1,2,3,4,5,6,7]); kernel_rfl; kernel_rfl; exact rfl | (with_reducible first | apply bb | apply aV | apply a8 | apply aX | apply dc | apply fu | apply kg) | (with_reducible apply eo); exact rfl; (exact bF (by omega)) | (with_reducible apply aO); exact rfl; (repeat first | (with_reducible apply az); exact rfl | (with_reducible apply fh); (iterate 3 exact rfl); (exact cZ (by omega)); exact rfl | (with_reducible apply Gz); exact rfl; exact rfl; (first | exact cZ (by omega) | assumption); exact rfl | refine dP rfl rfl rfl rfl (by (exact aP)) rfl ?_ | (with_reducible apply si); (iterate 5 exact rfl); (intro W; go_simp; try rfl); (intro W; go_simp; try rfl); exact rfl; exact rfl); (with_reducible apply aA) | (with_reducible apply j9 0); (iterate 4 exact rfl); (omega); (assumption); exact rfl; kernel_rfl; exact rfl | (with_reducible apply ol 0); (iterate 3 exact rfl); (assumption); assumption; exact rfl; kernel_rfl; exact rfl);have aW := aW.out;have aG := aG.out;refine ⟨hi - (h + 1), bH 0 (hx v l), _, [(4, EG a b)], by omega, ⟨h + 1, hi, _, hi, jA.2 ak, h2, ao, rfl, ?_, rfl, rfl, rfl, rfl⟩, bL.refl _, rfl, ⟨rfl, rfl, rfl, rfl, rfl, rfl, trivial⟩, ⟨rfl, trivial⟩, rfl⟩;omega
  ·have h9 : fm l a b ≤ h := by have := mt jA.1 ak; omega
   (repeat first | (with_reducible apply eD); kernel_rfl | (with_reducible apply dU (id := 5) [0,1,2,3,4,5,6,7]); kernel_rfl; kernel_rfl; exact rfl | (with_reducible first | apply bb | apply aV | apply a8 | apply aX | apply dc | apply fu | apply kg) | (with_reducible apply eo); exact rfl; (exact bF (by omega)) | (with_reducible apply c4); exact rfl; (exact b5 (by omega)) | (with_reducible apply aO); exact rfl; (repeat first | (with_reducible apply az); exact rfl | (with_reducible apply fh); (iterate 3 exact rfl); (exact cZ (by omega)); exact rfl | (with_reducible apply Gz); exact rfl; exact rfl; (first | exact cZ (by omega) | assumption); exact rfl | refine dP rfl rfl rfl rfl (by (exact aP)) rfl ?_ | (with_reducible apply si); (iterate 5 exact rfl); (intro W; go_simp; try rfl); (intro W; go_simp; try rfl); exact rfl; exact rfl); (with_reducible apply aA) | (with_reducible apply j9 0); (iterate 4 exact rfl); (omega); (assumption); exact rfl; kernel_rfl; exact rfl | (with_reducible apply ol 0); (iterate 3 exact rfl); (assumption); assumption; exact rfl; kernel_rfl; exact rfl);have aW := aW.out;have aG := aG.out;refine ⟨h - lo, bH 0 (hx v l), _, [(4, EG a b)], by omega, ⟨lo, h, lo, _, h1, h9, by omega, rfl, rfl, aG, rfl, rfl, rfl⟩, bL.refl _, rfl, ⟨rfl, rfl, rfl, rfl, rfl, rfl, trivial⟩, ⟨rfl, trivial⟩, rfl⟩
 ·have dl : lo = fm l a b := by omega
  subst dl;have q2 : ¬ lx < af := by omega
  clear cM an h2 ao h1;generalize hp : fm l a b = p at *
  by_cases aD : p < l.length
  ·subst aH;have cr : (p : Int) < (l.length : Int) := by omega
   have lZ : 0 < l.length := by omega
   obtain ⟨x, y, w, g1⟩ : ∃ x y w, l[p]? = some (x, y, w) := ⟨_, _, _, cj aD⟩;have jz : ((p : Int)).toNat * 3 + 3 ≤ (er l).length ∧ ((er l).drop (((p : Int)).toNat * 3)).take 3 = [.c (.int .i64 x), .c (.int .i64 y), .c (.int .i64 w)] := ⟨by rw [zA]; omega, MR rfl g1⟩;have aP := Q1 (x := x) (y := y) (v := w) (a := a) (b := b)
   have jA : hW l a b = decide (mz x y a b = 0) := by
    rw [mC, DH al, hp, g1, decide_eq_true_iff, aeO]
    constructor
    ·rintro ⟨u, hu⟩; cases hu; exact ⟨rfl, rfl⟩
    ·rintro ⟨rfl, rfl⟩; exact ⟨w, rfl⟩
   generalize mz x y a b = c at *;(repeat first | (with_reducible apply eD); kernel_rfl | (with_reducible apply dU (id := 8) [0,1,2,3,4,5,6,7,8,9,10,11,12,13,14,15]); kernel_rfl; kernel_rfl; exact rfl | (with_reducible first | apply bb | apply aV | apply a8 | apply aX | apply dM | apply jN | apply jS | apply jR) | (with_reducible apply c4); exact rfl; (exact b5 (by omega)) | (with_reducible apply aO); exact rfl; (repeat first | (with_reducible apply az); exact rfl | refine dP rfl rfl rfl rfl (by (exact aP)) rfl ?_ | (with_reducible apply dO (c := true)); exact rfl; exact rfl; (exact bF (by omega))); (with_reducible apply aA) | (with_reducible apply j9 0); (iterate 4 exact rfl); (omega); (assumption); exact rfl; kernel_rfl; exact rfl | (with_reducible apply ol 0); (iterate 3 exact rfl); (assumption); assumption; exact rfl; kernel_rfl; exact rfl)
   ((refine NR rfl (bD rfl (bD rfl bf)) rfl rfl ?_))
   exact ⟨by rw [jA]; rfl, rfl⟩
  ·subst aH;have cr : ¬ (p : Int) < (l.length : Int) := by omega
   have jA : hW l a b = false := by
    cases aW : hW l a b with
    | false => rfl
    | true =>
     obtain ⟨u, hu⟩ := (DH al).1 aW;rw [hp] at hu;have := (bP.1 hu).1;omega
   (repeat first | (with_reducible apply eD); kernel_rfl | (with_reducible apply dU (id := 8) [0,1,2,3,4,5,6,7,8,9,10,11,12,13,14,15]); kernel_rfl; kernel_rfl; exact rfl | (with_reducible first | apply bb | apply aV | apply a8 | apply aX | apply dM | apply jN | apply jS | apply jR) | (with_reducible apply c4); exact rfl; (exact b5 (by omega)) | (with_reducible apply aO); exact rfl; (repeat first | (with_reducible apply az); exact rfl | (with_reducible apply dO (c := false)); exact rfl; exact rfl; (exact b5 (by omega))); (with_reducible apply aA))
   ((refine NR rfl (bD rfl (bD rfl bf)) rfl rfl ?_))
   exact ⟨by rw [jA]; rfl, rfl⟩
theorem agG {l : List dw} {p : Nat} {x y u w : Int} (hu : l[p]? = some (x, y, u)) : eO (er l) ((p : Int).toNat * 3 + 2) [.c (.int .i64 w)] = er (l.take p ++ (x, y, w) :: l.drop (p + 1)) := by
 have bh := (bP.1 hu).1;have he := (bP.1 hu).2
 have aG : l = l.take p ++ (x, y, u) :: l.drop (p + 1) := by
  conv => lhs; rw [← k3 p l, nL bh, he]
 have t1 : (er (l.take p)).length = p * 3 := by rw [zA, eu]; omega
 rw [k6]
 conv => lhs; rw [aG]
 unfold eO;rw [zz, zz];simp only [er];rw [List.take_append, List.drop_append, t1, show (er (l.take p)).take (p * 3 + 2) = er (l.take p) from hQ (by omega), show (er (l.take p)).drop (p * 3 + 2 + [AC.c (.int .i64 w)].length) = [] from u4 (by rw [t1, List.length_singleton]; omega)];rw [show p * 3 + 2 - p * 3 = 2 by omega, show p * 3 + 2 + [AC.c (.int .i64 w)].length - p * 3 = 3 by simp; omega];simp
def Ta (n : Nat) : Prop := ∀ (u9 : Value) l v (x y w : Int), v.oneCell' = true → kr l → l.length ≤ n → qY aj 202 [bi x y, aR w] [.c v, .c u9] (hx v l) fun r au ba => r = bG (!hW l x y) ∧ ∃ a7, a7.oneCell' = true ∧ au = [.c a7, .c u9] ∧ ba = hx a7 (te l x y w)
def S6 (n : Nat) : Prop := ∀ (u9 : Value) l v (x y : Int), v.oneCell' = true → kr l → l.length ≤ n → qY aj 229 [bi x y] [.c v, .c u9] (hx v l) fun r au ba => r = .dd [.one (.c (.int .i64 (oJ l x y))), .one (.c (.bool (hW l x y)))] ∧ au = [.c v, .c u9] ∧ ba = hx v l
def S7 (n : Nat) : Prop := ∀ (u9 : Value) l v, v.oneCell' = true → kr l → l.length ≤ n → qY aj 201 [] [.c v, .c u9] (hx v l) fun r au ba => r = aR l.length ∧ au = [.c v, .c u9] ∧ ba = hx v l
theorem L4 {u9 : Value} {l : List dw} {v : Value} {a b : Int} (hv : v.oneCell' = true) (al : kr l) (ap : l.length ≤ 1000000) : qY aj 230 [bi a b] [.c v, .c u9] (hx v l) fun ck au ba => ck = .dd [.one (.c (.int .i64 (fm l a b))), .one (.c (.bool (hW l a b)))] ∧ au = [.c v, .c u9] ∧ ba = hx v l := by
 have aP := VB (v := v) (a := a) (b := b) al ap;refine uT rfl rfl (fun v au ba h => by obtain ⟨rfl, rfl, rfl⟩ := h; exact ⟨rfl, rfl⟩) ?_;refine dv (f := 230) Tryz.func230 rfl (du rfl) (by exact eB rfl) ?_;(repeat first | (with_reducible apply l5 (id := 1) [0,1,2,3,4,5,6,7,8,9] [11]); kernel_rfl; kernel_rfl; exact rfl | (with_reducible first | apply bb | apply aV | apply a8 | apply aX) | (with_reducible apply aO); exact rfl; (repeat first | (with_reducible apply az); exact rfl | (with_reducible apply df); (iterate 3 exact rfl)); (with_reducible apply aA));refine Ol 0 rfl rfl rfl rfl aP rfl rfl rfl (fun ck ba h => ?_);obtain ⟨rfl, rfl⟩ := h;(repeat first | (with_reducible apply eD); kernel_rfl | (with_reducible first | apply aV | apply dM) | (with_reducible apply aO); exact rfl; (repeat first | (with_reducible apply az); exact rfl); (with_reducible apply aA))
 ((refine rl rfl (bD rfl (bD rfl bf)) rfl rfl rfl rfl ?_))
 exact ⟨rfl, rfl, rfl⟩
theorem aa4 : S7 1100 := by
 intro u9 l v hv al ap;refine uT rfl rfl (fun v au ba h => by obtain ⟨rfl, rfl, rfl⟩ := h; exact ⟨rfl, rfl⟩) ?_;refine dv (f := 201) Tryz.func201 rfl (du rfl) (by exact eB rfl) ?_;(repeat first | (with_reducible first | apply bb | apply aV | apply a8 | apply aX | apply dM) | (with_reducible apply aO); exact rfl; (repeat first | (with_reducible apply az); exact rfl | (with_reducible apply df); (iterate 3 exact rfl)); (with_reducible apply aA) | (with_reducible apply oj 0); (iterate 4 exact rfl); kernel_rfl; exact rfl)
 ((refine rl rfl (bD rfl bf) rfl rfl rfl rfl ?_))
 exact ⟨rfl, rfl, rfl⟩
theorem aa3 : S6 1100 := by
 intro u9 l v x y hv al ap;have aP := L4 (u9 := u9) (v := v) (a := x) (b := y) hv al (by omega);have hp := DH (l := l) al (x := x) (y := y);refine uT rfl rfl (fun v au ba h => by obtain ⟨rfl, rfl, rfl⟩ := h; exact ⟨rfl, rfl⟩) ?_;cases aW : hW l x y with
 | false =>
  rw [aW] at aP;rw [ahh aW];refine dv (f := 229) Tryz.func229 rfl (du rfl) (by exact eB rfl) ?_;(repeat first | (with_reducible first | apply bb | apply aV | apply a8 | apply aX) | (with_reducible apply aO); exact rfl; (repeat first | (with_reducible apply az); exact rfl); (with_reducible apply aA));refine sO 1000 0 rfl rfl rfl rfl aP rfl rfl rfl rfl rfl rfl (fun r au ba h => ?_);obtain ⟨rfl, rfl, rfl⟩ := h;(repeat first | (with_reducible first | apply bb | apply aV | apply a8 | apply aX | apply dM | apply kH) | (with_reducible apply eo); exact rfl; (exact rfl) | (with_reducible apply aO); exact rfl; (repeat first | (with_reducible apply az); exact rfl); (with_reducible apply aA))
  ((refine rl rfl (bD rfl (bD rfl bf)) rfl rfl rfl rfl ?_))
  exact ⟨rfl, rfl, rfl⟩
 | true =>
  rw [aW] at aP;obtain ⟨u, hu⟩ := hp.1 aW;rw [(ahi al hu).2];have bh := (bP.1 hu).1;generalize fm l x y = p at *;clear hp;have cr : (p : Int) < (l.length : Int) := by omega
  have lZ : 0 < l.length := by omega
  have jz : (er l)[(p : Int).toNat * 3 + 2]? = some (.c (.int .i64 u)) := by
   have h1 := Hc l p (x, y, u) hu;have h2 : ((((er l).drop (p * 3)).take 3))[2]? = some (.c (.int .i64 u)) := by rw [h1]; rfl
   rw [gl (by decide), gF] at h2;exact h2
  refine dv (f := 229) Tryz.func229 rfl (du rfl) (by exact eB rfl) ?_;(repeat first | (with_reducible first | apply bb | apply aV | apply a8 | apply aX) | (with_reducible apply aO); exact rfl; (repeat first | (with_reducible apply az); exact rfl); (with_reducible apply aA));refine sO 1000 0 rfl rfl rfl rfl aP rfl rfl rfl rfl rfl rfl (fun r au ba h => ?_);obtain ⟨rfl, rfl, rfl⟩ := h;(repeat first | (with_reducible first | apply bb | apply aV | apply a8 | apply aX | apply dM | apply dc) | (with_reducible apply c4); exact rfl; (exact rfl) | (with_reducible apply aO); exact rfl; (repeat first | (with_reducible apply az); exact rfl | (with_reducible apply df); (iterate 3 exact rfl)); (with_reducible apply aA) | (with_reducible apply j9 0); (iterate 4 exact rfl); (omega); (assumption); exact rfl; kernel_rfl; exact rfl | (with_reducible apply Aq 0); (iterate 3 exact rfl); (assumption); kernel_rfl; exact rfl | (with_reducible apply Ar 0); (iterate 3 exact rfl); (assumption); assumption; exact rfl; kernel_rfl; exact rfl)
  ((refine rl rfl (bD rfl (bD rfl bf)) rfl rfl rfl rfl ?_))
  exact ⟨rfl, rfl, rfl⟩
theorem aa8 : Ta 1100 := by
 intro u9 l v x y w hv al ap;have aP := L4 (u9 := u9) (v := v) (a := x) (b := y) hv al (by omega);have hp := DH (l := l) al (x := x) (y := y);have o6 := Rb l x y;refine uT rfl rfl (fun v au ba h => by obtain ⟨rfl, a7, cg, rfl, rfl⟩ := h; exact ⟨rfl, rfl⟩) ?_;cases aW : hW l x y with
 | false =>
  rw [aW] at aP;rw [Rq al aW];have b6 := VA (l := l) (v := v) (i := fm l x y) (x := x) (y := y) (w := w) o6 (by omega);generalize fm l x y = p at *;clear hp;refine dv (f := 202) Tryz.func202 rfl (du rfl) (by exact eB rfl) ?_;(repeat first | (with_reducible first | apply bb | apply aV | apply a8 | apply aX) | (with_reducible apply aO); exact rfl; (repeat first | (with_reducible apply az); exact rfl); (with_reducible apply aA));refine sO 1000 0 rfl rfl rfl rfl aP rfl rfl rfl rfl rfl rfl (fun r au ba h => ?_);obtain ⟨rfl, rfl, rfl⟩ := h;(repeat first | (with_reducible apply l5 (id := 5) [0,1,2,3,4,5,6,7,8,9,10,11,12,13] [34]); kernel_rfl; kernel_rfl; exact rfl | (with_reducible first | apply bb | apply aV | apply a8 | apply aX | apply dc) | (with_reducible apply c4); exact rfl; (exact rfl) | (with_reducible apply aO); exact rfl; (repeat first | (with_reducible apply az); exact rfl | (with_reducible apply df); (iterate 3 exact rfl) | (with_reducible apply lM); (iterate 10 exact rfl)); (with_reducible apply aA));refine Ol 0 rfl rfl rfl rfl b6 rfl rfl rfl (fun ck ba h => ?_);obtain ⟨a7, cg, rfl, rfl⟩ := h;(repeat first | (with_reducible apply eD); kernel_rfl | (with_reducible first | apply bb | apply aV | apply a8 | apply aX | apply dM) | (with_reducible apply aO); exact rfl; (repeat first | (with_reducible apply az); exact rfl | (with_reducible apply df); (iterate 3 exact rfl)); (with_reducible apply aA))
  ((refine rl rfl (bD rfl bf) rfl rfl rfl rfl ?_))
  exact ⟨rfl, a7, cg, rfl, rfl⟩
 | true =>
  rw [aW] at aP;obtain ⟨u, hu⟩ := hp.1 aW;rw [aeY al hu];have bh := (bP.1 hu).1;generalize fm l x y = p at *;clear hp;have cr : (p : Int) < (l.length : Int) := by omega
  have lZ : 0 < l.length := by omega
  refine dv (f := 202) Tryz.func202 rfl (du rfl) (by exact eB rfl) ?_;(repeat first | (with_reducible first | apply bb | apply aV | apply a8 | apply aX) | (with_reducible apply aO); exact rfl; (repeat first | (with_reducible apply az); exact rfl); (with_reducible apply aA));refine sO 1000 0 rfl rfl rfl rfl aP rfl rfl rfl rfl rfl rfl (fun r au ba h => ?_);obtain ⟨rfl, rfl, rfl⟩ := h;(repeat first | (with_reducible first | apply bb | apply aV | apply a8 | apply aX) | (with_reducible apply eo); exact rfl; (exact rfl) | (with_reducible apply aO); exact rfl; (repeat first | (with_reducible apply az); exact rfl | (with_reducible apply df); (iterate 3 exact rfl)); (with_reducible apply aA) | (with_reducible apply j9 0); (iterate 4 exact rfl); (omega); (assumption); exact rfl; kernel_rfl; exact rfl | (with_reducible apply Aq 0); (iterate 3 exact rfl); (assumption); kernel_rfl; exact rfl);refine Av 0 rfl rfl rfl rfl lZ rfl rfl ?_ rfl ?_
  ·show (p : Int).toNat * 3 + 2 + 1 ≤ (er l).length;rw [zA]; omega
  ·have aG := agG (w := w) hu
   have aM : (l.take p ++ (x, y, w) :: l.drop (p + 1)).length = l.length := by
    rw [cX, lB, eu, iC]; omega
   have cD : (⟨261, 3, v, l.length, eO (er l) ((p : Int).toNat * 3 + 2) [.c (.int .i64 w)]⟩ : bS) = hx v (l.take p ++ (x, y, w) :: l.drop (p + 1)) := by
    rw [aG]; unfold hx; rw [aM]
   (repeat first | (with_reducible first | apply bb | apply aV | apply a8 | apply aX | apply dM | apply kH) | (with_reducible apply aO); exact rfl; (repeat first | (with_reducible apply az); exact rfl); (with_reducible apply aA))
   ((refine rl rfl (bD rfl bf) rfl rfl rfl rfl ?_))
   exact ⟨rfl, v, hv, rfl, cD⟩
abbrev tw (v : Value) (r : Int) : List AC := [.c v, .c (.int .i64 r)]
def tI : Cx := fun r L p S => ∃ (ad : Nat → Nat) (v : Value) (es : List dw), p = eg (ad 1000) ∧ v.oneCell' = true ∧ nV L es ∧ S = lH ad (cO 1000 (tw v r)) (bH 0 (hx v es)) 1000
theorem MP : ∀ l, (er l).all AC.wK = true
 | [] => rfl
 | p :: l => by
  have := MP l;simp only [er, kF, this]; rfl
theorem Ki (v : Value) (r : Int) (es : List dw) : nJ (cO 1000 (tw v r)) (bH 0 (hx v es)) := by
 refine ⟨fun k cs h => ?_, fun i q h => ?_⟩
 ·obtain ⟨rfl, rfl⟩ := h3 h; rfl
 ·obtain ⟨rfl, rfl⟩ := gg h; exact ⟨jL _, MP es⟩
theorem PF (k : Nat) (cs : List AC) : ∃ ds, cO k cs k = some ds := ⟨cs, by unfold cO; exact cw _ _ _⟩
theorem Rn {b c : Nat} (h : eg b = eg c) : b = c := by cases h; rfl
theorem w0 {r q : bS} : bJ (bH 0 r) 0 q = bH 0 q := by
 funext i;unfold bH
 by_cases e : i = 0
 ·subst e; rw [cw, cw]
 ·rw [cl _ _ e, cl _ _ e, cl _ _ e]
theorem OY : Tb tI := by
 intro r L b S h ap;obtain ⟨ad, v, es, hp, hv, bp, rfl⟩ := h;obtain rfl := Rn hp;refine Sp (PF _ _) rfl (Post := fun w m1 bl => w = aR r ∧ m1 = cO 1000 (tw v r) ∧ bl = bH 0 (hx v es)) ?_ (fun w m1 bl h => ?_)
 ·refine dv (f := 56) Tryz.func56 rfl (du rfl) (by exact eB rfl) ?_;(repeat first | (with_reducible first | apply bb | apply aV | apply a8 | apply aX | apply dM) | (with_reducible apply aO); exact rfl; (repeat first | (with_reducible apply az); exact rfl | (with_reducible apply df); (iterate 3 exact rfl)); (with_reducible apply aA))
  ((refine eW rfl (bD rfl bf) rfl (bL.refl _) rfl rfl (fun i r h => ⟨r, h⟩) ?_))
  exact ⟨rfl, rfl, rfl⟩
 ·obtain ⟨rfl, rfl, rfl⟩ := h;exact ⟨rfl, Ki _ _ _, fun e1 jH => ⟨rfl, e1, v, es, by rw [jH], hv, bp, rfl⟩⟩
theorem aa6 : S9 tI := by
 intro n;refine agV (Post := fun w m1 bl => w = .w (.one (.own 7 0)) ∧ m1 = cO 7 (tw (.slice none 0 0) (l4 n)) ∧ bl = bH 0 (hx (.slice none 0 0) [])) ?_ (fun w m1 bl h => ?_)
 ·have e : l4 n = if 1024 < if 1 > n then 1 else n then 1024 else if 1 > n then 1 else n := by unfold l4; (repeat split) <;> omega
  rw [e];refine dv (f := 54) Tryz.func54 rfl (du rfl) (by exact n3) ?_;refine mF 0 261 3 rfl ?_;(repeat first | (with_reducible first | apply bb | apply aV | apply a8 | apply aX | apply dM) | (with_reducible apply aO); exact rfl; (repeat first | (with_reducible apply az); exact rfl | (with_reducible apply xn); (iterate 4 exact rfl) | (with_reducible apply tN); (iterate 4 exact rfl)); (with_reducible apply aA))
  ((refine DS 7 rfl (bD rfl bf) rfl (bL.refl _) rfl rfl ?_))
  exact ⟨rfl, rfl, rfl⟩
 ·obtain ⟨rfl, rfl, rfl⟩ := h;refine ⟨7, rfl, ⟨fun k cs h => ?_, (Ki (.slice none 0 0) 0 []).2⟩, fun e1 => ⟨e1 7, rfl, fun j => e1 (swp 1000 7 j), .slice none 0 0, [], rfl, rfl, .nil, ?_⟩⟩
  ·obtain ⟨rfl, rfl⟩ := h3 h; rfl
  ·have h1 := agX (nk 1000 7) (cb := fun j => j) (iE := fun j => j) (fun _ => rfl) (fun _ => rfl) (ad := e1) (m := cO 1000 (tw (.slice none 0 0) (l4 n))) (R := bH 0 (hx (.slice none 0 0) [])) (k := 1000);rw [wB rfl] at h1;exact h1
theorem adi {r : Int} {L : List aq} {v : Value} {es : List dw} (x y : Int) (hv : v.oneCell' = true) (bp : nV L es) (ap : L.length ≤ 1100) : qY aj 200 [bi x y] (tw v r) (hx v es) fun w au ba => w = .dd [.one (.c (.int .i64 (oJ es x y))), .one (.c (.bool (hW es x y)))] ∧ au = tw v r ∧ ba = hx v es := by
 have aP := aa3 (.int .i64 r) es v x y hv bp.1 (by rw [bp.len]; exact ap);refine uT rfl rfl (fun v au ba h => by obtain ⟨rfl, rfl, rfl⟩ := h; exact ⟨rfl, rfl⟩) ?_;generalize oJ es x y = a at *;generalize hW es x y = c at *;refine dv (f := 200) Tryz.func200 rfl (du rfl) (by exact eB rfl) ?_;(repeat first | (with_reducible apply l5 (id := 1) [0,1,2,3,4,5,6,7,8] [10]); kernel_rfl; kernel_rfl; exact rfl | (with_reducible first | apply bb | apply aV | apply a8 | apply aX) | (with_reducible apply aO); exact rfl; (repeat first | (with_reducible apply az); exact rfl | (with_reducible apply df); (iterate 3 exact rfl)); (with_reducible apply aA));refine IA 1000 0 rfl rfl rfl rfl aP rfl (fun v au ba h => h.2.1) rfl rfl rfl rfl (fun ck au ba h => ?_);obtain ⟨rfl, rfl, rfl⟩ := h;(repeat first | (with_reducible apply eD); kernel_rfl | (with_reducible first | apply aV | apply dM) | (with_reducible apply aO); exact rfl; (repeat first | (with_reducible apply az); exact rfl); (with_reducible apply aA))
 ((refine rl rfl (bD rfl (bD rfl bf)) rfl rfl rfl rfl ?_))
 exact ⟨rfl, rfl, rfl⟩
theorem af7 {f : FuncId} {args : List ai} {r : Int} {L L' : List aq} {b : Nat} {S : ff} {post : ai → Prop} (et : args.all ai.bd = true) (h : tI r L (eg b) S)
  (ak : ∀ v es, v.oneCell' = true → nV L es → qY aj f args (tw v r) (hx v es) fun w au ba => w.bd = true ∧ post w ∧ ∃ a7 vO, a7.oneCell' = true ∧ nV L' vO ∧ au = tw a7 r ∧ ba = hx a7 vO) : y8 aj f (aU (eg b) :: args) (eg b) S fun w dp => post w ∧ tI r L' (eg b) dp := by
 obtain ⟨ad, v, es, hp, hv, bp, rfl⟩ := h;obtain rfl := Rn hp;refine Sp (PF _ _) et (ak v es hv bp 1000 0) (fun w m1 bl h => ?_);obtain ⟨au, ba, rfl, rfl, hw, ZU, a7, vO, cg, cp, rfl, rfl⟩ := h;exact ⟨hw, Ki _ _ _, fun e1 jH => ⟨ZU, e1, a7, vO, by rw [jH], cg, cp, rfl⟩⟩
abbrev ahe (b : Bool) (e : Int) : ai := .dd [.one (.c (.bool b)), .one (.c (.int .i64 e))]
theorem aaZ : S3 tI := by
 intro r L b S x y h ap;refine af7 (L' := q0 r L x y) (post := fun w => w = ahe (nZ r L x y) (n0 r L x y)) rfl h fun v es hv bp => ?_;have zY := bp.len;have aD := bp.num x y;have aP := adi (r := r) x y hv bp ap
 by_cases aW : 0 ≤ lz L x y
 ·obtain ⟨aG, aM, cD⟩ := Us (r := r) aW;rw [aG, aM, cD];rw [aD.1, bF aW] at aP;refine uT rfl rfl (fun w au ba h => by obtain ⟨c1, _, a7, vO, _, _, rfl, _⟩ := h; exact ⟨c1, rfl⟩) ?_;generalize oJ es x y = a at *;refine dv (f := 154) Tryz.func154 rfl (du rfl) (by exact eB rfl) ?_;(repeat first | (with_reducible first | apply bb | apply aV | apply a8 | apply aX) | (with_reducible apply aO); exact rfl; (repeat first | (with_reducible apply az); exact rfl); (with_reducible apply aA));refine sO 1000 0 rfl rfl rfl rfl aP rfl rfl rfl rfl rfl rfl (fun ck au ba h => ?_);obtain ⟨rfl, rfl, rfl⟩ := h;rw [w0];(repeat first | (with_reducible first | apply bb | apply aV | apply a8 | apply aX | apply dM | apply kH) | (with_reducible apply eo); exact rfl; (exact rfl) | (with_reducible apply aO); exact rfl; (repeat first | (with_reducible apply az); exact rfl); (with_reducible apply aA))
  ((refine rl rfl (bD rfl (bD rfl bf)) rfl rfl rfl rfl ?_))
  exact ⟨rfl, rfl, v, es, hv, bp, rfl, rfl⟩
 ·have aw := aD.1;rw [b5 aW] at aw;rw [aw] at aP;have b6 := aa4 (.int .i64 r) es v hv bp.1 (by omega);rw [zY] at b6
  by_cases h2 : r ≤ (L.length : Int)
  ·obtain ⟨aG, aM, cD⟩ := Ur (r := r) aW h2;rw [aG, aM, cD];refine uT rfl rfl (fun w au ba h => by obtain ⟨c1, _, a7, vO, _, _, rfl, _⟩ := h; exact ⟨c1, rfl⟩) ?_;generalize oJ es x y = a at *;have xP : (L.length : Int) ≥ r := h2;refine dv (f := 154) Tryz.func154 rfl (du rfl) (by exact eB rfl) ?_;(repeat first | (with_reducible first | apply bb | apply aV | apply a8 | apply aX) | (with_reducible apply aO); exact rfl; (repeat first | (with_reducible apply az); exact rfl); (with_reducible apply aA));refine sO 1000 0 rfl rfl rfl rfl aP rfl rfl rfl rfl rfl rfl (fun ck au ba h => ?_);obtain ⟨rfl, rfl, rfl⟩ := h;rw [w0];(repeat first | (with_reducible apply l5 (id := 4) [0,1,2,4,5,6,7,3,8] [18]); kernel_rfl; kernel_rfl; exact rfl | (with_reducible first | apply bb | apply aV | apply a8 | apply aX | apply dc) | (with_reducible apply c4); exact rfl; (exact rfl) | (with_reducible apply aO); exact rfl; (repeat first | (with_reducible apply az); exact rfl | (with_reducible apply df); (iterate 3 exact rfl)); (with_reducible apply aA));refine IA 1000 0 rfl rfl rfl rfl b6 rfl (fun v au ba h => h.2.1) rfl rfl rfl rfl (fun ck au ba h => ?_);obtain ⟨rfl, rfl, rfl⟩ := h;rw [w0];(repeat first | (with_reducible apply eD); kernel_rfl | (with_reducible first | apply bb | apply aV | apply a8 | apply aX | apply dM | apply kH) | (with_reducible apply eo); exact rfl; (exact bF (by omega)) | (with_reducible apply aO); exact rfl; (repeat first | (with_reducible apply az); exact rfl); (with_reducible apply aA))
   ((refine rl rfl (bD rfl (bD rfl bf)) rfl rfl rfl rfl ?_))
   exact ⟨rfl, rfl, v, es, hv, bp, rfl, rfl⟩
  ·obtain ⟨aG, aM, cD⟩ := Ut (r := r) aW h2;rw [aG, aM, cD];have cp := bp.add aW;have fo := aa8 (.int .i64 r) es v x y L.length hv bp.1 (by omega);rw [aw] at fo;refine uT rfl rfl (fun w au ba h => by obtain ⟨c1, _, a7, vO, _, _, rfl, _⟩ := h; exact ⟨c1, rfl⟩) ?_;generalize oJ es x y = a at *;generalize te es x y L.length = Hg at *;have xP : ¬ (L.length : Int) ≥ r := h2;refine dv (f := 154) Tryz.func154 rfl (du rfl) (by exact eB rfl) ?_;(repeat first | (with_reducible first | apply bb | apply aV | apply a8 | apply aX) | (with_reducible apply aO); exact rfl; (repeat first | (with_reducible apply az); exact rfl); (with_reducible apply aA));refine sO 1000 0 rfl rfl rfl rfl aP rfl rfl rfl rfl rfl rfl (fun ck au ba h => ?_);obtain ⟨rfl, rfl, rfl⟩ := h;rw [w0];(repeat first | (with_reducible apply l5 (id := 4) [0,1,2,4,5,6,7,3,8] [18]); kernel_rfl; kernel_rfl; exact rfl | (with_reducible first | apply bb | apply aV | apply a8 | apply aX | apply dc) | (with_reducible apply c4); exact rfl; (exact rfl) | (with_reducible apply aO); exact rfl; (repeat first | (with_reducible apply az); exact rfl | (with_reducible apply df); (iterate 3 exact rfl)); (with_reducible apply aA));refine IA 1000 0 rfl rfl rfl rfl b6 rfl (fun v au ba h => h.2.1) rfl rfl rfl rfl (fun ck au ba h => ?_);obtain ⟨rfl, rfl, rfl⟩ := h;rw [w0];(repeat first | (with_reducible apply eD); kernel_rfl | (with_reducible apply l5 (id := 6) [0,1,2,3,4,5,6,7,8,9,10] [31,32,2001000]); kernel_rfl; kernel_rfl; exact rfl | (with_reducible first | apply bb | apply aV | apply dc) | (with_reducible apply c4); exact rfl; (exact b5 (by omega)) | (with_reducible apply aO); exact rfl; (repeat first | (with_reducible apply az); exact rfl | (with_reducible apply df); (iterate 3 exact rfl)); (with_reducible apply aA));refine sO 1000 0 rfl rfl rfl rfl b6 rfl rfl rfl rfl rfl rfl (fun ck au ba h => ?_);obtain ⟨rfl, rfl, rfl⟩ := h;rw [w0]
   skip
   refine sO 1000 0 rfl rfl rfl rfl fo rfl rfl rfl rfl rfl rfl (fun ck au ba h => ?_);obtain ⟨rfl, a7, cg, rfl, rfl⟩ := h;rw [w0];(repeat first | (with_reducible apply eD); kernel_rfl | (with_reducible first | apply aV | apply dM) | (with_reducible apply aO); exact rfl; (repeat first | (with_reducible apply az); exact rfl); (with_reducible apply aA))
   ((refine rl rfl (bD rfl (bD rfl bf)) rfl rfl rfl rfl ?_))
   exact ⟨rfl, rfl, a7, Hg, cg, cp, rfl, rfl⟩
theorem JU (v : Value) (l : List aq) (p : aq) : hO v (l ++ [p]) = ⟨59, 2, v, l.length + 1, b8 l ++ [.c (.int .i64 p.1), .c (.int .i64 p.2)]⟩ := by
 unfold hO; rw [← IU, cX]; rfl
end Go.Proofs.YtpochbhajmbfdaaGreat
namespace Go.Proofs.YtpochbhajmbfdaaGreat
open Go.RowKit
open bt
abbrev qP (a b c d : Int) : ai := .w (.agg [.c (.int .i64 a), .c (.int .i64 b), .c (.int .i64 c), .c (.int .i64 d)])
def ye (l : aq × aq) : List AC := [.c (.int .i64 l.1.1), .c (.int .i64 l.1.2), .c (.int .i64 l.2.1), .c (.int .i64 l.2.2)]
def na (l : List (aq × aq)) : List AC := l.flatMap ye
theorem OI {V : List aq} {j : Nat} {a b : Int} {ji : Int} (af : ji = j) (h : V[j]? = some (a, b)) : ji < (V.length : Int) := by
 have := (bP.1 h).1; omega
theorem Q0 {V : List aq} {D : List Int} {j : Nat} {a b c d : Int} (h1 : V[j]? = some (a, b)) (h2 : V[j + 1]? = some (c, d)) (ap : V.length ≤ 100000) : aY aj 122 [oH V D, aR j] (qP a b c d) := by
 obtain ⟨ji, af⟩ : ∃ ji : Int, ji = j := ⟨_, rfl⟩;have q1 := OI (ji := ji) af h1;have q2 := OI (ji := ji + 1) (j := j + 1) (by omega) h2;have db : 0 ≤ ji := by omega
 have cr : 0 ≤ ji + 1 := by omega
 have ab : ji ≤ 100000 := by omega
 have jz := uI af h1;have qU := uI (j := ji + 1) (i := j + 1) (by omega) h2;rw [show aR (j : Int) = aR ji by rw [af]];clear af h1 h2 ap;refine cq (f := 122) Tryz.func122 rfl rfl rfl rfl ?_;(repeat first | (with_reducible apply az); exact rfl | (with_reducible apply gN); (iterate 5 exact rfl) | (with_reducible apply fi); (iterate 3 exact rfl); (omega); (omega); (assumption); exact rfl | (with_reducible apply fh); (iterate 3 exact rfl); (exact cZ (by omega)); exact rfl | (with_reducible apply iJ); kernel_rfl | (with_reducible apply iL); kernel_rfl; kernel_rfl; exact rfl | (with_reducible first | apply bQ | apply bI | apply bO | apply aA | apply cf))
 ((refine bY rfl (fc rfl rfl rfl bf) ?_))
 exact ai.bo.refl _
theorem E7 {a b c d k A B C D : Int} (aP : aY aj 37 [bi a b, aR k] (bi A B)) (b6 : aY aj 37 [bi c d, aR k] (bi C D)) : aY aj 128 [qP a b c d, aR k] (.dd [.agg [.c (.int .i64 A), .c (.int .i64 B)], .agg [.c (.int .i64 C), .c (.int .i64 D)]]) := by
 refine cq (f := 128) Tryz.func128 rfl rfl rfl rfl ?_;(repeat first | (with_reducible apply az); exact rfl | refine dP rfl rfl rfl rfl (by (first | exact aP | exact b6)) rfl ?_ | (with_reducible apply iJ); kernel_rfl | (with_reducible apply iL); kernel_rfl; kernel_rfl; exact rfl | (with_reducible first | apply bQ | apply bI | apply bO | apply aA | apply cf))
 ((refine bY rfl (fc rfl rfl rfl (fc rfl rfl rfl bf)) ?_))
 exact ai.bo.refl _
theorem aeA {a b c d x y k A B C D : Int} {h r : Bool} (aP : aY aj 128 [qP a b c d, aR k] (.dd [.agg [.c (.int .i64 A), .c (.int .i64 B)], .agg [.c (.int .i64 C), .c (.int .i64 D)]])) (H1 : aY aj 178 [bi A B, bi C D, bi x y, aR k] (bG h)) (aG : ed x y a b = false → ed x y c d = false → r = h) (aM : ed x y a b = true → r = false) (cD : ed x y c d = true → r = false) : aY aj 123 [qP a b c d, bi x y, aR k] (bG r) := by
 cases q1 : ed x y a b with
 | true =>
  rw [aM q1];refine cq (f := 123) Tryz.func123 rfl rfl rfl rfl ?_;(repeat first | (with_reducible apply az); exact rfl | (with_reducible apply zg); (iterate 4 exact rfl) | refine dP rfl rfl rfl rfl (by (exact aP)) rfl ?_ | (with_reducible apply dO (c := false)); exact rfl; exact rfl; ((simp only [hG]; (omega))) | (with_reducible first | apply bQ | apply bI | apply bO | apply aA | apply cf))
  ((refine bY rfl (bD rfl bf) ?_))
  exact ai.bo.refl _
 | false =>
  cases q2 : ed x y c d with
  | true =>
   rw [cD q2];refine cq (f := 123) Tryz.func123 rfl rfl rfl rfl ?_;(repeat first | (with_reducible apply az); exact rfl | (with_reducible apply zg); (iterate 4 exact rfl) | refine dP rfl rfl rfl rfl (by (exact aP)) rfl ?_ | (with_reducible apply dO (c := true)); exact rfl; exact rfl; ((simp only [hG]; (omega))) | (with_reducible apply dO (c := false)); exact rfl; exact rfl; ((simp only [hG]; (omega))) | (with_reducible first | apply bQ | apply bI | apply bO | apply aA | apply cf))
   ((refine bY rfl (bD rfl bf) ?_))
   exact ai.bo.refl _
  | false =>
   rw [aG q1 q2];refine cq (f := 123) Tryz.func123 rfl rfl rfl rfl ?_;(repeat first | (with_reducible apply az); exact rfl | (with_reducible apply zg); (iterate 4 exact rfl) | refine dP rfl rfl rfl rfl (by (exact aP)) rfl ?_ | refine n2 rfl rfl rfl rfl rfl rfl (by (exact H1)) rfl ?_ | (with_reducible apply dO (c := true)); exact rfl; exact rfl; ((simp only [hG]; (omega))) | (with_reducible first | apply bQ | apply bI | apply bO | apply aA | apply cf))
   ((refine bY rfl (bD rfl bf) ?_))
   exact ai.bo.refl _
theorem aez {E : List bV} {r R : Nat} (al : r ≤ 28) {p q x : aq} (hp : e4 r p.1 p.2 = true) (an : e4 r q.1 q.2 = true) : aY aj 123 [qP p.1 p.2 q.1 q.2, bi x.1 x.2, aR r] (bG (fF (mx E r R) p q x)) := by
 have ay : hg (r : Int) r := ⟨al, .inr (.inr rfl)⟩;have e : ∀ a b : aq, ed a.1 a.2 b.1 b.2 = decide (a = b) := fun a b => by rw [mC, sx, cL, Prod.ext_iff]
 have ax : fF (mx E r R) p q x = (!decide (x = p) && !decide (x = q) && sM (2 ^ r * p.1) (2 ^ r * p.2) (2 ^ r * q.1) (2 ^ r * q.2) x.1 x.2 r) := by
  unfold fF;simp only [decide_not];rfl
 refine aeA (E7 (tc ay hp) (tc ay an)) adL (fun h1 h2 => ?_) (fun h1 => ?_) (fun h1 => ?_)
 ·rw [e] at h1 h2;rw [ax, h1, h2]; rfl
 ·rw [e] at h1;rw [ax, h1]; rfl
 ·rw [e] at h1;rw [ax, h1]; simp
theorem aed {a b c d a' bR c' d' k A B C D dW l9 F5 lK : Int} {h : Bool} {M : fU} (aP : aY aj 128 [qP a b c d, aR k] (.dd [.agg [.c (.int .i64 A), .c (.int .i64 B)], .agg [.c (.int .i64 C), .c (.int .i64 D)]])) (b6 : aY aj 128 [qP a' bR c' d', aR k] (.dd [.agg [.c (.int .i64 dW), .c (.int .i64 l9)], .agg [.c (.int .i64 F5), .c (.int .i64 lK)]])) (H1 : aY aj 185 [bi A B, bi C D, bi dW l9, bi F5 lK] (bG h)) (bZ : aY aj 119 [bi A B, bi C D, bi dW l9, bi F5 lK] (oI M)) : aY aj 129 [qP a b c d, qP a' bR c' d', aR k] (oI (if h = true then ig else M)) := by
 cases h with
 | true =>
  refine cq (f := 129) Tryz.func129 rfl rfl rfl rfl ?_;(repeat first | (with_reducible apply az); exact rfl | refine dP rfl rfl rfl rfl (by (first | exact aP | exact b6)) rfl ?_ | refine n2 rfl rfl rfl rfl rfl rfl (by (exact H1)) rfl ?_ | (with_reducible first | apply bQ | apply bI | apply bO | apply aA | apply cf | apply fV) | (with_reducible apply iK); exact rfl)
  ((refine bY rfl (fc rfl rfl rfl bf) ?_))
  exact ai.bo.refl _
 | false =>
  refine cq (f := 129) Tryz.func129 rfl rfl rfl rfl ?_;(repeat first | (with_reducible apply az); exact rfl | refine dP rfl rfl rfl rfl (by (first | exact aP | exact b6)) rfl ?_ | refine n2 rfl rfl rfl rfl rfl rfl (by (first | exact H1 | exact bZ)) rfl ?_ | (with_reducible first | apply bQ | apply bI | apply bO | apply aA | apply cf | apply e3) | (with_reducible apply ib); exact rfl)
  ((refine bY rfl (fc rfl rfl rfl bf) ?_))
  exact ai.bo.refl _
theorem Jf {a b : bV} (h1 : cG a.1.1 a.1.2 = true) (h2 : cG a.2.1 a.2.2 = true) (ao : cG b.1.1 b.1.2 = true) (aH : cG b.2.1 b.2.2 = true) : rz a.1.1 a.1.2 a.2.1 a.2.2 b.1.1 b.1.2 b.2.1 b.2.2 = fl a b := by
 unfold rz; rw [h1, h2, ao, aH]; rfl
def oT (r : Nat) (l m : aq × aq) : fU := if oW (ei r l) (ei r m) = true then ig else fl (ei r l) (ei r m)
theorem aec {r : Nat} (al : r ≤ 28) {l m : aq × aq} (h1 : e4 r l.1.1 l.1.2 = true) (h2 : e4 r l.2.1 l.2.2 = true) (ao : e4 r m.1.1 m.1.2 = true) (aH : e4 r m.2.1 m.2.2 = true) : aY aj 129 [qP l.1.1 l.1.2 l.2.1 l.2.2, qP m.1.1 m.1.2 m.2.1 m.2.2, aR r] (oI (oT r l m)) := by
 have ay : hg (r : Int) r := ⟨al, .inr (.inr rfl)⟩;have e := Jf (a := ei r l) (b := ei r m) (rc h1) (rc h2) (rc ao) (rc aH)
 have H1 : aY aj 185 [bi (2 ^ r * l.1.1) (2 ^ r * l.1.2), bi (2 ^ r * l.2.1) (2 ^ r * l.2.2), bi (2 ^ r * m.1.1) (2 ^ r * m.1.2), bi (2 ^ r * m.2.1) (2 ^ r * m.2.2)] (bG (oW (ei r l) (ei r m))) := by
  have := ad9 (a1 := 2 ^ r * l.1.1) (a2 := 2 ^ r * l.1.2) (b1 := 2 ^ r * l.2.1) (b2 := 2 ^ r * l.2.2) (c1 := 2 ^ r * m.1.1) (c2 := 2 ^ r * m.1.2) (d1 := 2 ^ r * m.2.1) (d2 := 2 ^ r * m.2.2);rw [show rz (2 ^ r * l.1.1) (2 ^ r * l.1.2) (2 ^ r * l.2.1) (2 ^ r * l.2.2) (2 ^ r * m.1.1) (2 ^ r * m.1.2) (2 ^ r * m.2.1) (2 ^ r * m.2.2) = fl (ei r l) (ei r m) from e] at this;exact this
 have bZ : aY aj 119 [bi (2 ^ r * l.1.1) (2 ^ r * l.1.2), bi (2 ^ r * l.2.1) (2 ^ r * l.2.2), bi (2 ^ r * m.1.1) (2 ^ r * m.1.2), bi (2 ^ r * m.2.1) (2 ^ r * m.2.2)] (oI (fl (ei r l) (ei r m))) := by
  have := JI (a1 := 2 ^ r * l.1.1) (a2 := 2 ^ r * l.1.2) (b1 := 2 ^ r * l.2.1) (b2 := 2 ^ r * l.2.2) (c1 := 2 ^ r * m.1.1) (c2 := 2 ^ r * m.1.2) (d1 := 2 ^ r * m.2.1) (d2 := 2 ^ r * m.2.2);rw [show rz (2 ^ r * l.1.1) (2 ^ r * l.1.2) (2 ^ r * l.2.1) (2 ^ r * l.2.2) (2 ^ r * m.1.1) (2 ^ r * m.1.2) (2 ^ r * m.2.1) (2 ^ r * m.2.2) = fl (ei r l) (ei r m) from e] at this;exact this
 exact aed (E7 (tc ay h1) (tc ay h2)) (E7 (tc ay ao) (tc ay aH)) H1 bZ
theorem Mr (r : Nat) (l m : aq × aq) : mO r l m = if (oT r l m).k = 1 then some (iU r (oT r l m)) else none := by
 unfold mO oT;cases h : oW (ei r l) (ei r m) with
 | true => simp [ig]
 | false => simp
abbrev s3 (v : Value) (l : List (aq × aq)) : bS := ⟨167, 4, v, l.length, na l⟩
instance ajr : nu aj 96 167 4 32 := ⟨by kernel_rfl⟩
def p0 (c : List aq × List Int) : List AC := [.p (cx 2 c.1.length (b8 c.1)), .p (cx 1 c.2.length (cy c.2))]
def eQ (l : List (List aq × List Int)) : List AC := l.flatMap p0
abbrev pF (l : List (List aq × List Int)) : ai := cT 2 l.length (eQ l)
theorem Dt {β : Type} {f : β → List AC} {z : Nat} (aw : ∀ x, (f x).length = z) : ∀ {l : List β} {i : Nat} {x : β}, l[i]? = some x → ((l.flatMap f).drop (i * z)).take z = f x
 | [], i, x, h => by simp at h
 | y :: l, 0, x, h => by
  simp at h; subst h;rw [List.flatMap_cons, Nat.zero_mul, List.drop_zero, ← aw y, List.take_left]
 | y :: l, i + 1, x, h => by
  rw [List.flatMap_cons, kB, Nat.one_mul, Nat.add_comm, ← List.drop_drop, ← aw y, List.drop_left, aw y];exact Dt aw (by simpa using h)
theorem Du {β : Type} {f : β → List AC} {z : Nat} (aw : ∀ x, (f x).length = z) : ∀ l : List β, (l.flatMap f).length = l.length * z
 | [] => by simp
 | y :: l => by rw [List.flatMap_cons, cX, aw, Du aw l, lB, kB, Nat.one_mul, Nat.add_comm]
theorem Pl {l : List (aq × aq)} {i : Nat} {ii a b c d : Int} (hi : ii = i) (h : l[i]? = some ((a, b), (c, d))) : ((na l).drop (ii.toNat * 4)).take 4 = [.c (.int .i64 a), .c (.int .i64 b), .c (.int .i64 c), .c (.int .i64 d)] := by
 subst hi; rw [k6]; exact Dt (f := ye) (fun _ => rfl) h
theorem vG {l : List (List aq × List Int)} {i : Nat} {ii : Int} {c : List aq × List Int} (hi : ii = i) (h : l[i]? = some c) : ((eQ l).drop (ii.toNat * 2)).take 2 = [.p (cx 2 c.1.length (b8 c.1)), .p (cx 1 c.2.length (cy c.2))] := by
 subst hi; rw [k6]; exact Dt (f := p0) (fun _ => rfl) h
theorem abW (l : List (aq × aq)) (x : aq × aq) : na l ++ ye x = na (l ++ [x]) := by simp [na, List.flatMap_append]
theorem ajI (l : List (aq × aq)) : (na l).all AC.bd = true := by
 rw [cB]; intro x aa;obtain ⟨y, _, ag⟩ := List.mem_flatMap.1 aa;simp only [ye, gS, rH, or_false] at ag;rcases ag with rfl | rfl | rfl | rfl <;> rfl
theorem V1 (l : List (List aq × List Int)) : (eQ l).all AC.bd = true := by
 rw [cB]; intro x aa;obtain ⟨y, _, ag⟩ := List.mem_flatMap.1 aa;simp only [p0, gS, rH, or_false] at ag;rcases ag with rfl | rfl <;> rfl
theorem abU (v : Value) (l : List (aq × aq)) (x : aq × aq) : s3 v (l ++ [x]) = ⟨167, 4, v, l.length + 1, na l ++ ye x⟩ := by rw [s3, ← abW, cX]; rfl
def TF (ch : List (List aq × List Int)) (n : Nat) (R : aL) (aS : List (Nat × ai)) (bw : List (Nat × List AC)) : Prop :=
 ∃ (i : Nat) (ii : Int) (v : Value), i ≤ ch.length ∧ n = ch.length - i ∧ ii = i ∧ R = bH 0 (s3 v (aQ (ch.take i))) ∧ aS = [(3, aU v), (7, pF ch), (8, aR ch.length), (9, aR ii)] ∧ bw = []
def TE (ch : List (List aq × List Int)) (V : List aq) (D : List Int) (ii : Int) (pre : List (aq × aq)) (n : Nat) (R : aL) (aS : List (Nat × ai)) (bw : List (Nat × List AC)) : Prop :=
 ∃ (j : Nat) (dS : Int) (v : Value), j ≤ D.length ∧ n = D.length - j ∧ dS = j ∧ R = bH 0 (s3 v (pre ++ (gB V).take j)) ∧ aS = [(3, aU v), (5, nl 5 0), (7, pF ch), (8, aR ch.length), (9, aR ii), (15, aR D.length), (16, aR dS)] ∧ bw = [(5, [.p (cx 2 V.length (b8 V)), .p (cx 1 D.length (cy D))])]
theorem abX {V : List aq} {j : Nat} (h : j + 1 < V.length) : (gB V)[j]? = some (V[j], V[j + 1]) := by
 induction V generalizing j with
 | nil => simp at h
 | cons p W bW =>
  cases W with
  | nil => simp at h
  | cons q W =>
   cases j with
   | zero => rfl
   | succ j => exact bW (j := j) (by simpa using h)
section
variable {P : Program} {R : aL} {s : aE} {ops : Array Oper} {dr : Option (List Nat)} {ty : Nat} {pos : String} {after : Array Edge} {guard : Option (Nat × Bool)} {K : aL → aE → Prop} {rest : List Oper}
def oM (k : Nat) (h9 : ai → List AC → aL → Prop) : ai → Mem → aL → Prop := fun ck aK aC => ∃ au, aK = cO k au ∧ h9 ck au aC
theorem D7 (k : Nat) {R0 : aL} {dst : Option Nat} {f : FuncId} {g : Operand} {aS : Array TypeId} {l : List Operand} {args : List ai} {cs : List AC} {h9 : ai → List AC → aL → Prop} [E : Enters P f] (hw : want ops ⟨dst, .call ⟨.value g, l.toArray, aS⟩, ty, pos, after, guard⟩ s = some true) (hm : dE dr ⟨dst, .call ⟨.value g, l.toArray, aS⟩, ty, pos, after, guard⟩ = true)
  (ax : s.look g = some (aU (.func (.func f) #[] #[]))) (aI : l.map s.look = (ai.w (.one (.own k 0)) :: args).map some) (hp : dk P f (.w (.one (.own k 0)) :: args) (cO k cs) R0 (oM k h9)) (ae : s.mem k = some cs) (hZ : pD dr k = true) (al : bL R0 R) (ak : cs.all AC.bd = true) (et : args.all ai.bd = true) (hd : li dst s.n = true)
  (h : ∀ v au aC, h9 v au aC → cQ P ops dr K rest (b9 aC R) ((s.ep k au).put dst v)) : cQ P ops dr K (⟨dst, .call ⟨.value g, l.toArray, aS⟩, ty, pos, after, guard⟩ :: rest) R s := by
 refine wk hw hm ax aI hp (fun x aa j af => ?_) (fun k' au ar => ?_) al (fun k' au x j ar aa af => ?_) hd ?_
 ·rcases gS.1 aa with rfl | aa
  ·obtain ⟨y, ag, af⟩ := af;simp [bK.cells] at ag;subst ag;cases af;exact ⟨cs, by unfold cO; exact cw _ _ _⟩
  ·exact absurd af (ai.dI (cB.1 et x aa) j)
 ·obtain ⟨rfl, rfl⟩ := h3 ar;exact ⟨ae, .inl hZ⟩
 ·obtain ⟨rfl, rfl⟩ := h3 ar;exact absurd af (AC.dI (cB.1 ak x aa) j)
 ·rintro v aK aC ⟨au, rfl, an⟩;refine ⟨fun k' c ar => ?_, ?_⟩
  ·obtain ⟨rfl, rfl⟩ := h3 ar;exact .inl ⟨cs, by unfold cO; exact cw _ _ _⟩
  ·have aM : s.over (cO k au) = s.ep k au := by
    show ({ s with mem := b9 (bJ cm k au) s.mem } : aE) = { s with mem := bJ s.mem k au };rw [show b9 (bJ cm k au) s.mem = bJ s.mem k au from wJ s.mem k au]
   rw [aM];exact h v au aC an
theorem ky (k : Nat) {dst : Option Nat} {f : FuncId} {g : Operand} {aS : Array TypeId} {l : List Operand} {args : List ai} {cs au : List AC} {v : ai} [E : Enters P f] (hw : want ops ⟨dst, .call ⟨.value g, l.toArray, aS⟩, ty, pos, after, guard⟩ s = some true) (hm : dE dr ⟨dst, .call ⟨.value g, l.toArray, aS⟩, ty, pos, after, guard⟩ = true)
  (ax : s.look g = some (aU (.func (.func f) #[] #[]))) (aI : l.map s.look = (ai.w (.one (.own k 0)) :: args).map some) (hp : dk P f (.w (.one (.own k 0)) :: args) (cO k cs) gw (oM k fun ck ds aC => ck = v ∧ ds = au ∧ aC = gw)) (ae : s.mem k = some cs) (hZ : pD dr k = true) (ak : cs.all AC.bd = true) (et : args.all ai.bd = true) (hd : li dst s.n = true)
  (h : cQ P ops dr K rest R ((s.ep k au).put dst v)) : cQ P ops dr K (⟨dst, .call ⟨.value g, l.toArray, aS⟩, ty, pos, after, guard⟩ :: rest) R s := by
 refine D7 k hw hm ax aI hp ae hZ (fun i r h => by cases h) ak et hd ?_;rintro _ _ _ ⟨rfl, rfl, rfl⟩;rw [show b9 gw R = R from QJ R];exact h
end
def zx (x : Int × bV) : List AC := [.c (.int .i64 x.2.1.1), .c (.int .i64 x.2.1.2), .c (.int .i64 x.2.2.1), .c (.int .i64 x.2.2.2), .c (.int .i64 x.1)]
def lR (l : List (Int × bV)) : List AC := l.flatMap zx
abbrev jx (l : List (Int × bV)) : ai := cT 5 l.length (lR l)
theorem vP {l : List (Int × bV)} {i : Nat} {ii o a b c d : Int} (hi : ii = i) (h : l[i]? = some (o, (a, b), (c, d))) : ((lR l).drop (ii.toNat * 5)).take 5 = [.c (.int .i64 a), .c (.int .i64 b), .c (.int .i64 c), .c (.int .i64 d), .c (.int .i64 o)] := by
 subst hi; rw [k6]; exact Dt (f := zx) (fun _ => rfl) h
abbrev eK (E : List (Int × bV)) (k rm ph I J T : Int) (dirty : Bool) (hv fv cv : Value) (b : Nat) (lk : AC) : List AC :=
 [.p (cx 5 E.length (lR E)), .c (.int .i64 k), .c (.int .i64 rm), .c (.int .i64 ph), .c (.int .i64 I), .c (.int .i64 J), .c (.int .i64 T), .c (.bool dirty), .c hv, .c fv, .c cv, .c (eg b), lk]
abbrev xy (v : Value) (l : List (List aq × List Int)) : bS := ⟨53, 2, v, l.length, eQ l⟩
instance ajs : nu aj 43 53 2 48 := ⟨by kernel_rfl⟩
abbrev dT (b : Nat) (S : ff) (hv fv cv : Value) (hot fnd : List aq) (ch : List (List aq × List Int)) : aL := bJ (bJ (bJ (bH 0 (iB (eg b) S)) 1 (hO hv hot)) 2 (hO fv fnd)) 3 (xy cv ch)
theorem RK {b bR : Nat} {S dp : ff} {hv fv cv cg dh c8 : Value} {hot fnd hot' fnd' : List aq} {ch ch' : List (List aq × List Int)} : b9 (dT bR dp cg dh c8 hot' fnd' ch') (dT b S hv fv cv hot fnd ch) = dT bR dp cg dh c8 hot' fnd' ch' := by
 funext i
 match i with
 | 0 => rfl
 | 1 => rfl
 | 2 => rfl
 | 3 => rfl
 | i + 4 => rfl
theorem ft {b bR : Nat} {S dp : ff} {hv fv cv cg dh c8 : Value} {hot fnd hot' fnd' : List aq} {ch ch' : List (List aq × List Int)} : ∀ i r, dT b S hv fv cv hot fnd ch i = some r → ∃ ba, dT bR dp cg dh c8 hot' fnd' ch' i = some ba
 | 0, _, _ => ⟨_, rfl⟩
 | 1, _, _ => ⟨_, rfl⟩
 | 2, _, _ => ⟨_, rfl⟩
 | 3, _, _ => ⟨_, rfl⟩
 | i + 4, _, h => by cases h
theorem afu {b : Nat} {S : ff} {hv fv cv v : Value} {hot fnd l : List aq} {ch : List (List aq × List Int)} : bJ (dT b S hv fv cv hot fnd ch) 1 (hO v l) = dT b S v fv cv l fnd ch := by
 funext i
 match i with
 | 0 => rfl
 | 1 => rfl
 | 2 => rfl
 | 3 => rfl
 | i + 4 => rfl
theorem J6 {b c : Nat} {S dp : ff} {hv fv cv : Value} {hot fnd : List aq} {ch : List (List aq × List Int)} : bJ (dT b S hv fv cv hot fnd ch) 0 (iB (eg c) dp) = dT c dp hv fv cv hot fnd ch := by
 funext i
 match i with
 | 0 => rfl
 | 1 => rfl
 | 2 => rfl
 | 3 => rfl
 | i + 4 => rfl
abbrev rU : ai := .w (.one (.own 1000 0))
abbrev l7 : ai := .dd []
abbrev Cp (f : FuncId) (args : List ai) (cs : List AC) (v : ai) (au : List AC) : Prop := dk aj f (rU :: args) (cO 1000 cs) gw (oM 1000 fun ck ds aC => ck = v ∧ ds = au ∧ aC = gw)
section
variable {E : List (Int × bV)} {k rm ph I J T : Int} {dirty : Bool} {hv fv cv : Value} {b : Nat} {lk : AC}
theorem Es (ap : lk.bd = true) (p j : Int) : Cp 102 [aR p, aR j] (eK E k rm ph I J T dirty hv fv cv b lk) l7 (eK E k rm p 0 j 0 dirty hv fv cv b lk) := by
 have di : (eK E k rm p 0 j 0 dirty hv fv cv b lk).all AC.bd = true := by simp only [kF, nh, ap]; rfl
 refine dv (f := 102) Tryz.func102 rfl (du rfl) (by exact eB rfl) ?_;(repeat first | (with_reducible first | apply bb | apply aV | apply a8 | apply aX) | (with_reducible apply aO); exact rfl; (repeat first | (with_reducible apply az); exact rfl | (with_reducible apply df); (iterate 3 exact rfl)); (with_reducible apply aA))
 ((refine eW rfl bf rfl (bL.refl _) di rfl (fun i r h => ⟨r, h⟩) ?_))
 exact ⟨_, rfl, rfl, rfl, rfl⟩
theorem I2 (ap : lk.bd = true) (p : Int) : Cp 57 [aR p] (eK E k rm ph I J T dirty hv fv cv b lk) l7 (eK E k rm p 0 0 0 dirty hv fv cv b (.c (.slice none 0 0))) := by
 have di : (eK E k rm ph I J T dirty hv fv cv b lk).all AC.bd = true := by simp only [kF, nh, ap]; rfl
 have aP := Es (E := E) (k := k) (rm := rm) (ph := ph) (I := I) (J := J) (T := T) (dirty := dirty) (hv := hv) (fv := fv) (cv := cv) (b := b) ap p 0;refine dv (f := 57) Tryz.func57 rfl (du rfl) (by exact eB rfl) ?_;(repeat first | (with_reducible first | apply bb | apply a8) | (with_reducible apply aO); exact rfl; (repeat first | (with_reducible apply az); exact rfl); (with_reducible apply aA));refine ky 1000 rfl rfl rfl rfl aP rfl rfl di rfl rfl ?_;(repeat first | (with_reducible first | apply aV | apply a8 | apply aX) | (with_reducible apply aO); exact rfl; (repeat first | (with_reducible apply az); exact rfl | (with_reducible apply df); (iterate 3 exact rfl)); (with_reducible apply aA))
 ((refine eW rfl bf rfl (bL.refl _) rfl rfl (fun i r h => ⟨r, h⟩) ?_))
 exact ⟨_, rfl, rfl, rfl, rfl⟩
theorem AK (ap : lk.bd = true) (n : Int) (bp : 0 ≤ I ∧ I ≤ 1000000) (fA : 0 ≤ J ∧ J ≤ 1000000) : Cp 120 [aR n] (eK E k rm ph I J T dirty hv fv cv b lk) (bG (decide ((if J + 1 = n then I + 2 else J + 1) < n))) (eK E k rm ph (if J + 1 = n then I + 1 else I) (if J + 1 = n then I + 2 else J + 1) T dirty hv fv cv b lk) := by
 have di : ∀ I J : Int, (eK E k rm ph I J T dirty hv fv cv b lk).all AC.bd = true := fun I J => by simp only [kF, nh, ap]; rfl
 by_cases h : J + 1 = n
 ·rw [if_pos h, if_pos h];have e : I + 1 + 1 = I + 2 := by omega
  rw [← e];refine dv (f := 120) Tryz.func120 rfl (du rfl) (by exact eB rfl) ?_;(repeat first | (with_reducible first | apply bb | apply aV | apply a8 | apply aX | apply dM) | (with_reducible apply eo); exact rfl; (exact bF (by omega)) | (with_reducible apply aO); exact rfl; (repeat first | (with_reducible apply az); exact rfl | (with_reducible apply df); (iterate 3 exact rfl) | (with_reducible apply fh); (iterate 3 exact rfl); (exact cZ (by omega)); exact rfl); (with_reducible apply aA))
  ((refine eW rfl (bD rfl bf) rfl (bL.refl _) (di _ _) rfl (fun i r h => ⟨r, h⟩) ?_))
  exact ⟨_, rfl, rfl, rfl, rfl⟩
 ·rw [if_neg h, if_neg h];refine dv (f := 120) Tryz.func120 rfl (du rfl) (by exact eB rfl) ?_;(repeat first | (with_reducible first | apply bb | apply aV | apply a8 | apply aX | apply dM | apply dc) | (with_reducible apply c4); exact rfl; (exact b5 (by omega)) | (with_reducible apply aO); exact rfl; (repeat first | (with_reducible apply az); exact rfl | (with_reducible apply df); (iterate 3 exact rfl) | (with_reducible apply fh); (iterate 3 exact rfl); (exact cZ (by omega)); exact rfl); (with_reducible apply aA))
  ((refine eW rfl (bD rfl bf) rfl (bL.refl _) (di _ _) rfl (fun i r h => ⟨r, h⟩) ?_))
  exact ⟨_, rfl, rfl, rfl, rfl⟩
theorem I3 {r : Nat} (al : r ≤ 28) (ae : k = r) (ap : lk.bd = true) {i : Nat} {o p1 p2 q1 q2 : Int} (j1 : E.length ≤ 1000) (h : E[i]? = some (o, (p1, p2), (q1, q2))) (hp : gd (p1, p2) = true) (an : gd (q1, q2) = true) :
  Cp 115 [aR i] (eK E k rm ph I J T dirty hv fv cv b lk) (.dd [.agg [.c (.int .i64 (cI p1 r)), .c (.int .i64 (cI p2 r))], .agg [.c (.int .i64 (cI q1 r)), .c (.int .i64 (cI q2 r))]]) (eK E k rm ph I J T dirty hv fv cv b lk) := by
 have di : (eK E k rm ph I J T dirty hv fv cv b lk).all AC.bd = true := by simp only [kF, nh, ap]; rfl
 obtain ⟨ji, af⟩ : ∃ ji : Int, ji = i := ⟨_, rfl⟩;have bh := (bP.1 h).1;have g0 : 0 ≤ ji := by omega
 have g1 : ji < (E.length : Int) := by omega
 have jz := vP af h;have hp := s8.1 hp;have an := s8.1 an;have ay : hg (r : Int) r := ⟨al, .inr (.inr rfl)⟩;have aP := QT (x := p1) (y := p2) ay (by omega) (by omega) (by omega) (by omega);have b6 := QT (x := q1) (y := q2) ay (by omega) (by omega) (by omega) (by omega);rw [← ae] at aP b6;rw [show aR (i : Int) = aR ji by rw [af]];clear hp an ay af h;generalize cI p1 r = a at *;generalize cI p2 r = a' at *;generalize cI q1 r = c at *;generalize cI q2 r = c' at *;refine dv (f := 115) Tryz.func115 rfl (du rfl) (by exact eB rfl) ?_;(repeat first | (with_reducible apply eD); kernel_rfl | (with_reducible apply dU (id := 2) [0,1,2,3,4,5,6,7,8,9,10,11,12,13,14,15,16,17]); kernel_rfl; kernel_rfl; exact rfl | (with_reducible first | apply bb | apply aV | apply a8 | apply aX | apply dM) | (with_reducible apply aO); exact rfl; (repeat first | (with_reducible apply az); exact rfl | (with_reducible apply gN); (iterate 5 exact rfl) | (with_reducible apply fi); (iterate 3 exact rfl); (omega); (omega); (assumption); exact rfl | (with_reducible apply df); (iterate 3 exact rfl) | refine dP rfl rfl rfl rfl (by (first | exact aP | exact b6)) rfl ?_); (with_reducible apply aA))
 ((refine eW rfl (fc rfl rfl rfl (fc rfl rfl rfl bf)) rfl (bL.refl _) di rfl (fun i r h => ⟨r, h⟩) ?_))
 exact ⟨_, rfl, rfl, rfl, rfl⟩
end
def dC (E : List (Int × bV)) (r rm : Nat) (s : bt.aN aq) (cs : List AC) (R : aL) : Prop := ∃ (hv fv cv : Value) (b : Nat) (S : ff) (lk : AC), tI rm s.hot (eg b) S ∧ lk.bd = true ∧ (s.ph = 3 → lk = .p (cx 4 (aQ s.ch).length (na (aQ s.ch)))) ∧ cs = eK E r rm s.ph s.I s.J s.T s.dirty hv fv cv b lk ∧ R = dT b S hv fv cv s.hot s.fnd s.ch
def gz (E : List (Int × bV)) (r rm : Nat) (f : FuncId) (args : List ai) (s : bt.aN aq) (v : ai) (s' : bt.aN aq) : Prop :=
 ∀ cs R, dC E r rm s cs R → dk aj f (rU :: args) (cO 1000 cs) R (oM 1000 fun ck au aC => ck = v ∧ dC E r rm s' au aC)
abbrev bx (E : List (Int × bV)) (r rm : Nat) : bN aq := mx (E.map Prod.snd) r rm
theorem bL.of_eq {R aC : aL} (h : R = aC) : bL R aC := by rw [h]; exact bL.refl _
theorem afv {b : Nat} {S : ff} {hv fv cv v : Value} {hot fnd l : List aq} {ch : List (List aq × List Int)} : bJ (dT b S hv fv cv hot fnd ch) 2 (hO v l) = dT b S hv v cv hot l ch := by
 funext i
 match i with
 | 0 => rfl
 | 1 => rfl
 | 2 => rfl
 | 3 => rfl
 | i + 4 => rfl
theorem afx {b : Nat} {S : ff} {hv fv cv v : Value} {hot fnd : List aq} {ch : List (List aq × List Int)} {x y : Int} : bJ (dT b S hv fv cv hot fnd ch) 1 ⟨59, 2, v, hot.length + 1, b8 hot ++ [.c (.int .i64 x), .c (.int .i64 y)]⟩ = dT b S v fv cv (hot ++ [(x, y)]) fnd ch :=
 (congrArg (bJ (dT b S hv fv cv hot fnd ch) 1) (JU v hot (x, y)).symm).trans afu
theorem afw {b : Nat} {S : ff} {hv fv cv v : Value} {hot fnd : List aq} {ch : List (List aq × List Int)} {x y : Int} : bJ (dT b S hv fv cv hot fnd ch) 2 ⟨59, 2, v, fnd.length + 1, b8 fnd ++ [.c (.int .i64 x), .c (.int .i64 y)]⟩ = dT b S hv v cv hot (fnd ++ [(x, y)]) ch :=
 (congrArg (bJ (dT b S hv fv cv hot fnd ch) 2) (JU v fnd (x, y)).symm).trans afv
theorem Ze {E : List (Int × bV)} {r rm : Nat} {s : bt.aN aq} {x y : Int} : (q0 rm s.hot x y = (dt (bx E r rm) s (x, y)).hot) ∧ (nZ rm s.hot x y = true → dt (bx E r rm) s (x, y) = { s with hot := s.hot ++ [(x, y)] } ∧ n0 rm s.hot x y = 0) ∧ (nZ rm s.hot x y = false → n0 rm s.hot x y = 0 → dt (bx E r rm) s (x, y) = s) ∧ (n0 rm s.hot x y = 0 ∨ (n0 rm s.hot x y = 90 ∧ nZ rm s.hot x y = false ∧ dt (bx E r rm) s (x, y) = eI s 5 0 0)) := by
 unfold q0 nZ n0 dt
 by_cases h : (x, y) ∈ s.hot
 ·rw [if_pos (uS.2 h), if_pos (uS.2 h), if_pos (uS.2 h), if_pos h];exact ⟨rfl, fun h => (by cases h), fun _ _ => rfl, .inl rfl⟩
 ·have ar : ¬ 0 ≤ lz s.hot x y := fun aW => h (uS.1 aW);rw [if_neg ar, if_neg ar, if_neg ar, if_neg h]
  by_cases ap : (rm : Int) ≤ (s.hot.length : Int)
  ·have fb : ¬ s.hot.length < (bx E r rm).R := by show ¬ s.hot.length < rm; omega
   rw [if_pos ap, if_pos ap, if_pos ap, if_neg fb];exact ⟨rfl, fun h => (by cases h), fun _ h => (by cases h), .inr ⟨rfl, rfl, rfl⟩⟩
  ·have fb : s.hot.length < (bx E r rm).R := by show s.hot.length < rm; omega
   rw [if_neg ap, if_neg ap, if_neg ap, if_pos fb];exact ⟨rfl, fun _ => ⟨rfl, rfl⟩, fun h => (by cases h), .inl rfl⟩
theorem I4 {E : List (Int × bV)} {r rm : Nat} {s : bt.aN aq} {x y : Int} (ap : s.hot.length ≤ 1100) (aw : s.fnd = []) (hb : s.ph ≠ 5) : gz E r rm 116 [bi x y] s (bG (!Nat.beq (dt (bx E r rm) s (x, y)).ph 5)) (dt (bx E r rm) s (x, y)) := by
 obtain ⟨ph, I, J, T, dirty, hot, fnd, ch⟩ := s;obtain rfl : fnd = [] := aw;have ap : hot.length ≤ 1100 := ap
 have hb : Nat.beq ph 5 = false := by
  cases h : Nat.beq ph 5 with
  | false => rfl
  | true => exact absurd (hP h) hb
 obtain ⟨h1, h2, ao, aH⟩ := Ze (E := E) (r := r) (rm := rm) (s := ⟨ph, I, J, T, dirty, hot, [], ch⟩) (x := x) (y := y);rintro cs R ⟨hv, fv, cv, b, S, lk, hS, cY, gu, rfl, rfl⟩;have aP := aaZ (rm : Int) hot b S x y hS ap;have di : ∀ hv, (eK E r rm ph I J T dirty hv fv cv b lk).all AC.bd = true := fun hv => by simp only [kF, nh, cY]; rfl
 have b6 := I2 (E := E) (k := r) (rm := rm) (ph := ph) (I := I) (J := J) (T := T) (dirty := dirty) (hv := hv) (fv := fv) (cv := cv) (b := b) cY 5;simp only at h1 h2 ao aH gu;rw [h1] at aP;rcases aH with aH | ⟨aH, cM, fQ⟩
 ·rw [aH] at aP;cases ab : nZ rm hot x y with
  | true =>
   rw [ab] at aP;rw [(h2 ab).1] at aP ⊢;simp only at aP ⊢;rw [hb];have aG : (hot ++ [(x, y)]).length = hot.length + 1 := by rw [cX]; rfl
   refine dv (f := 116) Tryz.func116 rfl (du rfl) (by exact eB rfl) ?_;(repeat first | (with_reducible apply l5 (id := 1) [0,1,2,3,4,5,6,7,8,9,10] [13]); kernel_rfl; kernel_rfl; exact rfl | (with_reducible first | apply bb | apply aV | apply a8 | apply aX) | (with_reducible apply aO); exact rfl; (repeat first | (with_reducible apply az); exact rfl | (with_reducible apply df); (iterate 3 exact rfl)); (with_reducible apply aA));refine Aw 0 rfl rfl rfl rfl aP rfl rfl rfl (fun v dp h => ?_);obtain ⟨rfl, fH⟩ := h;rw [J6];(repeat first | (with_reducible apply eD); kernel_rfl | (with_reducible apply l5 (id := 6) [0,1,2,3,4,5,6,7,8,9,10,11,12] [3000028]); kernel_rfl; kernel_rfl; exact rfl | (with_reducible first | apply bb | apply aV | apply a8 | apply aX | apply dc) | (with_reducible apply eo); exact rfl; (exact rfl) | (with_reducible apply c4); exact rfl; (exact rfl) | (with_reducible apply aO); exact rfl; (repeat first | (with_reducible apply az); exact rfl | (with_reducible apply df); (iterate 3 exact rfl) | (with_reducible apply lM); (iterate 10 exact rfl)); (with_reducible apply aA));refine oi 1 rfl rfl rfl rfl ?q1 ?q2 rfl rfl (fun v1 ic => ?_)
   case q1 => exact ka (by show hot.length + 1 ≤ 1000000; omega)
   case q2 => show (hot.length + 1) * 16 ≤ 140737488355328; omega
   (repeat first | (with_reducible apply eD); kernel_rfl | (with_reducible first | apply bb | apply aV | apply a8 | apply aX | apply dM) | (with_reducible apply aO); exact rfl; (repeat first | (with_reducible apply az); exact rfl | (with_reducible apply df); (iterate 3 exact rfl)); (with_reducible apply aA))
   ((refine eW rfl (bD rfl bf) rfl (bL.of_eq (afx (x := x) (y := y)).symm) (di v1) rfl ft ?_))
   exact ⟨_, rfl, rfl, v1, fv, cv, b, dp, lk, fH, cY, gu, rfl, rfl⟩
  | false =>
   rw [ab] at aP;rw [ao ab aH] at aP ⊢;simp only at aP ⊢;rw [hb];refine dv (f := 116) Tryz.func116 rfl (du rfl) (by exact eB rfl) ?_;(repeat first | (with_reducible apply l5 (id := 1) [0,1,2,3,4,5,6,7,8,9,10] [13]); kernel_rfl; kernel_rfl; exact rfl | (with_reducible first | apply bb | apply aV | apply a8 | apply aX) | (with_reducible apply aO); exact rfl; (repeat first | (with_reducible apply az); exact rfl | (with_reducible apply df); (iterate 3 exact rfl)); (with_reducible apply aA));refine Aw 0 rfl rfl rfl rfl aP rfl rfl rfl (fun v dp h => ?_);obtain ⟨rfl, fH⟩ := h;rw [J6];(repeat first | (with_reducible apply eD); kernel_rfl | (with_reducible first | apply bb | apply aV | apply a8 | apply aX | apply dM | apply dc) | (with_reducible apply c4); exact rfl; (exact rfl) | (with_reducible apply aO); exact rfl; (repeat first | (with_reducible apply az); exact rfl); (with_reducible apply aA))
   ((refine eW rfl (bD rfl bf) rfl (bL.refl _) (di _) rfl ft ?_))
   exact ⟨_, rfl, rfl, hv, fv, cv, b, dp, lk, fH, cY, gu, rfl, rfl⟩
 ·rw [aH, cM] at aP;rw [fQ] at aP ⊢;simp only [eI] at aP ⊢;rw [show (!Nat.beq 5 5) = false from rfl];refine dv (f := 116) Tryz.func116 rfl (du rfl) (by exact eB rfl) ?_;(repeat first | (with_reducible apply l5 (id := 1) [0,1,2,3,4,5,6,7,8,9,10] [13]); kernel_rfl; kernel_rfl; exact rfl | (with_reducible first | apply bb | apply aV | apply a8 | apply aX) | (with_reducible apply aO); exact rfl; (repeat first | (with_reducible apply az); exact rfl | (with_reducible apply df); (iterate 3 exact rfl)); (with_reducible apply aA));refine Aw 0 rfl rfl rfl rfl aP rfl rfl rfl (fun v dp h => ?_);obtain ⟨rfl, fH⟩ := h;rw [J6];(repeat first | (with_reducible apply eD); kernel_rfl | (with_reducible first | apply bb | apply aV | apply a8 | apply aX) | (with_reducible apply eo); exact rfl; ((simp only [hG]; (omega))) | (with_reducible apply aO); exact rfl; (repeat first | (with_reducible apply az); exact rfl); (with_reducible apply aA));refine ky 1000 rfl rfl rfl rfl b6 rfl rfl (di _) rfl rfl ?_;(repeat first | (with_reducible first | apply bb | apply aV | apply a8 | apply aX | apply dM | apply kH) | (with_reducible apply aO); exact rfl; (repeat first | (with_reducible apply az); exact rfl); (with_reducible apply aA))
  ((refine eW rfl (bD rfl bf) rfl (bL.refl _) rfl rfl ft ?_))
  exact ⟨_, rfl, rfl, hv, fv, cv, b, dp, .c (.slice none 0 0), fH, rfl, fun h => (by cases h), rfl, rfl⟩
section
variable {P : Program} {R : aL} {s : aE} {ops : Array Oper} {dr : Option (List Nat)} {ty : Nat} {pos : String} {after : Array Edge} {guard : Option (Nat × Bool)} {K : aL → aE → Prop} {rest : List Oper}
theorem dC.closed {E : List (Int × bV)} {r rm : Nat} {s : bt.aN aq} {cs : List AC} {R : aL} (h : dC E r rm s cs R) : cs.all AC.bd = true := by
 obtain ⟨hv, fv, cv, b, S, lk, _, cY, _, rfl, _⟩ := h;simp only [kF, nh, cY]; rfl
theorem dC.b9 {E : List (Int × bV)} {r rm : Nat} {s s' : bt.aN aq} {cs au : List AC} {R aC : aL} (h : dC E r rm s cs R) (ar : dC E r rm s' au aC) : Go.Proofs.YtpochbhajmbfdaaGreat.b9 aC R = aC := by
 obtain ⟨_, _, _, _, _, _, _, _, _, _, rfl⟩ := h;obtain ⟨_, _, _, _, _, _, _, _, _, _, rfl⟩ := ar;exact RK
theorem iz {E : List (Int × bV)} {r rm : Nat} {eH s1 : bt.aN aq} {v : ai} {dst : Option Nat} {f : FuncId} {g : Operand} {aS : Array TypeId} {l : List Operand} {args : List ai} {cs : List AC} [F8 : Enters aj f] (hw : want ops ⟨dst, .call ⟨.value g, l.toArray, aS⟩, ty, pos, after, guard⟩ s = some true) (hm : dE dr ⟨dst, .call ⟨.value g, l.toArray, aS⟩, ty, pos, after, guard⟩ = true)
  (ax : s.look g = some (aU (.func (.func f) #[] #[]))) (aI : l.map s.look = (rU :: args).map some) (ae : s.mem 1000 = some cs) (hZ : pD dr 1000 = true) (et : args.all ai.bd = true) (hd : li dst s.n = true) (hp : gz E r rm f args eH v s1) (bp : dC E r rm eH cs R)
  (h : ∀ au aC, dC E r rm s1 au aC → cQ aj ops dr K rest aC ((s.ep 1000 au).put dst v)) : cQ aj ops dr K (⟨dst, .call ⟨.value g, l.toArray, aS⟩, ty, pos, after, guard⟩ :: rest) R s := by
 refine D7 1000 hw hm ax aI (hp cs R bp) ae hZ (bL.refl _) bp.closed et hd ?_;rintro _ au aC ⟨rfl, ar⟩;rw [bp.b9 ar];exact h au aC ar
end
theorem Sc (n d : Int) (r : Nat) (hd : 0 < d) : lG n d r = gD (2 ^ r) n d := by
 rw [← agA r hd];unfold gD;congr 1
 ·rw [kf d]; omega
 ·rw [Int.pow_succ, kf d];rw [lD, kf 2 d, ← lD, kf (2 ^ r * d) 2]
def mA (r : Nat) (M : fU) : Option aq := if M.k = 1 then some (iU r M) else none
theorem Hn {n : Int} (h : -19342813113834066795298816 ≤ n ∧ n ≤ 19342813113834066795298816) : fits n = true := by
 unfold fits; rw [cL]; omega
theorem O1 {E : List (Int × bV)} {r rm : Nat} {s : bt.aN aq} {M : fU} (al : r ≤ 28) (jE : Cc M) (ha : M.k = 1 → e4 r (iU r M).1 (iU r M).2 = true) (ap : s.hot.length ≤ 1100) (aw : s.fnd = []) (hb : s.ph ≠ 5) : gz E r rm 118 [oI M] s (bG (!Nat.beq (kv (bx E r rm) s (mA r M)).ph 5)) (kv (bx E r rm) s (mA r M)) := by
 intro cs R bp
 have ZT : Nat.beq s.ph 5 = false := by
  cases h : Nat.beq s.ph 5 with
  | false => rfl
  | true => exact absurd (hP h) hb
 have ak := bp.closed
 by_cases h1 : M.k = 1
 ·rcases jE with rfl | ⟨x, y, d, rfl, hd, sJ, aa, ag⟩ | ⟨f1, f2, g1, g2, rfl⟩
  ·simp [ig] at h1
  ·have ha := ha rfl;have ay : hg (r : Int) r := ⟨al, .inr (.inr rfl)⟩;have fd := Hn (n := d) (by omega);have ex := Sc x d r hd;have kQ := Sc y d r hd
   have aP := adE (n := x) (d := d) (n' := y) (d' := d) ay (Hn aa) fd (Hn ag) fd (b := true) (by
    unfold tz;rw [bF hd, ex, kQ];unfold e4 iU jr at ha;simp only at ha;rw [qH, qH]; exact ha)
   simp only [if_true, ex, kQ] at aP;have b6 := I4 (E := E) (r := r) (rm := rm) (s := s) (x := gD (2 ^ r) x d) (y := gD (2 ^ r) y d) ap aw hb;rw [show mA r (jr x d y d) = some (gD (2 ^ r) x d, gD (2 ^ r) y d) from rfl];show dk _ _ _ _ _ (oM 1000 fun ck au aC => ck = bG (!Nat.beq (dt (bx E r rm) s (gD (2 ^ r) x d, gD (2 ^ r) y d)).ph 5) ∧ dC E r rm (dt (bx E r rm) s (gD (2 ^ r) x d, gD (2 ^ r) y d)) au aC);generalize dt (bx E r rm) s (gD (2 ^ r) x d, gD (2 ^ r) y d) = s1 at *;generalize gD (2 ^ r) x d = X at *;generalize gD (2 ^ r) y d = Y at *;generalize (!Nat.beq s1.ph 5) = ck at *;obtain ⟨hv, fv, cv, b, S, lk, hS, cY, gu, rfl, rfl⟩ := id bp;unfold jr;refine dv (f := 118) Tryz.func118 rfl (du rfl) (by exact eB rfl) ?_;(repeat first | (with_reducible apply eD); kernel_rfl | (with_reducible apply dU (id := 3) [13,0,1,2,3,4,5,6,7,8,9,10,11,12,14,15]); kernel_rfl; kernel_rfl; exact rfl | (with_reducible first | apply bb | apply aV | apply a8 | apply aX | apply dc) | (with_reducible apply c4); exact rfl; (exact rfl) | (with_reducible apply aO); exact rfl; (repeat first | (with_reducible apply az); exact rfl | (with_reducible apply df); (iterate 3 exact rfl) | refine kt rfl rfl rfl rfl rfl (by (exact aP)) rfl ?_); (with_reducible apply aA));refine iz rfl rfl rfl rfl rfl rfl rfl rfl b6 bp (fun au aC cp => ?_);(repeat first | (with_reducible first | apply aV | apply aX | apply dM) | (with_reducible apply aO); exact rfl; (repeat first | (with_reducible apply az); exact rfl); (with_reducible apply aA));obtain ⟨cg, dh, c8, bR, dp, ht, fH, hI, iO, rfl, rfl⟩ := id cp
   ((refine eW rfl (bD rfl bf) rfl (bL.refl _) cp.closed rfl ft ?_))
   exact ⟨_, rfl, rfl, cp⟩
  ·simp [tJ] at h1
 ·rw [show mA r M = none from if_neg h1];show dk _ _ _ _ _ (oM 1000 fun ck au aC => ck = bG (!Nat.beq s.ph 5) ∧ dC E r rm s au aC);rw [ZT, Bool.not_false];obtain ⟨mk, Jn, md, dG, Jg, Jo, Jp, Jq, Jr⟩ := M;have h1 : ¬ mk = 1 := h1;obtain ⟨hv, fv, cv, b, S, lk, hS, cY, gu, rfl, rfl⟩ := id bp;refine dv (f := 118) Tryz.func118 rfl (du rfl) (by exact eB rfl) ?_;(repeat first | (with_reducible first | apply bb | apply aV | apply a8 | apply aX | apply dM | apply kH) | (with_reducible apply eo); exact rfl; ((simp only [hG]; (omega))) | (with_reducible apply aO); exact rfl; (repeat first | (with_reducible apply az); exact rfl); (with_reducible apply aA))
  ((refine eW rfl (bD rfl bf) rfl (bL.refl _) ak rfl ft ?_))
  exact ⟨_, rfl, rfl, bp⟩
theorem Up {ch : List (List aq × List Int)} (ak : ∀ c ∈ ch, c.1.length = c.2.length + 1 ∧ c.1.length ≤ 1100) (ap : ch.length ≤ 300) : pI aj 91 [pF ch] (fun v q => v = aU q.v ∧ q = s3 q.v (aQ ch)) := by
 refine Gx rfl (fun v q h => by obtain ⟨rfl, _⟩ := h; rfl) ?_;refine dv (f := 91) Tryz.func91 rfl (du rfl) (by exact n3) ?_;(repeat first | (with_reducible first | apply bb | apply aV | apply a8 | apply aX | apply fu) | (with_reducible apply aO); exact rfl; (repeat first | (with_reducible apply az); exact rfl | (with_reducible apply c6); (iterate 3 exact rfl)); (with_reducible apply aA));refine mF 0 167 4 rfl ?_
 skip
 refine k7 28 (TF ch) ch.length (bH 0 (s3 (.slice none 0 0) [])) _ [] ⟨0, 0, .slice none 0 0, eF _, rfl, rfl, rfl, rfl, rfl⟩ (ni _ _ _) rfl ⟨rfl, rfl, rfl, rfl, trivial⟩ trivial rfl ?_;rintro n R aS bw ⟨i, ii, v, hi, rfl, gi, rfl, rfl, rfl⟩ dK;clear dK
 by_cases an : i < ch.length
 ·have q2 : ii < (ch.length : Int) := by omega
  have cr : 0 ≤ ii := by omega
  obtain ⟨c, g1⟩ : ∃ c, ch[i]? = some c := ⟨_, cj an⟩;obtain ⟨jG, hH⟩ := ak c (dL g1);have jz := vG gi g1
  have ajb : (aQ (ch.take i)).length ≤ 300 * 1100 := by
   refine lC (EC (m := 1100) fun c nA => (ak c (py nA)).2) (kC _ ?_);rw [eu]; omega
  have cD : aQ (ch.take (i + 1)) = aQ (ch.take i) ++ gB c.1 := by
   rw [nO an, EB, show ch[i] = c from mD ((cj an).symm.trans g1)];simp [aQ]
  have NZ : (gB c.1).length = c.2.length := by rw [uJ]; omega
  obtain ⟨V, D⟩ := c;simp only at jG hH jz cD NZ;generalize aQ (ch.take i) = pre at *;(repeat first | (with_reducible first | apply bb | apply aV | apply a8 | apply aX | apply dc | apply fu) | (with_reducible apply eo); exact rfl; (exact bF (by omega)) | (with_reducible apply aO); exact rfl; (repeat first | (with_reducible apply az); exact rfl | (with_reducible apply gN); (iterate 5 exact rfl) | (with_reducible apply fi); (iterate 3 exact rfl); (omega); (omega); (assumption); exact rfl | (with_reducible apply c6); (iterate 3 exact rfl)); (with_reducible apply aA));refine k7 28 (TE ch V D ii pre) D.length (bH 0 (s3 v pre)) _ [(5, [.p (cx 2 V.length (b8 V)), .p (cx 1 D.length (cy D))])] ⟨0, 0, v, eF _, rfl, rfl, by simp, rfl, rfl⟩ (bL.refl _) rfl ⟨rfl, rfl, rfl, rfl, rfl, rfl, rfl, trivial⟩ ⟨rfl, trivial⟩ rfl ?_;rintro n R aS bw ⟨j, dS, v, af, rfl, ob, rfl, rfl, rfl⟩ dK;clear dK;have hZ : ((gB V).take j).length = j := by rw [eu]; omega
  by_cases hs : j < D.length
  ·have s2 : dS < (D.length : Int) := by omega
   obtain ⟨a, b, g2⟩ : ∃ a b, V[j]? = some (a, b) := ⟨_, _, cj (by omega)⟩;obtain ⟨c, d, g3⟩ : ∃ a b, V[j + 1]? = some (a, b) := ⟨_, _, cj (by omega)⟩;have aP := Q0 (D := D) g2 g3 (by omega);rw [← ob] at aP
   have eR : pre ++ (gB V).take (j + 1) = (pre ++ (gB V).take j) ++ [((a, b), (c, d))] := by
    have h1 : j + 1 < V.length := by omega
    have h2 := abX h1;rw [show V[j] = (a, b) from mD ((cj (by omega)).symm.trans g2), show V[j + 1] = (c, d) from mD ((cj (by omega)).symm.trans g3)] at h2;obtain ⟨ao, aH⟩ := bP.1 h2;rw [nO ao, aH, iV]
   have hlen : (pre ++ (gB V).take j).length ≤ 300 * 1100 + 1100 := by rw [cX, hZ]; omega
   (repeat first | (with_reducible first | apply bb | apply aV | apply a8 | apply aX | apply dc | apply fu) | (with_reducible apply eo); exact rfl; (exact bF (by omega)) | (with_reducible apply aO); exact rfl; (repeat first | (with_reducible apply az); exact rfl | (with_reducible apply lM); (iterate 10 exact rfl) | refine dP rfl rfl rfl rfl (by (exact aP)) rfl ?_); (with_reducible apply aA));refine oi 0 rfl rfl rfl rfl ?q1 ?q2 rfl rfl (fun a7 cg => ?_)
   case q1 => exact ka (by show (pre ++ (gB V).take j).length + 1 ≤ 1000000; omega)
   case q2 => show ((pre ++ (gB V).take j).length + 1) * 32 ≤ 140737488355328; omega
   (repeat first | (with_reducible first | apply aV | apply a8 | apply aX | apply kg) | (with_reducible apply aO); exact rfl; (repeat first | (with_reducible apply az); exact rfl | (with_reducible apply fh); (iterate 3 exact rfl); (exact cZ (by omega)); exact rfl); (with_reducible apply aA));exact ⟨D.length - (j + 1), bH 0 (s3 a7 (pre ++ (gB V).take (j + 1))), _, [(5, [.p (cx 2 V.length (b8 V)), .p (cx 1 D.length (cy D))])], by omega, ⟨j + 1, dS + 1, a7, by omega, rfl, by omega, rfl, rfl, rfl⟩, by rw [eR, abU]; exact ni _ _ _, rfl, ⟨rfl, rfl, rfl, rfl, rfl, rfl, rfl, trivial⟩, ⟨rfl, trivial⟩, rfl⟩
  ·have s2 : ¬ dS < (D.length : Int) := by omega
   have jC : (gB V).take j = gB V := hQ (by omega);rw [jC, ← cD];(repeat first | (with_reducible first | apply bb | apply aV | apply a8 | apply aX | apply kg | apply jN | apply jS | apply jR) | (with_reducible apply c4); exact rfl; (exact b5 (by omega)) | (with_reducible apply aO); exact rfl; (repeat first | (with_reducible apply az); exact rfl | (with_reducible apply fh); (iterate 3 exact rfl); (exact cZ (by omega)); exact rfl); (with_reducible apply aA));exact ⟨ch.length - (i + 1), bH 0 (s3 v (aQ (ch.take (i + 1)))), _, [], by omega, ⟨i + 1, ii + 1, v, by omega, rfl, by omega, rfl, rfl, rfl⟩, bL.refl _, rfl, ⟨rfl, rfl, rfl, rfl, trivial⟩, trivial, rfl⟩
 ·have q2 : ¬ ii < (ch.length : Int) := by omega
  have dl : ch.take i = ch := hQ (by omega);rw [dl];(repeat first | (with_reducible first | apply bb | apply aV | apply a8 | apply aX | apply dM | apply jN | apply jS | apply jR) | (with_reducible apply c4); exact rfl; (exact b5 (by omega)) | (with_reducible apply aO); exact rfl; (repeat first | (with_reducible apply az); exact rfl); (with_reducible apply aA))
  ((refine z6 rfl (bD rfl bf) rfl rfl (jL _) ?_))
  exact ⟨rfl, rfl⟩
theorem abV (l : List (aq × aq)) : ve (na l) := .of fun y ag => by
 obtain ⟨x, _, aa⟩ := List.mem_flatMap.1 ag;simp only [ye, gS, rH, or_false] at aa;rcases aa with rfl | rfl | rfl | rfl <;> exact ⟨_, rfl⟩
theorem CY {l : List (List aq × List Int)} {i : Nat} {ii : Int} {V : List aq} {D : List Int} (hi : ii = i) (h : l[i]? = some (V, D)) : (ii.toNat * 2 + 2 ≤ (eQ l).length ∧ ((eQ l).drop (ii.toNat * 2)).take 2 = [.p (cx 2 V.length (b8 V)), .p (cx 1 D.length (cy D))]) ∧ (eQ l)[ii.toNat * 2 + 1]? = some (.p (cx 1 D.length (cy D))) := by
 have h2 := vG hi h
 have h1 : ii.toNat * 2 + 2 ≤ (eQ l).length := by
  have := Du (f := p0) (z := 2) (fun _ => rfl) l;unfold eQ;rw [this];have := (bP.1 h).1;omega
 refine ⟨⟨h1, h2⟩, ?_⟩;have ao : (((eQ l).drop (ii.toNat * 2)).take 2)[1]? = some (.p (cx 1 D.length (cy D))) := by rw [h2]; rfl
 rw [gl (by decide), gF] at ao;exact ao
theorem aaA {l : List aq} {i : Nat} {ii x y : Int} (hi : ii = i) (h : l[i]? = some (x, y)) : ii.toNat * 2 + 2 ≤ (b8 l).length ∧ ((b8 l).drop (ii.toNat * 2)).take 2 = [.c (.int .i64 x), .c (.int .i64 y)] := by
 have := (bP.1 h).1;refine ⟨by rw [ot]; omega, uI hi h⟩
section
variable {E : List (Int × bV)} {r rm : Nat}
def kM (ch : List (List aq × List Int)) : Prop := ch.length ≤ 300 ∧ ∀ c ∈ ch, c.1.length = c.2.length + 1 ∧ c.1.length ≤ 1100
theorem O4 {s : bt.aN aq} (hd : s.dirty = false) (aw : s.fnd = []) : gz E r rm 130 [] s l7 (eI s 4 0 0) := by
 obtain ⟨ph, I, J, T, dirty, hot, fnd, ch⟩ := s;obtain rfl : dirty = false := hd;obtain rfl : fnd = [] := aw;rintro cs R ⟨hv, fv, cv, b, S, lk, hS, cY, gu, rfl, rfl⟩;have di : (eK E r rm ph I J T false hv fv cv b lk).all AC.bd = true := by simp only [kF, nh, cY]; rfl
 have b6 := I2 (E := E) (k := r) (rm := rm) (ph := ph) (I := I) (J := J) (T := T) (dirty := false) (hv := hv) (fv := fv) (cv := cv) (b := b) cY 4;refine dv (f := 130) Tryz.func130 rfl (du rfl) (by exact eB rfl) ?_;(repeat first | (with_reducible first | apply bb | apply aV | apply a8 | apply aX) | (with_reducible apply eo); exact rfl; (exact rfl) | (with_reducible apply aO); exact rfl; (repeat first | (with_reducible apply az); exact rfl | (with_reducible apply df); (iterate 3 exact rfl)); (with_reducible apply aA));refine ky 1000 rfl rfl rfl rfl b6 rfl rfl di rfl rfl ?_;(repeat first | (with_reducible first | apply aV | apply aX | apply dM | apply kH))
 ((refine eW rfl bf rfl (bL.refl _) rfl rfl ft ?_))
 exact ⟨_, rfl, rfl, hv, fv, cv, b, S, .c (.slice none 0 0), hS, rfl, fun h => (by cases h), rfl, rfl⟩
theorem abl {s : bt.aN aq} (hd : s.dirty = false) (aw : s.fnd = []) (ak : kM s.ch) : gz E r rm 179 [] s l7 (if (aQ s.ch).length < 2 then eI s 4 0 0 else eI s 3 0 1) := by
 obtain ⟨ph, I, J, T, dirty, hot, fnd, ch⟩ := s;obtain rfl : dirty = false := hd;obtain rfl : fnd = [] := aw;have ak : kM ch := ak;rintro cs R ⟨hv, fv, cv, b, S, lk, hS, cY, gu, rfl, rfl⟩;have di : (eK E r rm ph I J T false hv fv cv b lk).all AC.bd = true := by simp only [kF, nh, cY]; rfl
 have aP := Es (E := E) (k := r) (rm := rm) (ph := ph) (I := I) (J := J) (T := T) (dirty := false) (hv := hv) (fv := fv) (cv := cv) (b := b) cY 3 1;have b6 := Up (ch := ch) ak.2 ak.1;have fo := O4 (E := E) (r := r) (rm := rm) (s := ⟨3, 0, 1, 0, false, hot, [], ch⟩) rfl rfl;simp only;have NT := abV (aQ ch);have cW := V1 ch;have hS : tI rm hot (eg b) S := hS;generalize gY : aQ ch = L at *
 by_cases h2 : L.length < 2
 ·rw [if_pos h2];have xP : (1 : Int) ≥ (L.length : Int) := by omega
  refine dv (f := 179) Tryz.func179 rfl (du rfl) (by exact eB rfl) ?_;(repeat first | (with_reducible first | apply bb | apply a8) | (with_reducible apply aO); exact rfl; (repeat first | (with_reducible apply az); exact rfl); (with_reducible apply aA));refine ky 1000 rfl rfl rfl rfl aP rfl rfl di rfl rfl ?_;(repeat first | (with_reducible first | apply bb | apply aV | apply a8 | apply aX) | (with_reducible apply aO); exact rfl; (repeat first | (with_reducible apply az); exact rfl | (with_reducible apply df); (iterate 3 exact rfl)); (with_reducible apply aA));refine Oo 3 9 (by decide) rfl rfl rfl rfl b6 rfl (jL _) (fun y ag => cB.1 cW y ag) rfl rfl (fun v q h => ?_) (fun q h => ?_)
  ·obtain ⟨rfl, h⟩ := h;rw [h]; exact ⟨rfl, NT⟩
  obtain ⟨_, h⟩ := h;rw [h];(repeat first | (with_reducible apply eD); kernel_rfl | (with_reducible apply dU (id := 2) [0,1,2,3,4,5,6,7,8,9,10]); kernel_rfl; kernel_rfl; exact rfl | (with_reducible first | apply bb | apply aV | apply a8 | apply aX) | (with_reducible apply eo); exact rfl; (exact bF (by omega)) | (with_reducible apply aO); exact rfl; (repeat first | (with_reducible apply az); exact rfl | (with_reducible apply df); (iterate 3 exact rfl) | (with_reducible apply c6); (iterate 3 exact rfl)); (with_reducible apply aA));refine iz rfl rfl rfl rfl rfl rfl rfl rfl fo ⟨hv, fv, cv, b, S, .p (cx 4 L.length (na L)), hS, rfl, fun _ => by rw [gY], rfl, rfl⟩ (fun au aC cp => ?_);(repeat first | with_reducible apply aX);obtain ⟨cg, dh, c8, bR, dp, ht, fH, hI, iO, rfl, rfl⟩ := id cp
  ((refine eW rfl bf rfl (bL.refl _) cp.closed rfl ft ?_))
  exact ⟨_, rfl, rfl, cp⟩
 ·rw [if_neg h2];have xP : ¬ (1 : Int) ≥ (L.length : Int) := by omega
  refine dv (f := 179) Tryz.func179 rfl (du rfl) (by exact eB rfl) ?_;(repeat first | (with_reducible first | apply bb | apply a8) | (with_reducible apply aO); exact rfl; (repeat first | (with_reducible apply az); exact rfl); (with_reducible apply aA));refine ky 1000 rfl rfl rfl rfl aP rfl rfl di rfl rfl ?_;(repeat first | (with_reducible first | apply bb | apply aV | apply a8 | apply aX) | (with_reducible apply aO); exact rfl; (repeat first | (with_reducible apply az); exact rfl | (with_reducible apply df); (iterate 3 exact rfl)); (with_reducible apply aA));refine Oo 3 9 (by decide) rfl rfl rfl rfl b6 rfl (jL _) (fun y ag => cB.1 cW y ag) rfl rfl (fun v q h => ?_) (fun q h => ?_)
  ·obtain ⟨rfl, h⟩ := h;rw [h]; exact ⟨rfl, NT⟩
  obtain ⟨_, h⟩ := h;rw [h];(repeat first | (with_reducible apply eD); kernel_rfl | (with_reducible apply dU (id := 2) [0,1,2,3,4,5,6,7,8,9,10]); kernel_rfl; kernel_rfl; exact rfl | (with_reducible first | apply bb | apply aV | apply aX | apply dc) | (with_reducible apply c4); exact rfl; (exact b5 (by omega)) | (with_reducible apply aO); exact rfl; (repeat first | (with_reducible apply az); exact rfl | (with_reducible apply df); (iterate 3 exact rfl) | (with_reducible apply c6); (iterate 3 exact rfl)); (with_reducible apply aA))
  ((refine eW rfl bf rfl (bL.refl _) rfl rfl ft ?_))
  exact ⟨_, rfl, rfl, hv, fv, cv, b, S, .p (cx 4 L.length (na L)), hS, rfl, fun _ => by show _ = AC.p (cx 4 (aQ ch).length (na (aQ ch))); rw [gY], rfl, rfl⟩
def Ue (E : List (Int × bV)) (r rm : Nat) (s : bt.aN aq) (hv fv cv : Value) (b : Nat) (S : ff) (lk : AC) (n : Nat) (R : aL) (aS : List (Nat × ai)) (bw : List (Nat × List AC)) : Prop :=
 ∃ (I J : Nat), I < s.ch.length ∧ n = s.ch.length - I ∧ lF s = lF { s with I := I, J := J } ∧ J ≤ 1100 ∧ R = dT b S hv fv cv s.hot [] s.ch ∧ aS = [(0, rU), (2, .w (.one (.own 1000 1)))] ∧ bw = [(1000, eK E r rm s.ph I J s.T false hv fv cv b lk)]
theorem af4 {s : bt.aN aq} {I J : Nat} {V : List aq} {D : List Int} (h : s.ch[I]? = some (V, D)) : lF ({ s with I := I, J := J } : bt.aN aq) = if J + 1 < V.length then ({ s with I := I, J := J } : bt.aN aq) else lF ({ s with I := I + 1, J := 0 } : bt.aN aq) := by
 have ap := (bP.1 h).1;unfold lF;have e : s.ch.drop I = (V, D) :: s.ch.drop (I + 1) := by rw [nL ap, (bP.1 h).2]
 simp only [e, tv]
 by_cases af : J + 1 < V.length
 ·rw [if_pos af, if_pos af]
 ·rw [if_neg af, if_neg af]; rfl
theorem af5 {s : bt.aN aq} (h : s.ch.length ≤ s.I) : lF s = if (aQ s.ch).length < 2 then eI s 4 0 0 else eI s 3 0 1 := by
 unfold lF;rw [List.drop_eq_nil_of_le h];rfl
theorem O5 {s : bt.aN aq} (hd : s.dirty = false) (aw : s.fnd = []) (ak : kM s.ch) (bp : s.I < s.ch.length) (fA : s.J ≤ 1100) (hb : s.ph = 2) : gz E r rm 124 [] s l7 (lF s) := by
 rintro cs R ⟨hv, fv, cv, b, S, lk, hS, cY, gu, rfl, rfl⟩;rw [hd, aw];have di : ∀ I J : Int, (eK E r rm s.ph I J s.T false hv fv cv b lk).all AC.bd = true := fun I J => by simp only [kF, nh, cY]; rfl
 refine dv (f := 124) Tryz.func124 rfl (du rfl) (by exact eB rfl) ?_;(repeat first | (with_reducible first | apply bb | apply aV | apply a8 | apply aX | apply fu) | (with_reducible apply aO); exact rfl; (repeat first | (with_reducible apply az); exact rfl | (with_reducible apply df); (iterate 3 exact rfl)); (with_reducible apply aA));refine k7 46 (Ue E r rm s hv fv cv b S lk) (s.ch.length - s.I) (dT b S hv fv cv s.hot [] s.ch) _ [(1000, eK E r rm s.ph s.I s.J s.T false hv fv cv b lk)] ⟨s.I, s.J, bp, rfl, rfl, fA, rfl, rfl, rfl⟩ (bL.refl _) rfl ⟨rfl, rfl, trivial⟩ ⟨rfl, trivial⟩ ?_ ?_
 ·cases lk <;> first | rfl | cases cY
 rintro n R aS bw ⟨I, J, Yw, rfl, IB, Yy, rfl, rfl, rfl⟩ dK;clear dK;obtain ⟨V, D, g1⟩ : ∃ V D, s.ch[I]? = some (V, D) := ⟨_, _, cj Yw⟩;obtain ⟨jG, hH⟩ := ak.2 _ (dL g1);have hlen := ak.1;simp only at jG hH;obtain ⟨jW, kn⟩ := CY (ii := (I : Int)) rfl g1;have Ay := af4 (s := s) (J := J) g1;have db : (0 : Int) ≤ (I : Int) := by omega
 have q1 : (I : Int) < (s.ch.length : Int) := by omega
 have q2 : 0 < s.ch.length := by omega
 by_cases af : J + 1 < V.length
 ·have kw : ¬ (J : Int) ≥ (D.length : Int) := by omega
  rw [if_pos af] at Ay;(repeat first | (with_reducible apply eD); kernel_rfl | (with_reducible apply dU (id := 1) [0,1,2,3,4,5,6,7,8,9,10,11,12,13,14,15,16]); kernel_rfl; kernel_rfl; exact rfl | (with_reducible first | apply bb | apply aV | apply jN | apply jS | apply jR) | (with_reducible apply c4); exact rfl; (exact b5 (by omega)) | (with_reducible apply aO); exact rfl; (repeat first | (with_reducible apply az); exact rfl | (with_reducible apply df); (iterate 3 exact rfl) | (with_reducible apply c6); (iterate 3 exact rfl)); (with_reducible apply aA) | (with_reducible apply j9 3); (iterate 4 exact rfl); (omega); (assumption); exact rfl; kernel_rfl; exact rfl | (with_reducible apply Aq 3); (iterate 3 exact rfl); (assumption); kernel_rfl; exact rfl | (with_reducible apply Ar 3); (iterate 3 exact rfl); (assumption); assumption; exact rfl; kernel_rfl; exact rfl)
  ((refine eW rfl bf rfl (bL.refl _) (di _ _) rfl ft ?_))
  refine ⟨_, rfl, rfl, hv, fv, cv, b, S, lk, ?_⟩;rw [IB, Ay];exact ⟨hS, cY, gu, by rw [hd], by rw [aw]⟩
 ·have kw : (J : Int) ≥ (D.length : Int) := by omega
  rw [if_neg af] at Ay
  by_cases ap : I + 1 = s.ch.length
  ·have fb : (I : Int) + 1 = (s.ch.length : Int) := by omega
   have fo := abl (E := E) (r := r) (rm := rm) (s := { s with I := I + 1, J := 0 }) hd aw ak;have Z6 := af5 (s := { s with I := I + 1, J := 0 }) (by show s.ch.length ≤ I + 1; omega);rw [← Z6] at fo;(repeat first | (with_reducible apply eD); kernel_rfl | (with_reducible apply dU (id := 1) [0,1,2,3,4,5,6,7,8,9,10,11,12,13,14,15,16]); kernel_rfl; kernel_rfl; exact rfl | (with_reducible apply dU (id := 3) [0,1,2,3,4,5,6,7,8,9]); kernel_rfl; kernel_rfl; exact rfl | (with_reducible first | apply bb | apply aV | apply a8 | apply aX | apply dc | apply fu) | (with_reducible apply eo); exact rfl; (exact bF (by omega)) | (with_reducible apply aO); exact rfl; (repeat first | (with_reducible apply az); exact rfl | (with_reducible apply df); (iterate 3 exact rfl) | (with_reducible apply fh); (iterate 3 exact rfl); (exact cZ (by omega)); exact rfl | (with_reducible apply c6); (iterate 3 exact rfl)); (with_reducible apply aA) | (with_reducible apply oj 3); (iterate 4 exact rfl); kernel_rfl; exact rfl | (with_reducible apply j9 3); (iterate 4 exact rfl); (omega); (assumption); exact rfl; kernel_rfl; exact rfl | (with_reducible apply Aq 3); (iterate 3 exact rfl); (assumption); kernel_rfl; exact rfl | (with_reducible apply Ar 3); (iterate 3 exact rfl); (assumption); assumption; exact rfl; kernel_rfl; exact rfl);refine iz rfl rfl rfl rfl rfl rfl rfl rfl fo ⟨hv, fv, cv, b, S, lk, hS, cY, gu, by rw [hd]; rfl, by rw [aw]⟩ (fun au aC cp => ?_);(repeat first | (with_reducible first | apply aV | apply aX | apply dM | apply kH | apply aff));obtain ⟨cg, dh, c8, bR, dp, ht, fH, hI, iO, rfl, rfl⟩ := id cp
   ((refine eW rfl bf rfl (bL.refl _) cp.closed rfl ft ?_))
   refine ⟨_, rfl, rfl, ?_⟩;rw [IB, Ay];exact cp
  ·have fb : ¬ (I : Int) + 1 = (s.ch.length : Int) := by omega
   (repeat first | (with_reducible apply eD); kernel_rfl | (with_reducible apply dU (id := 1) [0,1,2,3,4,5,6,7,8,9,10,11,12,13,14,15,16]); kernel_rfl; kernel_rfl; exact rfl | (with_reducible apply dU (id := 3) [0,1,2,3,4,5,6,7,8,9]); kernel_rfl; kernel_rfl; exact rfl | (with_reducible first | apply bb | apply aV | apply a8 | apply aX | apply dc | apply fu | apply kg) | (with_reducible apply eo); exact rfl; (exact bF (by omega)) | (with_reducible apply c4); exact rfl; (exact b5 (by omega)) | (with_reducible apply aO); exact rfl; (repeat first | (with_reducible apply az); exact rfl | (with_reducible apply df); (iterate 3 exact rfl) | (with_reducible apply fh); (iterate 3 exact rfl); (exact cZ (by omega)); exact rfl | (with_reducible apply c6); (iterate 3 exact rfl)); (with_reducible apply aA) | (with_reducible apply oj 3); (iterate 4 exact rfl); kernel_rfl; exact rfl | (with_reducible apply j9 3); (iterate 4 exact rfl); (omega); (assumption); exact rfl; kernel_rfl; exact rfl | (with_reducible apply Aq 3); (iterate 3 exact rfl); (assumption); kernel_rfl; exact rfl | (with_reducible apply Ar 3); (iterate 3 exact rfl); (assumption); assumption; exact rfl; kernel_rfl; exact rfl);refine ⟨s.ch.length - (I + 1), dT b S hv fv cv s.hot [] s.ch, _, [(1000, eK E r rm s.ph (I + 1 : Nat) (0 : Nat) s.T false hv fv cv b lk)], by omega, ⟨I + 1, 0, by omega, rfl, by rw [IB, Ay], by omega, rfl, rfl, rfl⟩, bL.refl _, rfl, ⟨rfl, rfl, trivial⟩, ⟨rfl, trivial⟩, ?_⟩;cases lk <;> first | rfl | cases cY
end
end Go.Proofs.YtpochbhajmbfdaaGreat
