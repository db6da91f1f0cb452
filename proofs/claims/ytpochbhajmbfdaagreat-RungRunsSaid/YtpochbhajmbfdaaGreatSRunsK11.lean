/-
  My own texts, without what this claim does not need. My own text.
-/
import Derived.Shelf.Spec.SlicesInsert
import Derived.Lib.AppendZerosOnto
import Derived.Test.YtpochbhajmbfdaaGreatSRunsK10
set_option maxRecDepth 100000
set_option maxHeartbeats 64000000
set_option linter.unusedVariables false
set_option linter.unusedSimpArgs false
set_option linter.unusedSectionVars false
open Go.Proofs.Tryz renaming prog → aj
namespace Go.Proofs.YtpochbhajmbfdaaGreat
open Go.RowKit Go.Lib
section
variable {P : Program}
theorem EK (w : World) (tA AS ty elem : TypeId) (g o qM yN z : Nat) (a : Addr) (rA AR : Nat) (cur : Array Value) (t : TypeId) (cs : List Value)
  (hu : P.underlying tA = some (.slice elem)) (hs : (P.info? elem).map (·.size) = some z)
  (aw : w.heap[g]? = some (.cells cur t (0, 0))) (aE : cs.length = Nat.min rA qM * z)
  (HM : ∀ j v, cs[j]? = some v → w.cell? (a.add j) = some v) (xh : o + cs.length ≤ cur.size) (h1 : ∀ v ∈ cs, v.oneCell' = true) :
  (Builtin.copy_ #[tA, AS] ty #[.slice (some ⟨g, o, none⟩) qM yN, .slice (some a) rA AR]).run P w =
   .ok (goInt (Nat.min rA qM)) (w.setRow g (cur.toList.take o ++ cs ++ cur.toList.drop (o + cs.length)).toArray) := by
 have ao := run_loadCells_list (P := P) w a cs HM;have j1 := run_storeCells_at P g o t cs 0 cur w aw (by simpa using xh) h1;cases al : P.info? elem with
 | none => simp [al] at hs
 | some i =>
  have hi : i.size = z := by simpa [al] using hs
  simp [Builtin.copy_, run_underlying hu, Builtin.lenOf, Builtin.firstCells, sizeOf, typeInfo, al, hi, ← aE, ao, j1]
end
theorem Ld {w : World} {a : Addr} {v : Value} (h : w.cell? a = some v) : ∃ t k, w.shape? a.block = some (t, k) ∧ k ≠ 0 := by
 unfold World.cell? at h;unfold World.shape?;cases ab : w.heap[a.block]? with
 | none => rw [ab] at h; cases h
 | some o =>
  rw [ab] at h;cases o with
  | cells c t ahr =>
   refine ⟨t, c.size, rfl, fun e => ?_⟩;simp only at h
   split at h
   ·cases h
   ·have := (ln.1 h).1; omega
  | _ => cases h
theorem aeI {P : Program} (w : World) (A0 Rn e : TypeId) (aD : P.underlying A0 = some (.slice e)) (size : Nat) (aZ : ∀ w, (Go.sizeOf e).run P w = .ok size w)
  (a b : Addr) (dX jR Ih La : Nat) (ck : a.block ≠ b.block) (v : Value) (aL : w.cell? a = some v) (cur : Array Value) (Rm : TypeId) (ab : w.heap[b.block]? = some (.cells cur Rm (0, 0))) (ak : cur.size ≠ 0) :
  (Extern.SlicesOverlaps.overlaps #[A0, A0] #[Rn] #[.slice (some a) dX jR, .slice (some b) Ih La]).run P w = .ok (.bool false) w := by
 obtain ⟨ajl, DA, Y0, ahQ⟩ := Ld aL;have Y1 : w.shape? b.block = some (Rm, cur.size) := by unfold World.shape?; rw [ab]
 have MN : ∀ x : Addr, x.block = b.block → w.frozen? x = false := fun x aa => by unfold World.frozen?; rw [aa, ab]; simp
 have YA : (a.block != b.block) = true := by simpa using ck
 have YB : (a.block == b.block) = false := by simpa using ck
 have f1 := MN b rfl;have f2 := MN { block := b.block, off := cur.size } rfl
 have key : ∀ (m : Sem Value), m = Extern.SlicesOverlaps.overlaps #[A0, A0] #[Rn] #[.slice (some a) dX jR, .slice (some b) Ih La] → m.run P w = .ok (.bool false) w := by
  intro m hm
  conv at hm => rhs; whnf
  subst hm;have l8 : ∀ {α β : Type} (x : Sem α) (f : α → Sem β), x.bind f = x >>= f := fun _ _ => rfl;have sb : ∀ {α : Type} (x : α), Sem.pure x = (pure x : Sem α) := fun _ => rfl;have Wg : ∀ {α : Type} (f : Program → Sem α), (Sem.program f).run P w = (f P).run P w := fun _ => rfl;rw [Wg];simp only [l8, sb, Sem.run_bind, Sem.run_pure, Result.andThen_ok, List.getElem_toArray, List.getElem_cons_zero, aD]
  by_cases aI : dX = 0 ∨ Ih = 0 ∨ size = 0
  ·simp [aZ, aI]
  ·obtain ⟨DA, rfl⟩ : ∃ k, DA = k + 1 := ⟨DA - 1, by omega⟩;generalize cur.size = H5 at *;obtain ⟨H5, rfl⟩ : ∃ k, H5 = k + 1 := ⟨H5 - 1, by omega⟩
   cases Yd : w.frozen? a <;> cases Ye : w.frozen? { block := a.block, off := DA + 1 } <;>
    simp [aZ, aI, YA, YB, frozen, noView, viewAt, mayBeOne, stringish, shape, Sem.run, Y0, Y1, f1, f2, Yd, Ye]
 exact key _ rfl
theorem ZD (cur news : List Value) {i n cap : Nat} (hi : i < n) (me : n + 1 ≤ cap) (ak : cur.length = cap * 3) (gX : news.length = 3) :
  let c1 := cur.take ((i + 1) * 3) ++ (cur.drop (i * 3)).take ((n - i) * 3) ++ cur.drop ((i + 1) * 3 + ((cur.drop (i * 3)).take ((n - i) * 3)).length)
  let c2 := c1.take (i * 3) ++ news ++ c1.drop (i * 3 + news.length)
  c1.length = cap * 3 ∧ c2.length = cap * 3 ∧ c2.take ((n + 1) * 3) = (cur.take (n * 3)).take (i * 3) ++ news ++ (cur.take (n * 3)).drop (i * 3) := by
 have dn : ((cur.drop (i * 3)).take ((n - i) * 3)).length = (n - i) * 3 := by rw [eI, jF]; omega
 intro c1 c2;have aG : c1.length = cap * 3 := by simp only [c1, dl, eI, jF, dn]; omega
 have aO : c2.length = cap * 3 := by simp only [c2, dl, eI, jF, aG, gX]; omega
 have g1 : ∀ j, c1[j]? = if j < (i + 1) * 3 then cur[j]? else if j < (n + 1) * 3 then cur[j - 3]? else cur[j]? := fun j => by
  simp only [c1];have t1 : (cur.take ((i + 1) * 3)).length = (i + 1) * 3 := by rw [eI]; omega
  by_cases q1 : j < (i + 1) * 3
  ·rw [if_pos q1, jo, gG (by omega), gm q1]
  ·rw [if_neg q1]
   by_cases q2 : j < (n + 1) * 3
   ·rw [if_pos q2, gG (by rw [dl]; omega), gH (by omega), gm (by omega), gF, t1];congr 1; omega
   ·rw [if_neg q2, gH (by rw [dl]; omega), gF, dl, t1, dn];congr 1; omega
 refine ⟨aG, aO, ?_⟩;have t2 : (c1.take (i * 3)).length = i * 3 := by rw [eI]; omega
 have t3 : ((cur.take (n * 3)).take (i * 3)).length = i * 3 := by rw [eI, eI]; omega
 apply List.ext_getElem?;intro j
 by_cases c9 : j < (n + 1) * 3
 ·rw [gm c9];simp only [c2]
  by_cases q1 : j < i * 3
  ·rw [jo, gG (by omega), gm q1, g1, if_pos (by omega), jo, gG (by omega), gm q1, gm (by omega)]
  ·by_cases q2 : j < (i + 1) * 3
   ·rw [jo, gH (by omega), gG (by omega), jo, gH (by omega), gG (by omega), t2, t3]
   ·rw [gH (by rw [dl]; omega), gF, g1, gH (by rw [dl]; omega), gF, dl, dl, t2, t3, gX, if_neg (by omega), if_pos (by omega), gm (by omega)];congr 1; omega
 ·rw [rk (by rw [eI]; omega), rk];simp only [dl, t3, gX, jF, eI];omega
section
variable (W : World) (g n cap i : Nat) (cur : Array Value) (news : List Value) (fG : Addr) (qt : Nat)
theorem ZF (aw : W.heap[g]? = some (.cells cur 261 (0, 0))) (hi : i < n) (me : n + 1 ≤ cap) (XW : cap ≤ 9223372036854775807) (eg : cur.size = cap * 3) (n1 : ∀ v ∈ cur.toList.take (n * 3), v.oneCell' = true)
  (gX : news.length = 3) (lg : ∀ j v, news[j]? = some v → W.cell? (fG.add j) = some v) (h1 : ∀ v ∈ news, v.oneCell' = true) (ck : fG.block ≠ g) :
  Calls aj 231 #[.slice (some ⟨g, 0, none⟩) n cap, .int .i64 i, .slice (some fG) 1 qt] W fun e bq =>
   e = .returned (.slice (some ⟨g, 0, none⟩) (n + 1) cap) ∧ ∃ nS : Array Value, bq = W.drew.setRow g nS ∧ nS.size = cap * 3 ∧ nS.toList.take ((n + 1) * 3) = (cur.toList.take (n * 3)).take (i * 3) ++ news ++ (cur.toList.take (n * 3)).drop (i * 3) := by
 obtain ⟨eQ, z, hu, fq, hP, hN, lc, oV, b0⟩ := rz (P := aj) (tt := 137) (e := 261) (sz := 3) (bytes := 24) (by kernel_rfl);have zD : (aj.info? 261).map (·.size) = some 3 := by rw [fq]; simp [hN]
 have uf : ¬ ((i : Int) = (n : Int)) := by omega
 have HR : IntKind.i64.wrap ((i : Int) + 1) = (i : Int) + 1 := by rw [IntKind.wrap_i64]; omega
 have HS : IntKind.i64.wrap ((n : Int) + 1) = (n : Int) + 1 := by rw [IntKind.wrap_i64]; omega
 have bE : (0 : Int) ≤ (i : Int) + 1 := by omega
 have lJ : i ≤ n := by omega
 have b4 : ¬ (cap = i + 1) := by omega
 have c8 : (i : Int) ≤ (n : Int) + 1 := by omega
 have fh : ¬ (cap = i) := by omega
 have YM : (callFunc 262 #[.slice (some fG) 1 qt, .slice (some ⟨g, (i + 1) * 3, none⟩) (n - i) (cap - (i + 1))]).run aj W = .ok (.value (.bool false)) W := by
  rw [run_callFunc_extern Tryz.func262 (by kernel_rfl) (by kernel_rfl) (by kernel_rfl) (e := Extern.SlicesOverlaps.overlaps #[137, 137] #[4]) (by kernel_rfl),
   aeI W _ _ 261 hu 3 (fun w => by rw [hV fq, hN]) fG ⟨g, (i + 1) * 3, none⟩ 1 qt _ _ ck news[0] (by have := lg 0 news[0] (cl (by omega)); rwa [show fG.add 0 = fG from by unfold Addr.add; split <;> simp_all] at this) cur _ aw (by omega)]
  rfl
 obtain ⟨bC, cf, h5⟩ := ZD cur.toList news hi me (by simpa using eg) gX;generalize nW : (cur.toList.drop (i * 3)).take ((n - i) * 3) = pF at *;have cW : pF.length = (n - i) * 3 := by rw [← nW, eI, jF, Array.length_toList]; omega
 have XY : ∀ ty jw wg, (Builtin.copy_ #[137, 137] ty #[.slice (some ⟨g, (i + 1) * 3, none⟩) (n - i) jw, .slice (some ⟨g, i * 3, none⟩) (n + 1 - i) wg]).run aj W.drew = .ok (goInt ((n - i : Nat) : Int)) (W.drew.setRow g (cur.toList.take ((i + 1) * 3) ++ pF ++ cur.toList.drop ((i + 1) * 3 + pF.length)).toArray) := fun ty jw wg => by
  have hm : Nat.min (n + 1 - i) (n - i) = n - i := Nat.min_eq_right (by omega);have := EK (P := aj) W.drew 137 137 ty 261 g ((i + 1) * 3) (n - i) jw 3 ⟨g, i * 3, none⟩ (n + 1 - i) wg cur 261 pF hu zD aw (by rw [hm, cW]) (fun j v ae => ?_) (by rw [cW]; omega) (fun v hv => ?_)
  ·rw [hm] at this; exact this
  ·rw [Addr.add_lit];have ao : j < (n - i) * 3 := by rw [← cW]; exact (bV.1 ae).1
   rw [← nW, gm ao, gF] at ae;show (W.drew.cell? _) = _;unfold World.cell?;rw [show W.drew.heap[(⟨g, i * 3 + j, none⟩ : Addr).block]? = some (.cells cur 261 (0, 0)) from aw];simpa using ae
  ·refine n1 v ?_;obtain ⟨j, ae⟩ := kw hv;have ao : j < (n - i) * 3 := by rw [← cW]; exact (bV.1 ae).1
   rw [← nW, gm ao, gF] at ae;exact dJ (i := i * 3 + j) (by rw [gm (by omega)]; exact ae)
 generalize jU : cur.toList.take ((i + 1) * 3) ++ pF ++ cur.toList.drop ((i + 1) * 3 + pF.length) = c1 at *;have jB := setRow_heap W.drew g cur c1.toArray _ (0, 0) aw
 have XZ : ∀ ty jw, (Builtin.copy_ #[137, 137] ty #[.slice (some ⟨g, i * 3, none⟩) (n + 1 - i) jw, .slice (some fG) 1 qt]).run aj (W.drew.setRow g c1.toArray) = .ok (goInt ((1 : Nat) : Int)) ((W.drew.setRow g c1.toArray).setRow g (c1.take (i * 3) ++ news ++ c1.drop (i * 3 + news.length)).toArray) := fun ty jw => by
  have hm : Nat.min 1 (n + 1 - i) = 1 := qh (by omega);have := EK (P := aj) (W.drew.setRow g c1.toArray) 137 137 ty 261 g (i * 3) (n + 1 - i) jw 3 fG 1 qt c1.toArray 261 news hu zD jB (by rw [hm, gX]) (fun j v ae => ?_) (by rw [gX]; simp [bC]; omega) h1
  ·rw [hm] at this; simpa using this
  rw [← lg j v ae];refine World.cell?_of_block (w := W) ?_;show (World.setRow _ _ _).heap[(fG.add j).block]? = _;rw [block_add];simp only [World.setRow, uG];rw [if_neg (fun e => ck e.symm)];rfl
 generalize iH : c1.take (i * 3) ++ news ++ c1.drop (i * 3 + news.length) = c2 at *;clear aw nW jU iH n1 lg h1 jB fq hP
 go_enter Tryz.func231, Tryz.ntmps231
 go_wp2_with (simp only [YM])
 have mixed : aj.follows .mixedOrders = true := by kernel_rfl
 go_region_law_o (refine step_copy_runI rfl _ _ 137 137 rfl _ _ (by simp [Act.eval, Act.put]) (by simp [Act.eval, Act.put]) (XY _ _ _) ?_)
 go_wp2_with (at_builtin; refine wpList_copy_runI _ rfl _ _ 137 137 rfl _ _ rfl rfl (XZ _ _) ?_)
 go_ret
 exact ⟨rfl, c2.toArray, setRow_setRow _ _ _ _, by simpa using cf, by simpa using h5⟩
theorem ZE (R xs news : List Value) {i n G : Nat} (hi : i < n) (qS : n + 1 ≤ G) (aA : R.length = G * 3) (aa : xs.length = n * 3) (za : R.take (i * 3) = xs.take (i * 3)) (gX : news.length = 3) :
  let c1 := R.take (i * 3) ++ news ++ R.drop (i * 3 + news.length)
  let c2 := c1.take ((i + 1) * 3) ++ xs.drop (i * 3) ++ c1.drop ((i + 1) * 3 + (xs.drop (i * 3)).length)
  c1.length = G * 3 ∧ c2.length = G * 3 ∧ c2.take ((n + 1) * 3) = xs.take (i * 3) ++ news ++ xs.drop (i * 3) := by
 have t1 : (xs.take (i * 3)).length = i * 3 := by rw [eI]; omega
 have t2 : (xs.drop (i * 3)).length = (n - i) * 3 := by rw [jF]; omega
 intro c1 c2;have aG : c1.length = G * 3 := by simp only [c1, za, dl, t1, jF, aA, gX]; omega
 have cz : c1.take ((i + 1) * 3) = xs.take (i * 3) ++ news := by
  simp only [c1, za];rw [AA (by rw [dl, t1, gX]; omega), iy (by rw [dl, t1, gX]; omega)]
 have aO : c2.length = G * 3 := by simp only [c2, cz, dl, t1, t2, jF, aG, gX]; omega
 refine ⟨aG, aO, ?_⟩;simp only [c2, cz];rw [AA (by simp only [dl, t1, t2, gX]; omega), iy (by simp only [dl, t1, t2, gX]; omega)]
theorem ZC (xs : List Value) (aw : W.heap[g]? = some (.cells cur 261 (0, 0))) (Dq : cur.toList.take (n * 3) = xs) (oT : xs.length = n * 3) (hi : i < n) (e1 : n ≤ cap) (me : cap < n + 1) (xd : (n + 1) * 24 ≤ 140737488355328) (n1 : ∀ v ∈ xs, v.oneCell' = true)
  (gX : news.length = 3) (lg : ∀ j v, news[j]? = some v → W.cell? (fG.add j) = some v) (h1 : ∀ v ∈ news, v.oneCell' = true) :
  Calls aj 231 #[.slice (some ⟨g, 0, none⟩) n cap, .int .i64 i, .slice (some fG) 1 qt] W fun e bq =>
   ∃ G nS o, e = .returned (.slice (some ⟨W.heap.size, 0, none⟩) (n + 1) G) ∧ bq.heap = ((W.alloc o).setRow W.heap.size nS).heap ∧ bq.os = W.os ∧ bq.tape = W.tape ∧ bq.output = W.output ∧ (∃ kK, o = .cells kK 261 (0, 0)) ∧ n + 1 ≤ G ∧ G ≤ maxLen ∧ nS.size = G * 3 ∧ nS.toList.take ((n + 1) * 3) = xs.take (i * 3) ++ news ++ xs.drop (i * 3) := by
 obtain ⟨eQ, z, hu, fq, hP, hN, lc, oV, b0⟩ := rz (P := aj) (tt := 137) (e := 261) (sz := 3) (bytes := 24) (by kernel_rfl);have zD : (aj.info? 261).map (·.size) = some 3 := by rw [fq]; simp [hN]
 have nX : ∀ j v, xs[j]? = some v → W.cell? ⟨g, j, none⟩ = some v := fun j v ae => by
  have ao : j < n * 3 := by rw [← oT]; exact (bV.1 ae).1
  rw [← Dq, gm ao] at ae;unfold World.cell?;rw [show W.heap[(⟨g, j, none⟩ : Addr).block]? = some (.cells cur 261 (0, 0)) from aw];simpa using ae
 have MS : g < W.heap.size := (ln.1 aw).1
 have mO : fG.block < W.heap.size := by
  have := lg 0 news[0] (cl (by omega));obtain ⟨t, k, h, _⟩ := Ld this;rw [block_add] at h;unfold World.shape? at h;cases al : W.heap[fG.block]? with
  | none => rw [al] at h; cases h
  | some o => exact (ln.1 al).1
 have uf : ¬ ((i : Int) = (n : Int)) := by omega
 have ah6 : (cap : Int) < (n : Int) + 1 := by omega
 have HR : IntKind.i64.wrap ((i : Int) + 1) = (i : Int) + 1 := by rw [IntKind.wrap_i64]; omega
 have HS : IntKind.i64.wrap ((n : Int) + 1) = (n : Int) + 1 := by rw [IntKind.wrap_i64]; omega
 have nY : (n : Int) + 1 - (i : Int) = ((n + 1 - i : Nat) : Int) := by omega
 have Nv : IntKind.i64.wrap ((n : Int) + 1 - (i : Int)) = (n : Int) + 1 - (i : Int) := by rw [IntKind.wrap_i64]; omega
 have Hl : i + (n + 1 - i) = n + 1 := by omega
 have hold : (Builtin.firstCells eQ.size i (.slice (some ⟨g, 0, none⟩) i cap)).run aj W.drew = .ok (xs.take (i * 3)).toArray W.drew := by
  rw [hN]
  exact run_firstCells_some W.drew 3 i ⟨g, 0, none⟩ i cap (xs.take (i * 3)) (by rw [eI]; omega) (fun j v ae => by
   rw [Addr.add_lit, jr];rw [List.getElem?_take] at ae
   split at ae
   ·exact nX j v ae
   ·cases ae)
 obtain ⟨G, qS⟩ : ∃ G, G = grownCap W (n + 1) cap 261 := ⟨_, rfl⟩;have Ms : n + 1 ≤ G := by rw [qS]; exact grownCap_ge W _ _ _
 have Mr : G ≤ maxLen := by rw [qS]; exact grownCap_le_maxLen W (n + 1) cap _ (by unfold maxLen; omega)
 have ahF : G ≤ 9223372036854775807 := by unfold maxLen at Mr; omega
 obtain ⟨mz, CU⟩ : ∃ mz : Array Value, mz = (xs.take (i * 3)).toArray ++ Builtin.zeroCells z.cells (n + 1 - i) ++ Builtin.zeroCells z.cells (G - (n + 1)) := ⟨_, rfl⟩
 have HH : ∀ ty, (Builtin.append_ #[137, 3] ty #[.slice (some ⟨g, 0, none⟩) i cap, .int .i64 ((n : Int) + 1 - (i : Int))]).run aj W =
   .ok (.slice (some ⟨W.heap.size, 0, none⟩) (n + 1) G) (W.drew.alloc (.cells mz 261)) := fun ty => by
  have h := Lib.run_append_grow_zeros W 137 3 ty 261 eQ z .i64 .i64 hu Tryz.underlying3 fq hP (some ⟨g, 0, none⟩) i cap _ hold (n + 1 - i) (by omega) (by omega) (by omega) (by omega) (by rw [lc]; omega) (by rw [lc, Hl]; exact growslice_fits me xd);rw [Hl, ← qS, ← CU] at h;rw [nY];exact h
 have Mz : mz.size = G * 3 := by
  rw [CU];simp [Builtin.zeroCells, oV, eI];omega
 have za : mz.toList.take (i * 3) = xs.take (i * 3) := by
  rw [CU, Array.toList_append, Array.toList_append, jo, AA (by simp [eI]; omega), iy (by simp [eI]; omega)]
 obtain ⟨bC, cf, h5⟩ := ZE mz.toList xs news hi Ms (by simpa using Mz) oT za gX;generalize C2 : xs.drop (i * 3) = Ct at *;have C0 : Ct.length = (n - i) * 3 := by rw [← C2, jF]; omega
 obtain ⟨N, kr⟩ : ∃ N, N = W.heap.size := ⟨_, rfl⟩;obtain ⟨h0, sj⟩ : ∃ h0, h0 = W.drew.alloc (.cells mz 261) := ⟨_, rfl⟩;have GY : h0.heap[N]? = some (.cells mz 261 (0, 0)) := by rw [sj, kr]; show (W.heap.push _)[W.heap.size]? = _; simp
 have GZ : ∀ b, b < W.heap.size → h0.heap[b]? = W.heap[b]? := fun b ab => by rw [sj]; show (W.heap.push _)[b]? = _; rw [Array.getElem?_push_lt ab, Array.getElem?_eq_getElem ab]
 generalize jU : mz.toList.take (i * 3) ++ news ++ mz.toList.drop (i * 3 + news.length) = c1 at *
 have X0 : ∀ mE : World, mE.heap = h0.heap → ∀ ty jw, (Builtin.copy_ #[137, 137] ty #[.slice (some ⟨N, i * 3, none⟩) (n + 1 - i) jw, .slice (some fG) 1 qt]).run aj mE = .ok (goInt ((1 : Nat) : Int)) (mE.setRow N c1.toArray) := fun mE fg ty jw => by
  have hm : Nat.min 1 (n + 1 - i) = 1 := qh (by omega);have := EK (P := aj) mE 137 137 ty 261 N (i * 3) (n + 1 - i) jw 3 fG 1 qt mz 261 news hu zD (by rw [fg]; exact GY) (by rw [hm, gX]) (fun j v ae => ?_) (by rw [gX, Mz]; omega) h1
  ·rw [hm, jU] at this; exact this
  ·rw [← lg j v ae];refine World.cell?_of_block (w := W) ?_;rw [block_add, fg, GZ _ mO]
 generalize iH : c1.take ((i + 1) * 3) ++ Ct ++ c1.drop ((i + 1) * 3 + Ct.length) = c2 at *;have Yn : g ≠ N := by omega
 have X1 : ∀ mE : World, mE.heap = (h0.setRow N c1.toArray).heap → ∀ ty jw wg, (Builtin.copy_ #[137, 137] ty #[.slice (some ⟨N, (i + 1) * 3, none⟩) (n - i) jw, .slice (some ⟨g, i * 3, none⟩) (n - i) wg]).run aj mE = .ok (goInt ((n - i : Nat) : Int)) (mE.setRow N c2.toArray) := fun mE fg ty jw wg => by
  have hm : Nat.min (n - i) (n - i) = n - i := Nat.min_self _;have := EK (P := aj) mE 137 137 ty 261 N ((i + 1) * 3) (n - i) jw 3 ⟨g, i * 3, none⟩ (n - i) wg c1.toArray 261 Ct hu zD (by rw [fg]; exact setRow_heap h0 N mz _ _ (0, 0) GY) (by rw [hm, C0]) (fun j v ae => ?_) (by rw [C0]; simp [bC]; omega) (fun v hv => n1 v (by rw [← C2] at hv; exact ob hv))
  ·rw [hm] at this; simpa [iH] using this
  ·rw [Addr.add_lit];rw [← C2, gF] at ae;rw [← nX _ v ae];refine World.cell?_of_block (w := W) ?_;rw [fg];simp only [World.setRow, uG];rw [if_neg (fun e => Yn e.symm), GZ _ MS]
 rw [← sj] at HH;rw [← kr] at HH ⊢;have fin : ∀ mE : World, mE.heap = h0.heap → mE.heap = (W.alloc (.cells mz 261)).heap := fun mE h => by rw [h, sj]; rfl
 have bE : (0 : Int) ≤ (i : Int) + 1 := by omega
 have lJ : i ≤ n := by omega
 have ahI : ¬ (G = i) := by omega
 have ahH : ¬ (G = i + 1) := by omega
 have c8 : (i : Int) ≤ (n : Int) + 1 := by omega
 have fh : ¬ (cap = i) := by omega
 have YI : h0.os = W.os := by rw [sj]; rfl
 have Y6 : h0.tape = W.tape := by rw [sj]; rfl
 have YL : h0.output = W.output := by rw [sj]; rfl
 have Yp : h0.heap = (W.alloc (.cells mz 261)).heap := by rw [sj]; rfl
 have mixed : aj.follows .mixedOrders = true := by kernel_rfl
 clear aw Dq oT lg h1 n1 fq hP hold qS CU za C2 sj GY GZ jU iH nX nY Hl fin kr MS mO
 go_enter Tryz.func231, Tryz.ntmps231
 go_wp2_with (first
  | (at_builtin; refine Lib.wpList_append_run _ rfl _ _ _ _ rfl _ _ rfl rfl _ _ (HH _) ?_)
  | (at_builtin; refine wpList_copy_runI _ rfl _ _ 137 137 rfl _ _ rfl rfl (X0 _ rfl _ _) ?_))
 go_region_law_o (refine step_copy_runI rfl _ _ 137 137 rfl (.slice (some ⟨N, (i + 1) * 3, none⟩) (n - i) (G - (i + 1))) (.slice (some ⟨g, i * 3, none⟩) (n - i) (cap - i)) (by simp [Act.eval, Act.put]) (by simp [Act.eval, Act.put]) (X1 (h0.setRow N c1.toArray).drew rfl 3 (G - (i + 1)) (cap - i)) ?_)
 go_wp2
 go_ret
 refine ⟨G, c2.toArray, .cells mz 261 (0, 0), rfl, ?_, YI, Y6, YL, ⟨_, rfl⟩, Ms, Mr, by simpa using cf, by simpa using h5⟩;show ((h0.setRow N c1.toArray).setRow N c2.toArray).heap = _;rw [setRow_setRow];simp only [World.setRow, Yp]
end
theorem ZB (W : World) (v : Value) (n : Nat) (xs news : List Value) (fG : Addr) (qt : Nat) (ew : W.ownsRow 0 261 3 v n xs) (xd : (n + 1) * 24 ≤ 140737488355328)
  (gX : news.length = 3) (lg : ∀ j v, news[j]? = some v → W.cell? (fG.add j) = some v) (h1 : ∀ v ∈ news, v.oneCell' = true) :
  Calls aj 231 #[v, .int .i64 n, .slice (some fG) 1 qt] W fun e bq =>
   ∃ aW, e = .returned aW ∧ bq.ownsRow 0 261 3 aW (n + 1) (xs ++ news) ∧ W.grownBy bq v.ownBlock ∧ (∀ g, aW.ownBlock = some g → v.ownBlock = some g ∨ W.heap.size ≤ g) ∧ aW.oneCell' = true := by
 obtain ⟨eQ, z, hu, fq, hP, hN, lc, oV, b0⟩ := rz (P := aj) (tt := 137) (e := 261) (sz := 3) (bytes := 24) (by kernel_rfl);obtain ⟨aW, w', ap, q⟩ := QV (P := aj) W 0 137 137 261 eQ z 3 24 hu fq hP hN lc oV b0 v n xs ew fG 1 qt news (by rw [gX]) lg h1 (by unfold maxLen; omega) xd (ez _) (by decide);rcases ew.2 with ⟨rfl, rfl⟩ | ⟨g, cap, cur, rfl, qT, aw, e1, jV, eg, n3⟩
 ·clear fq hP ew lg
  go_enter Tryz.func231, Tryz.ntmps231
  go_wp2_with (at_builtin; refine Lib.wpList_append_run _ rfl _ _ _ _ rfl _ _ rfl rfl _ _ ap ?_)
  go_ret
  exact ⟨aW, rfl, q⟩
 ·have XW : cap ≤ 9223372036854775807 := by unfold maxLen at jV; omega
  clear fq hP ew lg aw eg n3 jV
  go_enter Tryz.func231, Tryz.ntmps231
  go_wp2_with (at_builtin; refine Lib.wpList_append_run _ rfl _ _ _ _ rfl _ _ rfl rfl _ _ ap ?_)
  all_goals go_ret
  all_goals exact ⟨aW, rfl, q⟩
theorem LQ : ∀ (l : List dw) (i : Nat), (ej l).take (i * 3) = ej (l.take i)
 | [], i => by simp [ej]
 | e :: l, 0 => by simp [ej]
 | e :: l, i + 1 => by
  rw [show (i + 1) * 3 = i * 3 + 1 + 1 + 1 by omega];simp only [ej, List.take_succ_cons, LQ l i]
theorem LO : ∀ (l : List dw) (i : Nat), (ej l).drop (i * 3) = ej (l.drop i)
 | [], i => by simp [ej]
 | e :: l, 0 => by simp
 | e :: l, i + 1 => by
  rw [show (i + 1) * 3 = i * 3 + 1 + 1 + 1 by omega];simp only [ej, List.drop_succ_cons, LO l i]
theorem bZ.take {U : Nat → Prop} {ad : Nat → Nat} {W : World} {xs : List AC} {vs : List Value} (h : bZ U ad W xs vs) (k : Nat) : bZ U ad W (xs.take k) (vs.take k) := by
 have := h.sub 0 k;simpa using this
theorem bZ.drop {U : Nat → Prop} {ad : Nat → Nat} {W : World} {xs : List AC} {vs : List Value} (h : bZ U ad W xs vs) (k : Nat) : bZ U ad W (xs.drop k) (vs.drop k) := by
 refine ⟨by rw [jF, jF, h.1], fun i x v aa hv => ?_⟩;rw [gF] at aa hv;exact h.2 _ x v aa hv
theorem bZ.As {U : Nat → Prop} {ad : Nat → Nat} {W : World} {xs : List AC} {vs : List Value} (h : bZ U ad W xs vs) : ∀ v ∈ vs, v.oneCell' = true := fun v hv => by
 obtain ⟨j, ae⟩ := kw hv;have bj : j < xs.length := by rw [h.1]; exact (bV.1 ae).1
 exact (h.2 j _ v (cl bj) ae).cell
theorem aco {W : World} {b e sz n : Nat} {v : Value} {xs : List Value} (h : W.ownsRow b e sz v n xs) : v.oneCell' = true := by
 rcases h.2 with ⟨rfl, _⟩ | ⟨g, cap, cur, rfl, _⟩ <;> rfl
abbrev ug (l : List dw) (i : Nat) (e : dw) : List dw := l.take i ++ e :: l.drop i
theorem Zz {l : List dw} {i : Nat} {e : dw} (hi : i ≤ l.length) : (ug l i e).length = l.length + 1 := by grind
theorem ZA {U : Nat → Prop} {ad : Nat → Nat} {W : World} {l : List dw} {xs news : List Value} {e : dw} (i : Nat) (h : bZ U ad W (ej l) xs) (aE : bZ U ad W (ej [e]) news) : bZ U ad W (ej (ug l i e)) (xs.take (i * 3) ++ news ++ xs.drop (i * 3)) := by
 have : ej (ug l i e) = (ej l).take (i * 3) ++ ej [e] ++ (ej l).drop (i * 3) := by
  rw [LQ, LO, ← yR, ← yR, jo]; rfl
 rw [this];exact ((h.take _).append aE).append (h.drop _)
theorem LM : ∀ (l : List dw) (y : AC), y ∈ ej l → ∃ u, y = .c u
 | [], y, h => by cases h
 | e :: l, y, h => by
  simp only [ej, hf] at h;rcases h with h | h | h | h
  ·exact ⟨_, h⟩
  ·exact ⟨_, h⟩
  ·exact ⟨_, h⟩
  ·exact LM l y h
theorem V3 {U cM : Nat → Prop} {ad bf : Nat → Nat} {W bq : World} {l : List dw} {vs : List Value} (h : bZ U ad W (ej l) vs) : bZ cM bf bq (ej l) vs := by
 refine ⟨h.1, fun i x v aa hv => ?_⟩;have := h.2 i x v aa hv;obtain ⟨u, rfl⟩ := LM l x (dJ aa);exact this
theorem UA {l : List dw} {v : Value} {i : Nat} {x y w : Int} (hi : i ≤ l.length) (ao : l.length ≤ 1000000) :
  yl aj 231 [aR v, aV i, cU 3 1 [.c (.int .i64 x), .c (.int .i64 y), .c (.int .i64 w)]] (hc v l) fun b9 a8 => ∃ aW, aW.oneCell' = true ∧ b9 = aR aW ∧ a8 = hc aW (ug l i (x, y, w)) := by
 refine ad4 rfl (jG _) (fun b9 a8 ⟨aW, _, _, e⟩ => by rw [e]; exact jG _) ?_;intro U W vs xs az j0 cW vy dT;obtain ⟨hlen, hv⟩ := dT
 match vs, hlen with
 | [a, b, c], _ =>
  have dn : a = v := (hv 0 _ a rfl rfl).1;have aG : b = .int .i64 i := (hv 1 _ b rfl rfl).1;obtain ⟨⟨A, pF, aO, jU, iH, XT⟩, Yj⟩ := hv 2 _ c rfl rfl;obtain ⟨fG, news, rfl, gr⟩ := XT (by decide);subst dn aG aO;have gX : news.length = 3 := gr.oh.1.symm;have qY : bZ U id W (ej [(x, y, w)]) news := V3 (U := fun _ => True) (ad := id) (W := W) gr.oh;have p5 := ZA i j0 qY;have nZ : (ug l i (x, y, w)).length = l.length + 1 := Zz hi;have oT : xs.length = l.length * 3 := az.1;have Za : U fG.block := Yj _ ⟨pF, fG, rfl, by decide, .inl rfl⟩;have sk : ∀ q ∈ ej (ug l i (x, y, w)), q.ba = true := fun q al => cC.1 (LN _) q al
  have fin : ∀ (e : Ending) (bq : World) (aW : Value), e = .returned aW → bq.ownsRow 0 261 3 aW (l.length + 1) (xs.take (i * 3) ++ news ++ xs.drop (i * 3)) → W.grownBy bq a.ownBlock → (∀ g, aW.ownBlock = some g → a.ownBlock = some g ∨ W.heap.size ≤ g) →
    ∃ u b9 a8, e = .returned u ∧ (∃ aW, aW.oneCell' = true ∧ b9 = aR aW ∧ a8 = hc aW (ug l i (x, y, w))) ∧ Ka W bq (hc a l) a8 U ∧ di U id W b9 u ∧ b9.ba = true := by
   rintro e bq aW rfl h1 h2 aq;have GP := aco h1;refine ⟨aW, _, _, rfl, ⟨aW, GP, rfl, rfl⟩, ⟨h2, ⟨_, ?_, p5⟩, sk, aq⟩, ⟨rfl, GP⟩, rfl⟩;show bq.ownsRow 0 261 3 aW (ug l i (x, y, w)).length _;rw [nZ]; exact h1
  by_cases sq : i = l.length
  ·subst sq;refine (ZB W a l.length xs news fG pF az (by omega) gX gr.at_ qY.As).mono ?_;rintro e bq ⟨aW, rfl, h1, h2, aq, _⟩;refine fin _ _ aW rfl ?_ h2 aq;rw [iy (by omega), uJ (by omega), qe];exact h1
  ·have bj : i < l.length := by omega
   obtain ⟨g, cap, cur, rfl, qT, aw, e1, jV, eg, n3⟩ : ∃ g cap cur, a = .slice (some ⟨g, 0, none⟩) l.length cap ∧ 0 ≤ g ∧ W.heap[g]? = some (.cells cur 261 (0, 0)) ∧ l.length ≤ cap ∧ cap ≤ maxLen ∧ cur.size = cap * 3 ∧ cur.toList.take (l.length * 3) = xs := by
    rcases az.2 with ⟨_, aI⟩ | h
    ·have : l.length = 0 := aI;omega
    ·exact h
   have Yo : fG.block ≠ g := fun e => vy g rfl (by rw [← e]; exact Za)
   by_cases me : l.length + 1 ≤ cap
   ·refine (ZF W g l.length cap i cur news fG pF aw bj me (by unfold maxLen at jV; omega) eg (by rw [n3]; exact j0.As) gX gr.at_ qY.As Yo).mono ?_;rintro e bq ⟨rfl, nS, rfl, bC, cf⟩;rw [n3] at cf;have a6 := setRow_heap W.drew g cur nS _ (0, 0) aw;refine fin _ _ _ rfl ⟨?_, .inr ⟨g, cap, nS, rfl, ez _, a6, me, jV, bC, cf⟩⟩ ⟨rfl, rfl, rfl, by (show W.heap.size ≤ (Array.modify W.heap g _).size; rw [Array.size_modify]; exact dU _), fun k _ af => ?_⟩ fun jx eN => .inl eN
    ·simp only [dl, eI, jF, gX]; omega
    ·show (Array.modify W.heap g _)[k]? = _;rw [uG];rw [if_neg (fun e => af (by rw [e]; rfl))]
   ·refine (ZC W g l.length cap i cur news fG pF xs aw n3 oT bj e1 (by omega) (by omega) j0.As gX gr.at_ qY.As).mono ?_;rintro e bq ⟨G, nS, o, rfl, q1, q2, cj, eH, ⟨kK, rfl⟩, bC, cf, h5, jD⟩;have zu : (W.alloc (.cells kK 261 (0, 0))).heap[W.heap.size]? = some (.cells kK 261 (0, 0)) := by show (W.heap.push _)[W.heap.size]? = _; simp
    have a6 := setRow_heap _ W.heap.size kK nS _ (0, 0) zu;rw [← q1] at a6;refine fin _ _ _ rfl ⟨?_, .inr ⟨W.heap.size, G, nS, rfl, ez _, a6, bC, cf, h5, jD⟩⟩ ⟨q2, cj, eH, ?_, fun k af _ => ?_⟩ fun jx eN => .inr (by simp [Value.ownBlock] at eN; omega)
    ·simp only [dl, eI, jF, gX]; omega
    ·rw [q1];show W.heap.size ≤ (Array.modify (W.heap.push _) _ _).size;rw [Array.size_modify, Array.size_push]; omega
    ·rw [q1];simp only [World.setRow, uG];rw [if_neg (by omega)];show (W.heap.push _)[k]? = _;rw [Array.getElem?_push_lt af, Array.getElem?_eq_getElem af]
end Go.Proofs.YtpochbhajmbfdaaGreat
namespace Go.Proofs.YtpochbhajmbfdaaGreat
open Go.RowKit
theorem adD {x y a b : Int} : mm x y a b < 0 ↔ ml x y a b = true := by
 rw [pa];unfold mm gb
 split <;> split <;> first | omega | (split <;> omega)
theorem adC {x y a b : Int} : mm x y a b = 0 ↔ x = a ∧ y = b := by
 unfold mm gb
 split <;> split <;> first | omega | (split <;> omega)
theorem PU {x y v a b : Int} : aT aj 260 [.w (.agg [.c (.int .i64 x), .c (.int .i64 y), .c (.int .i64 v)]), bh a b] (aV (mm x y a b)) := by
 have aM := adb (x := x) (y := y) (x' := a) (y' := b);refine cd (f := 260) Tryz.func260 rfl rfl rfl rfl ?_;(repeat first | (with_reducible apply ax); rfl | refine cI rfl rfl rfl rfl (by (exact aM)) rfl ?_ | (with_reducible first | apply bR | apply bJ | apply bO | apply ay | apply b7))
 ((refine bX rfl (bG rfl bc) ?_))
 exact ai.br.refl _
abbrev Rz : ai := aR (.func (.func 260) #[] #[])
def RW (l : List dw) (v : Value) (a b : Int) (n : Nat) (R : aJ) (ts : List (Nat × ai)) (bw : List (Nat × List AC)) : Prop :=
 ∃ (lo hi : Nat) (lj ae : Int), lo ≤ fs l a b ∧ fs l a b ≤ hi ∧ hi ≤ l.length ∧ n = hi - lo ∧ lj = lo ∧ ae = hi ∧ R = bL 0 (hc v l) ∧ bw = [(4, DR a b)] ∧ ts = [(0, aR v), (2, Rz), (4, wo 4), (8, aV l.length), (9, aV lj), (10, aV ae)]
theorem UB {l : List dw} {v : Value} {a b : Int} (ap : kn l) (ao : l.length ≤ 1000000) :
  yl aj 259 [aR v, bh a b, Rz] (hc v l) fun b9 a8 => b9 = .da [.one (.c (.int .i64 (fs l a b))), .one (.c (.bool (hL l a b)))] ∧ a8 = hc v l := by
 refine ad3 rfl (fun v a8 h => by rw [h.1]; rfl) ?_;refine dy (f := 259) Tryz.func259 rfl (dv rfl) (by exact oD) ?_;(repeat first | (with_reducible first | apply a7 | apply aQ | apply aY | apply aS | apply dY) | (with_reducible apply aN); rfl; (repeat first | (with_reducible apply ax); rfl); (with_reducible apply ay) | (with_reducible apply fD 0); (iterate 4 rfl); kernel_rfl; rfl);refine kD 49 (RW l v a b) l.length (bL 0 (hc v l)) _ [(4, DR a b)] ⟨0, l.length, 0, l.length, ez _, P4 l a b, dU _, rfl, rfl, rfl, rfl, rfl, rfl⟩ (bH.refl _) rfl ⟨rfl, rfl, rfl, rfl, rfl, rfl, trivial⟩ ⟨rfl, trivial⟩ rfl ?_;rintro n R ts bw ⟨lo, hi, lj, ae, h1, h2, aq, rfl, aK, cO, rfl, rfl, rfl⟩ dD;clear dD
 by_cases al : lo < hi
 ·subst aK cO;have q2 : (lo : Int) < (hi : Int) := by omega
  obtain ⟨h, a6⟩ : ∃ h, h = (lo + hi) / 2 := ⟨_, rfl⟩;have aG : ((lo : Int) + (hi : Int)) / 2 = (h : Int) := by omega
  have Yq : h < l.length := by omega
  obtain ⟨x, y, w, g1⟩ : ∃ x y w, l[h]? = some (x, y, w) := ⟨_, _, _, cl Yq⟩;have lR : 0 < l.length := by omega
  have jv : (((lo : Int) + (hi : Int)) / 2).toNat * 3 + 3 ≤ (ej l).length ∧ ((ej l).drop ((((lo : Int) + (hi : Int)) / 2).toNat * 3)).take 3 = [.c (.int .i64 x), .c (.int .i64 y), .c (.int .i64 w)] := ⟨by rw [yS]; omega, LR aG g1⟩;have h0 : IntKind.i64.wrap ((lo : Int) + hi) = (lo : Int) + hi := cp (by omega);have BS : IntKind.u64.wrap ((lo : Int) + hi) = (lo : Int) + hi := by rw [IntKind.wrap_u64]; omega
  have aM := PU (x := x) (y := y) (v := w) (a := a) (b := b);have kk : h < fs l a b ↔ mm x y a b < 0 := (xO ap a b h (x, y, w) g1).trans adD.symm;generalize mm x y a b = c at *;have Ax : ((lo : Int) + (hi : Int)) / 2 < (l.length : Int) := by omega
  clear g1
  replace aG := Lib.hid aG
  replace a6 := Lib.hid a6
  by_cases ak : c < 0
  ·(repeat first | (with_reducible apply cZ); kernel_rfl | (with_reducible apply cb (id := 5) [0,1,2,3,4,5,6,7]); kernel_rfl; kernel_rfl; rfl | (with_reducible first | apply a7 | apply aQ | apply aY | apply aS | apply cL | apply dY | apply fi) | (with_reducible apply cX); rfl; (exact bg (by omega)) | (with_reducible apply aN); rfl; (repeat first | (with_reducible apply ax); rfl | (with_reducible apply dB); (iterate 3 rfl); (exact cp (by omega)); rfl | (with_reducible apply FU); rfl; rfl; (first | exact cp (by omega) | assumption); rfl | refine cI rfl rfl rfl rfl (by (exact aM)) rfl ?_ | (with_reducible apply fK); (iterate 5 rfl); (intro W; go_simp; try rfl); (intro W; go_simp; try rfl); rfl; rfl); (with_reducible apply ay) | (with_reducible apply e2 0); (iterate 4 rfl); (omega); (assumption); rfl; kernel_rfl; rfl | (with_reducible apply fE 0); (iterate 3 rfl); (assumption); assumption; rfl; kernel_rfl; rfl);have a6 := a6.out;have aG := aG.out;refine ⟨hi - (h + 1), bL 0 (hc v l), _, [(4, DR a b)], by omega, ⟨h + 1, hi, _, hi, kk.2 ak, h2, aq, rfl, ?_, rfl, rfl, rfl, rfl⟩, bH.refl _, rfl, ⟨rfl, rfl, rfl, rfl, rfl, rfl, trivial⟩, ⟨rfl, trivial⟩, rfl⟩;omega
  ·have iZ : fs l a b ≤ h := by have := mt kk.1 ak; omega
   (repeat first | (with_reducible apply cZ); kernel_rfl | (with_reducible apply cb (id := 5) [0,1,2,3,4,5,6,7]); kernel_rfl; kernel_rfl; rfl | (with_reducible first | apply a7 | apply aQ | apply aY | apply aS | apply cL | apply dY | apply fi) | (with_reducible apply cX); rfl; (exact bg (by omega)) | (with_reducible apply cD); rfl; (exact bl (by omega)) | (with_reducible apply aN); rfl; (repeat first | (with_reducible apply ax); rfl | (with_reducible apply dB); (iterate 3 rfl); (exact cp (by omega)); rfl | (with_reducible apply FU); rfl; rfl; (first | exact cp (by omega) | assumption); rfl | refine cI rfl rfl rfl rfl (by (exact aM)) rfl ?_ | (with_reducible apply fK); (iterate 5 rfl); (intro W; go_simp; try rfl); (intro W; go_simp; try rfl); rfl; rfl); (with_reducible apply ay) | (with_reducible apply e2 0); (iterate 4 rfl); (omega); (assumption); rfl; kernel_rfl; rfl | (with_reducible apply fE 0); (iterate 3 rfl); (assumption); assumption; rfl; kernel_rfl; rfl);have a6 := a6.out;have aG := aG.out;refine ⟨h - lo, bL 0 (hc v l), _, [(4, DR a b)], by omega, ⟨lo, h, lo, _, h1, iZ, by omega, rfl, rfl, aG, rfl, rfl, rfl⟩, bH.refl _, rfl, ⟨rfl, rfl, rfl, rfl, rfl, rfl, trivial⟩, ⟨rfl, trivial⟩, rfl⟩
 ·have dn : lo = fs l a b := by omega
  subst dn;have q2 : ¬ lj < ae := by omega
  clear cO al h2 aq h1;generalize hp : fs l a b = p at *
  by_cases aE : p < l.length
  ·subst aK;have cj : (p : Int) < (l.length : Int) := by omega
   have lR : 0 < l.length := by omega
   obtain ⟨x, y, w, g1⟩ : ∃ x y w, l[p]? = some (x, y, w) := ⟨_, _, _, cl aE⟩;have jv : ((p : Int)).toNat * 3 + 3 ≤ (ej l).length ∧ ((ej l).drop (((p : Int)).toNat * 3)).take 3 = [.c (.int .i64 x), .c (.int .i64 y), .c (.int .i64 w)] := ⟨by rw [yS]; omega, LR rfl g1⟩;have aM := PU (x := x) (y := y) (v := w) (a := a) (b := b)
   have kk : hL l a b = decide (mm x y a b = 0) := by
    rw [sR, CX ap, hp, g1, decide_eq_true_iff, adC]
    constructor
    ·rintro ⟨u, hu⟩; cases hu; exact ⟨rfl, rfl⟩
    ·rintro ⟨rfl, rfl⟩; exact ⟨w, rfl⟩
   generalize mm x y a b = c at *;(repeat first | (with_reducible apply cZ); kernel_rfl | (with_reducible apply cb (id := 8) [0,1,2,3,4,5,6,7,8,9,10,11,12,13,14,15]); kernel_rfl; kernel_rfl; rfl | (with_reducible first | apply a7 | apply aQ | apply aY | apply aS | apply cN | apply fa | apply fc | apply fb) | (with_reducible apply cD); rfl; (exact bl (by omega)) | (with_reducible apply aN); rfl; (repeat first | (with_reducible apply ax); rfl | refine cI rfl rfl rfl rfl (by (exact aM)) rfl ?_ | (with_reducible apply bW (c := true)); rfl; rfl; (exact bg (by omega))); (with_reducible apply ay) | (with_reducible apply e2 0); (iterate 4 rfl); (omega); (assumption); rfl; kernel_rfl; rfl | (with_reducible apply fE 0); (iterate 3 rfl); (assumption); assumption; rfl; kernel_rfl; rfl)
   ((refine MO rfl (bG rfl (bG rfl bc)) rfl rfl ?_))
   exact ⟨by rw [kk]; rfl, rfl⟩
  ·subst aK;have cj : ¬ (p : Int) < (l.length : Int) := by omega
   have kk : hL l a b = false := by
    cases a6 : hL l a b with
    | false => rfl
    | true =>
     obtain ⟨u, hu⟩ := (CX ap).1 a6;rw [hp] at hu;have := (bV.1 hu).1;omega
   (repeat first | (with_reducible apply cZ); kernel_rfl | (with_reducible apply cb (id := 8) [0,1,2,3,4,5,6,7,8,9,10,11,12,13,14,15]); kernel_rfl; kernel_rfl; rfl | (with_reducible first | apply a7 | apply aQ | apply aY | apply aS | apply cN | apply fa | apply fc | apply fb) | (with_reducible apply cD); rfl; (exact bl (by omega)) | (with_reducible apply aN); rfl; (repeat first | (with_reducible apply ax); rfl | (with_reducible apply bW (c := false)); rfl; rfl; (exact bl (by omega))); (with_reducible apply ay))
   ((refine MO rfl (bG rfl (bG rfl bc)) rfl rfl ?_))
   exact ⟨by rw [kk]; rfl, rfl⟩
theorem afs {l : List dw} {p : Nat} {x y u w : Int} (hu : l[p]? = some (x, y, u)) : er (ej l) ((p : Int).toNat * 3 + 2) [.c (.int .i64 w)] = ej (l.take p ++ (x, y, w) :: l.drop (p + 1)) := by
 have bj := (bV.1 hu).1;have he := (bV.1 hu).2
 have aG : l = l.take p ++ (x, y, u) :: l.drop (p + 1) := by
  conv => lhs; rw [← j9 p l, mr bj, he]
 have t1 : (ej (l.take p)).length = p * 3 := by rw [yS, eI]; omega
 rw [kW]
 conv => lhs; rw [aG]
 unfold er;rw [yR, yR];simp only [ej];rw [List.take_append, List.drop_append, t1, show (ej (l.take p)).take (p * 3 + 2) = ej (l.take p) from iy (by omega), show (ej (l.take p)).drop (p * 3 + 2 + [AC.c (.int .i64 w)].length) = [] from uJ (by rw [t1, List.length_singleton]; omega)];rw [show p * 3 + 2 - p * 3 = 2 by omega, show p * 3 + 2 + [AC.c (.int .i64 w)].length - p * 3 = 3 by simp; omega];simp
def Sa (n : Nat) : Prop := ∀ (u9 : Value) l v (x y w : Int), v.oneCell' = true → kn l → l.length ≤ n → qB aj 202 [bh x y, aV w] [.c v, .c u9] (hc v l) fun r ar a8 => r = bD (!hL l x y) ∧ ∃ aW, aW.oneCell' = true ∧ ar = [.c aW, .c u9] ∧ a8 = hc aW (sQ l x y w)
def R6 (n : Nat) : Prop := ∀ (u9 : Value) l v (x y : Int), v.oneCell' = true → kn l → l.length ≤ n → qB aj 229 [bh x y] [.c v, .c u9] (hc v l) fun r ar a8 => r = .da [.one (.c (.int .i64 (oq l x y))), .one (.c (.bool (hL l x y)))] ∧ ar = [.c v, .c u9] ∧ a8 = hc v l
def R7 (n : Nat) : Prop := ∀ (u9 : Value) l v, v.oneCell' = true → kn l → l.length ≤ n → qB aj 201 [] [.c v, .c u9] (hc v l) fun r ar a8 => r = aV l.length ∧ ar = [.c v, .c u9] ∧ a8 = hc v l
theorem K5 {u9 : Value} {l : List dw} {v : Value} {a b : Int} (hv : v.oneCell' = true) (ap : kn l) (ao : l.length ≤ 1000000) : qB aj 230 [bh a b] [.c v, .c u9] (hc v l) fun b9 ar a8 => b9 = .da [.one (.c (.int .i64 (fs l a b))), .one (.c (.bool (hL l a b)))] ∧ ar = [.c v, .c u9] ∧ a8 = hc v l := by
 have aM := UB (v := v) (a := a) (b := b) ap ao;refine uw rfl rfl (fun v ar a8 h => by obtain ⟨rfl, rfl, rfl⟩ := h; exact ⟨rfl, rfl⟩) ?_;refine dy (f := 230) Tryz.func230 rfl (dv rfl) (by exact eB rfl) ?_;(repeat first | (with_reducible apply iT (id := 1) [0,1,2,3,4,5,6,7,8,9] [11]); kernel_rfl; kernel_rfl; rfl | (with_reducible first | apply a7 | apply aQ | apply aY | apply aS) | (with_reducible apply aN); rfl; (repeat first | (with_reducible apply ax); rfl | (with_reducible apply de); (iterate 3 rfl)); (with_reducible apply ay));refine Ni 0 rfl rfl rfl rfl aM rfl rfl rfl (fun b9 a8 h => ?_);obtain ⟨rfl, rfl⟩ := h;(repeat first | (with_reducible apply cZ); kernel_rfl | (with_reducible first | apply aQ | apply cN) | (with_reducible apply aN); rfl; (repeat first | (with_reducible apply ax); rfl); (with_reducible apply ay))
 ((refine qW rfl (bG rfl (bG rfl bc)) rfl rfl rfl rfl ?_))
 exact ⟨rfl, rfl, rfl⟩
theorem ZX : R7 1100 := by
 intro u9 l v hv ap ao;refine uw rfl rfl (fun v ar a8 h => by obtain ⟨rfl, rfl, rfl⟩ := h; exact ⟨rfl, rfl⟩) ?_;refine dy (f := 201) Tryz.func201 rfl (dv rfl) (by exact eB rfl) ?_;(repeat first | (with_reducible first | apply a7 | apply aQ | apply aY | apply aS | apply cN) | (with_reducible apply aN); rfl; (repeat first | (with_reducible apply ax); rfl | (with_reducible apply de); (iterate 3 rfl)); (with_reducible apply ay) | (with_reducible apply fD 0); (iterate 4 rfl); kernel_rfl; rfl)
 ((refine qW rfl (bG rfl bc) rfl rfl rfl rfl ?_))
 exact ⟨rfl, rfl, rfl⟩
theorem ZW : R6 1100 := by
 intro u9 l v x y hv ap ao;have aM := K5 (u9 := u9) (v := v) (a := x) (b := y) hv ap (by omega);have hp := CX (l := l) ap (x := x) (y := y);refine uw rfl rfl (fun v ar a8 h => by obtain ⟨rfl, rfl, rfl⟩ := h; exact ⟨rfl, rfl⟩) ?_;cases a6 : hL l x y with
 | false =>
  rw [a6] at aM;rw [afZ a6];refine dy (f := 229) Tryz.func229 rfl (dv rfl) (by exact eB rfl) ?_;(repeat first | (with_reducible first | apply a7 | apply aQ | apply aY | apply aS) | (with_reducible apply aN); rfl; (repeat first | (with_reducible apply ax); rfl); (with_reducible apply ay));refine su 1000 0 rfl rfl rfl rfl aM rfl rfl rfl rfl rfl rfl (fun r ar a8 h => ?_);obtain ⟨rfl, rfl, rfl⟩ := h;(repeat first | (with_reducible first | apply a7 | apply aQ | apply aY | apply aS | apply cN | apply e7) | (with_reducible apply cX); rfl; (rfl) | (with_reducible apply aN); rfl; (repeat first | (with_reducible apply ax); rfl); (with_reducible apply ay))
  ((refine qW rfl (bG rfl (bG rfl bc)) rfl rfl rfl rfl ?_))
  exact ⟨rfl, rfl, rfl⟩
 | true =>
  rw [a6] at aM;obtain ⟨u, hu⟩ := hp.1 a6;rw [(af0 ap hu).2];have bj := (bV.1 hu).1;generalize fs l x y = p at *;clear hp;have cj : (p : Int) < (l.length : Int) := by omega
  have lR : 0 < l.length := by omega
  have jv : (ej l)[(p : Int).toNat * 3 + 2]? = some (.c (.int .i64 u)) := by
   have h1 := Gr l p (x, y, u) hu;have h2 : ((((ej l).drop (p * 3)).take 3))[2]? = some (.c (.int .i64 u)) := by rw [h1]; rfl
   rw [gm (by decide), gF] at h2;exact h2
  refine dy (f := 229) Tryz.func229 rfl (dv rfl) (by exact eB rfl) ?_;(repeat first | (with_reducible first | apply a7 | apply aQ | apply aY | apply aS) | (with_reducible apply aN); rfl; (repeat first | (with_reducible apply ax); rfl); (with_reducible apply ay));refine su 1000 0 rfl rfl rfl rfl aM rfl rfl rfl rfl rfl rfl (fun r ar a8 h => ?_);obtain ⟨rfl, rfl, rfl⟩ := h;(repeat first | (with_reducible first | apply a7 | apply aQ | apply aY | apply aS | apply cN | apply cL) | (with_reducible apply cD); rfl; (rfl) | (with_reducible apply aN); rfl; (repeat first | (with_reducible apply ax); rfl | (with_reducible apply de); (iterate 3 rfl)); (with_reducible apply ay) | (with_reducible apply e2 0); (iterate 4 rfl); (omega); (assumption); rfl; kernel_rfl; rfl | (with_reducible apply lL 0); (iterate 3 rfl); (assumption); kernel_rfl; rfl | (with_reducible apply gZ 0); (iterate 3 rfl); (assumption); assumption; rfl; kernel_rfl; rfl)
  ((refine qW rfl (bG rfl (bG rfl bc)) rfl rfl rfl rfl ?_))
  exact ⟨rfl, rfl, rfl⟩
theorem Z0 : Sa 1100 := by
 intro u9 l v x y w hv ap ao;have aM := K5 (u9 := u9) (v := v) (a := x) (b := y) hv ap (by omega);have hp := CX (l := l) ap (x := x) (y := y);have oQ := P4 l x y;refine uw rfl rfl (fun v ar a8 h => by obtain ⟨rfl, aW, b8, rfl, rfl⟩ := h; exact ⟨rfl, rfl⟩) ?_;cases a6 : hL l x y with
 | false =>
  rw [a6] at aM;rw [Qj ap a6];have bI := UA (l := l) (v := v) (i := fs l x y) (x := x) (y := y) (w := w) oQ (by omega);generalize fs l x y = p at *;clear hp;refine dy (f := 202) Tryz.func202 rfl (dv rfl) (by exact eB rfl) ?_;(repeat first | (with_reducible first | apply a7 | apply aQ | apply aY | apply aS) | (with_reducible apply aN); rfl; (repeat first | (with_reducible apply ax); rfl); (with_reducible apply ay));refine su 1000 0 rfl rfl rfl rfl aM rfl rfl rfl rfl rfl rfl (fun r ar a8 h => ?_);obtain ⟨rfl, rfl, rfl⟩ := h;(repeat first | (with_reducible apply iT (id := 5) [0,1,2,3,4,5,6,7,8,9,10,11,12,13] [34]); kernel_rfl; kernel_rfl; rfl | (with_reducible first | apply a7 | apply aQ | apply aY | apply aS | apply cL) | (with_reducible apply cD); rfl; (rfl) | (with_reducible apply aN); rfl; (repeat first | (with_reducible apply ax); rfl | (with_reducible apply de); (iterate 3 rfl) | (with_reducible apply nk); (iterate 10 rfl)); (with_reducible apply ay));refine Ni 0 rfl rfl rfl rfl bI rfl rfl rfl (fun b9 a8 h => ?_);obtain ⟨aW, b8, rfl, rfl⟩ := h;(repeat first | (with_reducible apply cZ); kernel_rfl | (with_reducible first | apply a7 | apply aQ | apply aY | apply aS | apply cN) | (with_reducible apply aN); rfl; (repeat first | (with_reducible apply ax); rfl | (with_reducible apply de); (iterate 3 rfl)); (with_reducible apply ay))
  ((refine qW rfl (bG rfl bc) rfl rfl rfl rfl ?_))
  exact ⟨rfl, aW, b8, rfl, rfl⟩
 | true =>
  rw [a6] at aM;obtain ⟨u, hu⟩ := hp.1 a6;rw [adM ap hu];have bj := (bV.1 hu).1;generalize fs l x y = p at *;clear hp;have cj : (p : Int) < (l.length : Int) := by omega
  have lR : 0 < l.length := by omega
  refine dy (f := 202) Tryz.func202 rfl (dv rfl) (by exact eB rfl) ?_;(repeat first | (with_reducible first | apply a7 | apply aQ | apply aY | apply aS) | (with_reducible apply aN); rfl; (repeat first | (with_reducible apply ax); rfl); (with_reducible apply ay));refine su 1000 0 rfl rfl rfl rfl aM rfl rfl rfl rfl rfl rfl (fun r ar a8 h => ?_);obtain ⟨rfl, rfl, rfl⟩ := h;(repeat first | (with_reducible first | apply a7 | apply aQ | apply aY | apply aS) | (with_reducible apply cX); rfl; (rfl) | (with_reducible apply aN); rfl; (repeat first | (with_reducible apply ax); rfl | (with_reducible apply de); (iterate 3 rfl)); (with_reducible apply ay) | (with_reducible apply e2 0); (iterate 4 rfl); (omega); (assumption); rfl; kernel_rfl; rfl | (with_reducible apply lL 0); (iterate 3 rfl); (assumption); kernel_rfl; rfl);refine sv 0 rfl rfl rfl rfl lR rfl rfl ?_ rfl ?_
  ·show (p : Int).toNat * 3 + 2 + 1 ≤ (ej l).length;rw [yS]; omega
  ·have aG := afs (w := w) hu
   have aO : (l.take p ++ (x, y, w) :: l.drop (p + 1)).length = l.length := by
    rw [dl, mq, eI, jF]; omega
   have cz : (⟨261, 3, v, l.length, er (ej l) ((p : Int).toNat * 3 + 2) [.c (.int .i64 w)]⟩ : bQ) = hc v (l.take p ++ (x, y, w) :: l.drop (p + 1)) := by
    rw [aG]; unfold hc; rw [aO]
   (repeat first | (with_reducible first | apply a7 | apply aQ | apply aY | apply aS | apply cN | apply e7) | (with_reducible apply aN); rfl; (repeat first | (with_reducible apply ax); rfl); (with_reducible apply ay))
   ((refine qW rfl (bG rfl bc) rfl rfl rfl rfl ?_))
   exact ⟨rfl, v, hv, rfl, cz⟩
abbrev s6 (v : Value) (r : Int) : List AC := [.c v, .c (.int .i64 r)]
def th : BP := fun r L p S => ∃ (ad : Nat → Nat) (v : Value) (es : List dw), p = eb (ad 1000) ∧ v.oneCell' = true ∧ nL L es ∧ S = ls ad (cQ 1000 (s6 v r)) (bL 0 (hc v es)) 1000
theorem LP : ∀ l, (ej l).all AC.vU = true
 | [] => rfl
 | p :: l => by
  have := LP l;simp only [ej, kA, this]; rfl
theorem Jl (v : Value) (r : Int) (es : List dw) : nA (cQ 1000 (s6 v r)) (bL 0 (hc v es)) := by
 refine ⟨fun k cs h => ?_, fun i q h => ?_⟩
 ·obtain ⟨rfl, rfl⟩ := hT h; rfl
 ·obtain ⟨rfl, rfl⟩ := fV h; exact ⟨jG _, LP es⟩
theorem OB (k : Nat) (cs : List AC) : ∃ ds, cQ k cs k = some ds := ⟨cs, by unfold cQ; exact cy _ _ _⟩
theorem Qg {b c : Nat} (h : eb b = eb c) : b = c := by cases h; rfl
theorem wk {r q : bQ} : bS (bL 0 r) 0 q = bL 0 q := by
 funext i;unfold bL
 by_cases e : i = 0
 ·subst e; rw [cy, cy]
 ·rw [ca _ _ e, ca _ _ e, ca _ _ e]
theorem NW : Sb th := by
 intro r L b S h ao;obtain ⟨ad, v, es, hp, hv, bu, rfl⟩ := h;obtain rfl := Qg hp;refine Rr (OB _ _) rfl (Post := fun w m1 bo => w = aV r ∧ m1 = cQ 1000 (s6 v r) ∧ bo = bL 0 (hc v es)) ?_ (fun w m1 bo h => ?_)
 ·refine dy (f := 56) Tryz.func56 rfl (dv rfl) (by exact eB rfl) ?_;(repeat first | (with_reducible first | apply a7 | apply aQ | apply aY | apply aS | apply cN) | (with_reducible apply aN); rfl; (repeat first | (with_reducible apply ax); rfl | (with_reducible apply de); (iterate 3 rfl)); (with_reducible apply ay))
  ((refine eZ rfl (bG rfl bc) rfl (bH.refl _) rfl rfl (fun i r h => ⟨r, h⟩) ?_))
  exact ⟨rfl, rfl, rfl⟩
 ·obtain ⟨rfl, rfl, rfl⟩ := h;exact ⟨rfl, Jl _ _ _, fun e5 jC => ⟨rfl, e5, v, es, by rw [jC], hv, bu, rfl⟩⟩
theorem ZY : R9 th := by
 intro n;refine afG (Post := fun w m1 bo => w = .w (.one (.own 7 0)) ∧ m1 = cQ 7 (s6 (.slice none 0 0) (s3 n)) ∧ bo = bL 0 (hc (.slice none 0 0) [])) ?_ (fun w m1 bo h => ?_)
 ·have e : s3 n = if 1024 < if 1 > n then 1 else n then 1024 else if 1 > n then 1 else n := by unfold s3; (repeat split) <;> omega
  rw [e];refine dy (f := 54) Tryz.func54 rfl (dv rfl) (by exact oD) ?_;refine oi 0 261 3 rfl ?_;(repeat first | (with_reducible first | apply a7 | apply aQ | apply aY | apply aS | apply cN) | (with_reducible apply aN); rfl; (repeat first | (with_reducible apply ax); rfl | (with_reducible apply gq); (iterate 4 rfl) | (with_reducible apply fX); (iterate 4 rfl)); (with_reducible apply ay))
  ((refine Hf 7 rfl (bG rfl bc) rfl (bH.refl _) rfl rfl ?_))
  exact ⟨rfl, rfl, rfl⟩
 ·obtain ⟨rfl, rfl, rfl⟩ := h;refine ⟨7, rfl, ⟨fun k cs h => ?_, (Jl (.slice none 0 0) 0 []).2⟩, fun e5 => ⟨e5 7, rfl, fun j => e5 (swp 1000 7 j), .slice none 0 0, [], rfl, rfl, .nil, ?_⟩⟩
  ·obtain ⟨rfl, rfl⟩ := hT h; rfl
  ·have h1 := afI (nD 1000 7) (cu := fun j => j) (iX := fun j => j) (fun _ => rfl) (fun _ => rfl) (ad := e5) (m := cQ 1000 (s6 (.slice none 0 0) (s3 n))) (R := bL 0 (hc (.slice none 0 0) [])) (k := 1000);rw [xD rfl] at h1;exact h1
theorem ab4 {r : Int} {L : List an} {v : Value} {es : List dw} (x y : Int) (hv : v.oneCell' = true) (bu : nL L es) (ao : L.length ≤ 1100) : qB aj 200 [bh x y] (s6 v r) (hc v es) fun w ar a8 => w = .da [.one (.c (.int .i64 (oq es x y))), .one (.c (.bool (hL es x y)))] ∧ ar = s6 v r ∧ a8 = hc v es := by
 have aM := ZW (.int .i64 r) es v x y hv bu.1 (by rw [bu.len]; exact ao);refine uw rfl rfl (fun v ar a8 h => by obtain ⟨rfl, rfl, rfl⟩ := h; exact ⟨rfl, rfl⟩) ?_;generalize oq es x y = a at *;generalize hL es x y = c at *;refine dy (f := 200) Tryz.func200 rfl (dv rfl) (by exact eB rfl) ?_;(repeat first | (with_reducible apply iT (id := 1) [0,1,2,3,4,5,6,7,8] [10]); kernel_rfl; kernel_rfl; rfl | (with_reducible first | apply a7 | apply aQ | apply aY | apply aS) | (with_reducible apply aN); rfl; (repeat first | (with_reducible apply ax); rfl | (with_reducible apply de); (iterate 3 rfl)); (with_reducible apply ay));refine HJ 1000 0 rfl rfl rfl rfl aM rfl (fun v ar a8 h => h.2.1) rfl rfl rfl rfl (fun b9 ar a8 h => ?_);obtain ⟨rfl, rfl, rfl⟩ := h;(repeat first | (with_reducible apply cZ); kernel_rfl | (with_reducible first | apply aQ | apply cN) | (with_reducible apply aN); rfl; (repeat first | (with_reducible apply ax); rfl); (with_reducible apply ay))
 ((refine qW rfl (bG rfl (bG rfl bc)) rfl rfl rfl rfl ?_))
 exact ⟨rfl, rfl, rfl⟩
theorem aeT {f : FuncId} {args : List ai} {r : Int} {L L' : List an} {b : Nat} {S : fm} {post : ai → Prop} (eC : args.all ai.ba = true) (h : th r L (eb b) S)
  (ak : ∀ v es, v.oneCell' = true → nL L es → qB aj f args (s6 v r) (hc v es) fun w ar a8 => w.ba = true ∧ post w ∧ ∃ aW vi, aW.oneCell' = true ∧ nL L' vi ∧ ar = s6 aW r ∧ a8 = hc aW vi) : yp aj f (aR (eb b) :: args) (eb b) S fun w dm => post w ∧ th r L' (eb b) dm := by
 obtain ⟨ad, v, es, hp, hv, bu, rfl⟩ := h;obtain rfl := Qg hp;refine Rr (OB _ _) eC (ak v es hv bu 1000 0) (fun w m1 bo h => ?_);obtain ⟨ar, a8, rfl, rfl, hw, YQ, aW, vi, b8, cn, rfl, rfl⟩ := h;exact ⟨hw, Jl _ _ _, fun e5 jC => ⟨YQ, e5, aW, vi, by rw [jC], b8, cn, rfl⟩⟩
abbrev afW (b : Bool) (e : Int) : ai := .da [.one (.c (.bool b)), .one (.c (.int .i64 e))]
theorem ZS : R3 th := by
 intro r L b S x y h ao;refine aeT (L' := qD r L x y) (post := fun w => w = afW (nO r L x y) (nP r L x y)) rfl h fun v es hv bu => ?_;have zi := bu.len;have aE := bu.num x y;have aM := ab4 (r := r) x y hv bu ao
 by_cases a6 : 0 ≤ lm L x y
 ·obtain ⟨aG, aO, cz⟩ := Tt (r := r) a6;rw [aG, aO, cz];rw [aE.1, bg a6] at aM;refine uw rfl rfl (fun w ar a8 h => by obtain ⟨c1, _, aW, vi, _, _, rfl, _⟩ := h; exact ⟨c1, rfl⟩) ?_;generalize oq es x y = a at *;refine dy (f := 154) Tryz.func154 rfl (dv rfl) (by exact eB rfl) ?_;(repeat first | (with_reducible first | apply a7 | apply aQ | apply aY | apply aS) | (with_reducible apply aN); rfl; (repeat first | (with_reducible apply ax); rfl); (with_reducible apply ay));refine su 1000 0 rfl rfl rfl rfl aM rfl rfl rfl rfl rfl rfl (fun b9 ar a8 h => ?_);obtain ⟨rfl, rfl, rfl⟩ := h;rw [wk];(repeat first | (with_reducible first | apply a7 | apply aQ | apply aY | apply aS | apply cN | apply e7) | (with_reducible apply cX); rfl; (rfl) | (with_reducible apply aN); rfl; (repeat first | (with_reducible apply ax); rfl); (with_reducible apply ay))
  ((refine qW rfl (bG rfl (bG rfl bc)) rfl rfl rfl rfl ?_))
  exact ⟨rfl, rfl, v, es, hv, bu, rfl, rfl⟩
 ·have au := aE.1;rw [bl a6] at au;rw [au] at aM;have bI := ZX (.int .i64 r) es v hv bu.1 (by omega);rw [zi] at bI
  by_cases h2 : r ≤ (L.length : Int)
  ·obtain ⟨aG, aO, cz⟩ := Ts (r := r) a6 h2;rw [aG, aO, cz];refine uw rfl rfl (fun w ar a8 h => by obtain ⟨c1, _, aW, vi, _, _, rfl, _⟩ := h; exact ⟨c1, rfl⟩) ?_;generalize oq es x y = a at *;have w8 : (L.length : Int) ≥ r := h2;refine dy (f := 154) Tryz.func154 rfl (dv rfl) (by exact eB rfl) ?_;(repeat first | (with_reducible first | apply a7 | apply aQ | apply aY | apply aS) | (with_reducible apply aN); rfl; (repeat first | (with_reducible apply ax); rfl); (with_reducible apply ay));refine su 1000 0 rfl rfl rfl rfl aM rfl rfl rfl rfl rfl rfl (fun b9 ar a8 h => ?_);obtain ⟨rfl, rfl, rfl⟩ := h;rw [wk];(repeat first | (with_reducible apply iT (id := 4) [0,1,2,4,5,6,7,3,8] [18]); kernel_rfl; kernel_rfl; rfl | (with_reducible first | apply a7 | apply aQ | apply aY | apply aS | apply cL) | (with_reducible apply cD); rfl; (rfl) | (with_reducible apply aN); rfl; (repeat first | (with_reducible apply ax); rfl | (with_reducible apply de); (iterate 3 rfl)); (with_reducible apply ay));refine HJ 1000 0 rfl rfl rfl rfl bI rfl (fun v ar a8 h => h.2.1) rfl rfl rfl rfl (fun b9 ar a8 h => ?_);obtain ⟨rfl, rfl, rfl⟩ := h;rw [wk];(repeat first | (with_reducible apply cZ); kernel_rfl | (with_reducible first | apply a7 | apply aQ | apply aY | apply aS | apply cN | apply e7) | (with_reducible apply cX); rfl; (exact bg (by omega)) | (with_reducible apply aN); rfl; (repeat first | (with_reducible apply ax); rfl); (with_reducible apply ay))
   ((refine qW rfl (bG rfl (bG rfl bc)) rfl rfl rfl rfl ?_))
   exact ⟨rfl, rfl, v, es, hv, bu, rfl, rfl⟩
  ·obtain ⟨aG, aO, cz⟩ := Tu (r := r) a6 h2;rw [aG, aO, cz];have cn := bu.add a6;have et := Z0 (.int .i64 r) es v x y L.length hv bu.1 (by omega);rw [au] at et;refine uw rfl rfl (fun w ar a8 h => by obtain ⟨c1, _, aW, vi, _, _, rfl, _⟩ := h; exact ⟨c1, rfl⟩) ?_;generalize oq es x y = a at *;generalize sQ es x y L.length = Gu at *;have w8 : ¬ (L.length : Int) ≥ r := h2;refine dy (f := 154) Tryz.func154 rfl (dv rfl) (by exact eB rfl) ?_;(repeat first | (with_reducible first | apply a7 | apply aQ | apply aY | apply aS) | (with_reducible apply aN); rfl; (repeat first | (with_reducible apply ax); rfl); (with_reducible apply ay));refine su 1000 0 rfl rfl rfl rfl aM rfl rfl rfl rfl rfl rfl (fun b9 ar a8 h => ?_);obtain ⟨rfl, rfl, rfl⟩ := h;rw [wk];(repeat first | (with_reducible apply iT (id := 4) [0,1,2,4,5,6,7,3,8] [18]); kernel_rfl; kernel_rfl; rfl | (with_reducible first | apply a7 | apply aQ | apply aY | apply aS | apply cL) | (with_reducible apply cD); rfl; (rfl) | (with_reducible apply aN); rfl; (repeat first | (with_reducible apply ax); rfl | (with_reducible apply de); (iterate 3 rfl)); (with_reducible apply ay));refine HJ 1000 0 rfl rfl rfl rfl bI rfl (fun v ar a8 h => h.2.1) rfl rfl rfl rfl (fun b9 ar a8 h => ?_);obtain ⟨rfl, rfl, rfl⟩ := h;rw [wk];(repeat first | (with_reducible apply cZ); kernel_rfl | (with_reducible apply iT (id := 6) [0,1,2,3,4,5,6,7,8,9,10] [31,32,2001000]); kernel_rfl; kernel_rfl; rfl | (with_reducible first | apply a7 | apply aQ | apply cL) | (with_reducible apply cD); rfl; (exact bl (by omega)) | (with_reducible apply aN); rfl; (repeat first | (with_reducible apply ax); rfl | (with_reducible apply de); (iterate 3 rfl)); (with_reducible apply ay));refine su 1000 0 rfl rfl rfl rfl bI rfl rfl rfl rfl rfl rfl (fun b9 ar a8 h => ?_);obtain ⟨rfl, rfl, rfl⟩ := h;rw [wk]
   skip
   refine su 1000 0 rfl rfl rfl rfl et rfl rfl rfl rfl rfl rfl (fun b9 ar a8 h => ?_);obtain ⟨rfl, aW, b8, rfl, rfl⟩ := h;rw [wk];(repeat first | (with_reducible apply cZ); kernel_rfl | (with_reducible first | apply aQ | apply cN) | (with_reducible apply aN); rfl; (repeat first | (with_reducible apply ax); rfl); (with_reducible apply ay))
   ((refine qW rfl (bG rfl (bG rfl bc)) rfl rfl rfl rfl ?_))
   exact ⟨rfl, rfl, aW, Gu, b8, cn, rfl, rfl⟩
theorem Ql (v : Value) (l : List an) (p : an) : iO v (l ++ [p]) = ⟨59, 2, v, l.length + 1, bM l ++ [.c (.int .i64 p.1), .c (.int .i64 p.2)]⟩ := by
 unfold iO; rw [← H2, dl]; rfl
end Go.Proofs.YtpochbhajmbfdaaGreat
namespace Go.Proofs.YtpochbhajmbfdaaGreat
open Go.RowKit
open bF
abbrev qs (a b c d : Int) : ai := .w (.agg [.c (.int .i64 a), .c (.int .i64 b), .c (.int .i64 c), .c (.int .i64 d)])
def xz (l : an × an) : List AC := [.c (.int .i64 l.1.1), .c (.int .i64 l.1.2), .c (.int .i64 l.2.1), .c (.int .i64 l.2.2)]
def mS (l : List (an × an)) : List AC := l.flatMap xz
theorem ND {V : List an} {j : Nat} {a b : Int} {ji : Int} (ae : ji = j) (h : V[j]? = some (a, b)) : ji < (V.length : Int) := by
 have := (bV.1 h).1; omega
theorem PT {V : List an} {D : List Int} {j : Nat} {a b c d : Int} (h1 : V[j]? = some (a, b)) (h2 : V[j + 1]? = some (c, d)) (ao : V.length ≤ 100000) : aT aj 122 [om V D, aV j] (qs a b c d) := by
 obtain ⟨ji, ae⟩ : ∃ ji : Int, ji = j := ⟨_, rfl⟩;have q1 := ND (ji := ji) ae h1;have q2 := ND (ji := ji + 1) (j := j + 1) (by omega) h2;have c9 : 0 ≤ ji := by omega
 have cj : 0 ≤ ji + 1 := by omega
 have ab : ji ≤ 100000 := by omega
 have jv := vK ae h1;have qy := vK (j := ji + 1) (i := j + 1) (by omega) h2;rw [show aV (j : Int) = aV ji by rw [ae]];clear ae h1 h2 ao;refine cd (f := 122) Tryz.func122 rfl rfl rfl rfl ?_;(repeat first | (with_reducible apply ax); rfl | (with_reducible apply ed); (iterate 5 rfl) | (with_reducible apply dC); (iterate 3 rfl); (omega); (omega); (assumption); rfl | (with_reducible apply dB); (iterate 3 rfl); (exact cp (by omega)); rfl | (with_reducible apply hH); kernel_rfl | (with_reducible apply hI); kernel_rfl; kernel_rfl; rfl | (with_reducible first | apply bR | apply bJ | apply bO | apply ay | apply b7))
 ((refine bX rfl (fj rfl rfl rfl bc) ?_))
 exact ai.br.refl _
theorem Ek {a b c d k A B C D : Int} (aM : aT aj 37 [bh a b, aV k] (bh A B)) (bI : aT aj 37 [bh c d, aV k] (bh C D)) : aT aj 128 [qs a b c d, aV k] (.da [.agg [.c (.int .i64 A), .c (.int .i64 B)], .agg [.c (.int .i64 C), .c (.int .i64 D)]]) := by
 refine cd (f := 128) Tryz.func128 rfl rfl rfl rfl ?_;(repeat first | (with_reducible apply ax); rfl | refine cI rfl rfl rfl rfl (by (first | exact aM | exact bI)) rfl ?_ | (with_reducible apply hH); kernel_rfl | (with_reducible apply hI); kernel_rfl; kernel_rfl; rfl | (with_reducible first | apply bR | apply bJ | apply bO | apply ay | apply b7))
 ((refine bX rfl (fj rfl rfl rfl (fj rfl rfl rfl bc)) ?_))
 exact ai.br.refl _
theorem adp {a b c d x y k A B C D : Int} {h r : Bool} (aM : aT aj 128 [qs a b c d, aV k] (.da [.agg [.c (.int .i64 A), .c (.int .i64 B)], .agg [.c (.int .i64 C), .c (.int .i64 D)]])) (H1 : aT aj 178 [bh A B, bh C D, bh x y, aV k] (bD h)) (aG : dZ x y a b = false → dZ x y c d = false → r = h) (aO : dZ x y a b = true → r = false) (cz : dZ x y c d = true → r = false) : aT aj 123 [qs a b c d, bh x y, aV k] (bD r) := by
 cases q1 : dZ x y a b with
 | true =>
  rw [aO q1];refine cd (f := 123) Tryz.func123 rfl rfl rfl rfl ?_;(repeat first | (with_reducible apply ax); rfl | (with_reducible apply yy); (iterate 4 rfl) | refine cI rfl rfl rfl rfl (by (exact aM)) rfl ?_ | (with_reducible apply bW (c := false)); rfl; rfl; ((simp only [bB]; (omega))) | (with_reducible first | apply bR | apply bJ | apply bO | apply ay | apply b7))
  ((refine bX rfl (bG rfl bc) ?_))
  exact ai.br.refl _
 | false =>
  cases q2 : dZ x y c d with
  | true =>
   rw [cz q2];refine cd (f := 123) Tryz.func123 rfl rfl rfl rfl ?_;(repeat first | (with_reducible apply ax); rfl | (with_reducible apply yy); (iterate 4 rfl) | refine cI rfl rfl rfl rfl (by (exact aM)) rfl ?_ | (with_reducible apply bW (c := true)); rfl; rfl; ((simp only [bB]; (omega))) | (with_reducible apply bW (c := false)); rfl; rfl; ((simp only [bB]; (omega))) | (with_reducible first | apply bR | apply bJ | apply bO | apply ay | apply b7))
   ((refine bX rfl (bG rfl bc) ?_))
   exact ai.br.refl _
  | false =>
   rw [aG q1 q2];refine cd (f := 123) Tryz.func123 rfl rfl rfl rfl ?_;(repeat first | (with_reducible apply ax); rfl | (with_reducible apply yy); (iterate 4 rfl) | refine cI rfl rfl rfl rfl (by (exact aM)) rfl ?_ | refine nR rfl rfl rfl rfl rfl rfl (by (exact H1)) rfl ?_ | (with_reducible apply bW (c := true)); rfl; rfl; ((simp only [bB]; (omega))) | (with_reducible first | apply bR | apply bJ | apply bO | apply ay | apply b7))
   ((refine bX rfl (bG rfl bc) ?_))
   exact ai.br.refl _
theorem ado {E : List cc} {r R : Nat} (ap : r ≤ 28) {p q x : an} (hp : e3 r p.1 p.2 = true) (al : e3 r q.1 q.2 = true) : aT aj 123 [qs p.1 p.2 q.1 q.2, bh x.1 x.2, aV r] (bD (jy (rf E r R) p q x)) := by
 have aA : gR (r : Int) r := ⟨ap, .inr (.inr rfl)⟩;have e : ∀ a b : an, dZ a.1 a.2 b.1 b.2 = decide (a = b) := fun a b => by rw [sR, sc, c0, Prod.ext_iff]
 have aw : jy (rf E r R) p q x = (!decide (x = p) && !decide (x = q) && xk (2 ^ r * p.1) (2 ^ r * p.2) (2 ^ r * q.1) (2 ^ r * q.2) x.1 x.2 r) := by
  unfold jy;simp only [decide_not];rfl
 refine adp (Ek (sO aA hp) (sO aA al)) acA (fun h1 h2 => ?_) (fun h1 => ?_) (fun h1 => ?_)
 ·rw [e] at h1 h2;rw [aw, h1, h2]; rfl
 ·rw [e] at h1;rw [aw, h1]; rfl
 ·rw [e] at h1;rw [aw, h1]; simp
theorem ac1 {a b c d a' bT c' d' k A B C D eA qv Fl wy : Int} {h : Bool} {M : fP} (aM : aT aj 128 [qs a b c d, aV k] (.da [.agg [.c (.int .i64 A), .c (.int .i64 B)], .agg [.c (.int .i64 C), .c (.int .i64 D)]])) (bI : aT aj 128 [qs a' bT c' d', aV k] (.da [.agg [.c (.int .i64 eA), .c (.int .i64 qv)], .agg [.c (.int .i64 Fl), .c (.int .i64 wy)]])) (H1 : aT aj 185 [bh A B, bh C D, bh eA qv, bh Fl wy] (bD h)) (cm : aT aj 119 [bh A B, bh C D, bh eA qv, bh Fl wy] (oo M)) : aT aj 129 [qs a b c d, qs a' bT c' d', aV k] (oo (if h = true then h7 else M)) := by
 cases h with
 | true =>
  refine cd (f := 129) Tryz.func129 rfl rfl rfl rfl ?_;(repeat first | (with_reducible apply ax); rfl | refine cI rfl rfl rfl rfl (by (first | exact aM | exact bI)) rfl ?_ | refine nR rfl rfl rfl rfl rfl rfl (by (exact H1)) rfl ?_ | (with_reducible first | apply bR | apply bJ | apply bO | apply ay | apply b7 | apply fL) | (with_reducible apply ik); rfl)
  ((refine bX rfl (fj rfl rfl rfl bc) ?_))
  exact ai.br.refl _
 | false =>
  refine cd (f := 129) Tryz.func129 rfl rfl rfl rfl ?_;(repeat first | (with_reducible apply ax); rfl | refine cI rfl rfl rfl rfl (by (first | exact aM | exact bI)) rfl ?_ | refine nR rfl rfl rfl rfl rfl rfl (by (first | exact H1 | exact cm)) rfl ?_ | (with_reducible first | apply bR | apply bJ | apply bO | apply ay | apply b7 | apply eU) | (with_reducible apply gU); rfl)
  ((refine bX rfl (fj rfl rfl rfl bc) ?_))
  exact ai.br.refl _
theorem Im {a b : cc} (h1 : cH a.1.1 a.1.2 = true) (h2 : cH a.2.1 a.2.2 = true) (aq : cH b.1.1 b.1.2 = true) (aK : cH b.2.1 b.2.2 = true) : q8 a.1.1 a.1.2 a.2.1 a.2.2 b.1.1 b.1.2 b.2.1 b.2.2 = hx a b := by
 unfold q8; rw [h1, h2, aq, aK]; rfl
def oE (r : Nat) (l m : an × an) : fP := if tE (gB r l) (gB r m) = true then h7 else hx (gB r l) (gB r m)
theorem ac0 {r : Nat} (ap : r ≤ 28) {l m : an × an} (h1 : e3 r l.1.1 l.1.2 = true) (h2 : e3 r l.2.1 l.2.2 = true) (aq : e3 r m.1.1 m.1.2 = true) (aK : e3 r m.2.1 m.2.2 = true) : aT aj 129 [qs l.1.1 l.1.2 l.2.1 l.2.2, qs m.1.1 m.1.2 m.2.1 m.2.2, aV r] (oo (oE r l m)) := by
 have aA : gR (r : Int) r := ⟨ap, .inr (.inr rfl)⟩;have e := Im (a := gB r l) (b := gB r m) (qQ h1) (qQ h2) (qQ aq) (qQ aK)
 have H1 : aT aj 185 [bh (2 ^ r * l.1.1) (2 ^ r * l.1.2), bh (2 ^ r * l.2.1) (2 ^ r * l.2.2), bh (2 ^ r * m.1.1) (2 ^ r * m.1.2), bh (2 ^ r * m.2.1) (2 ^ r * m.2.2)] (bD (tE (gB r l) (gB r m))) := by
  have := acX (a1 := 2 ^ r * l.1.1) (a2 := 2 ^ r * l.1.2) (b1 := 2 ^ r * l.2.1) (b2 := 2 ^ r * l.2.2) (c1 := 2 ^ r * m.1.1) (c2 := 2 ^ r * m.1.2) (d1 := 2 ^ r * m.2.1) (d2 := 2 ^ r * m.2.2);rw [show q8 (2 ^ r * l.1.1) (2 ^ r * l.1.2) (2 ^ r * l.2.1) (2 ^ r * l.2.2) (2 ^ r * m.1.1) (2 ^ r * m.1.2) (2 ^ r * m.2.1) (2 ^ r * m.2.2) = hx (gB r l) (gB r m) from e] at this;exact this
 have cm : aT aj 119 [bh (2 ^ r * l.1.1) (2 ^ r * l.1.2), bh (2 ^ r * l.2.1) (2 ^ r * l.2.2), bh (2 ^ r * m.1.1) (2 ^ r * m.1.2), bh (2 ^ r * m.2.1) (2 ^ r * m.2.2)] (oo (hx (gB r l) (gB r m))) := by
  have := IR (a1 := 2 ^ r * l.1.1) (a2 := 2 ^ r * l.1.2) (b1 := 2 ^ r * l.2.1) (b2 := 2 ^ r * l.2.2) (c1 := 2 ^ r * m.1.1) (c2 := 2 ^ r * m.1.2) (d1 := 2 ^ r * m.2.1) (d2 := 2 ^ r * m.2.2);rw [show q8 (2 ^ r * l.1.1) (2 ^ r * l.1.2) (2 ^ r * l.2.1) (2 ^ r * l.2.2) (2 ^ r * m.1.1) (2 ^ r * m.1.2) (2 ^ r * m.2.1) (2 ^ r * m.2.2) = hx (gB r l) (gB r m) from e] at this;exact this
 exact ac1 (Ek (sO aA h1) (sO aA h2)) (Ek (sO aA aq) (sO aA aK)) H1 cm
theorem Lr (r : Nat) (l m : an × an) : r9 r l m = if (oE r l m).k = 1 then some (iN r (oE r l m)) else none := by
 unfold r9 oE;cases h : tE (gB r l) (gB r m) with
 | true => simp [h7]
 | false => simp
abbrev sG (v : Value) (l : List (an × an)) : bQ := ⟨167, 4, v, l.length, mS l⟩
instance aif : ox aj 96 167 4 32 := ⟨by kernel_rfl⟩
def pG (c : List an × List Int) : List AC := [.p (cA 2 c.1.length (bM c.1)), .p (cA 1 c.2.length (cB c.2))]
def ee (l : List (List an × List Int)) : List AC := l.flatMap pG
abbrev tb (l : List (List an × List Int)) : ai := cU 2 l.length (ee l)
theorem CK {β : Type} {f : β → List AC} {z : Nat} (au : ∀ x, (f x).length = z) : ∀ {l : List β} {i : Nat} {x : β}, l[i]? = some x → ((l.flatMap f).drop (i * z)).take z = f x
 | [], i, x, h => by simp at h
 | y :: l, 0, x, h => by
  simp at h; subst h;rw [List.flatMap_cons, Nat.zero_mul, List.drop_zero, ← au y, List.take_left]
 | y :: l, i + 1, x, h => by
  rw [List.flatMap_cons, kx, Nat.one_mul, Nat.add_comm, ← List.drop_drop, ← au y, List.drop_left, au y];exact CK au (by simpa using h)
theorem CL {β : Type} {f : β → List AC} {z : Nat} (au : ∀ x, (f x).length = z) : ∀ l : List β, (l.flatMap f).length = l.length * z
 | [] => by simp
 | y :: l => by rw [List.flatMap_cons, dl, au, CL au l, mq, kx, Nat.one_mul, Nat.add_comm]
theorem Og {l : List (an × an)} {i : Nat} {ii a b c d : Int} (hi : ii = i) (h : l[i]? = some ((a, b), (c, d))) : ((mS l).drop (ii.toNat * 4)).take 4 = [.c (.int .i64 a), .c (.int .i64 b), .c (.int .i64 c), .c (.int .i64 d)] := by
 subst hi; rw [kW]; exact CK (f := xz) (fun _ => rfl) h
theorem yJ {l : List (List an × List Int)} {i : Nat} {ii : Int} {c : List an × List Int} (hi : ii = i) (h : l[i]? = some c) : ((ee l).drop (ii.toNat * 2)).take 2 = [.p (cA 2 c.1.length (bM c.1)), .p (cA 1 c.2.length (cB c.2))] := by
 subst hi; rw [kW]; exact CK (f := pG) (fun _ => rfl) h
theorem aaN (l : List (an × an)) (x : an × an) : mS l ++ xz x = mS (l ++ [x]) := by simp [mS, List.flatMap_append]
theorem aiu (l : List (an × an)) : (mS l).all AC.ba = true := by
 rw [cC]; intro x aa;obtain ⟨y, _, ag⟩ := List.mem_flatMap.1 aa;simp only [xz, hf, rj, or_false] at ag;rcases ag with rfl | rfl | rfl | rfl <;> rfl
theorem U2 (l : List (List an × List Int)) : (ee l).all AC.ba = true := by
 rw [cC]; intro x aa;obtain ⟨y, _, ag⟩ := List.mem_flatMap.1 aa;simp only [pG, hf, rj, or_false] at ag;rcases ag with rfl | rfl <;> rfl
theorem aaL (v : Value) (l : List (an × an)) (x : an × an) : sG v (l ++ [x]) = ⟨167, 4, v, l.length + 1, mS l ++ xz x⟩ := by rw [sG, ← aaN, dl]; rfl
def SG (ch : List (List an × List Int)) (n : Nat) (R : aJ) (ts : List (Nat × ai)) (bw : List (Nat × List AC)) : Prop :=
 ∃ (i : Nat) (ii : Int) (v : Value), i ≤ ch.length ∧ n = ch.length - i ∧ ii = i ∧ R = bL 0 (sG v (bb (ch.take i))) ∧ ts = [(3, aR v), (7, tb ch), (8, aV ch.length), (9, aV ii)] ∧ bw = []
def SF (ch : List (List an × List Int)) (V : List an) (D : List Int) (ii : Int) (pre : List (an × an)) (n : Nat) (R : aJ) (ts : List (Nat × ai)) (bw : List (Nat × List AC)) : Prop :=
 ∃ (j : Nat) (dM : Int) (v : Value), j ≤ D.length ∧ n = D.length - j ∧ dM = j ∧ R = bL 0 (sG v (pre ++ (jl V).take j)) ∧ ts = [(3, aR v), (5, nf 5 0), (7, tb ch), (8, aV ch.length), (9, aV ii), (15, aV D.length), (16, aV dM)] ∧ bw = [(5, [.p (cA 2 V.length (bM V)), .p (cA 1 D.length (cB D))])]
theorem aaO {V : List an} {j : Nat} (h : j + 1 < V.length) : (jl V)[j]? = some (V[j], V[j + 1]) := by
 induction V generalizing j with
 | nil => simp at h
 | cons p W cF =>
  cases W with
  | nil => simp at h
  | cons q W =>
   cases j with
   | zero => rfl
   | succ j => exact cF (j := j) (by simpa using h)
section
variable {P : Program} {R : aJ} {s : aC} {ops : Array Oper} {dr : Option (List Nat)} {ty : Nat} {pos : String} {after : Array Edge} {guard : Option (Nat × Bool)} {K : aJ → aC → Prop} {rest : List Oper}
def nF (k : Nat) (iZ : ai → List AC → aJ → Prop) : ai → Mem → aJ → Prop := fun b9 aH aB => ∃ ar, aH = cQ k ar ∧ iZ b9 ar aB
theorem zE (k : Nat) {R0 : aJ} {dst : Option Nat} {f : FuncId} {g : Operand} {ts : Array TypeId} {l : List Operand} {args : List ai} {cs : List AC} {iZ : ai → List AC → aJ → Prop} [E : Enters P f] (hw : want ops ⟨dst, .call ⟨.value g, l.toArray, ts⟩, ty, pos, after, guard⟩ s = some true) (hm : dW dr ⟨dst, .call ⟨.value g, l.toArray, ts⟩, ty, pos, after, guard⟩ = true)
  (aw : s.look g = some (aR (.func (.func f) #[] #[]))) (aL : l.map s.look = (ai.w (.one (.own k 0)) :: args).map some) (hp : dt P f (.w (.one (.own k 0)) :: args) (cQ k cs) R0 (nF k iZ)) (af : s.mem k = some cs) (hO : pn dr k = true) (ap : bH R0 R) (ak : cs.all AC.ba = true) (eC : args.all ai.ba = true) (hd : k8 dst s.n = true)
  (h : ∀ v ar aB, iZ v ar aB → cT P ops dr K rest (b5 aB R) ((s.eh k ar).put dst v)) : cT P ops dr K (⟨dst, .call ⟨.value g, l.toArray, ts⟩, ty, pos, after, guard⟩ :: rest) R s := by
 refine vC hw hm aw aL hp (fun x aa j ae => ?_) (fun k' ar aF => ?_) ap (fun k' ar x j aF aa ae => ?_) hd ?_
 ·rcases hf.1 aa with rfl | aa
  ·obtain ⟨y, ag, ae⟩ := ae;simp [bK.cells] at ag;subst ag;cases ae;exact ⟨cs, by unfold cQ; exact cy _ _ _⟩
  ·exact absurd ae (ai.dH (cC.1 eC x aa) j)
 ·obtain ⟨rfl, rfl⟩ := hT aF;exact ⟨af, .inl hO⟩
 ·obtain ⟨rfl, rfl⟩ := hT aF;exact absurd ae (AC.dH (cC.1 ak x aa) j)
 ·rintro v aH aB ⟨ar, rfl, al⟩;refine ⟨fun k' c aF => ?_, ?_⟩
  ·obtain ⟨rfl, rfl⟩ := hT aF;exact .inl ⟨cs, by unfold cQ; exact cy _ _ _⟩
  ·have aO : s.over (cQ k ar) = s.eh k ar := by
    show ({ s with mem := b5 (bS cg k ar) s.mem } : aC) = { s with mem := bS s.mem k ar };rw [show b5 (bS cg k ar) s.mem = bS s.mem k ar from vT s.mem k ar]
   rw [aO];exact h v ar aB al
theorem ku (k : Nat) {dst : Option Nat} {f : FuncId} {g : Operand} {ts : Array TypeId} {l : List Operand} {args : List ai} {cs ar : List AC} {v : ai} [E : Enters P f] (hw : want ops ⟨dst, .call ⟨.value g, l.toArray, ts⟩, ty, pos, after, guard⟩ s = some true) (hm : dW dr ⟨dst, .call ⟨.value g, l.toArray, ts⟩, ty, pos, after, guard⟩ = true)
  (aw : s.look g = some (aR (.func (.func f) #[] #[]))) (aL : l.map s.look = (ai.w (.one (.own k 0)) :: args).map some) (hp : dt P f (.w (.one (.own k 0)) :: args) (cQ k cs) gO (nF k fun b9 ds aB => b9 = v ∧ ds = ar ∧ aB = gO)) (af : s.mem k = some cs) (hO : pn dr k = true) (ak : cs.all AC.ba = true) (eC : args.all ai.ba = true) (hd : k8 dst s.n = true)
  (h : cT P ops dr K rest R ((s.eh k ar).put dst v)) : cT P ops dr K (⟨dst, .call ⟨.value g, l.toArray, ts⟩, ty, pos, after, guard⟩ :: rest) R s := by
 refine zE k hw hm aw aL hp af hO (fun i r h => by cases h) ak eC hd ?_;rintro _ _ _ ⟨rfl, rfl, rfl⟩;rw [show b5 gO R = R from PB R];exact h
end
def Cu (x : Int × cc) : List AC := [.c (.int .i64 x.2.1.1), .c (.int .i64 x.2.1.2), .c (.int .i64 x.2.2.1), .c (.int .i64 x.2.2.2), .c (.int .i64 x.1)]
def pM (l : List (Int × cc)) : List AC := l.flatMap Cu
abbrev kX (l : List (Int × cc)) : ai := cU 5 l.length (pM l)
theorem wX {l : List (Int × cc)} {i : Nat} {ii o a b c d : Int} (hi : ii = i) (h : l[i]? = some (o, (a, b), (c, d))) : ((pM l).drop (ii.toNat * 5)).take 5 = [.c (.int .i64 a), .c (.int .i64 b), .c (.int .i64 c), .c (.int .i64 d), .c (.int .i64 o)] := by
 subst hi; rw [kW]; exact CK (f := Cu) (fun _ => rfl) h
abbrev eM (E : List (Int × cc)) (k rm ph I J T : Int) (dirty : Bool) (hv fv cv : Value) (b : Nat) (lk : AC) : List AC :=
 [.p (cA 5 E.length (pM E)), .c (.int .i64 k), .c (.int .i64 rm), .c (.int .i64 ph), .c (.int .i64 I), .c (.int .i64 J), .c (.int .i64 T), .c (.bool dirty), .c hv, .c fv, .c cv, .c (eb b), lk]
abbrev wQ (v : Value) (l : List (List an × List Int)) : bQ := ⟨53, 2, v, l.length, ee l⟩
instance aih : ox aj 43 53 2 48 := ⟨by kernel_rfl⟩
abbrev dR (b : Nat) (S : fm) (hv fv cv : Value) (hot fnd : List an) (ch : List (List an × List Int)) : aJ := bS (bS (bS (bL 0 (iw (eb b) S)) 1 (iO hv hot)) 2 (iO fv fnd)) 3 (wQ cv ch)
theorem QD {b bT : Nat} {S dm : fm} {hv fv cv b8 df c7 : Value} {hot fnd hot' fnd' : List an} {ch ch' : List (List an × List Int)} : b5 (dR bT dm b8 df c7 hot' fnd' ch') (dR b S hv fv cv hot fnd ch) = dR bT dm b8 df c7 hot' fnd' ch' := by
 funext i
 match i with
 | 0 => rfl
 | 1 => rfl
 | 2 => rfl
 | 3 => rfl
 | i + 4 => rfl
theorem fw {b bT : Nat} {S dm : fm} {hv fv cv b8 df c7 : Value} {hot fnd hot' fnd' : List an} {ch ch' : List (List an × List Int)} : ∀ i r, dR b S hv fv cv hot fnd ch i = some r → ∃ a8, dR bT dm b8 df c7 hot' fnd' ch' i = some a8
 | 0, _, _ => ⟨_, rfl⟩
 | 1, _, _ => ⟨_, rfl⟩
 | 2, _, _ => ⟨_, rfl⟩
 | 3, _, _ => ⟨_, rfl⟩
 | i + 4, _, h => by cases h
theorem aeh {b : Nat} {S : fm} {hv fv cv v : Value} {hot fnd l : List an} {ch : List (List an × List Int)} : bS (dR b S hv fv cv hot fnd ch) 1 (iO v l) = dR b S v fv cv l fnd ch := by
 funext i
 match i with
 | 0 => rfl
 | 1 => rfl
 | 2 => rfl
 | 3 => rfl
 | i + 4 => rfl
theorem Jd {b c : Nat} {S dm : fm} {hv fv cv : Value} {hot fnd : List an} {ch : List (List an × List Int)} : bS (dR b S hv fv cv hot fnd ch) 0 (iw (eb c) dm) = dR c dm hv fv cv hot fnd ch := by
 funext i
 match i with
 | 0 => rfl
 | 1 => rfl
 | 2 => rfl
 | 3 => rfl
 | i + 4 => rfl
abbrev rE : ai := .w (.one (.own 1000 0))
abbrev lV : ai := .da []
abbrev BH (f : FuncId) (args : List ai) (cs : List AC) (v : ai) (ar : List AC) : Prop := dt aj f (rE :: args) (cQ 1000 cs) gO (nF 1000 fun b9 ds aB => b9 = v ∧ ds = ar ∧ aB = gO)
section
variable {E : List (Int × cc)} {k rm ph I J T : Int} {dirty : Bool} {hv fv cv : Value} {b : Nat} {lk : AC}
theorem DD (ao : lk.ba = true) (p j : Int) : BH 102 [aV p, aV j] (eM E k rm ph I J T dirty hv fv cv b lk) lV (eM E k rm p 0 j 0 dirty hv fv cv b lk) := by
 have dp : (eM E k rm p 0 j 0 dirty hv fv cv b lk).all AC.ba = true := by simp only [kA, nb, ao]; rfl
 refine dy (f := 102) Tryz.func102 rfl (dv rfl) (by exact eB rfl) ?_;(repeat first | (with_reducible first | apply a7 | apply aQ | apply aY | apply aS) | (with_reducible apply aN); rfl; (repeat first | (with_reducible apply ax); rfl | (with_reducible apply de); (iterate 3 rfl)); (with_reducible apply ay))
 ((refine eZ rfl bc rfl (bH.refl _) dp rfl (fun i r h => ⟨r, h⟩) ?_))
 exact ⟨_, rfl, rfl, rfl, rfl⟩
theorem H7 (ao : lk.ba = true) (p : Int) : BH 57 [aV p] (eM E k rm ph I J T dirty hv fv cv b lk) lV (eM E k rm p 0 0 0 dirty hv fv cv b (.c (.slice none 0 0))) := by
 have dp : (eM E k rm ph I J T dirty hv fv cv b lk).all AC.ba = true := by simp only [kA, nb, ao]; rfl
 have aM := DD (E := E) (k := k) (rm := rm) (ph := ph) (I := I) (J := J) (T := T) (dirty := dirty) (hv := hv) (fv := fv) (cv := cv) (b := b) ao p 0;refine dy (f := 57) Tryz.func57 rfl (dv rfl) (by exact eB rfl) ?_;(repeat first | (with_reducible first | apply a7 | apply aY) | (with_reducible apply aN); rfl; (repeat first | (with_reducible apply ax); rfl); (with_reducible apply ay));refine ku 1000 rfl rfl rfl rfl aM rfl rfl dp rfl rfl ?_;(repeat first | (with_reducible first | apply aQ | apply aY | apply aS) | (with_reducible apply aN); rfl; (repeat first | (with_reducible apply ax); rfl | (with_reducible apply de); (iterate 3 rfl)); (with_reducible apply ay))
 ((refine eZ rfl bc rfl (bH.refl _) rfl rfl (fun i r h => ⟨r, h⟩) ?_))
 exact ⟨_, rfl, rfl, rfl, rfl⟩
theorem zW (ao : lk.ba = true) (n : Int) (bu : 0 ≤ I ∧ I ≤ 1000000) (kO : 0 ≤ J ∧ J ≤ 1000000) : BH 120 [aV n] (eM E k rm ph I J T dirty hv fv cv b lk) (bD (decide ((if J + 1 = n then I + 2 else J + 1) < n))) (eM E k rm ph (if J + 1 = n then I + 1 else I) (if J + 1 = n then I + 2 else J + 1) T dirty hv fv cv b lk) := by
 have dp : ∀ I J : Int, (eM E k rm ph I J T dirty hv fv cv b lk).all AC.ba = true := fun I J => by simp only [kA, nb, ao]; rfl
 by_cases h : J + 1 = n
 ·rw [if_pos h, if_pos h];have e : I + 1 + 1 = I + 2 := by omega
  rw [← e];refine dy (f := 120) Tryz.func120 rfl (dv rfl) (by exact eB rfl) ?_;(repeat first | (with_reducible first | apply a7 | apply aQ | apply aY | apply aS | apply cN) | (with_reducible apply cX); rfl; (exact bg (by omega)) | (with_reducible apply aN); rfl; (repeat first | (with_reducible apply ax); rfl | (with_reducible apply de); (iterate 3 rfl) | (with_reducible apply dB); (iterate 3 rfl); (exact cp (by omega)); rfl); (with_reducible apply ay))
  ((refine eZ rfl (bG rfl bc) rfl (bH.refl _) (dp _ _) rfl (fun i r h => ⟨r, h⟩) ?_))
  exact ⟨_, rfl, rfl, rfl, rfl⟩
 ·rw [if_neg h, if_neg h];refine dy (f := 120) Tryz.func120 rfl (dv rfl) (by exact eB rfl) ?_;(repeat first | (with_reducible first | apply a7 | apply aQ | apply aY | apply aS | apply cN | apply cL) | (with_reducible apply cD); rfl; (exact bl (by omega)) | (with_reducible apply aN); rfl; (repeat first | (with_reducible apply ax); rfl | (with_reducible apply de); (iterate 3 rfl) | (with_reducible apply dB); (iterate 3 rfl); (exact cp (by omega)); rfl); (with_reducible apply ay))
  ((refine eZ rfl (bG rfl bc) rfl (bH.refl _) (dp _ _) rfl (fun i r h => ⟨r, h⟩) ?_))
  exact ⟨_, rfl, rfl, rfl, rfl⟩
theorem H8 {r : Nat} (ap : r ≤ 28) (af : k = r) (ao : lk.ba = true) {i : Nat} {o p1 p2 q1 q2 : Int} (jS : E.length ≤ 1000) (h : E[i]? = some (o, (p1, p2), (q1, q2))) (hp : gN (p1, p2) = true) (al : gN (q1, q2) = true) :
  BH 115 [aV i] (eM E k rm ph I J T dirty hv fv cv b lk) (.da [.agg [.c (.int .i64 (cJ p1 r)), .c (.int .i64 (cJ p2 r))], .agg [.c (.int .i64 (cJ q1 r)), .c (.int .i64 (cJ q2 r))]]) (eM E k rm ph I J T dirty hv fv cv b lk) := by
 have dp : (eM E k rm ph I J T dirty hv fv cv b lk).all AC.ba = true := by simp only [kA, nb, ao]; rfl
 obtain ⟨ji, ae⟩ : ∃ ji : Int, ji = i := ⟨_, rfl⟩;have bj := (bV.1 h).1;have g0 : 0 ≤ ji := by omega
 have g1 : ji < (E.length : Int) := by omega
 have jv := wX ae h;have hp := sL.1 hp;have al := sL.1 al;have aA : gR (r : Int) r := ⟨ap, .inr (.inr rfl)⟩;have aM := PM (x := p1) (y := p2) aA (by omega) (by omega) (by omega) (by omega);have bI := PM (x := q1) (y := q2) aA (by omega) (by omega) (by omega) (by omega);rw [← af] at aM bI;rw [show aV (i : Int) = aV ji by rw [ae]];clear hp al aA ae h;generalize cJ p1 r = a at *;generalize cJ p2 r = a' at *;generalize cJ q1 r = c at *;generalize cJ q2 r = c' at *;refine dy (f := 115) Tryz.func115 rfl (dv rfl) (by exact eB rfl) ?_;(repeat first | (with_reducible apply cZ); kernel_rfl | (with_reducible apply cb (id := 2) [0,1,2,3,4,5,6,7,8,9,10,11,12,13,14,15,16,17]); kernel_rfl; kernel_rfl; rfl | (with_reducible first | apply a7 | apply aQ | apply aY | apply aS | apply cN) | (with_reducible apply aN); rfl; (repeat first | (with_reducible apply ax); rfl | (with_reducible apply ed); (iterate 5 rfl) | (with_reducible apply dC); (iterate 3 rfl); (omega); (omega); (assumption); rfl | (with_reducible apply de); (iterate 3 rfl) | refine cI rfl rfl rfl rfl (by (first | exact aM | exact bI)) rfl ?_); (with_reducible apply ay))
 ((refine eZ rfl (fj rfl rfl rfl (fj rfl rfl rfl bc)) rfl (bH.refl _) dp rfl (fun i r h => ⟨r, h⟩) ?_))
 exact ⟨_, rfl, rfl, rfl, rfl⟩
end
def dd (E : List (Int × cc)) (r rm : Nat) (s : bF.aX an) (cs : List AC) (R : aJ) : Prop := ∃ (hv fv cv : Value) (b : Nat) (S : fm) (lk : AC), th rm s.hot (eb b) S ∧ lk.ba = true ∧ (s.ph = 3 → lk = .p (cA 4 (bb s.ch).length (mS (bb s.ch)))) ∧ cs = eM E r rm s.ph s.I s.J s.T s.dirty hv fv cv b lk ∧ R = dR b S hv fv cv s.hot s.fnd s.ch
def gn (E : List (Int × cc)) (r rm : Nat) (f : FuncId) (args : List ai) (s : bF.aX an) (v : ai) (s' : bF.aX an) : Prop :=
 ∀ cs R, dd E r rm s cs R → dt aj f (rE :: args) (cQ 1000 cs) R (nF 1000 fun b9 ar aB => b9 = v ∧ dd E r rm s' ar aB)
abbrev bN (E : List (Int × cc)) (r rm : Nat) : c4 an := rf (E.map Prod.snd) r rm
theorem bH.of_eq {R aB : aJ} (h : R = aB) : bH R aB := by rw [h]; exact bH.refl _
theorem aei {b : Nat} {S : fm} {hv fv cv v : Value} {hot fnd l : List an} {ch : List (List an × List Int)} : bS (dR b S hv fv cv hot fnd ch) 2 (iO v l) = dR b S hv v cv hot l ch := by
 funext i
 match i with
 | 0 => rfl
 | 1 => rfl
 | 2 => rfl
 | 3 => rfl
 | i + 4 => rfl
theorem aek {b : Nat} {S : fm} {hv fv cv v : Value} {hot fnd : List an} {ch : List (List an × List Int)} {x y : Int} : bS (dR b S hv fv cv hot fnd ch) 1 ⟨59, 2, v, hot.length + 1, bM hot ++ [.c (.int .i64 x), .c (.int .i64 y)]⟩ = dR b S v fv cv (hot ++ [(x, y)]) fnd ch :=
 (congrArg (bS (dR b S hv fv cv hot fnd ch) 1) (Ql v hot (x, y)).symm).trans aeh
theorem aej {b : Nat} {S : fm} {hv fv cv v : Value} {hot fnd : List an} {ch : List (List an × List Int)} {x y : Int} : bS (dR b S hv fv cv hot fnd ch) 2 ⟨59, 2, v, fnd.length + 1, bM fnd ++ [.c (.int .i64 x), .c (.int .i64 y)]⟩ = dR b S hv v cv hot (fnd ++ [(x, y)]) ch :=
 (congrArg (bS (dR b S hv fv cv hot fnd ch) 2) (Ql v fnd (x, y)).symm).trans aei
theorem Ya {E : List (Int × cc)} {r rm : Nat} {s : bF.aX an} {x y : Int} : (qD rm s.hot x y = (dQ (bN E r rm) s (x, y)).hot) ∧ (nO rm s.hot x y = true → dQ (bN E r rm) s (x, y) = { s with hot := s.hot ++ [(x, y)] } ∧ nP rm s.hot x y = 0) ∧ (nO rm s.hot x y = false → nP rm s.hot x y = 0 → dQ (bN E r rm) s (x, y) = s) ∧ (nP rm s.hot x y = 0 ∨ (nP rm s.hot x y = 90 ∧ nO rm s.hot x y = false ∧ dQ (bN E r rm) s (x, y) = fF s 5 0 0)) := by
 unfold qD nO nP dQ
 by_cases h : (x, y) ∈ s.hot
 ·rw [if_pos (uv.2 h), if_pos (uv.2 h), if_pos (uv.2 h), if_pos h];exact ⟨rfl, fun h => (by cases h), fun _ _ => rfl, .inl rfl⟩
 ·have aF : ¬ 0 ≤ lm s.hot x y := fun a6 => h (uv.1 a6);rw [if_neg aF, if_neg aF, if_neg aF, if_neg h]
  by_cases ao : (rm : Int) ≤ (s.hot.length : Int)
  ·have h4 : ¬ s.hot.length < (bN E r rm).R := by show ¬ s.hot.length < rm; omega
   rw [if_pos ao, if_pos ao, if_pos ao, if_neg h4];exact ⟨rfl, fun h => (by cases h), fun _ h => (by cases h), .inr ⟨rfl, rfl, rfl⟩⟩
  ·have h4 : s.hot.length < (bN E r rm).R := by show s.hot.length < rm; omega
   rw [if_neg ao, if_neg ao, if_neg ao, if_pos h4];exact ⟨rfl, fun _ => ⟨rfl, rfl⟩, fun h => (by cases h), .inl rfl⟩
theorem H9 {E : List (Int × cc)} {r rm : Nat} {s : bF.aX an} {x y : Int} (ao : s.hot.length ≤ 1100) (au : s.fnd = []) (ht : s.ph ≠ 5) : gn E r rm 116 [bh x y] s (bD (!Nat.beq (dQ (bN E r rm) s (x, y)).ph 5)) (dQ (bN E r rm) s (x, y)) := by
 obtain ⟨ph, I, J, T, dirty, hot, fnd, ch⟩ := s;obtain rfl : fnd = [] := au;have ao : hot.length ≤ 1100 := ao
 have ht : Nat.beq ph 5 = false := by
  cases h : Nat.beq ph 5 with
  | false => rfl
  | true => exact absurd (hE h) ht
 obtain ⟨h1, h2, aq, aK⟩ := Ya (E := E) (r := r) (rm := rm) (s := ⟨ph, I, J, T, dirty, hot, [], ch⟩) (x := x) (y := y);rintro cs R ⟨hv, fv, cv, b, S, lk, hS, cY, gj, rfl, rfl⟩;have aM := ZS (rm : Int) hot b S x y hS ao;have dp : ∀ hv, (eM E r rm ph I J T dirty hv fv cv b lk).all AC.ba = true := fun hv => by simp only [kA, nb, cY]; rfl
 have bI := H7 (E := E) (k := r) (rm := rm) (ph := ph) (I := I) (J := J) (T := T) (dirty := dirty) (hv := hv) (fv := fv) (cv := cv) (b := b) cY 5;simp only at h1 h2 aq aK gj;rw [h1] at aM;rcases aK with aK | ⟨aK, cO, ek⟩
 ·rw [aK] at aM;cases ab : nO rm hot x y with
  | true =>
   rw [ab] at aM;rw [(h2 ab).1] at aM ⊢;simp only at aM ⊢;rw [ht];have aG : (hot ++ [(x, y)]).length = hot.length + 1 := by rw [dl]; rfl
   refine dy (f := 116) Tryz.func116 rfl (dv rfl) (by exact eB rfl) ?_;(repeat first | (with_reducible apply iT (id := 1) [0,1,2,3,4,5,6,7,8,9,10] [13]); kernel_rfl; kernel_rfl; rfl | (with_reducible first | apply a7 | apply aQ | apply aY | apply aS) | (with_reducible apply aN); rfl; (repeat first | (with_reducible apply ax); rfl | (with_reducible apply de); (iterate 3 rfl)); (with_reducible apply ay));refine zH 0 rfl rfl rfl rfl aM rfl rfl rfl (fun v dm h => ?_);obtain ⟨rfl, fC⟩ := h;rw [Jd];(repeat first | (with_reducible apply cZ); kernel_rfl | (with_reducible apply iT (id := 6) [0,1,2,3,4,5,6,7,8,9,10,11,12] [3000028]); kernel_rfl; kernel_rfl; rfl | (with_reducible first | apply a7 | apply aQ | apply aY | apply aS | apply cL) | (with_reducible apply cX); rfl; (rfl) | (with_reducible apply cD); rfl; (rfl) | (with_reducible apply aN); rfl; (repeat first | (with_reducible apply ax); rfl | (with_reducible apply de); (iterate 3 rfl) | (with_reducible apply nk); (iterate 10 rfl)); (with_reducible apply ay));refine q0 1 rfl rfl rfl rfl ?q1 ?q2 rfl rfl (fun v1 jh => ?_)
   case q1 => exact li (by show hot.length + 1 ≤ 1000000; omega)
   case q2 => show (hot.length + 1) * 16 ≤ 140737488355328; omega
   (repeat first | (with_reducible apply cZ); kernel_rfl | (with_reducible first | apply a7 | apply aQ | apply aY | apply aS | apply cN) | (with_reducible apply aN); rfl; (repeat first | (with_reducible apply ax); rfl | (with_reducible apply de); (iterate 3 rfl)); (with_reducible apply ay))
   ((refine eZ rfl (bG rfl bc) rfl (bH.of_eq (aek (x := x) (y := y)).symm) (dp v1) rfl fw ?_))
   exact ⟨_, rfl, rfl, v1, fv, cv, b, dm, lk, fC, cY, gj, rfl, rfl⟩
  | false =>
   rw [ab] at aM;rw [aq ab aK] at aM ⊢;simp only at aM ⊢;rw [ht];refine dy (f := 116) Tryz.func116 rfl (dv rfl) (by exact eB rfl) ?_;(repeat first | (with_reducible apply iT (id := 1) [0,1,2,3,4,5,6,7,8,9,10] [13]); kernel_rfl; kernel_rfl; rfl | (with_reducible first | apply a7 | apply aQ | apply aY | apply aS) | (with_reducible apply aN); rfl; (repeat first | (with_reducible apply ax); rfl | (with_reducible apply de); (iterate 3 rfl)); (with_reducible apply ay));refine zH 0 rfl rfl rfl rfl aM rfl rfl rfl (fun v dm h => ?_);obtain ⟨rfl, fC⟩ := h;rw [Jd];(repeat first | (with_reducible apply cZ); kernel_rfl | (with_reducible first | apply a7 | apply aQ | apply aY | apply aS | apply cN | apply cL) | (with_reducible apply cD); rfl; (rfl) | (with_reducible apply aN); rfl; (repeat first | (with_reducible apply ax); rfl); (with_reducible apply ay))
   ((refine eZ rfl (bG rfl bc) rfl (bH.refl _) (dp _) rfl fw ?_))
   exact ⟨_, rfl, rfl, hv, fv, cv, b, dm, lk, fC, cY, gj, rfl, rfl⟩
 ·rw [aK, cO] at aM;rw [ek] at aM ⊢;simp only [fF] at aM ⊢;rw [show (!Nat.beq 5 5) = false from rfl];refine dy (f := 116) Tryz.func116 rfl (dv rfl) (by exact eB rfl) ?_;(repeat first | (with_reducible apply iT (id := 1) [0,1,2,3,4,5,6,7,8,9,10] [13]); kernel_rfl; kernel_rfl; rfl | (with_reducible first | apply a7 | apply aQ | apply aY | apply aS) | (with_reducible apply aN); rfl; (repeat first | (with_reducible apply ax); rfl | (with_reducible apply de); (iterate 3 rfl)); (with_reducible apply ay));refine zH 0 rfl rfl rfl rfl aM rfl rfl rfl (fun v dm h => ?_);obtain ⟨rfl, fC⟩ := h;rw [Jd];(repeat first | (with_reducible apply cZ); kernel_rfl | (with_reducible first | apply a7 | apply aQ | apply aY | apply aS) | (with_reducible apply cX); rfl; ((simp only [bB]; (omega))) | (with_reducible apply aN); rfl; (repeat first | (with_reducible apply ax); rfl); (with_reducible apply ay));refine ku 1000 rfl rfl rfl rfl bI rfl rfl (dp _) rfl rfl ?_;(repeat first | (with_reducible first | apply a7 | apply aQ | apply aY | apply aS | apply cN | apply e7) | (with_reducible apply aN); rfl; (repeat first | (with_reducible apply ax); rfl); (with_reducible apply ay))
  ((refine eZ rfl (bG rfl bc) rfl (bH.refl _) rfl rfl fw ?_))
  exact ⟨_, rfl, rfl, hv, fv, cv, b, dm, .c (.slice none 0 0), fC, rfl, fun h => (by cases h), rfl, rfl⟩
section
variable {P : Program} {R : aJ} {s : aC} {ops : Array Oper} {dr : Option (List Nat)} {ty : Nat} {pos : String} {after : Array Edge} {guard : Option (Nat × Bool)} {K : aJ → aC → Prop} {rest : List Oper}
theorem dd.closed {E : List (Int × cc)} {r rm : Nat} {s : bF.aX an} {cs : List AC} {R : aJ} (h : dd E r rm s cs R) : cs.all AC.ba = true := by
 obtain ⟨hv, fv, cv, b, S, lk, _, cY, _, rfl, _⟩ := h;simp only [kA, nb, cY]; rfl
theorem dd.b5 {E : List (Int × cc)} {r rm : Nat} {s s' : bF.aX an} {cs ar : List AC} {R aB : aJ} (h : dd E r rm s cs R) (aF : dd E r rm s' ar aB) : Go.Proofs.YtpochbhajmbfdaaGreat.b5 aB R = aB := by
 obtain ⟨_, _, _, _, _, _, _, _, _, _, rfl⟩ := h;obtain ⟨_, _, _, _, _, _, _, _, _, _, rfl⟩ := aF;exact QD
theorem ir {E : List (Int × cc)} {r rm : Nat} {eP s1 : bF.aX an} {v : ai} {dst : Option Nat} {f : FuncId} {g : Operand} {ts : Array TypeId} {l : List Operand} {args : List ai} {cs : List AC} [Fp : Enters aj f] (hw : want ops ⟨dst, .call ⟨.value g, l.toArray, ts⟩, ty, pos, after, guard⟩ s = some true) (hm : dW dr ⟨dst, .call ⟨.value g, l.toArray, ts⟩, ty, pos, after, guard⟩ = true)
  (aw : s.look g = some (aR (.func (.func f) #[] #[]))) (aL : l.map s.look = (rE :: args).map some) (af : s.mem 1000 = some cs) (hO : pn dr 1000 = true) (eC : args.all ai.ba = true) (hd : k8 dst s.n = true) (hp : gn E r rm f args eP v s1) (bu : dd E r rm eP cs R)
  (h : ∀ ar aB, dd E r rm s1 ar aB → cT aj ops dr K rest aB ((s.eh 1000 ar).put dst v)) : cT aj ops dr K (⟨dst, .call ⟨.value g, l.toArray, ts⟩, ty, pos, after, guard⟩ :: rest) R s := by
 refine zE 1000 hw hm aw aL (hp cs R bu) af hO (bH.refl _) bu.closed eC hd ?_;rintro _ ar aB ⟨rfl, aF⟩;rw [bu.b5 aF];exact h ar aB aF
end
theorem Rf (n d : Int) (r : Nat) (hd : 0 < d) : lr n d r = gx (2 ^ r) n d := by
 rw [← afl r hd];unfold gx;congr 1
 ·rw [ka d]; omega
 ·rw [Int.pow_succ, ka d];rw [lU, ka 2 d, ← lU, ka (2 ^ r * d) 2]
def mn (r : Nat) (M : fP) : Option an := if M.k = 1 then some (iN r M) else none
theorem GA {n : Int} (h : -19342813113834066795298816 ≤ n ∧ n ≤ 19342813113834066795298816) : fits n = true := by
 unfold fits; rw [c0]; omega
theorem N0 {E : List (Int × cc)} {r rm : Nat} {s : bF.aX an} {M : fP} (ap : r ≤ 28) (jz : Bw M) (lJ : M.k = 1 → e3 r (iN r M).1 (iN r M).2 = true) (ao : s.hot.length ≤ 1100) (au : s.fnd = []) (ht : s.ph ≠ 5) : gn E r rm 118 [oo M] s (bD (!Nat.beq (kQ (bN E r rm) s (mn r M)).ph 5)) (kQ (bN E r rm) s (mn r M)) := by
 intro cs R bu
 have YP : Nat.beq s.ph 5 = false := by
  cases h : Nat.beq s.ph 5 with
  | false => rfl
  | true => exact absurd (hE h) ht
 have ak := bu.closed
 by_cases h1 : M.k = 1
 ·rcases jz with rfl | ⟨x, y, d, rfl, hd, xe, aa, ag⟩ | ⟨f1, f2, g1, g2, rfl⟩
  ·simp [h7] at h1
  ·have lJ := lJ rfl;have aA : gR (r : Int) r := ⟨ap, .inr (.inr rfl)⟩;have fd := GA (n := d) (by omega);have ex := Rf x d r hd;have kM := Rf y d r hd
   have aM := acs (n := x) (d := d) (n' := y) (d' := d) aA (GA aa) fd (GA ag) fd (b := true) (by
    unfold s8;rw [bg hd, ex, kM];unfold e3 iN jm at lJ;simp only at lJ;rw [rq, rq]; exact lJ)
   simp only [if_true, ex, kM] at aM;have bI := H9 (E := E) (r := r) (rm := rm) (s := s) (x := gx (2 ^ r) x d) (y := gx (2 ^ r) y d) ao au ht;rw [show mn r (jm x d y d) = some (gx (2 ^ r) x d, gx (2 ^ r) y d) from rfl];show dt _ _ _ _ _ (nF 1000 fun b9 ar aB => b9 = bD (!Nat.beq (dQ (bN E r rm) s (gx (2 ^ r) x d, gx (2 ^ r) y d)).ph 5) ∧ dd E r rm (dQ (bN E r rm) s (gx (2 ^ r) x d, gx (2 ^ r) y d)) ar aB);generalize dQ (bN E r rm) s (gx (2 ^ r) x d, gx (2 ^ r) y d) = s1 at *;generalize gx (2 ^ r) x d = X at *;generalize gx (2 ^ r) y d = Y at *;generalize (!Nat.beq s1.ph 5) = b9 at *;obtain ⟨hv, fv, cv, b, S, lk, hS, cY, gj, rfl, rfl⟩ := id bu;unfold jm;refine dy (f := 118) Tryz.func118 rfl (dv rfl) (by exact eB rfl) ?_;(repeat first | (with_reducible apply cZ); kernel_rfl | (with_reducible apply cb (id := 3) [13,0,1,2,3,4,5,6,7,8,9,10,11,12,14,15]); kernel_rfl; kernel_rfl; rfl | (with_reducible first | apply a7 | apply aQ | apply aY | apply aS | apply cL) | (with_reducible apply cD); rfl; (rfl) | (with_reducible apply aN); rfl; (repeat first | (with_reducible apply ax); rfl | (with_reducible apply de); (iterate 3 rfl) | refine eR rfl rfl rfl rfl rfl (by (exact aM)) rfl ?_); (with_reducible apply ay));refine ir rfl rfl rfl rfl rfl rfl rfl rfl bI bu (fun ar aB cn => ?_);(repeat first | (with_reducible first | apply aQ | apply aS | apply cN) | (with_reducible apply aN); rfl; (repeat first | (with_reducible apply ax); rfl); (with_reducible apply ay));obtain ⟨b8, df, c7, bT, dm, hb, fC, hq, iI, rfl, rfl⟩ := id cn
   ((refine eZ rfl (bG rfl bc) rfl (bH.refl _) cn.closed rfl fw ?_))
   exact ⟨_, rfl, rfl, cn⟩
  ·simp [tk] at h1
 ·rw [show mn r M = none from if_neg h1];show dt _ _ _ _ _ (nF 1000 fun b9 ar aB => b9 = bD (!Nat.beq s.ph 5) ∧ dd E r rm s ar aB);rw [YP, Bool.not_false];obtain ⟨mk, It, md, dG, Io, Iu, Iv, Iw, Ix⟩ := M;have h1 : ¬ mk = 1 := h1;obtain ⟨hv, fv, cv, b, S, lk, hS, cY, gj, rfl, rfl⟩ := id bu;refine dy (f := 118) Tryz.func118 rfl (dv rfl) (by exact eB rfl) ?_;(repeat first | (with_reducible first | apply a7 | apply aQ | apply aY | apply aS | apply cN | apply e7) | (with_reducible apply cX); rfl; ((simp only [bB]; (omega))) | (with_reducible apply aN); rfl; (repeat first | (with_reducible apply ax); rfl); (with_reducible apply ay))
  ((refine eZ rfl (bG rfl bc) rfl (bH.refl _) ak rfl fw ?_))
  exact ⟨_, rfl, rfl, bu⟩
theorem Tq {ch : List (List an × List Int)} (ak : ∀ c ∈ ch, c.1.length = c.2.length + 1 ∧ c.1.length ≤ 1100) (ao : ch.length ≤ 300) : pq aj 91 [tb ch] (fun v q => v = aR q.v ∧ q = sG q.v (bb ch)) := by
 refine FR rfl (fun v q h => by obtain ⟨rfl, _⟩ := h; rfl) ?_;refine dy (f := 91) Tryz.func91 rfl (dv rfl) (by exact oD) ?_;(repeat first | (with_reducible first | apply a7 | apply aQ | apply aY | apply aS | apply dY) | (with_reducible apply aN); rfl; (repeat first | (with_reducible apply ax); rfl | (with_reducible apply cx); (iterate 3 rfl)); (with_reducible apply ay));refine oi 0 167 4 rfl ?_
 skip
 refine kD 28 (SG ch) ch.length (bL 0 (sG (.slice none 0 0) [])) _ [] ⟨0, 0, .slice none 0 0, ez _, rfl, rfl, rfl, rfl, rfl⟩ (og _ _ _) rfl ⟨rfl, rfl, rfl, rfl, trivial⟩ trivial rfl ?_;rintro n R ts bw ⟨i, ii, v, hi, rfl, gi, rfl, rfl, rfl⟩ dD;clear dD
 by_cases al : i < ch.length
 ·have q2 : ii < (ch.length : Int) := by omega
  have cj : 0 ≤ ii := by omega
  obtain ⟨c, g1⟩ : ∃ c, ch[i]? = some c := ⟨_, cl al⟩;obtain ⟨jU, iH⟩ := ak c (dJ g1);have jv := yJ gi g1
  have ahZ : (bb (ch.take i)).length ≤ 300 * 1100 := by
   refine lT (DN (m := 1100) fun c qU => (ak c (qd qU)).2) (ky _ ?_);rw [eI]; omega
  have cz : bb (ch.take (i + 1)) = bb (ch.take i) ++ jl c.1 := by
   rw [pi al, DL, show ch[i] = c from mY ((cl al).symm.trans g1)];simp [bb]
  have MY : (jl c.1).length = c.2.length := by rw [uh]; omega
  obtain ⟨V, D⟩ := c;simp only at jU iH jv cz MY;generalize bb (ch.take i) = pre at *;(repeat first | (with_reducible first | apply a7 | apply aQ | apply aY | apply aS | apply cL | apply dY) | (with_reducible apply cX); rfl; (exact bg (by omega)) | (with_reducible apply aN); rfl; (repeat first | (with_reducible apply ax); rfl | (with_reducible apply ed); (iterate 5 rfl) | (with_reducible apply dC); (iterate 3 rfl); (omega); (omega); (assumption); rfl | (with_reducible apply cx); (iterate 3 rfl)); (with_reducible apply ay));refine kD 28 (SF ch V D ii pre) D.length (bL 0 (sG v pre)) _ [(5, [.p (cA 2 V.length (bM V)), .p (cA 1 D.length (cB D))])] ⟨0, 0, v, ez _, rfl, rfl, by simp, rfl, rfl⟩ (bH.refl _) rfl ⟨rfl, rfl, rfl, rfl, rfl, rfl, rfl, trivial⟩ ⟨rfl, trivial⟩ rfl ?_;rintro n R ts bw ⟨j, dM, v, ae, rfl, oN, rfl, rfl, rfl⟩ dD;clear dD;have hO : ((jl V).take j).length = j := by rw [eI]; omega
  by_cases hs : j < D.length
  ·have s2 : dM < (D.length : Int) := by omega
   obtain ⟨a, b, g2⟩ : ∃ a b, V[j]? = some (a, b) := ⟨_, _, cl (by omega)⟩;obtain ⟨c, d, g3⟩ : ∃ a b, V[j + 1]? = some (a, b) := ⟨_, _, cl (by omega)⟩;have aM := PT (D := D) g2 g3 (by omega);rw [← oN] at aM
   have eX : pre ++ (jl V).take (j + 1) = (pre ++ (jl V).take j) ++ [((a, b), (c, d))] := by
    have h1 : j + 1 < V.length := by omega
    have h2 := aaO h1;rw [show V[j] = (a, b) from mY ((cl (by omega)).symm.trans g2), show V[j + 1] = (c, d) from mY ((cl (by omega)).symm.trans g3)] at h2;obtain ⟨aq, aK⟩ := bV.1 h2;rw [pi aq, aK, jo]
   have hlen : (pre ++ (jl V).take j).length ≤ 300 * 1100 + 1100 := by rw [dl, hO]; omega
   (repeat first | (with_reducible first | apply a7 | apply aQ | apply aY | apply aS | apply cL | apply dY) | (with_reducible apply cX); rfl; (exact bg (by omega)) | (with_reducible apply aN); rfl; (repeat first | (with_reducible apply ax); rfl | (with_reducible apply nk); (iterate 10 rfl) | refine cI rfl rfl rfl rfl (by (exact aM)) rfl ?_); (with_reducible apply ay));refine q0 0 rfl rfl rfl rfl ?q1 ?q2 rfl rfl (fun aW b8 => ?_)
   case q1 => exact li (by show (pre ++ (jl V).take j).length + 1 ≤ 1000000; omega)
   case q2 => show ((pre ++ (jl V).take j).length + 1) * 32 ≤ 140737488355328; omega
   (repeat first | (with_reducible first | apply aQ | apply aY | apply aS | apply fi) | (with_reducible apply aN); rfl; (repeat first | (with_reducible apply ax); rfl | (with_reducible apply dB); (iterate 3 rfl); (exact cp (by omega)); rfl); (with_reducible apply ay));exact ⟨D.length - (j + 1), bL 0 (sG aW (pre ++ (jl V).take (j + 1))), _, [(5, [.p (cA 2 V.length (bM V)), .p (cA 1 D.length (cB D))])], by omega, ⟨j + 1, dM + 1, aW, by omega, rfl, by omega, rfl, rfl, rfl⟩, by rw [eX, aaL]; exact og _ _ _, rfl, ⟨rfl, rfl, rfl, rfl, rfl, rfl, rfl, trivial⟩, ⟨rfl, trivial⟩, rfl⟩
  ·have s2 : ¬ dM < (D.length : Int) := by omega
   have lD : (jl V).take j = jl V := iy (by omega);rw [lD, ← cz];(repeat first | (with_reducible first | apply a7 | apply aQ | apply aY | apply aS | apply fi | apply fa | apply fc | apply fb) | (with_reducible apply cD); rfl; (exact bl (by omega)) | (with_reducible apply aN); rfl; (repeat first | (with_reducible apply ax); rfl | (with_reducible apply dB); (iterate 3 rfl); (exact cp (by omega)); rfl); (with_reducible apply ay));exact ⟨ch.length - (i + 1), bL 0 (sG v (bb (ch.take (i + 1)))), _, [], by omega, ⟨i + 1, ii + 1, v, by omega, rfl, by omega, rfl, rfl, rfl⟩, bH.refl _, rfl, ⟨rfl, rfl, rfl, rfl, trivial⟩, trivial, rfl⟩
 ·have q2 : ¬ ii < (ch.length : Int) := by omega
  have dn : ch.take i = ch := iy (by omega);rw [dn];(repeat first | (with_reducible first | apply a7 | apply aQ | apply aY | apply aS | apply cN | apply fa | apply fc | apply fb) | (with_reducible apply cD); rfl; (exact bl (by omega)) | (with_reducible apply aN); rfl; (repeat first | (with_reducible apply ax); rfl); (with_reducible apply ay))
  ((refine zm rfl (bG rfl bc) rfl rfl (jG _) ?_))
  exact ⟨rfl, rfl⟩
theorem aaM (l : List (an × an)) : uU (mS l) := .of fun y ag => by
 obtain ⟨x, _, aa⟩ := List.mem_flatMap.1 ag;simp only [xz, hf, rj, or_false] at aa;rcases aa with rfl | rfl | rfl | rfl <;> exact ⟨_, rfl⟩
theorem Ci {l : List (List an × List Int)} {i : Nat} {ii : Int} {V : List an} {D : List Int} (hi : ii = i) (h : l[i]? = some (V, D)) : (ii.toNat * 2 + 2 ≤ (ee l).length ∧ ((ee l).drop (ii.toNat * 2)).take 2 = [.p (cA 2 V.length (bM V)), .p (cA 1 D.length (cB D))]) ∧ (ee l)[ii.toNat * 2 + 1]? = some (.p (cA 1 D.length (cB D))) := by
 have h2 := yJ hi h
 have h1 : ii.toNat * 2 + 2 ≤ (ee l).length := by
  have := CL (f := pG) (z := 2) (fun _ => rfl) l;unfold ee;rw [this];have := (bV.1 h).1;omega
 refine ⟨⟨h1, h2⟩, ?_⟩;have aq : (((ee l).drop (ii.toNat * 2)).take 2)[1]? = some (.p (cA 1 D.length (cB D))) := by rw [h2]; rfl
 rw [gm (by decide), gF] at aq;exact aq
theorem Zu {l : List an} {i : Nat} {ii x y : Int} (hi : ii = i) (h : l[i]? = some (x, y)) : ii.toNat * 2 + 2 ≤ (bM l).length ∧ ((bM l).drop (ii.toNat * 2)).take 2 = [.c (.int .i64 x), .c (.int .i64 y)] := by
 have := (bV.1 h).1;refine ⟨by rw [lM]; omega, vK hi h⟩
section
variable {E : List (Int × cc)} {r rm : Nat}
def ki (ch : List (List an × List Int)) : Prop := ch.length ≤ 300 ∧ ∀ c ∈ ch, c.1.length = c.2.length + 1 ∧ c.1.length ≤ 1100
theorem N3 {s : bF.aX an} (hd : s.dirty = false) (au : s.fnd = []) : gn E r rm 130 [] s lV (fF s 4 0 0) := by
 obtain ⟨ph, I, J, T, dirty, hot, fnd, ch⟩ := s;obtain rfl : dirty = false := hd;obtain rfl : fnd = [] := au;rintro cs R ⟨hv, fv, cv, b, S, lk, hS, cY, gj, rfl, rfl⟩;have dp : (eM E r rm ph I J T false hv fv cv b lk).all AC.ba = true := by simp only [kA, nb, cY]; rfl
 have bI := H7 (E := E) (k := r) (rm := rm) (ph := ph) (I := I) (J := J) (T := T) (dirty := false) (hv := hv) (fv := fv) (cv := cv) (b := b) cY 4;refine dy (f := 130) Tryz.func130 rfl (dv rfl) (by exact eB rfl) ?_;(repeat first | (with_reducible first | apply a7 | apply aQ | apply aY | apply aS) | (with_reducible apply cX); rfl; (rfl) | (with_reducible apply aN); rfl; (repeat first | (with_reducible apply ax); rfl | (with_reducible apply de); (iterate 3 rfl)); (with_reducible apply ay));refine ku 1000 rfl rfl rfl rfl bI rfl rfl dp rfl rfl ?_;(repeat first | (with_reducible first | apply aQ | apply aS | apply cN | apply e7))
 ((refine eZ rfl bc rfl (bH.refl _) rfl rfl fw ?_))
 exact ⟨_, rfl, rfl, hv, fv, cv, b, S, .c (.slice none 0 0), hS, rfl, fun h => (by cases h), rfl, rfl⟩
theorem aae {s : bF.aX an} (hd : s.dirty = false) (au : s.fnd = []) (ak : ki s.ch) : gn E r rm 179 [] s lV (if (bb s.ch).length < 2 then fF s 4 0 0 else fF s 3 0 1) := by
 obtain ⟨ph, I, J, T, dirty, hot, fnd, ch⟩ := s;obtain rfl : dirty = false := hd;obtain rfl : fnd = [] := au;have ak : ki ch := ak;rintro cs R ⟨hv, fv, cv, b, S, lk, hS, cY, gj, rfl, rfl⟩;have dp : (eM E r rm ph I J T false hv fv cv b lk).all AC.ba = true := by simp only [kA, nb, cY]; rfl
 have aM := DD (E := E) (k := r) (rm := rm) (ph := ph) (I := I) (J := J) (T := T) (dirty := false) (hv := hv) (fv := fv) (cv := cv) (b := b) cY 3 1;have bI := Tq (ch := ch) ak.2 ak.1;have et := N3 (E := E) (r := r) (rm := rm) (s := ⟨3, 0, 1, 0, false, hot, [], ch⟩) rfl rfl;simp only;have MQ := aaM (bb ch);have cW := U2 ch;have hS : th rm hot (eb b) S := hS;generalize hK : bb ch = L at *
 by_cases h2 : L.length < 2
 ·rw [if_pos h2];have w8 : (1 : Int) ≥ (L.length : Int) := by omega
  refine dy (f := 179) Tryz.func179 rfl (dv rfl) (by exact eB rfl) ?_;(repeat first | (with_reducible first | apply a7 | apply aY) | (with_reducible apply aN); rfl; (repeat first | (with_reducible apply ax); rfl); (with_reducible apply ay));refine ku 1000 rfl rfl rfl rfl aM rfl rfl dp rfl rfl ?_;(repeat first | (with_reducible first | apply a7 | apply aQ | apply aY | apply aS) | (with_reducible apply aN); rfl; (repeat first | (with_reducible apply ax); rfl | (with_reducible apply de); (iterate 3 rfl)); (with_reducible apply ay));refine Nl 3 9 (by decide) rfl rfl rfl rfl bI rfl (jG _) (fun y ag => cC.1 cW y ag) rfl rfl (fun v q h => ?_) (fun q h => ?_)
  ·obtain ⟨rfl, h⟩ := h;rw [h]; exact ⟨rfl, MQ⟩
  obtain ⟨_, h⟩ := h;rw [h];(repeat first | (with_reducible apply cZ); kernel_rfl | (with_reducible apply cb (id := 2) [0,1,2,3,4,5,6,7,8,9,10]); kernel_rfl; kernel_rfl; rfl | (with_reducible first | apply a7 | apply aQ | apply aY | apply aS) | (with_reducible apply cX); rfl; (exact bg (by omega)) | (with_reducible apply aN); rfl; (repeat first | (with_reducible apply ax); rfl | (with_reducible apply de); (iterate 3 rfl) | (with_reducible apply cx); (iterate 3 rfl)); (with_reducible apply ay));refine ir rfl rfl rfl rfl rfl rfl rfl rfl et ⟨hv, fv, cv, b, S, .p (cA 4 L.length (mS L)), hS, rfl, fun _ => by rw [hK], rfl, rfl⟩ (fun ar aB cn => ?_);(repeat first | with_reducible apply aS);obtain ⟨b8, df, c7, bT, dm, hb, fC, hq, iI, rfl, rfl⟩ := id cn
  ((refine eZ rfl bc rfl (bH.refl _) cn.closed rfl fw ?_))
  exact ⟨_, rfl, rfl, cn⟩
 ·rw [if_neg h2];have w8 : ¬ (1 : Int) ≥ (L.length : Int) := by omega
  refine dy (f := 179) Tryz.func179 rfl (dv rfl) (by exact eB rfl) ?_;(repeat first | (with_reducible first | apply a7 | apply aY) | (with_reducible apply aN); rfl; (repeat first | (with_reducible apply ax); rfl); (with_reducible apply ay));refine ku 1000 rfl rfl rfl rfl aM rfl rfl dp rfl rfl ?_;(repeat first | (with_reducible first | apply a7 | apply aQ | apply aY | apply aS) | (with_reducible apply aN); rfl; (repeat first | (with_reducible apply ax); rfl | (with_reducible apply de); (iterate 3 rfl)); (with_reducible apply ay));refine Nl 3 9 (by decide) rfl rfl rfl rfl bI rfl (jG _) (fun y ag => cC.1 cW y ag) rfl rfl (fun v q h => ?_) (fun q h => ?_)
  ·obtain ⟨rfl, h⟩ := h;rw [h]; exact ⟨rfl, MQ⟩
  obtain ⟨_, h⟩ := h;rw [h];(repeat first | (with_reducible apply cZ); kernel_rfl | (with_reducible apply cb (id := 2) [0,1,2,3,4,5,6,7,8,9,10]); kernel_rfl; kernel_rfl; rfl | (with_reducible first | apply a7 | apply aQ | apply aS | apply cL) | (with_reducible apply cD); rfl; (exact bl (by omega)) | (with_reducible apply aN); rfl; (repeat first | (with_reducible apply ax); rfl | (with_reducible apply de); (iterate 3 rfl) | (with_reducible apply cx); (iterate 3 rfl)); (with_reducible apply ay))
  ((refine eZ rfl bc rfl (bH.refl _) rfl rfl fw ?_))
  exact ⟨_, rfl, rfl, hv, fv, cv, b, S, .p (cA 4 L.length (mS L)), hS, rfl, fun _ => by show _ = AC.p (cA 4 (bb ch).length (mS (bb ch))); rw [hK], rfl, rfl⟩
def Tg (E : List (Int × cc)) (r rm : Nat) (s : bF.aX an) (hv fv cv : Value) (b : Nat) (S : fm) (lk : AC) (n : Nat) (R : aJ) (ts : List (Nat × ai)) (bw : List (Nat × List AC)) : Prop :=
 ∃ (I J : Nat), I < s.ch.length ∧ n = s.ch.length - I ∧ mv s = mv { s with I := I, J := J } ∧ J ≤ 1100 ∧ R = dR b S hv fv cv s.hot [] s.ch ∧ ts = [(0, rE), (2, .w (.one (.own 1000 1)))] ∧ bw = [(1000, eM E r rm s.ph I J s.T false hv fv cv b lk)]
theorem aeQ {s : bF.aX an} {I J : Nat} {V : List an} {D : List Int} (h : s.ch[I]? = some (V, D)) : mv ({ s with I := I, J := J } : bF.aX an) = if J + 1 < V.length then ({ s with I := I, J := J } : bF.aX an) else mv ({ s with I := I + 1, J := 0 } : bF.aX an) := by
 have ao := (bV.1 h).1;unfold mv;have e : s.ch.drop I = (V, D) :: s.ch.drop (I + 1) := by rw [mr ao, (bV.1 h).2]
 simp only [e, uM]
 by_cases ae : J + 1 < V.length
 ·rw [if_pos ae, if_pos ae]
 ·rw [if_neg ae, if_neg ae]; rfl
theorem aeR {s : bF.aX an} (h : s.ch.length ≤ s.I) : mv s = if (bb s.ch).length < 2 then fF s 4 0 0 else fF s 3 0 1 := by
 unfold mv;rw [List.drop_eq_nil_of_le h];rfl
theorem N4 {s : bF.aX an} (hd : s.dirty = false) (au : s.fnd = []) (ak : ki s.ch) (bu : s.I < s.ch.length) (kO : s.J ≤ 1100) (ht : s.ph = 2) : gn E r rm 124 [] s lV (mv s) := by
 rintro cs R ⟨hv, fv, cv, b, S, lk, hS, cY, gj, rfl, rfl⟩;rw [hd, au];have dp : ∀ I J : Int, (eM E r rm s.ph I J s.T false hv fv cv b lk).all AC.ba = true := fun I J => by simp only [kA, nb, cY]; rfl
 refine dy (f := 124) Tryz.func124 rfl (dv rfl) (by exact eB rfl) ?_;(repeat first | (with_reducible first | apply a7 | apply aQ | apply aY | apply aS | apply dY) | (with_reducible apply aN); rfl; (repeat first | (with_reducible apply ax); rfl | (with_reducible apply de); (iterate 3 rfl)); (with_reducible apply ay));refine kD 46 (Tg E r rm s hv fv cv b S lk) (s.ch.length - s.I) (dR b S hv fv cv s.hot [] s.ch) _ [(1000, eM E r rm s.ph s.I s.J s.T false hv fv cv b lk)] ⟨s.I, s.J, bu, rfl, rfl, kO, rfl, rfl, rfl⟩ (bH.refl _) rfl ⟨rfl, rfl, trivial⟩ ⟨rfl, trivial⟩ ?_ ?_
 ·cases lk <;> first | rfl | cases cY
 rintro n R ts bw ⟨I, J, Xt, rfl, HK, Xv, rfl, rfl, rfl⟩ dD;clear dD;obtain ⟨V, D, g1⟩ : ∃ V D, s.ch[I]? = some (V, D) := ⟨_, _, cl Xt⟩;obtain ⟨jU, iH⟩ := ak.2 _ (dJ g1);have hlen := ak.1;simp only at jU iH;obtain ⟨kj, nI⟩ := Ci (ii := (I : Int)) rfl g1;have zJ := aeQ (s := s) (J := J) g1;have c9 : (0 : Int) ≤ (I : Int) := by omega
 have q1 : (I : Int) < (s.ch.length : Int) := by omega
 have q2 : 0 < s.ch.length := by omega
 by_cases ae : J + 1 < V.length
 ·have ks : ¬ (J : Int) ≥ (D.length : Int) := by omega
  rw [if_pos ae] at zJ;(repeat first | (with_reducible apply cZ); kernel_rfl | (with_reducible apply cb (id := 1) [0,1,2,3,4,5,6,7,8,9,10,11,12,13,14,15,16]); kernel_rfl; kernel_rfl; rfl | (with_reducible first | apply a7 | apply aQ | apply fa | apply fc | apply fb) | (with_reducible apply cD); rfl; (exact bl (by omega)) | (with_reducible apply aN); rfl; (repeat first | (with_reducible apply ax); rfl | (with_reducible apply de); (iterate 3 rfl) | (with_reducible apply cx); (iterate 3 rfl)); (with_reducible apply ay) | (with_reducible apply e2 3); (iterate 4 rfl); (omega); (assumption); rfl; kernel_rfl; rfl | (with_reducible apply lL 3); (iterate 3 rfl); (assumption); kernel_rfl; rfl | (with_reducible apply gZ 3); (iterate 3 rfl); (assumption); assumption; rfl; kernel_rfl; rfl)
  ((refine eZ rfl bc rfl (bH.refl _) (dp _ _) rfl fw ?_))
  refine ⟨_, rfl, rfl, hv, fv, cv, b, S, lk, ?_⟩;rw [HK, zJ];exact ⟨hS, cY, gj, by rw [hd], by rw [au]⟩
 ·have ks : (J : Int) ≥ (D.length : Int) := by omega
  rw [if_neg ae] at zJ
  by_cases ao : I + 1 = s.ch.length
  ·have h4 : (I : Int) + 1 = (s.ch.length : Int) := by omega
   have et := aae (E := E) (r := r) (rm := rm) (s := { s with I := I + 1, J := 0 }) hd au ak;have Y2 := aeR (s := { s with I := I + 1, J := 0 }) (by show s.ch.length ≤ I + 1; omega);rw [← Y2] at et;(repeat first | (with_reducible apply cZ); kernel_rfl | (with_reducible apply cb (id := 1) [0,1,2,3,4,5,6,7,8,9,10,11,12,13,14,15,16]); kernel_rfl; kernel_rfl; rfl | (with_reducible apply cb (id := 3) [0,1,2,3,4,5,6,7,8,9]); kernel_rfl; kernel_rfl; rfl | (with_reducible first | apply a7 | apply aQ | apply aY | apply aS | apply cL | apply dY) | (with_reducible apply cX); rfl; (exact bg (by omega)) | (with_reducible apply aN); rfl; (repeat first | (with_reducible apply ax); rfl | (with_reducible apply de); (iterate 3 rfl) | (with_reducible apply dB); (iterate 3 rfl); (exact cp (by omega)); rfl | (with_reducible apply cx); (iterate 3 rfl)); (with_reducible apply ay) | (with_reducible apply fD 3); (iterate 4 rfl); kernel_rfl; rfl | (with_reducible apply e2 3); (iterate 4 rfl); (omega); (assumption); rfl; kernel_rfl; rfl | (with_reducible apply lL 3); (iterate 3 rfl); (assumption); kernel_rfl; rfl | (with_reducible apply gZ 3); (iterate 3 rfl); (assumption); assumption; rfl; kernel_rfl; rfl);refine ir rfl rfl rfl rfl rfl rfl rfl rfl et ⟨hv, fv, cv, b, S, lk, hS, cY, gj, by rw [hd]; rfl, by rw [au]⟩ (fun ar aB cn => ?_);(repeat first | (with_reducible first | apply aQ | apply aS | apply cN | apply e7 | apply iz));obtain ⟨b8, df, c7, bT, dm, hb, fC, hq, iI, rfl, rfl⟩ := id cn
   ((refine eZ rfl bc rfl (bH.refl _) cn.closed rfl fw ?_))
   refine ⟨_, rfl, rfl, ?_⟩;rw [HK, zJ];exact cn
  ·have h4 : ¬ (I : Int) + 1 = (s.ch.length : Int) := by omega
   (repeat first | (with_reducible apply cZ); kernel_rfl | (with_reducible apply cb (id := 1) [0,1,2,3,4,5,6,7,8,9,10,11,12,13,14,15,16]); kernel_rfl; kernel_rfl; rfl | (with_reducible apply cb (id := 3) [0,1,2,3,4,5,6,7,8,9]); kernel_rfl; kernel_rfl; rfl | (with_reducible first | apply a7 | apply aQ | apply aY | apply aS | apply cL | apply dY | apply fi) | (with_reducible apply cX); rfl; (exact bg (by omega)) | (with_reducible apply cD); rfl; (exact bl (by omega)) | (with_reducible apply aN); rfl; (repeat first | (with_reducible apply ax); rfl | (with_reducible apply de); (iterate 3 rfl) | (with_reducible apply dB); (iterate 3 rfl); (exact cp (by omega)); rfl | (with_reducible apply cx); (iterate 3 rfl)); (with_reducible apply ay) | (with_reducible apply fD 3); (iterate 4 rfl); kernel_rfl; rfl | (with_reducible apply e2 3); (iterate 4 rfl); (omega); (assumption); rfl; kernel_rfl; rfl | (with_reducible apply lL 3); (iterate 3 rfl); (assumption); kernel_rfl; rfl | (with_reducible apply gZ 3); (iterate 3 rfl); (assumption); assumption; rfl; kernel_rfl; rfl);refine ⟨s.ch.length - (I + 1), dR b S hv fv cv s.hot [] s.ch, _, [(1000, eM E r rm s.ph (I + 1 : Nat) (0 : Nat) s.T false hv fv cv b lk)], by omega, ⟨I + 1, 0, by omega, rfl, by rw [HK, zJ], by omega, rfl, rfl, rfl⟩, bH.refl _, rfl, ⟨rfl, rfl, trivial⟩, ⟨rfl, trivial⟩, ?_⟩;cases lk <;> first | rfl | cases cY
end
end Go.Proofs.YtpochbhajmbfdaaGreat
