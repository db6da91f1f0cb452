/-
  My own texts, without what this claim does not need. My own text.
-/
import Derived.Test.YtlfkllmnekdghaaProg
import Derived.ProofKit
import Derived.Laws.StructEq
import Derived.Laws.Slices
import Derived.Deep.RegionHeld3
import Derived.StillTail
import Derived.WalkKit
import Derived.WalkSpells
import Derived.Lib.Hide
import Derived.BigQuiet
import Derived.BigGuardPart
import Derived.Deep.QuietTactic
import Derived.OwnWalk
import Derived.Laws.OwnMore
import Derived.Maps.AppendAt
import Derived.IntWalk
import Derived.Deep.DrawnRows
import Derived.Deep.LoopGhost
import Derived.Lib.ItoaNum
import Derived.Deep.DeepCutAuto
import Derived.Deep.CutBlock
import Derived.RegionTactic
import Derived.Test.YtlfkllmnekdghaaRows
import Derived.Test.YtlfkllmnekdghaaInpMvSK2
namespace Go.Proofs.Ytlfkllmnekdghaa
open Go.RowKit
set_option linter.unusedVariables false
set_option linter.unusedSimpArgs false
/-- how a round may end. -/
def rgOk (ts : List (Nat × AV)) (ks : List Nat) (I : Rws → List (List AC) → Prop) (R' : Rws) (s' : AS) : Prop :=
  ∃ R'' css, I R'' css ∧ RLe R'' R' ∧ PlainR R'' ∧ css.length = ks.length ∧ allT s'.mem (ks.zip css) ∧ okB ts (ks.zip css) = true
def rgQ (ts : List (Nat × AV)) (ks : List Nat) (In : Rws → List (List AC) → Prop) (Ix : Exit → Rws → List (List AC) → Prop) : Exit → Rws → AS → Prop
  | .normal, R', s' => rgOk ts ks In R' s'
  | .ret, R', s' => rgOk ts ks (Ix .ret) R' s'
  | .exit id, R', s' => rgOk ts ks (Ix (.exit id)) R' s'
  | _, _, _ => False
def exC : Exit → Option Code
  | .ret => some .ret
  | .exit id => some (.exit id)
  | _ => none
def rdL (fn : FuncId) (tm : Array Value) (ps : Array Tmp) (assign body : Code) (D : Nat) (st : LoopState) (pe : Option Code) : Loop := { state := st, pending := pe, fn, tmps := tm, params := ps, assign, body, defers := D }
theorem setL_fold (ps : List Nat) (v : Array Value) (tm : Array Value) : (ps.toArray.zip v).foldl (fun t (p, u) => t.setIfInBounds p u) tm = setL tm (ps.zip v.toList) := by
  unfold setL
  rw [← Array.foldl_toList, Array.toList_zip]
section
variable {P : Program} {B0 : Base} {A0 A : Nat → Prop} {R : Rws} {s : AS} {a : Act} {w W : World} {ρ : Nat → Nat} {N : Nat} {ts : List (Nat × AV)}
variable {ks : List Nat} {ρ0 : Nat → Nat} {W1 : World} {C0 U C : Nat → Prop} {D l : Nat} {Iq In : Rws → List (List AC) → Prop} {Ix : Exit → Rws → List (List AC) → Prop} {css : List (List AC)} {fn : FuncId} {ps : List Nat} {assign body : Code} {x : List AV} {v : Array Value}
theorem Jc.notH {rd : Loop} (h : Jc B0 A0 N ts ks a ρ0 W1 C0 U D l rd Iq C W R css A ρ) {b : Nat} {o : Obj} (hb : W.heap[b]? = some o) (hne : ∀ vs ty, o ≠ .cells vs ty (0, 0)) : ¬ hotS (mkS N ts (ks.zip css)) ρ R b := by
  rintro (⟨k, cs, hk, rfl⟩ | ⟨i, r, hi', hg⟩)
  · obtain ⟨vs, ty, e⟩ := h.rr.own_cells hk
    rw [hb] at e; cases e; exact hne _ _ rfl
  · obtain ⟨vs, ty, e⟩ := h.rr.row_cells hi' (h.pl i r hi') hg
    rw [hb] at e; cases e; exact hne _ _ rfl
theorem round_ok {ms : List (Nat × List AC)} (hok : okB ts ms = true) (hx : x.all AV.closedB = true) : (mkS N (ps.zip x ++ ts) ms).Ok := by
  have h0 := mkS_ok (n := N) hok
  refine ⟨fun t av j ht hj => ?_, h0.mm⟩
  rcases List.mem_append.1 (lkp_mem _ ht) with hm | hm
  · exact absurd hj (AV.closed_of (List.all_eq_true.1 hx _ (List.of_mem_zip hm).2) j)
  · have h1 : okB [(t, av)] ms = true := by
      unfold okB at hok ⊢
      rw [Bool.and_eq_true] at hok ⊢
      refine ⟨?_, hok.2⟩
      rw [List.all_cons, List.all_nil, Bool.and_true]
      exact List.all_eq_true.1 hok.1 _ hm
    exact (mkS_ok (n := N) h1).tm t av j (by simp [mkS, lkp]) hj
theorem yield_round (hks : ∀ k ∈ ks, N ≤ k) (h : Jc B0 A0 N ts ks a ρ0 W1 C0 U D l (rdL fn a.tmps ps.toArray assign body D .ready none) Iq C W R css A ρ) (hnl : ¬ B0.F l) (nd : ps.Nodup) (h1 : x.length = ps.length) (hp : ∀ p ∈ ps, p < N ∧ lkp ts p = none)
    (hx : RpVs U id W1 x v.toList) (hxc : x.all AV.closedB = true) (hUC : ∀ b, U b → ¬ C0 b) (hC0 : ∀ k ∈ ks, C0 (ρ0 k))
    (hrun : RWp P assign (rthen (fun R1 s1 => RWp P body (rgQ ts ks In Ix) R1 s1) (fun _ _ _ => False)) R (mkS N (ps.zip x ++ ts) (ks.zip css))) :
    YieldAt Fence.wide 0 P l v W fun e W' => Grew C W W' ∧ ((e = .returned (.bool true) ∧ JJ B0 A0 N ts ks a ρ0 W1 C0 U D l (rdL fn a.tmps ps.toArray assign body D .ready none) In (extC C W W') W') ∨
      (e = .returned (.bool false) ∧ ∃ e' c, exC e' = some c ∧ JJ B0 A0 N ts ks a ρ0 W1 C0 U D l (rdL fn a.tmps ps.toArray assign body D .done (some c)) (Ix e') (extC C W W') W')) := by
  have hlen : x.length = v.toList.length := hx.1
  have hy := run_yield (P := P) (args := v) h.hl (by have hl' : v.toList.length = v.size := Array.length_toList; show v.size = ps.toArray.size; rw [show ps.toArray.size = ps.length from List.size_toArray ..]; omega)
  simp only [rdL, setL_fold] at hy
  refine ⟨fn, _, assign, body, hy, ?_⟩
  clear hy
  have hllt := h.clt l h.cl
  have hlH := h.notH h.hl (fun _ _ e => by cases e)
  have hFl : (rgB N (mkS N ts (ks.zip css)) ρ R W).F l := ⟨hllt, hlH⟩
  have hAl : ¬ rgA A R W l := by
    rintro (hb | ⟨i, r, hi', hg⟩ | hb)
    · exact h.nl hb
    · exact hlH (.inr ⟨i, r, hi', hg⟩)
    · omega
  have hxW : ∀ (i : Nat) y u, x[i]? = some y → v.toList[i]? = some u → RpV ((mkS N ts (ks.zip css)).free A ρ) ρ W y u := fun i y u hy hu =>
    (hx.2 i y u hy hu).map (fun b hb hlt => ⟨⟨h.uA b hb hlt, fun k cs hk => by
      have hkk := zip_key hk
      rw [h.rho k (hks k hkk)]
      exact fun e => hUC b hb (e ▸ hC0 k hkk)⟩, h.same b hlt (hUC b hb)⟩) fun j hj => absurd hj (AV.closed_of (List.all_eq_true.1 hxc y (List.mem_of_getElem? hy)) j)
  have hA := hrun (round_ok h.ok hxc) (rgB N (mkS N ts (ks.zip css)) ρ R W) (rgA A R W) { tmps := setL a.tmps (ps.zip v.toList), defers := [] } W ⟨A, ρ, rr_enter h.rr nd h1.symm hlen hp hxW⟩ (some l)
  refine roundIn_of_wpIn (F := Fence.wide) (n := 0) trivial (wpIn_mono hA ?_)
  rintro e a1 w1 ⟨R1, s1, ok1, ⟨A1, ρ1, hr1⟩, hq⟩
  cases e with
  | normal =>
    have hl1 : w1.heap[l]? = some (.loop (rdL fn a.tmps ps.toArray assign body D .ready none)) := (hr1.below.block l hFl).trans h.hl
    refine ⟨_, run_beginRound hl1 rfl, ?_⟩
    have hB := hq ok1 _ _ a1 _ ⟨A1, ρ1, hr1.putObj l (.loop { rdL fn a.tmps ps.toArray assign body D .ready none with state := .busy }) hFl hAl⟩ (some l)
    refine wpIn_mono hB ?_
    rintro e a2 w2 ⟨R2, s2, ok2, ⟨A2, ρ2, hr2⟩, hq2⟩
    have hl2 : w2.heap[l]? = some (.loop { rdL fn a.tmps ps.toArray assign body D .ready none with state := .busy }) := (hr2.below.block l hFl).trans (World.putObj_heap_same hllt)
    have hl2lt : l < w2.heap.size := (Array.getElem?_eq_some_iff.1 hl2).1
    have back : ∀ (o : Obj) (rd' : Loop) (I' : Rws → List (List AC) → Prop), o = .loop rd' → rgOk ts ks I' R2 s2 → Grew C W (w2.putObj l o) ∧ JJ B0 A0 N ts ks a ρ0 W1 C0 U D l rd' I' (extC C W (w2.putObj l o)) (w2.putObj l o) := by
      rintro o rd' I' rfl ⟨R'', css', hi, hle, hpl, hlen', hm, hok⟩
      obtain ⟨jc, gr⟩ := jc_back hks h hnl (fun b => Iff.rfl) (fun k hk => by simp only [rgB]; rw [if_pos hk]) (fun b hb => (World.putObj_heap_other hb).trans (World.putObj_heap_other hb)) (by rw [World.putObj_size, World.putObj_size]; rfl) ⟨rfl, rfl, rfl⟩ (hr2.putObj l (.loop rd') hFl hAl) hi hle hpl hlen' hm hok (World.putObj_heap_same hl2lt)
      exact ⟨gr, R'', css', _, _, jc⟩
    cases e with
    | normal =>
      have hr := run_endRound (P := P) none hl2
      obtain ⟨gr, jj⟩ := back _ (rdL fn a.tmps ps.toArray assign body D .ready none) In rfl hq2
      exact ⟨_, _, hr, gr, .inl ⟨rfl, jj⟩⟩
    | ret =>
      have hr := run_endRound (P := P) (some .ret) hl2
      obtain ⟨gr, jj⟩ := back _ (rdL fn a.tmps ps.toArray assign body D .done (some .ret)) (Ix .ret) rfl hq2
      exact ⟨_, _, hr, gr, .inr ⟨rfl, .ret, .ret, rfl, jj⟩⟩
    | exit id =>
      have hr := run_endRound (P := P) (some (.exit id)) hl2
      obtain ⟨gr, jj⟩ := back _ (rdL fn a.tmps ps.toArray assign body D .done (some (.exit id))) (Ix (.exit id)) rfl hq2
      exact ⟨_, _, hr, gr, .inr ⟨rfl, .exit id, .exit id, rfl, jj⟩⟩
    | _ => exact hq2.elim
  | _ => exact hq.elim
/-- in another world, that has grown. -/
theorem rr_grow {WB : World} (h : RR B0 A0 R s a W A ρ) (e1 : WB.os = W.os) (e2 : WB.tape = W.tape) (e3 : WB.output = W.output) (hs : W.heap.size ≤ WB.heap.size) (hsame : ∀ b, b < W.heap.size → WB.heap[b]? = W.heap[b]?) : RR B0 A0 R s a WB (fun b => (A b ∧ b < W.heap.size) ∨ WB.heap.size ≤ b) ρ := by
  have hbA := h.below.size
  refine ⟨h.up, ?_, h.rel.anew (fun b hb hl => ⟨.inl ⟨hb, hl⟩, hsame b hl⟩) (fun k cs hk => ⟨hsame _ (h.rel.lt hk), fun hf => hf.2 k cs hk rfl⟩) (BelowB.refl _) (fun b hb => .inr hb) (hbase_anch _ _ _), h.mine, ⟨e1.trans h.below.os, e2.trans h.below.tape, e3.trans h.below.output, Nat.le_trans hbA hs, fun b hb => ?_⟩, fun i r hi => ?_, h.apart, h.hot, h.anch⟩
  · rintro b (hb | hb)
    · exact h.sub b hb.1
    · exact h.up b (by omega)
  · exact (hsame b (by have := B0.lt b hb; omega)).trans (h.below.block b hb)
  · obtain ⟨k0, kc, kg⟩ := h.rows i r hi
    refine ⟨k0.kept kc (fun g hg => hsame g (k0.lt hg)) hs fun b hb hl => ⟨⟨.inl ⟨hb.1, hl⟩, hb.2⟩, hsame b hl⟩, kc, fun g hg => ⟨?_, (kg g hg).2⟩⟩
    rintro (hb | hb)
    · exact (kg g hg).1 hb.1
    · have := k0.lt hg; omega
/-- behind the statement: the mark is among the deferred calls. -/
theorem rr_done {rd : Loop} {Ds : List Nat} (jc : Jc B0 A0 N ts ks a ρ0 W1 C0 U D l rd Iq C W R css A ρ) (hmk : Mk B0 A0 Ds) (hD0 : B0.W.heap.size ≤ D) (hnl : ¬ B0.F l) (o : Obj) :
    ∃ B' A', Mk B' A' (D :: Ds) ∧ Ext B0 A0 Ds B' A' (D :: Ds) ∧ RRel B' A' R (mkS N ts (ks.zip css)) { a with defers := mkD D :: a.defers } (W.putObj l o) := by
  have hDl : D ≠ l := fun e => by have := jc.hD; rw [e, jc.hl] at this; cases this
  have hDH := jc.notH jc.hD (fun _ _ e => by cases e)
  have hlH := jc.notH jc.hl (fun _ _ e => by cases e)
  have hDlt := jc.clt D jc.cD
  have hrow : ∀ i r g, R i = some r → r.own g → g ≠ D ∧ g ≠ l := fun i r g hi hg => ⟨fun e => hDH (.inr ⟨i, r, hi, e ▸ hg⟩), fun e => hlH (.inr ⟨i, r, hi, e ▸ hg⟩)⟩
  have hown : ∀ k cs, (mkS N ts (ks.zip css)).mem k = some cs → ρ k ≠ D ∧ ρ k ≠ l := fun k cs hk => ⟨fun e => hDH (.inl ⟨k, cs, hk, e⟩), fun e => hlH (.inl ⟨k, cs, hk, e⟩)⟩
  have hnD : ∀ b, B0.F b → b ≠ D := fun b hb e => by have := B0.lt b hb; omega
  have hFl : ∀ b, B0.F b → b ≠ l := fun b hb e => hnl (e ▸ hb)
  have h1 : Rel (hbase B0 (mkS N ts (ks.zip css)) ρ (W.putObj l o)) A (mkS N ts (ks.zip css)) ρ a (W.putObj l o) :=
    jc.rr.rel.anew (fun b hb _ => ⟨hb, World.putObj_heap_other fun e => jc.nl (e ▸ hb)⟩) (fun k cs hk => ⟨World.putObj_heap_other (hown k cs hk).2, fun hf => hf.2 k cs hk rfl⟩) (BelowB.refl _) (fun b hb => jc.rr.rel.up b (by rw [show (hbase B0 (mkS N ts (ks.zip css)) ρ (W.putObj l o)).W.heap.size = W.heap.size from World.putObj_size] at hb; exact hb)) (hbase_anch _ _ _)
  have hbel : BelowB B0 (W.putObj l o) := ⟨jc.rr.below.os, jc.rr.below.tape, jc.rr.below.output, by rw [World.putObj_size]; exact jc.rr.below.size, fun b hb => (World.putObj_heap_other (hFl b hb)).trans (jc.rr.below.block b hb)⟩
  refine ⟨⟨W.putObj l o, fun b => B0.F b ∨ b = D, ?_, B0.N, mkD D :: B0.marks⟩, fun b => A0 b ∧ b ≠ D, ⟨?_, ?_, ?_, hmk.nn⟩, ⟨hbel, fun b hb => .inl hb, fun b hb => hb.1, ?_⟩, A, ρ, ⟨?_, ?_, ?_, ?_, BelowB.refl _, ?_, jc.rr.apart, ?_, jc.rr.anch⟩⟩
  · rintro b (hb | rfl)
    · rw [World.putObj_size]; exact Nat.lt_of_lt_of_le (B0.lt b hb) jc.rr.below.size
    · rw [World.putObj_size]; exact hDlt
  · show mkD D :: B0.marks = mkD D :: Ds.map mkD
    rw [hmk.eq]
  · exact List.nodup_cons.2 ⟨fun hd => hnD D (hmk.blk D hd).1 rfl, hmk.nd⟩
  · intro E hE
    rcases List.mem_cons.1 hE with rfl | hE
    · exact ⟨.inr rfl, fun h => h.2 rfl, (World.putObj_heap_other hDl).trans jc.hD⟩
    · obtain ⟨q1, q2, q3⟩ := hmk.blk E hE
      exact ⟨.inl q1, fun h => q2 h.1, (hbel.block E q1).trans q3⟩
  · intro E hE
    rcases List.mem_cons.1 hE with rfl | hE
    · exact .inr fun hf => hnD _ hf rfl
    · exact .inl hE
  · intro b hb
    have hb' : W.heap.size ≤ b := by rw [← World.putObj_size (w := W) (r := l) (o := o)]; exact hb
    exact ⟨jc.rr.up b (Nat.le_trans jc.rr.below.size hb'), by omega⟩
  · exact fun b hb => ⟨jc.rr.sub b hb, fun e => jc.nD (e ▸ hb)⟩
  · exact ⟨by show mkD D :: a.defers = mkD D :: B0.marks; rw [show a.defers = B0.marks from h1.nodef], h1.size, h1.tm, h1.mm, h1.inj, BelowB.refl _, h1.up, hbase_anch _ _ _⟩
  · rintro k cs hk (hf | hf)
    · exact jc.rr.mine k cs hk hf
    · exact (hown k cs hk).1 hf
  · intro i r hi
    obtain ⟨k0, kc, kg⟩ := jc.rr.rows i r hi
    exact ⟨k0.kept kc (fun g hg => World.putObj_heap_other (hrow i r g hi hg).2) (by rw [World.putObj_size]; exact Nat.le_refl _) fun b hb _ => ⟨hb, World.putObj_heap_other fun e => jc.nl (e ▸ hb.1)⟩, kc, kg⟩
  · intro i r g hi hg
    obtain ⟨q1, q2⟩ := jc.rr.hot i r g hi hg
    exact ⟨fun hf => hf.elim q1 fun e => (hrow i r g hi hg).1 e, q2, (hrow i r g hi hg).1⟩
/-- the statement, at a function's own level: the record and the block of deferred calls are laid. -/
theorem range_top {g : Operand} {pa : Array Tmp} {Q : Exit → Act → World → Prop} (h : ∀ fn, ∃ gf lb, a.eval g = .func (.func gf) #[] lb ∧ (∀ args w, (callFunc gf args).run P w = .ok (.enter gf args) w) ∧
    CallsIn Fence.wide 0 P gf (#[.func (.yield (w.heap.size + 1)) #[] #[]] ++ lb) ((w.alloc (.deferred (some []))).alloc (.loop (rdL fn a.tmps pa assign body w.heap.size .ready none))) (rangePost Fence.wide 0 P (w.heap.size + 1) Q { a with defers := [mkD w.heap.size] ++ a.defers })) :
    (Code.rangeFunc g pa assign body).wp P Q a w := by
  refine (wpIn_wide (n := 0)).1 (wpIn_rangeFunc ?_)
  intro fn _
  obtain ⟨gf, lb, e1, e2, h⟩ := h fn
  refine ⟨w.heap.size + 1, [mkD w.heap.size], (w.alloc (.deferred (some []))).alloc (.loop (rdL fn a.tmps pa assign body w.heap.size .ready none)), { target := .fn (.func gf) lb, args := #[.func (.yield (w.heap.size + 1)) #[] #[]] }, (w.alloc (.deferred (some []))).alloc (.loop (rdL fn a.tmps pa assign body w.heap.size .ready none)), gf, #[.func (.yield (w.heap.size + 1)) #[] #[]] ++ lb, (w.alloc (.deferred (some []))).alloc (.loop (rdL fn a.tmps pa assign body w.heap.size .ready none)), ?a1, ?a2, ?a3, ?a4, ?a5, ?a6⟩
  case a1 => exact run_enterLoop_outer _ _ _ _ _
  case a2 => (simp only [resolve, e1]; simp [go_sem])
  case a3 => exact fun _ _ => trivial
  case a4 => (simp [invoke, go_sem, e2])
  case a5 => exact fun h => by simp [Fence.wide] at h
  case a6 => exact h
set_option maxHeartbeats 2000000 in
/-- the statement. -/
theorem rwt_range {Q : Exit → Rws → AS → Prop} {g : Operand} {S : SP} {xs : List (List AV)} (N : Nat) (ts : List (Nat × AV)) (ks : List Nat) (css0 : List (List AC)) (R0 : Rws) (I : Nat → Rws → List (List AC) → Prop) (Ix : Exit → Rws → List (List AC) → Prop)
    (hg : s.look g = some (.w (.one (.p S)))) (hseq : ISeq P S xs) (nd : ps.Nodup) (hxs : ∀ x ∈ xs, x.length = ps.length ∧ x.all AV.closedB = true) (hp : ∀ p ∈ ps, p < N ∧ lkp ts p = none)
    (hn : N = s.n) (ht : allT s.tmps ts) (hm : allT s.mem (ks.zip css0)) (hks : ∀ k ∈ ks, N ≤ k) (hl0 : css0.length = ks.length) (hok : okB ts (ks.zip css0) = true) (hI : I 0 R0 css0) (hRl : RLe R0 R) (hpl : PlainR R0)
    (round : ∀ (i : Nat) x R css, xs[i]? = some x → I i R css → okB ts (ks.zip css) = true → RWp P assign (rthen (fun R1 s1 => RWp P body (rgQ ts ks (I (i + 1)) Ix) R1 s1) (fun _ _ _ => False)) R (mkS N (ps.zip x ++ ts) (ks.zip css)))
    (done : ∀ R css, I xs.length R css → okB ts (ks.zip css) = true → Q .normal R (mkS N ts (ks.zip css)))
    (stop : ∀ e c R css, exC e = some c → Ix e R css → okB ts (ks.zip css) = true → Q e R (mkS N ts (ks.zip css))) : RWt P (.rangeFunc g ps.toArray assign body) Q R s := by
  intro ok B0 A0 a w Ds hmk ⟨A, ρ, hR⟩
  have hR' : RR B0 A0 R0 (mkS N ts (ks.zip css0)) a w A ρ := (hR.le hRl).les (mkS_le hn ht hm)
  have hfv : RpC (s.free A ρ) ρ w (.p S) (a.eval g) := hR.rel.look hg
  have hB0w := hR.below.size
  refine range_top fun fn => ?_
  obtain ⟨W1, hW1⟩ : ∃ W1, (w.alloc (.deferred (some []))).alloc (.loop (rdL fn a.tmps ps.toArray assign body w.heap.size .ready none)) = W1 := ⟨_, rfl⟩
  have hs1 : W1.heap.size = w.heap.size + 1 + 1 := by rw [← hW1]; simp
  have hsame1 : ∀ b, b < w.heap.size → W1.heap[b]? = w.heap[b]? := fun b hb => by rw [← hW1]; exact (Below.heap_alloc _ _ _ (by simp; omega)).trans (Below.heap_alloc _ _ _ hb)
  have hos1 : W1.os = w.os ∧ W1.tape = w.tape ∧ W1.output = w.output := by rw [← hW1]; exact ⟨rfl, rfl, rfl⟩
  have hL1 : W1.heap[w.heap.size + 1]? = some (.loop (rdL fn a.tmps ps.toArray assign body w.heap.size .ready none)) := by
    rw [← hW1]; have := World.alloc_heap_new (w.alloc (.deferred (some []))) (.loop (rdL fn a.tmps ps.toArray assign body w.heap.size .ready none)); rwa [World.size_alloc] at this
  have hK1 : W1.heap[w.heap.size]? = some (.deferred (some [])) := by
    rw [← hW1]; exact (Below.heap_alloc _ _ _ (by simp)).trans (World.alloc_heap_new w _)
  have hg1 := rr_grow hR' hos1.1 hos1.2.1 hos1.2.2 (by omega) hsame1
  have hnl : ¬ B0.F (w.heap.size + 1) := fun hf => by have := B0.lt _ hf; omega
  have hfv1 : RpC (fun b => (A b ∧ b < w.heap.size) ∧ ¬ hotS (mkS N ts (ks.zip css0)) ρ R0 b) id W1 (.p S) (a.eval g) := hfv.map (fun b hb hl => ⟨⟨⟨hb.1, hl⟩, ?_⟩, hsame1 b hl⟩) fun j hj => (by cases hj)
  · obtain ⟨gf, lb, e1, e2, hcon⟩ := hseq _ W1 _ hfv1
    have hcall := hcon (w.heap.size + 1) (fun b => hotS (mkS N ts (ks.zip css0)) ρ R0 b ∨ b = w.heap.size ∨ b = w.heap.size + 1)
      (fun i => JJ B0 A0 N ts ks a ρ W1 (fun b => hotS (mkS N ts (ks.zip css0)) ρ R0 b ∨ b = w.heap.size ∨ b = w.heap.size + 1) (fun b => (A b ∧ b < w.heap.size) ∧ ¬ hotS (mkS N ts (ks.zip css0)) ρ R0 b) w.heap.size (w.heap.size + 1) (rdL fn a.tmps ps.toArray assign body w.heap.size .ready none) (I i))
      (fun C W => ∃ e' c, exC e' = some c ∧ JJ B0 A0 N ts ks a ρ W1 (fun b => hotS (mkS N ts (ks.zip css0)) ρ R0 b ∨ b = w.heap.size ∨ b = w.heap.size + 1) (fun b => (A b ∧ b < w.heap.size) ∧ ¬ hotS (mkS N ts (ks.zip css0)) ρ R0 b) w.heap.size (w.heap.size + 1) (rdL fn a.tmps ps.toArray assign body w.heap.size .done (some c)) (Ix e') C W)
      ?c0 (fun i => jj_abd hks) ?ax ?rd ?j0
    case c0 =>
      rintro b (hb | rfl | rfl)
      · refine ⟨fun h => h.2 hb, ?_⟩
        rcases hb with ⟨k, cs, hk, rfl⟩ | ⟨i, r, hi, hg'⟩
        · have := hR'.rel.lt hk; omega
        · have := (hR'.rows i r hi).ok.lt hg'; omega
      · exact ⟨fun h => by have := h.1.2; omega, by omega⟩
      · exact ⟨fun h => by have := h.1.2; omega, by omega⟩
    case ax =>
      rintro C WA WB ⟨e', c, he, hj⟩ q1 q2 q3 q4 q5
      exact ⟨e', c, he, jj_abd hks C WA WB hj q1 q2 q3 q4 q5⟩
    case rd =>
      rintro i C Wi x v ⟨Ri, cssi, Ai, ρi, jc⟩ _ hx hv
      obtain ⟨x1, x2⟩ := hxs x (List.mem_of_getElem? hx)
      exact yield_round hks jc hnl nd x1 hp hv x2 (fun b hb hc => by
        rcases hc with hc | rfl | rfl
        · exact hb.2 hc
        · exact Nat.lt_irrefl _ hb.1.2
        · have := hb.1.2; omega) (fun k hk => by
        obtain ⟨cs, h0⟩ := lkp_zip hl0 hk
        exact .inl (.inl ⟨k, cs, h0, rfl⟩)) (round i x Ri cssi hx jc.iq jc.ok)
    case j0 =>
      refine ⟨R0, css0, _, ρ, hI, hok, hl0, hpl, hg1, fun _ _ => rfl, ?_, ?_, hK1, hL1, fun k hk => ?_, fun i r g hi hg' => .inl (.inr ⟨i, r, hi, hg'⟩), .inr (.inl rfl), .inr (.inr rfl), fun b hb => .inl hb, ?_, fun b hb hl => .inl hl, fun b hb hl => .inl hb.1, fun _ _ _ => rfl, Nat.le_refl _, by omega⟩
      · rintro (hb | hb) <;> omega
      · rintro (hb | hb) <;> omega
      · obtain ⟨cs, h0⟩ := lkp_zip hl0 hk
        exact .inl (.inl ⟨k, cs, h0, rfl⟩)
      · rintro b (hb | rfl | rfl)
        · rcases hb with ⟨k, cs, hk, rfl⟩ | ⟨i, r, hi, hg'⟩
          · have := hR'.rel.lt hk; omega
          · have := (hR'.rows i r hi).ok.lt hg'; omega
        · omega
        · omega
    rw [hW1]
    refine ⟨gf, lb, e1, e2, CallsIn.mono hcall ?_⟩
    · rintro e W2 ⟨⟨v, rfl⟩, C', ⟨R2, css2, A2, ρ2, jc⟩ | ⟨e', c, he, R2, css2, A2, ρ2, jc⟩⟩
      · have hend := run_endLoop (P := P) jc.hl (by simp [rdL])
        obtain ⟨B', A', h1, h2, h3⟩ := rr_done jc hmk hB0w hnl (.loop { rdL fn a.tmps ps.toArray assign body w.heap.size .ready none with state := .exhausted })
        exact ⟨none, _, hend, R2, _, B', A', _, mkS_ok jc.ok, h1, h2, h3, done R2 css2 jc.iq jc.ok⟩
      · have hend := run_endLoop (P := P) jc.hl (by simp [rdL])
        obtain ⟨B', A', h1, h2, h3⟩ := rr_done jc hmk hB0w hnl (.loop { rdL fn a.tmps ps.toArray assign body w.heap.size .done (some c) with state := .exhausted })
        have hq : ∃ R' s' B' A' Ds', s'.Ok ∧ Mk B' A' Ds' ∧ Ext B0 A0 Ds B' A' Ds' ∧ RRel B' A' R' s' { a with defers := mkD w.heap.size :: a.defers } (W2.putObj (w.heap.size + 1) (.loop { rdL fn a.tmps ps.toArray assign body w.heap.size .done (some c) with state := .exhausted })) ∧ Q e' R' s' := ⟨R2, _, B', A', _, mkS_ok jc.ok, h1, h2, h3, stop e' c R2 css2 he jc.iq jc.ok⟩
        refine ⟨some c, _, hend, ?_⟩
        cases e' with
        | ret => cases he; exact wpIn_ret hq
        | exit id => cases he; exact wpIn_exit hq
        | _ => cases he
  · rintro (⟨k, cs, hk, e⟩ | ⟨i, r, hi, hg'⟩)
    · exact hb.2 k cs (allT_lkp _ hm k cs hk) e
    · exact ((hR'.rows i r hi).own b hg').1 hb.1
end
end Go.Proofs.Ytlfkllmnekdghaa

namespace Go.Proofs.Ytlfkllmnekdghaa
open Go.RowKit
set_option linter.unusedVariables false
set_option linter.unusedSimpArgs false
/-! exact values -/
def okW (x : AW) : Bool := x.cells.all fun y => match y with | .c v => v.oneCell' | _ => true
def exactT : List AW → Option (List Value)
  | [] => some []
  | x :: xs => match exactW x, exactT xs with
    | some v, some r => some (v :: r)
    | _, _ => none
def exactV : AV → Option Value
  | .w x => exactW x
  | .tup xs => match exactT xs with
    | some r => some (.tuple r.toArray)
    | none => none
def okV : AV → Bool
  | .w x => okW x
  | .tup xs => xs.all okW
section
variable {U : Nat → Prop} {ρ : Nat → Nat} {W : World}
theorem rpL_exact : ∀ (xs : List AC) (r : List Value), exactL xs = some r → (xs.all fun y => match y with | .c v => v.oneCell' | _ => true) = true → RpL U ρ W xs r
  | [], r, h, _ => by cases h; exact ⟨rfl, fun i x v h => by simp at h⟩
  | .c v :: xs, r, h, ok => by
    simp only [exactL] at h
    split at h
    · rename_i r' hr
      cases h
      simp only [List.all_cons, Bool.and_eq_true] at ok
      have ih := rpL_exact xs r' hr ok.2
      refine ⟨by simp [ih.1], fun i x u hx hu => ?_⟩
      cases i with
      | zero => simp at hx hu; subst hx; subst hu; exact ⟨rfl, ok.1⟩
      | succ i => exact ih.2 i x u (by simpa using hx) (by simpa using hu)
    · cases h
  | .own _ _ :: _, _, h, _ => by cases h
  | .p _ :: _, _, h, _ => by cases h
theorem rpW_exact {x : AW} {u : Value} (h : exactW x = some u) (ok : okW x = true) : RpW U ρ W x u := by
  cases x with
  | one y => cases y with
    | c v => cases h; simp [okW, AW.cells] at ok; exact ⟨rfl, ok⟩
    | own => cases h
    | p => cases h
  | agg xs =>
    simp only [exactW] at h
    split at h
    · rename_i r hr; cases h; exact ⟨r, rfl, rpL_exact xs r hr ok⟩
    · cases h
theorem rpT_exact : ∀ (xs : List AW) (r : List Value), exactT xs = some r → xs.all okW = true → xs.length = r.length ∧ ∀ (i : Nat) (x : AW) (v : Value), xs[i]? = some x → r[i]? = some v → RpW U ρ W x v
  | [], r, h, _ => by cases h; exact ⟨rfl, fun i x v h => by simp at h⟩
  | x :: xs, r, h, ok => by
    simp only [exactT] at h
    split at h
    · rename_i v r' hv hr
      cases h
      simp only [List.all_cons, Bool.and_eq_true] at ok
      obtain ⟨h1, h2⟩ := rpT_exact xs r' hr ok.2
      refine ⟨by simp [h1], fun i y u hy hu => ?_⟩
      cases i with
      | zero => simp at hy hu; subst hy; subst hu; exact rpW_exact hv ok.1
      | succ i => exact h2 i y u (by simpa using hy) (by simpa using hu)
    · cases h
theorem rpV_exact {x : AV} {u : Value} (h : exactV x = some u) (ok : okV x = true) : RpV U ρ W x u := by
  cases x with
  | w y => exact rpW_exact h ok
  | tup xs =>
    simp only [exactV] at h
    split at h
    · rename_i r hr; cases h; exact ⟨r, rfl, rpT_exact xs r hr ok⟩
    · cases h
end
end Go.Proofs.Ytlfkllmnekdghaa

namespace Go.Proofs.Ytlfkllmnekdghaa
open Go.RowKit
set_option linter.unusedVariables false
set_option linter.unusedSimpArgs false
/-- a fact that stood in elder memory. -/
def eldS (U : Nat → Prop) (W : World) (S : SP) : SP where
  holds w v := S.holds w v ∧ S.holds W v ∧ ∀ b, S.foot W v b → U b
  foot w v b := S.foot w v b
  frame w w' v := fun h hf => ⟨⟨(S.frame w w' v h.1 hf).1, h.2⟩, (S.frame w w' v h.1 hf).2⟩
  old w v b := fun h hf => S.old w v b h.1 hf
  cell w v := fun h => S.cell w v h.1
/-- what is told so is told so too. -/
def EC (U : Nat → Prop) (W : World) (x y : AC) : Prop := (x.closedB = true → y.closedB = true) ∧ ∀ v, RpC U id W x v → RpC U id W y v
def ECs (U : Nat → Prop) (W : World) (xs ys : List AC) : Prop := xs.length = ys.length ∧ ∀ (j : Nat) x y, xs[j]? = some x → ys[j]? = some y → EC U W x y
section
variable {U : Nat → Prop} {W : World} {x y : AC} {xs ys : List AC}
theorem EC.refl (x : AC) : EC U W x x := ⟨id, fun _ => id⟩
theorem EC.eld (S : SP) : EC U W (.p S) (.p (eldS U W S)) := ⟨fun _ => rfl, fun v h => ⟨⟨h.1, h.1, h.2⟩, h.2⟩⟩
theorem EC.trans {z : AC} (h : EC U W x y) (g : EC U W y z) : EC U W x z := ⟨fun c => g.1 (h.1 c), fun v q => g.2 v (h.2 v q)⟩
theorem ECs.nil : ECs U W [] [] := ⟨rfl, fun j x y h => by simp at h⟩
theorem ECs.cons (h : EC U W x y) (t : ECs U W xs ys) : ECs U W (x :: xs) (y :: ys) := ⟨by simp [t.1], fun j a b ha hb => by
  cases j with
  | zero => cases ha; cases hb; exact h
  | succ j => exact t.2 j a b ha hb⟩
theorem ECs.map {f : AC → AC} (h : ∀ x ∈ xs, EC U W x (f x)) : ECs U W xs (xs.map f) := ⟨by simp, fun j a b ha hb => by
  rw [List.getElem?_map, ha] at hb
  cases hb
  exact h a (List.mem_of_getElem? ha)⟩
theorem ECs.rpl {vs : List Value} (h : ECs U W xs ys) (r : RpL U id W xs vs) : RpL U id W ys vs := ⟨by rw [← h.1, r.1], fun i y v hy hv => by
  have hlt : i < xs.length := by rw [h.1]; exact (List.getElem?_eq_some_iff.1 hy).1
  exact (h.2 i _ y (List.getElem?_eq_getElem hlt) hy).2 v (r.2 i _ v (List.getElem?_eq_getElem hlt) hv)⟩
theorem ECs.cl (h : ECs U W xs ys) (c : ∀ x ∈ xs, x.closedB = true) : ∀ y ∈ ys, y.closedB = true := fun y hy => by
  obtain ⟨i, hi⟩ := List.getElem?_of_mem hy
  have hlt : i < xs.length := by rw [h.1]; exact (List.getElem?_eq_some_iff.1 hi).1
  exact (h.2 i _ y (List.getElem?_eq_getElem hlt) hi).1 (c _ (List.getElem_mem hlt))
theorem ECs.at_ {a : Addr} {vs : List Value} (h : ECs U W xs ys) (c : CellsAt W a xs vs) (hU : ∀ b, footL W a xs b → U b) : CellsAt W a ys vs ∧ ∀ b, footL W a ys b → U b := by
  have hr : RpL U id W ys vs := h.rpl (c.rpl hU)
  refine ⟨⟨c.lt, ⟨hr.1, fun i y v hy hv => (hr.2 i y v hy hv).map (fun b hb hl => ⟨trivial, rfl⟩) fun j hj => rfl⟩, c.at_, h.cl c.cl⟩, ?_⟩
  rintro b (e | ⟨j, y, v, hy, hv, hfo⟩)
  · exact hU b (.inl e)
  · have hlt : j < vs.length := by rw [← hr.1]; exact (List.getElem?_eq_some_iff.1 hy).1
    have h2 := c.at_ j _ (List.getElem?_eq_getElem hlt)
    rw [hv] at h2
    cases h2
    have := hr.2 j y _ hy (List.getElem?_eq_getElem hlt)
    cases y with
    | c u => cases hfo
    | own k o => cases hfo
    | p R => exact this.2 b hfo
theorem EC.ptr (h : ECs U W xs ys) : EC U W (.p (PtrP xs)) (.p (PtrP ys)) := ⟨fun _ => rfl, by
  rintro v ⟨⟨a, vs, rfl, hc⟩, hU⟩
  obtain ⟨h1, h2⟩ := h.at_ hc fun b hb => hU b ⟨a, rfl, hb⟩
  exact ⟨⟨a, vs, rfl, h1⟩, fun b ⟨a', e, hb⟩ => by cases e; exact h2 b hb⟩⟩
theorem EC.sl {sz n : Nat} (h : ECs U W xs ys) : EC U W (.p (SlP sz n xs)) (.p (SlP sz n ys)) := ⟨fun _ => rfl, by
  rintro v ⟨⟨A, c, rfl, hc, hl, hs⟩, hU⟩
  refine ⟨⟨A, c, rfl, hc, by rw [← h.1]; exact hl, fun hn => ?_⟩, ?_⟩
  · obtain ⟨a, vs, rfl, hat⟩ := hs hn
    exact ⟨a, vs, rfl, (h.at_ hat fun b hb => hU b ⟨c, a, rfl, hn, hb⟩).1⟩
  · rintro b ⟨c', a', e, hn, hb⟩
    cases e
    obtain ⟨a, vs, e, hat⟩ := hs hn
    cases e
    exact (h.at_ hat fun b hb => hU b ⟨c, a', rfl, hn, hb⟩).2 b hb⟩
end
/-- what is fixed while an iterator runs: the loop's record, the ranging frame's blocks, what holds between two rounds, what is handed on. -/
structure Yx where
  l : Nat
  U : Nat → Prop
  W1 : World
  C0 : Nat → Prop
  J : Nat → (Nat → Prop) → World → Prop
  Jx : (Nat → Prop) → World → Prop
  xs : List (List AV)
def Yx.G (X : Yx) : Option Nat → (Nat → Prop) → World → Prop
  | some i => X.J i
  | none => X.Jx
structure Yx.Ok (P : Program) (X : Yx) : Prop where
  c0 : ∀ b, X.C0 b → b < X.W1.heap.size
  aj : ∀ g, Abd X.W1.heap.size (X.G g)
  rd : ∀ (i : Nat) C W1 x v, X.J i C W1 → (∀ b, C b → X.C0 b ∨ X.W1.heap.size ≤ b) → X.xs[i]? = some x → RpVs X.U id X.W1 x v.toList → YieldAt Fence.wide 0 P X.l v W1 fun e W' => Grew C W1 W' ∧ ((e = .returned (.bool true) ∧ X.J (i + 1) (extC C W1 W') W') ∨ (e = .returned (.bool false) ∧ X.Jx (extC C W1 W') W'))
/-- what tells a value now tells it of elder memory. -/
def Eld (X : Yx) (y z : AV) : Prop := ∀ A ρ w u, RpV A ρ w y u → RpV X.U id X.W1 z u
def Elds (X : Yx) (ys zs : List AV) : Prop := ys.length = zs.length ∧ ∀ (j : Nat) y z, ys[j]? = some y → zs[j]? = some z → Eld X y z
theorem Eld.w {X : Yx} {y : AW} {u : Value} (h : exactW y = some u) (ok : okW y = true) : Eld X (.w y) (.w y) := fun A ρ w v hv => by
  rw [exactW_sound hv h]; exact rpW_exact h ok
theorem Eld.eld {X : Yx} (S : SP) : Eld X (.w (.one (.p (eldS X.U X.W1 S)))) (.w (.one (.p S))) := fun A ρ w v hv => ⟨hv.1.2.1, hv.1.2.2⟩
theorem Elds.nil {X : Yx} : Elds X [] [] := ⟨rfl, fun j x y h => by simp at h⟩
theorem Elds.cons {X : Yx} {y z : AV} {ys zs : List AV} (h : Eld X y z) (t : Elds X ys zs) : Elds X (y :: ys) (z :: zs) := ⟨by simp [t.1], fun j a b ha hb => by
  cases j with
  | zero => cases ha; cases hb; exact h
  | succ j => exact t.2 j a b ha hb⟩
structure YR (X : Yx) (g : Option Nat) (s : AS) (a : Act) (w : World) (A : Nat → Prop) (ρ : Nat → Nat) (C : Nat → Prop) : Prop where
  rel : Rel (hbase (Base.all X.W1) s ρ w) A s ρ a w
  j : X.G g C w
  c0 : ∀ b, C b → X.C0 b ∨ X.W1.heap.size ≤ b
  clt : ∀ b, C b → b < w.heap.size
  own : ∀ k cs, s.mem k = some cs → ¬ C (ρ k) ∧ X.W1.heap.size ≤ ρ k
  ac : ∀ b, A b → b < w.heap.size → ¬ C b
  sz : X.W1.heap.size ≤ w.heap.size
/-- code of an iterator: so many have been handed on, or it has been told to stop. -/
def YWp (P : Program) (X : Yx) (c : Code) (Q : Exit → Option Nat → AS → Prop) (g : Option Nat) (s : AS) : Prop :=
  s.Ok → ∀ a w A ρ C, YR X g s a w A ρ C → c.wpIn Fence.wide 0 P (fun e a' w' => ∃ g' s' A' ρ' C', s'.Ok ∧ YR X g' s' a' w' A' ρ' C' ∧ Q e g' s') a w
def ythen (next : Option Nat → AS → Prop) (Q : Exit → Option Nat → AS → Prop) : Exit → Option Nat → AS → Prop
  | .normal, g, s => next g s
  | e, g, s => Q e g s
def yblock (id : Nat) (Q : Exit → Option Nat → AS → Prop) : Exit → Option Nat → AS → Prop
  | .exit id', g, s => bif Nat.beq id' id then Q .normal g s else Q (.exit id') g s
  | e, g, s => Q e g s
theorem run_yield_op {P : Program} {ρ : Operand → Value} {o : Oper} {gop : Operand} {xl : List Operand} {tys : Array TypeId} {l : Nat} {v : Array Value} {w : World} {x : Next} (ho : o.op = .call ⟨.value gop, xl.toArray, tys⟩) (hg : ρ gop = .func (.yield l) #[] #[]) (hv : (xl.map ρ).toArray = v)
    (hy : (Instr.yield l v).run P w = .ok x w) : (execOp ρ o).run P w = .ok x w := by
  subst hv
  simp only [execOp, ho, resolve, hg, Sem.run_bind, List.map_toArray]
  simp [Deferred.ofValue, invoke, hy]
theorem wpIn_loop_n {F : Fence} {n : Nat} {P : Program} {c : Code} {Q : Exit → Act → World → Prop} {a : Act} {w : World} (I : Nat → Act → World → Prop) {m : Nat} (h₀ : I m a w)
    (round : ∀ k a w, I k a w → c.wpIn F n P (Exit.then (fun a' w' => ∃ j, j < k ∧ I j a' w') Q) a w) : (Code.loop c).wpIn F n P Q a w := by
  intro b k cs hro hb hroom
  have key : ∀ m a w, I m a w →
      ∃ e a' w', Q e a' w' ∧ ArrivesIn (Machine.fenced P F) P (lone (b.atR a (.code c :: .inLoop c :: k)) cs w) b k cs e a' w' := by
    intro m
    induction m using Nat.strongRecOn with
    | _ m ih =>
      intro a w hI
      obtain ⟨e, a₁, w₁, hq, harr⟩ := round m a w hI b (.inLoop c :: k) cs hro hb hroom
      cases e with
      | normal =>
        obtain ⟨j, hlt, hI₁⟩ := hq
        obtain ⟨e₂, a₂, w₂, hq₂, harr₂⟩ := ih j hlt a₁ w₁ hI₁
        exact ⟨e₂, a₂, w₂, hq₂, .of_steps (StepsIn.trans harr (.one (fenced_calm hb hroom rfl) stepR_inLoop)) harr₂⟩
      | exit id => exact ⟨_, a₁, w₁, hq, .pass (x := .inLoop c) rfl (fun _ _ => .inl (by simp)) harr⟩
      | goto l => exact ⟨_, a₁, w₁, hq, .pass (x := .inLoop c) rfl (fun _ _ => .inl (by simp)) harr⟩
      | ret => exact ⟨_, a₁, w₁, hq, .pass (x := .inLoop c) rfl (fun _ _ => .inl (by simp)) harr⟩
      | panic ch => exact ⟨_, a₁, w₁, hq, .pass (x := .inLoop c) rfl (fun _ _ => .inl (by simp)) harr⟩
      | outgrown => exact ⟨_, a₁, w₁, hq, .pass (x := .inLoop c) rfl (fun _ _ => .inl (by simp)) harr⟩
  obtain ⟨e, a', w', hq, harr⟩ := key _ a w h₀
  exact ⟨e, a', w', hq, .of_steps (.one (fenced_calm hb hroom rfl) stepR_loop) harr⟩
section
variable {P : Program} {X : Yx} {x y c : Code} {Q : Exit → Option Nat → AS → Prop} {g g' : Option Nat} {s s' : AS} {a a' : Act} {w w' w2 : World} {A : Nat → Prop} {ρ ρ' : Nat → Nat} {C : Nat → Prop}
theorem yr_next (hX : X.Ok P) (h : YR X g s a w A ρ C) (hR : Rel (hbase (Base.all X.W1) s ρ w) A s' ρ' a' w') : YR X g s' a' w' A ρ' C := by
  have hsame : ∀ b, b < w.heap.size → (∀ k cs, s.mem k = some cs → ρ k ≠ b) → w'.heap[b]? = w.heap[b]? := fun b h1 h2 => hR.below.block b ⟨h1, h2⟩
  have hs : w.heap.size ≤ w'.heap.size := hR.below.size
  refine ⟨hR.hot fun b hb => hR.up b (Nat.le_trans hs hb), hX.aj g C w w' h.j hR.below.os hR.below.tape hR.below.output hs fun b hb hc => hsame b hb fun k cs hk e => ?_, h.c0, fun b hb => Nat.lt_of_lt_of_le (h.clt b hb) hs, fun k cs hk => ?_, fun b hb hl hc => ?_, Nat.le_trans h.sz hs⟩
  · obtain ⟨q1, q2⟩ := h.own k cs hk
    rcases hc with hc | hc
    · omega
    · exact q1 (e ▸ hc)
  · obtain ⟨_, _, _, _, hF⟩ := hR.mm k cs hk
    rcases Nat.lt_or_ge (ρ' k) w.heap.size with hl | hl
    · obtain ⟨j, cs', hj, e⟩ : ∃ j cs', s.mem j = some cs' ∧ ρ j = ρ' k := Classical.byContradiction fun hn => hF ⟨hl, fun j cs' hj e => hn ⟨j, cs', hj, e⟩⟩
      rw [← e]; exact h.own j cs' hj
    · exact ⟨fun hc => by have := h.clt _ hc; omega, Nat.le_trans h.sz hl⟩
  · rcases Nat.lt_or_ge b w.heap.size with q | q
    · exact h.ac b hb q hc
    · have := h.clt b hc; omega
theorem YR.les (h : YR X g s a w A ρ C) (l : s.Le s') : YR X g s' a w A ρ C :=
  ⟨(h.rel.le l).hot h.rel.up, h.j, h.c0, h.clt, fun k cs hk => h.own k cs (l.mm k cs hk), h.ac, h.sz⟩
/-- behind a round. -/
theorem yr_round (h : YR X g s a w A ρ C) (gr : Grew C w w2) (hj : X.G g' (extC C w w2) w2) : YR X g' s a w2 (fun b => (A b ∧ b < w.heap.size) ∨ w2.heap.size ≤ b) ρ (extC C w w2) := by
  refine ⟨h.rel.anew (fun b hb hl => ⟨.inl ⟨hb, hl⟩, gr.block b hl (h.ac b hb hl)⟩) (fun k cs hk => ⟨gr.block _ (h.rel.lt hk) (h.own k cs hk).1, fun hf => hf.2 k cs hk rfl⟩) (BelowB.refl _) (fun b hb => .inr hb) (hbase_anch _ _ _), hj, ?_, ?_, fun k cs hk => ⟨?_, (h.own k cs hk).2⟩, ?_, Nat.le_trans h.sz gr.size⟩
  · rintro b (hb | hb)
    · exact h.c0 b hb
    · exact .inr (Nat.le_trans h.sz hb.1)
  · rintro b (hb | hb)
    · exact Nat.lt_of_lt_of_le (h.clt b hb) gr.size
    · exact hb.2
  · rintro (hb | hb)
    · exact (h.own k cs hk).1 hb
    · have := h.rel.lt hk; omega
  · rintro b (hb | hb) hl (hc | hc)
    · exact h.ac b hb.1 hb.2 hc
    · omega
    · have := h.clt b hc; have := gr.size; omega
    · omega
theorem ywp_awp (hX : X.Ok P) (h : AWp P c (fun e s' => Q e g s') s) : YWp P X c Q g s := fun ok a w A ρ C hR => wpIn_mono (h ok _ A ρ a w hR.rel none) fun e a' w' ⟨s', ρ', ok', hR', hq⟩ => ⟨g, s', A, ρ', C, ok', yr_next hX hR hR', hq⟩
theorem ywp_seq (h : YWp P X x (ythen (fun g s => YWp P X y Q g s) Q) g s) : YWp P X (.seq x y) Q g s := by
  intro ok a w A ρ C hR
  refine wpIn_seq (wpIn_mono (h ok a w A ρ C hR) ?_)
  rintro e a' w' ⟨g', s', A', ρ', C', ok', hR', hq⟩
  cases e <;> first | exact hq ok' a' w' A' ρ' C' hR' | exact ⟨g', s', A', ρ', C', ok', hR', hq⟩
theorem ywp_block {id : Nat} (h : YWp P X x (yblock id Q) g s) : YWp P X (.block id x) Q g s := by
  intro ok a w A ρ C hR
  refine wpIn_block (wpIn_mono (h ok a w A ρ C hR) ?_)
  rintro e a' w' ⟨g', s', A', ρ', C', ok', hR', hq⟩
  cases e with
  | exit id' =>
    simp only [Exit.inBlock]
    simp only [yblock] at hq
    cases hb : Nat.beq id' id with
    | true => rw [hb] at hq; rw [if_pos (Nat.eq_of_beq_eq_true hb)]; exact ⟨g', s', A', ρ', C', ok', hR', hq⟩
    | false =>
      rw [hb] at hq
      have : id' ≠ id := fun e => by subst e; rw [Nat.beq_refl] at hb; cases hb
      rw [if_neg this]; exact ⟨g', s', A', ρ', C', ok', hR', hq⟩
  | _ => exact ⟨g', s', A', ρ', C', ok', hR', hq⟩
theorem ywp_cond {co : Operand} {b : Bool} (hc : s.look co = some (vB b)) (h1 : b = true → YWp P X x Q g s) (h0 : b = false → YWp P X y Q g s) : YWp P X (.cond co x y) Q g s := by
  intro ok a w A ρ C hR
  have hv : a.eval co = .bool b := (hR.rel.look hc).1
  refine wpIn_cond hv ?_
  cases b with
  | true => exact h1 rfl ok a w A ρ C hR
  | false => exact h0 rfl ok a w A ρ C hR
theorem ywp_loopL (N : Nat) (I : Nat → Option Nat → List (Nat × AV) → List (Nat × List AC) → Prop) (k : Nat) (ts : List (Nat × AV)) (ms : List (Nat × List AC)) (hI : I k g ts ms) (hn : N = s.n) (ht : allT s.tmps ts) (hm : allT s.mem ms) (hok : okB ts ms = true)
    (round : ∀ k g ts ms, I k g ts ms → okB ts ms = true → YWp P X x (ythen (fun g' s' => ∃ k' ts' ms', k' < k ∧ I k' g' ts' ms' ∧ N = s'.n ∧ allT s'.tmps ts' ∧ allT s'.mem ms' ∧ okB ts' ms' = true) Q) g (mkS N ts ms)) : YWp P X (.loop x) Q g s := by
  intro ok a w A ρ C hR
  refine wpIn_loop_n (fun k a w => ∃ g ts ms A ρ C, I k g ts ms ∧ okB ts ms = true ∧ YR X g (mkS N ts ms) a w A ρ C) (m := k) ⟨g, ts, ms, A, ρ, C, hI, hok, hR.les (mkS_le hn ht hm)⟩ ?_
  rintro k a w ⟨g, ts, ms, A, ρ, C, hI, ok, hR⟩
  refine wpIn_mono (round k g ts ms hI ok (mkS_ok ok) a w A ρ C hR) ?_
  rintro e a' w' ⟨g', s', A', ρ', C', ok', hR', hq⟩
  cases e with
  | normal =>
    obtain ⟨k', ts', ms', h1, h2, h3, h4, h5, h6⟩ := hq
    exact ⟨k', h1, g', ts', ms', A', ρ', C', h2, h6, hR'.les (mkS_le h3 h4 h5)⟩
  | _ => exact ⟨g', s', A', ρ', C', ok', hR', hq⟩
/-- a region with one call of yield. -/
theorem ywp_yield {ri k i : Nat} {l l1 l2 : List Oper} {d : Nat} {gop : Operand} {xl : List Operand} {tys : Array TypeId} {ty : Nat} {pos : String} {after : Array Edge} (hX : X.Ok P)
    (hcut : cutL k l = some (l1, ⟨some d, .call ⟨.value gop, xl.toArray, tys⟩, ty, pos, after, none⟩ :: l2))
    (h : aList P l.toArray (fun s1 => d < s1.n ∧ s1.look gop = some (vC (.func (.yield X.l) #[] #[])) ∧ ∃ (x ys : List AV), X.xs[i]? = some x ∧ xl.map s1.look = ys.map some ∧ Elds X ys x ∧
      aList P l.toArray (fun s' => Q .normal (some (i + 1)) s') l2 (s1.put (some d) (vB true)) ∧ aList P l.toArray (fun s' => Q .normal none s') l2 (s1.put (some d) (vB false))) l1 s) : YWp P X (.region ri l.toArray false) Q (some i) s := by
  intro ok a w A ρ C hR
  have hl := cutL_spec _ _ _ _ hcut
  refine wpIn_region ?_
  have hr : List.range l.toArray.size = (List.range l1.length).map (0 + ·) ++ (l1.length :: (List.range l2.length).map (l1.length + 1 + ·)) := by
    have hlen : l.length = l1.length + (l2.length + 1) := by rw [hl]; simp
    rw [List.size_toArray, hlen, List.range_add]
    congr 1
    · simp
    · rw [List.range_succ_eq_map, List.map_cons, List.map_map]
      congr 1
      apply List.map_congr_left
      intro j _
      simp [Nat.add_assoc, Nat.add_comm 1 j]
  rw [hr]
  refine aList_then (ro := none) ?_ l1 0 s ρ a w (fun j hj => by rw [hl]; simp [List.getElem?_append_left hj]) ok hR.rel h
  rintro s1 ρ1 a1 w1 ok1 hR1 ⟨hd, hg, x, ys, hv, hxl, hex, h1, h0⟩
  have hY := yr_next hX hR hR1
  have hoa : l.toArray[l1.length]? = some ⟨some d, .call ⟨.value gop, xl.toArray, tys⟩, ty, pos, after, none⟩ := by rw [hl]; simp
  rw [wpOpsIn_cons]
  unfold wpOpIn
  rw [hoa]
  simp only [Region.wanted, if_true]
  have htold : RpVs X.U id X.W1 x ((xl.map a1.eval).toArray).toList := by
    have e0 : ((xl.map a1.eval).toArray).toList = xl.map a1.eval := rfl
    rw [e0]
    have hl1 : xl.length = ys.length := by have := congrArg List.length hxl; simpa using this
    refine ⟨by rw [← hex.1, ← hl1, List.length_map], fun j z u hz hu => ?_⟩
    have hlt : j < ys.length := by rw [hex.1]; exact (List.getElem?_eq_some_iff.1 hz).1
    refine hex.2 j _ z (List.getElem?_eq_getElem hlt) hz (s1.free A ρ1) ρ1 w1 u ?_
    have e1 := congrArg (fun z => z[j]?) hxl
    simp only [List.getElem?_map] at e1
    rw [List.getElem?_map] at hu
    cases hx : xl[j]? with
    | none => rw [hx] at hu; cases hu
    | some o =>
      rw [hx] at e1 hu
      cases hu
      rw [List.getElem?_eq_getElem hlt] at e1
      simp only [Option.map_some, Option.some.injEq] at e1
      exact hY.rel.look e1
  obtain ⟨fn, tm, assign, body, hy, hro⟩ := hX.rd i C w1 x _ hY.j hY.c0 hv htold
  have hrun : (execOp a1.eval ⟨some d, .call ⟨.value gop, xl.toArray, tys⟩, ty, pos, after, none⟩).run P w1 = .ok (.round X.l fn tm assign body) w1 := run_yield_op rfl (hY.rel.look hg).1 rfl hy
  refine ⟨fun _ _ => trivial, ?_⟩
  rw [Oper.semAt_eq _ _ _ (fun c hc => by cases hc), hrun]
  refine ⟨fun h => (by cases h), hro.mono ?_⟩
  have fin : ∀ (b : Bool) (g2 : Option Nat) (w2 : World), Grew C w1 w2 → X.G g2 (extC C w1 w2) w2 → aList P l.toArray (fun s' => Q .normal g2 s') l2 (s1.put (some d) (vB b)) →
      wpOpsIn Fence.wide 0 P l.toArray (fun e a' w' => ∃ g' s' A' ρ' C', s'.Ok ∧ YR X g' s' a' w' A' ρ' C' ∧ Q e g' s') ((List.range l2.length).map (l1.length + 1 + ·)) (a1.put (some d) (.bool b)) w2 := fun b g2 w2 gr hj hl2 => by
    have hY2 := yr_round hY gr hj
    have hput := hY2.rel.put (dst := some d) (av := vB b) (v := .bool b) (fun d' e => by cases e; exact hd) ⟨rfl, rfl⟩
    have ok2 : (s1.put (some d) (vB b)).Ok := ok1.put fun j hj => absurd hj (noown _ j)
    have hY3 := yr_next hX hY2 hput
    have := aList_then (ro := none) (P := P) (ops := l.toArray) (r := []) (Q := fun e a' w' => ∃ g' s' A' ρ' C', s'.Ok ∧ YR X g' s' a' w' A' ρ' C' ∧ Q e g' s') (fun s' ρ' a' w' ok' hR' hk => ⟨g2, s', _, ρ', _, ok', yr_next hX hY3 hR', hk⟩) l2 (l1.length + 1) _ ρ1 _ w2 (fun j hj => by rw [hl]; simp [List.getElem?_append_right, Nat.add_assoc, Nat.add_comm 1 j]) ok2 hY3.rel hl2
    rw [List.append_nil] at this
    exact this
  rintro e w2 ⟨gr, ⟨rfl, hj⟩ | ⟨rfl, hj⟩⟩
  · exact fin true (some (i + 1)) w2 gr hj h1
  · exact fin false none w2 gr hj h0
/-- an iterator. -/
theorem iseq_of {gf : FuncId} {fn : Func} {cs : List AC} {xs : List (List AV)} (hf : P.funcs[gf]? = some fn) (hb : fn.body = some c) (eg : ∀ args w, (callFunc gf args).run P w = .ok (.enter gf args) w) (hn : cs.length + 1 ≤ fn.ntmps) (hr : fn.results.toList = []) (hcl : cs.all AC.closedB = true)
    (h : ∀ X : Yx, X.Ok P → X.xs = xs → ∃ cs', ECs X.U X.W1 cs cs' ∧ YWp P X c (fun e g s' => (e = .normal ∨ e = .ret) ∧ (g = none ∨ g = some xs.length)) (some 0) (start fn.ntmps (vC (.func (.yield X.l) #[] #[]) :: cs'.map fun y => .w (.one y)))) : ISeq P (FunP (.func gf) cs) xs := by
  intro U W fv hfv
  obtain ⟨⟨lb, rfl, hlb, hco⟩, hft⟩ := hfv
  have hlbU0 : RpL U id W cs lb := ⟨hlb.1, fun i y u hy hu => by
    have h1 := hlb.2 i y u hy hu
    cases y with
    | c z => exact h1
    | own k o => exact absurd rfl (hco _ (List.mem_of_getElem? hy) k)
    | p S => exact ⟨h1.1, fun b hb' => hft b ⟨lb, rfl, i, _, u, hy, hu, hb'⟩⟩⟩
  refine ⟨gf, lb.toArray, rfl, eg, fun l C0 J Jx hC0 hJ hJx hrd hJ0 => ?_⟩
  have hX : Yx.Ok P ⟨l, U, W, C0, J, Jx, xs⟩ := ⟨fun b hb' => (hC0 b hb').2, fun g => by cases g; exact hJx; exact hJ _, hrd⟩
  obtain ⟨cs', hec, h⟩ := h _ hX rfl
  have hlbU : RpL U id W cs' lb := hec.rpl hlbU0
  have hcl' : ∀ y ∈ cs', y.closedB = true := hec.cl (List.all_eq_true.1 hcl)
  have hn' : cs'.length + 1 ≤ fn.ntmps := by rw [← hec.1]; exact hn
  refine callsIn_of_wp hf hb trivial ?_
  have hst : (start fn.ntmps (vC (.func (.yield l) #[] #[]) :: cs'.map fun y => .w (.one y))).Ok := ⟨fun t av j ht hj => by
    rcases List.mem_cons.1 (List.mem_of_getElem? ht) with rfl | hm
    · exact absurd hj (noown _ j)
    · obtain ⟨y, hy, rfl⟩ := List.mem_map.1 hm
      obtain ⟨z, hz, hj⟩ := hj
      simp only [AW.cells, List.mem_singleton] at hz
      subst hz
      exact absurd hj (AC.closed_of (hcl' z hy) j), fun k cs' x j hk => (by cases hk)⟩
  have hR : Rel (Base.all W) (fun b => U b ∨ W.heap.size ≤ b) (start fn.ntmps (vC (.func (.yield l) #[] #[]) :: cs'.map fun y => .w (.one y))) id { tmps := (#[.func (.yield l) #[] #[]] ++ lb.toArray) ++ Array.replicate (fn.ntmps - (#[Value.func (.yield l) #[] #[]] ++ lb.toArray).size) undef, defers := [] } W := by
    have hl := hlbU.1
    refine ⟨rfl, by simp [start]; omega, fun t av ht => ?_, (fun k cs hk => by cases hk), (fun k k' cs cs' hk => by cases hk), BelowB.refl (Base.all W), fun b hb => .inr hb, fun k b hk => (by cases hk)⟩
    cases t with
    | zero =>
      cases ht
      exact ⟨.func (.yield l) #[] #[], by simp [Array.getElem?_append], rfl, rfl⟩
    | succ t =>
      have ht' : (cs'.map fun y => AV.w (.one y))[t]? = some av := ht
      rw [List.getElem?_map] at ht'
      cases hy : cs'[t]? with
      | none => rw [hy] at ht'; cases ht'
      | some y =>
        rw [hy] at ht'
        cases ht'
        have hlt : t < lb.length := by rw [← hl]; exact (List.getElem?_eq_some_iff.1 hy).1
        refine ⟨lb[t], by simp [Array.getElem?_append, hlt], ?_⟩
        exact (hlbU.2 t y _ hy (List.getElem?_eq_getElem hlt)).map (fun b hb _ => ⟨⟨.inl hb, fun k cs hk => by cases hk⟩, rfl⟩) fun j hj => rfl
  have hY : YR ⟨l, U, W, C0, J, Jx, xs⟩ (some 0) (start fn.ntmps (vC (.func (.yield l) #[] #[]) :: cs'.map fun y => .w (.one y))) { tmps := (#[.func (.yield l) #[] #[]] ++ lb.toArray) ++ Array.replicate (fn.ntmps - (#[Value.func (.yield l) #[] #[]] ++ lb.toArray).size) undef, defers := [] } W (fun b => U b ∨ W.heap.size ≤ b) id C0 :=
    ⟨hR.hot fun b hb => .inr hb, hJ0, fun b hb => .inl hb, fun b hb => (hC0 b hb).2, fun k cs hk => (by cases hk), fun b hb hl hc => (by
      rcases hb with hb | hb
      · exact (hC0 b hc).1 hb
      · omega), Nat.le_refl _⟩
  refine wpIn_mono (h hst _ W _ _ _ hY) ?_
  rintro e a' w' ⟨g', s', A', ρ', C', ok', hR', he, hg'⟩
  obtain ⟨v, q1, q2⟩ := results_sound (P := P) (fn := fn) (xs := []) hR'.rel (by rw [hr]; rfl)
  have hj : J xs.length C' w' ∨ Jx C' w' := by
    rcases hg' with rfl | rfl
    · exact .inr hR'.j
    · exact .inl hR'.j
  rcases he with rfl | rfl
  · exact ⟨hR'.rel.nodef, v, q1, ⟨v, rfl⟩, C', hj⟩
  · exact ⟨hR'.rel.nodef, v, q1, ⟨v, rfl⟩, C', hj⟩
end
end Go.Proofs.Ytlfkllmnekdghaa

namespace Go.Proofs.Ytlfkllmnekdghaa
open Go.RowKit
set_option linter.unusedVariables false
set_option linter.unusedSimpArgs false
section
variable {P : Program} {X : Yx} {x y c : Code} {Q : Exit → Option Nat → AS → Prop} {g g' : Option Nat} {s s' : AS}
theorem ywp_region {id : Nat} {l : List Oper} (hX : X.Ok P) (h : aList P l.toArray (fun s' => Q .normal g s') l s) : YWp P X (.region id l.toArray false) Q g s := ywp_awp hX (awp_region h)
theorem ywp_skip (hX : X.Ok P) (h : Q .normal g s) : YWp P X .skip Q g s := ywp_awp hX (awp_skip h)
theorem ywp_exit {id : Nat} (hX : X.Ok P) (h : Q (.exit id) g s) : YWp P X (.exit id) Q g s := ywp_awp hX (awp_exit h)
theorem ywp_ret (hX : X.Ok P) (h : Q .ret g s) : YWp P X .ret Q g s := ywp_awp hX (awp_ret h)
theorem ywp_cond_1 {co : Operand} {t : Bool} (hc : s.look co = some (vB t)) (ht : t = true) (h : YWp P X x Q g s) : YWp P X (.cond co x y) Q g s := ywp_cond hc (fun _ => h) fun e => by rw [ht] at e; cases e
theorem ywp_cond_0 {co : Operand} {t : Bool} (hc : s.look co = some (vB t)) (ht : t = false) (h : YWp P X y Q g s) : YWp P X (.cond co x y) Q g s := ywp_cond hc (fun e => by rw [ht] at e; cases e) fun _ => h
theorem ythen_normal {next : Option Nat → AS → Prop} (h : next g s) : ythen next Q .normal g s := h
theorem ythen_exit {next : Option Nat → AS → Prop} {i : Nat} (h : Q (.exit i) g s) : ythen next Q (.exit i) g s := h
theorem ythen_ret {next : Option Nat → AS → Prop} (h : Q .ret g s) : ythen next Q .ret g s := h
theorem yblock_normal {i : Nat} (h : Q .normal g s) : yblock i Q .normal g s := h
theorem yblock_ret {i : Nat} (h : Q .ret g s) : yblock i Q .ret g s := h
theorem yblock_same {i : Nat} (h : Q .normal g s) : yblock i Q (.exit i) g s := by simp only [yblock, Nat.beq_refl, cond_true]; exact h
end
/-- with other names for its blocks. -/
def AS.ren (π : Nat → Nat) (s : AS) : AS := { s with tmps := fun t => (s.tmps t).map (AV.ren π), mem := Mem.ren π s.mem }
section
variable {P : Program} {x y c : Code} {Q : Exit → Rws → AS → Prop} {R : Rws} {s : AS} {B0 : Base} {A0 A : Nat → Prop} {a : Act} {w : World} {ρ π : Nat → Nat}
theorem mem_ren (hπ : ∀ j, π (π j) = j) {k : Nat} {cs : List AC} (h : (s.ren π).mem k = some cs) : ∃ cs0, s.mem (π k) = some cs0 ∧ cs = cs0.map (AC.ren π) := by
  have h' : (s.mem (π k)).map (fun cs => cs.map (AC.ren π)) = some cs := h
  cases hm : s.mem (π k) with
  | none => rw [hm] at h'; cases h'
  | some cs0 => rw [hm] at h'; exact ⟨cs0, rfl, (Option.some.inj h').symm⟩
theorem free_ren (hπ : ∀ j, π (π j) = j) (b : Nat) : (s.ren π).free A (fun k => ρ (π k)) b ↔ s.free A ρ b := by
  constructor
  · rintro ⟨h1, h2⟩
    refine ⟨h1, fun k cs hk => ?_⟩
    have hm : (s.ren π).mem (π k) = some (cs.map (AC.ren π)) := by show (s.mem (π (π k))).map _ = _; rw [hπ, hk]; rfl
    have h3 : ρ (π (π k)) ≠ b := h2 (π k) _ hm
    rwa [hπ] at h3
  · rintro ⟨h1, h2⟩
    refine ⟨h1, fun k cs hk => ?_⟩
    obtain ⟨cs0, h3, _⟩ := mem_ren hπ hk
    exact h2 (π k) cs0 h3
theorem rr_ren (hπ : ∀ j, π (π j) = j) (hN : ∀ k b, B0.N k = some b → π k = k) (h : RR B0 A0 R s a w A ρ) : RR B0 A0 R (s.ren π) a w A (fun k => ρ (π k)) := by
  have hfree : (s.ren π).free A (fun k => ρ (π k)) = s.free A ρ := funext fun b => propext (free_ren hπ b)
  have hρ : (fun k => (fun j => ρ (π j)) (π k)) = ρ := funext fun k => by show ρ (π (π k)) = ρ k; rw [hπ]
  have hrel : Rel (hbase B0 (s.ren π) (fun k => ρ (π k)) w) A (s.ren π) (fun k => ρ (π k)) a w := by
    refine ⟨h.rel.nodef, h.rel.size, fun t av ht => ?_, fun k cs hk => ?_, fun k k' cs cs' hk hk' e => ?_, BelowB.refl _, fun b hb => h.rel.up b hb, hbase_anch _ _ _⟩
    · have ht' : (s.tmps t).map (AV.ren π) = some av := ht
      cases hm : s.tmps t with
      | none => rw [hm] at ht'; cases ht'
      | some av0 =>
        rw [hm] at ht'
        cases ht'
        obtain ⟨v, h1, h2⟩ := h.rel.tm t av0 hm
        refine ⟨v, h1, RpV.ren.2 ?_⟩
        rw [hfree, hρ]; exact h2
    · obtain ⟨cs0, h1, rfl⟩ := mem_ren hπ hk
      obtain ⟨vs, ty, g1, g2, g3⟩ := h.rel.mm (π k) cs0 h1
      refine ⟨vs, ty, g1, RpL.ren.2 ?_, fun hf => hf.2 k _ hk rfl⟩
      rw [hfree, hρ]; exact g2
    · obtain ⟨c1, h1, _⟩ := mem_ren hπ hk
      obtain ⟨c2, h2, _⟩ := mem_ren hπ hk'
      have := congrArg π (h.rel.inj (π k) (π k') c1 c2 h1 h2 e)
      rwa [hπ, hπ] at this
  refine ⟨h.up, h.sub, hrel, fun k cs hk => ?_, h.below, fun i r hi => ?_, h.apart, h.hot, fun k b hk => ?_⟩
  · obtain ⟨cs0, h1, _⟩ := mem_ren hπ hk
    exact h.mine (π k) cs0 h1
  · obtain ⟨k0, kc, kg⟩ := h.rows i r hi
    refine ⟨?_, kc, fun g hg => ⟨(kg g hg).1, fun k cs hk => ?_⟩⟩
    · rw [hfree]; exact k0.kept kc (fun _ _ => rfl) (Nat.le_refl _) fun b hb _ => ⟨hb, rfl⟩
    · obtain ⟨cs0, h1, _⟩ := mem_ren hπ hk
      exact (kg g hg).2 (π k) cs0 h1
  · have e := hN k b hk
    obtain ⟨h1, h2⟩ := h.anch k b hk
    exact ⟨h1, by show ρ (π k) = b; rw [e]; exact h2⟩
theorem ok_ren (hπ : ∀ j, π (π j) = j) (h : s.Ok) : (s.ren π).Ok := by
  refine ⟨fun t av j ht hj => ?_, fun k cs x j hk hx hj => ?_⟩
  · have ht' : (s.tmps t).map (AV.ren π) = some av := ht
    cases hm : s.tmps t with
    | none => rw [hm] at ht'; cases ht'
    | some av0 =>
      rw [hm] at ht'
      cases ht'
      obtain ⟨i, hi, rfl⟩ := AV.ren_owns hj
      obtain ⟨cs, hcs⟩ := h.tm t av0 i hm hi
      exact ⟨cs.map (AC.ren π), by show (s.mem (π (π i))).map _ = _; rw [hπ, hcs]; rfl⟩
  · obtain ⟨cs0, h1, rfl⟩ := mem_ren hπ hk
    obtain ⟨x0, hx0, rfl⟩ := List.mem_map.1 hx
    obtain ⟨i, hi, rfl⟩ := AC.ren_owns hj
    obtain ⟨cs2, hcs2⟩ := h.mm (π k) cs0 x0 i h1 hx0 hi
    exact ⟨cs2.map (AC.ren π), by show (s.mem (π (π i))).map _ = _; rw [hπ, hcs2]; rfl⟩
theorem rwt_ren (π : Nat → Nat) (hπ : ∀ j, π (π j) = j) (h : RWt P c Q R (s.ren π)) : RWt P c Q R s := fun ok B0 A0 a w Ds hm ⟨A, ρ, hR⟩ => h (ok_ren hπ ok) B0 A0 a w Ds hm ⟨A, _, rr_ren hπ (fun k b hk => by rw [hm.nn] at hk; cases hk) hR⟩
theorem rwt_region {id : Nat} {l : List Oper} (h : hList P l.toArray none (Q .normal) l R s) : RWt P (.region id l.toArray false) Q R s := rwt_rwp (rwp_region h)
theorem rwt_ret (h : Q .ret R s) : RWt P .ret Q R s := rwt_rwp (rwp_ret h)
theorem rwt_skip (h : Q .normal R s) : RWt P .skip Q R s := rwt_rwp (rwp_skip h)
theorem rwt_exit {id : Nat} (h : Q (.exit id) R s) : RWt P (.exit id) Q R s := rwt_rwp (rwp_exit h)
theorem rwt_cond {co : Operand} {t : Bool} (hc : s.look co = some (vB t)) (h1 : t = true → RWt P x Q R s) (h0 : t = false → RWt P y Q R s) : RWt P (.cond co x y) Q R s := by
  intro ok B0 A0 a w Ds hm hR
  obtain ⟨A, ρ, hr⟩ := hR
  have hv : a.eval co = .bool t := (hr.rel.look hc).1
  refine wp_cond hv ?_
  cases t with
  | true => exact h1 rfl ok B0 A0 a w Ds hm ⟨A, ρ, hr⟩
  | false => exact h0 rfl ok B0 A0 a w Ds hm ⟨A, ρ, hr⟩
theorem rwt_cond_1 {co : Operand} {t : Bool} (hc : s.look co = some (vB t)) (ht : t = true) (h : RWt P x Q R s) : RWt P (.cond co x y) Q R s := rwt_cond hc (fun _ => h) fun e => by rw [ht] at e; cases e
theorem rwt_cond_0 {co : Operand} {t : Bool} (hc : s.look co = some (vB t)) (ht : t = false) (h : RWt P y Q R s) : RWt P (.cond co x y) Q R s := rwt_cond hc (fun e => by rw [ht] at e; cases e) fun _ => h
theorem rwt_nil (i e sz : Nat) (hi : R i = none) (h : RWt P c Q (upd R i ⟨e, sz, .slice none 0 0, 0, []⟩) s) (hsz : 0 < sz := by decide) : RWt P c Q R s := by
  rintro ok B0 A0 a w Ds hm ⟨A, ρ, hR⟩
  have hno : ∀ g, ¬ (⟨e, sz, .slice none 0 0, 0, []⟩ : HRow).own g := fun g hg => by have := HRow.own_row hg hsz; cases this
  refine h ok B0 A0 a w Ds hm ⟨A, ρ, hR.up, hR.sub, hR.rel, hR.mine, hR.below, fun j r hj => ?_, fun j k r q hj hk hjk g hg => ?_, fun j r g hj hg => ?_, hR.anch⟩
  · by_cases e' : j = i
    · subst e'
      rw [upd_same] at hj
      cases hj
      exact ⟨.inl ⟨hsz, [], World.ownsRow_nil w 0 e sz, rfl, fun i x v hx => by simp at hx⟩, fun y hy => (by cases hy), fun g hg => absurd hg (hno g)⟩
    · rw [upd_ne _ _ e'] at hj; exact hR.rows j r hj
  · by_cases e1 : j = i
    · subst e1; rw [upd_same] at hj; cases hj; exact absurd hg (hno g)
    · rw [upd_ne _ _ e1] at hj
      by_cases e2 : k = i
      · subst e2; rw [upd_same] at hk; cases hk; exact hno g
      · rw [upd_ne _ _ e2] at hk; exact hR.apart j k r q hj hk hjk g hg
  · by_cases e1 : j = i
    · subst e1; rw [upd_same] at hj; cases hj; exact absurd hg (hno g)
    · rw [upd_ne _ _ e1] at hj; exact hR.hot j r g hj hg
theorem rwt_coolb (i k off : Nat) {c : Code} {Q : Exit → Rws → AS → Prop} {cs : List AC} (r : HRow) (hi : R i = some r) (hk : s.mem k = some cs) (hc : cs[off]? = some (.c r.v)) (h : RWt P c Q (fun j => if j = i then none else R j) (s.setm k (cs.set off (.p (SlP r.sz r.n r.ys))))) (hsz : 0 < r.sz := by first | decide | exact Nat.zero_lt_succ _) : RWt P c Q R s := by
  rintro ok B0 A0 a w Ds hm ⟨A, ρ, hR⟩
  obtain ⟨A', hR4, w2⟩ := hR.coolH i r hi hsz
  have hR5 := hR4.next (hR4.rel.retellm (ds := cs.set off (.p (SlP r.sz r.n r.ys))) hk fun vs hv => ⟨by rw [List.length_set]; exact hv.1, fun j x u hx hu => by
    rw [List.getElem?_set] at hx
    by_cases e : off = j
    · subst e
      rw [if_pos rfl] at hx
      split at hx
      · cases hx
        obtain ⟨rfl, _⟩ := hv.2 off _ u hc hu
        exact w2
      · cases hx
    · rw [if_neg e] at hx
      exact hv.2 j x u hx hu⟩)
  refine h (ok.setm fun x hx j hj => ?_) B0 A0 a w Ds hm ⟨A', ρ, hR5⟩
  rcases List.mem_or_eq_of_mem_set hx with hx | rfl
  · exact ok.mm k cs x j hk hx hj
  · cases hj
theorem pcall_bodyR {f : FuncId} {fn : Func} {args : List AV} {r : AV} (hf : P.funcs[f]? = some fn) (hb : fn.body = some c) (hn : Nat.ble args.length fn.ntmps = true) (ca : args.all AV.closedB = true) (cr : r.closedB = true)
    (h : RWt P c (fun e R' s' => apost P fn r e s') noRows (start fn.ntmps args)) : PCall P f args r :=
  pcall_of_bodyR hf hb (by simpa [Nat.ble_eq] using hn) (fun x hx => AV.closed_of (List.all_eq_true.1 ca x hx)) (AV.closed_of cr) h
end
end Go.Proofs.Ytlfkllmnekdghaa

namespace Go.Proofs.Ytlfkllmnekdghaa
open Go.RowKit
set_option linter.unusedVariables false
set_option linter.unusedSimpArgs false
section
variable {P : Program} {x : Code} {Q : Exit → Rws → AS → Prop} {R : Rws} {s : AS}
/-- a loop with ranges over functions in it. -/
theorem rwt_loopL (N : Nat) (I : Nat → Rws → List (Nat × AV) → List (Nat × List AC) → Prop) (k : Nat) (R0 : Rws) (ts : List (Nat × AV)) (ms : List (Nat × List AC)) (hI : I k R0 ts ms) (hl : RLe R0 R) (hn : N = s.n) (ht : allT s.tmps ts) (hm : allT s.mem ms) (hok : okB ts ms = true)
    (round : ∀ k R ts ms, I k R ts ms → okB ts ms = true → RWt P x (rthen (fun R' s' => ∃ k' R'' ts' ms', k' < k ∧ I k' R'' ts' ms' ∧ RLe R'' R' ∧ N = s'.n ∧ allT s'.tmps ts' ∧ allT s'.mem ms' ∧ okB ts' ms' = true) Q) R (mkS N ts ms)) : RWt P (.loop x) Q R s := by
  rintro ok B0 A0 a w Ds hmk ⟨A, ρ, hR⟩
  refine (wpIn_wide (n := 0)).1 (wpIn_loop_n (F := Fence.wide) (n := 0) (fun k a w => ∃ R ts ms B A Ds', I k R ts ms ∧ okB ts ms = true ∧ Mk B A Ds' ∧ Ext B0 A0 Ds B A Ds' ∧ RRel B A R (mkS N ts ms) a w) (m := k) ⟨R0, ts, ms, B0, A0, Ds, hI, hok, hmk, Ext.refl _ _ _, A, ρ, (hR.le hl).les (mkS_le hn ht hm)⟩ ?_)
  rintro k a w ⟨R, ts, ms, B, A, Ds', hI, ok, hmk', hx, hH⟩
  refine wpIn_mono (wpIn_wide.2 (round k R ts ms hI ok (mkS_ok ok) B A a w Ds' hmk' hH)) ?_
  rintro e a' w' ⟨R', s', B', A', Ds2, ok', hm', hx', ⟨A2, ρ2, hR'⟩, hq⟩
  cases e with
  | normal =>
    obtain ⟨k', R'', ts', ms', h1, h2, h3, h4, h5, h6, h7⟩ := hq
    exact ⟨k', h1, R'', ts', ms', B', A', Ds2, h2, h7, hm', hx.trans hx', A2, ρ2, (hR'.le h3).les (mkS_le h4 h5 h6)⟩
  | _ => exact ⟨R', s', B', A', Ds2, ok', hm', hx.trans hx', ⟨A2, ρ2, hR'⟩, hq⟩
end
section
variable {P : Program} {md : Region.Mode} {ops ops1 : Array Oper}
theorem wpAnyIn_more {F : Fence} {n : Nat} {Q : Exit → Act → World → Prop} : ∀ (f : Nat) (listed : Array Bool) (a : Act) (w : World), wpAnyIn F n P md ops Q f listed a w → wpAnyIn F n P md ops Q (f + 1) listed a w
  | 0, listed, a, w, h => ⟨fun _ => h.2, fun i hi => by rw [h.1] at hi; cases hi⟩
  | f + 1, listed, a, w, h => ⟨h.1, fun i hi => wpOpIn_mono (fun a w h => wpAnyIn_more f _ a w h) (h.2 i hi)⟩
theorem wpAnyIn_more' {F : Fence} {n : Nat} {Q : Exit → Act → World → Prop} (g : Nat) : ∀ (f : Nat) (listed : Array Bool) (a : Act) (w : World), wpAnyIn F n P md ops Q g listed a w → wpAnyIn F n P md ops Q (f + g) listed a w
  | 0, _, _, _, h => by rwa [Nat.zero_add]
  | f + 1, listed, a, w, h => by rw [Nat.succ_add]; exact wpAnyIn_more _ _ _ _ (wpAnyIn_more' g f listed a w h)
/-- operations wait for such alone that stand ahead of them. -/
def risesB (md : Region.Mode) (ops : Array Oper) (k : Nat) : Bool := (List.range k).all fun j => match ops[j]? with
  | some o => o.after.all fun e => !Region.binds md e || Nat.blt e.on j
  | none => true
theorem risesB_spec {k j : Nat} {o : Oper} (h : risesB md ops k = true) (hj : j < k) (ho : ops[j]? = some o) : ∀ e ∈ o.after, Region.binds md e = true → e.on < j := by
  intro e he hb
  unfold risesB at h
  rw [List.all_eq_true] at h
  have h1 := h j (List.mem_range.2 hj)
  rw [ho] at h1
  have h2 := Array.all_eq_true'.1 h1 e he
  rw [hb] at h2
  simpa [Nat.blt_eq] using h2
theorem listed_all {k : Nat} {listed : Array Bool} (h : risesB md ops k = true) (hk : k = ops.size) (hs : k ≤ listed.size) (h0 : Region.ready md ops listed = []) : ∀ j, j < k → listed.getD j false = true := by
  intro j
  induction j using Nat.strongRecOn with
  | _ j ih =>
    intro hj
    refine Classical.byContradiction fun hn => ?_
    have hlt : j < listed.size := by omega
    have hjo : j < ops.size := by omega
    have hmem : j ∈ Region.ready md ops listed := mem_ready.2 ⟨by simp [hlt] at hn ⊢; exact hn, ops[j], by simp [hjo], fun e he hb => by
      have := risesB_spec h hj (o := ops[j]) (by simp [hjo]) e he hb
      exact ih e.on this (by omega)⟩
    rw [h0] at hmem
    cases hmem
/-- the operations ahead of the call of yield, in whatever order. -/
theorem yAny_sound {F : Fence} {B : Base} {A : Nat → Prop} {K : AS → Prop} {Q : Exit → Act → World → Prop} {kc f2 : Nat} (hF : F = Wd none) (hk1 : ops1.size = kc) (hpre : ∀ j, j < kc → ops[j]? = ops1[j]?) (hrise : risesB md ops1 kc = true) (hg : ∀ (j : Nat) (o : Oper), ops1[j]? = some o → o.guard = none)
    (hw1 : ∀ i, i < kc → waits md ops 12 kc i = true) (hw2 : ∀ j, kc < j → j < ops.size → waits md ops 12 j kc = true)
    (hK : ∀ listed s' ρ' a' w', listed.size = ops.size → (∀ j, j < kc → listed.getD j false = true) → (∀ j, kc ≤ j → j < ops.size → listed.getD j true = false) → Down md ops listed → s'.Ok → Rel B A s' ρ' a' w' → K s' → wpAnyIn F 0 P md ops Q f2 listed a' w') :
    ∀ (fuel : Nat) (listed : Array Bool) (s : AS) (ρ : Nat → Nat) (a : Act) (w : World), listed.size = ops.size → kc ≤ ops.size → (∀ j, kc ≤ j → j < ops.size → listed.getD j true = false) → Down md ops listed → s.Ok → Rel B A s ρ a w → aAny P md ops1 K fuel listed s → wpAnyIn F 0 P md ops Q (fuel + f2) listed a w := by
  subst hF
  intro fuel
  induction fuel with
  | zero =>
    intro listed s ρ a w hs hkc hun hdn ok hR h
    rw [Nat.zero_add]
    exact hK listed s ρ a w hs (listed_all hrise hk1.symm (by omega) h.1) hun hdn ok hR h.2
  | succ fuel ih =>
    intro listed s ρ a w hs hkc hun hdn ok hR h
    by_cases h0 : Region.ready md ops1 listed = []
    · exact wpAnyIn_more' f2 _ _ _ _ (hK listed s ρ a w hs (listed_all hrise hk1.symm (by omega) h0) hun hdn ok hR (h.1 h0))
    · have sub : ∀ i ∈ Region.ready md ops1 listed, i ∈ Region.ready md ops listed := fun i hi => by
        obtain ⟨q1, o, q2, q3⟩ := mem_ready.1 hi
        have hlt : i < kc := by rw [← hk1]; exact (Array.getElem?_eq_some_iff.1 q2).1
        exact mem_ready.2 ⟨q1, o, by rw [hpre i hlt]; exact q2, q3⟩
      have notall : ¬ ∀ j, j < kc → listed.getD j false = true := fun hall => by
        apply h0
        cases hr : Region.ready md ops1 listed with
        | nil => rfl
        | cons i rs =>
          have hi : i ∈ Region.ready md ops1 listed := by rw [hr]; exact List.mem_cons_self ..
          obtain ⟨q1, o, q2, q3⟩ := mem_ready.1 hi
          have hlt : i < kc := by rw [← hk1]; exact (Array.getElem?_eq_some_iff.1 q2).1
          have := hall i hlt
          have hl : i < listed.size := by omega
          simp [hl] at this q1
          rw [this] at q1; cases q1
      rw [Nat.succ_add]
      refine ⟨fun he => ?_, fun i hi => ?_⟩
      · exfalso
        cases hr : Region.ready md ops1 listed with
        | nil => exact h0 hr
        | cons i rs =>
          have := sub i (by rw [hr]; exact List.mem_cons_self ..)
          rw [he] at this; cases this
      · obtain ⟨q1, o, q2, q3⟩ := mem_ready.1 hi
        have hio : i < ops.size := (Array.getElem?_eq_some_iff.1 q2).1
        rcases Nat.lt_trichotomy i kc with hlt | heq | hgt
        · have q2' : ops1[i]? = some o := by rw [← hpre i hlt]; exact q2
          have hi1 : i ∈ Region.ready md ops1 listed := mem_ready.2 ⟨q1, o, q2', q3⟩
          obtain ⟨b, hw, e, he, hd, hk⟩ := h.2 i hi1 o q2'
          have hw' : want ops o s = some b := by
            unfold want at hw ⊢
            rw [hg i o q2'] at hw ⊢
            exact hw
          refine aOp_sound (ro := none) (K := aAny P md ops1 K fuel (listed.setIfInBounds i true)) q2 ok hR ⟨b, hw', e, he, hd, hk⟩ fun s' ρ' a' w' ok' hR' hk' => ih _ s' ρ' a' w' (by simpa using hs) hkc (fun j h1 h2 => ?_) (hdn.set hi) ok' hR' hk'
          rw [getD_set_ne true (by omega)]; exact hun j h1 h2
        · subst heq
          exact absurd (fun j hj => waits_listed hdn 12 i j o q2 q3 (hw1 j hj)) notall
        · exfalso
          have := waits_listed hdn 12 i kc o q2 q3 (hw2 i hgt hio)
          have h2 := hun kc (Nat.le_refl _) (by omega)
          have hl : kc < listed.size := by omega
          simp [hl] at this h2
          rw [this] at h2; cases h2
end
def drawY (kc : Nat) (l l1 l2 : List Oper) : Bool :=
  Nat.beq l1.length kc && Nat.beq l.length (kc + 1 + l2.length) && l1.all (fun o => o.guard.isNone) && risesB .any l.toArray (kc + 1) && risesB .any l1.toArray kc && (List.range kc).all (fun i => waits .any l.toArray 12 kc i) && (List.range l.length).all (fun j => Nat.ble j kc || waits .any l.toArray 12 j kc) &&
  (Nat.beq (ordOf l1).length l1.length && ndB (ordOf l1) && (List.range l1.length).all (fun i => (ordOf l1).contains i) && (ordOf l1).all (fun i => Nat.blt i l1.length) && lexM .any l1.toArray [] (ordOf l1) (Array.replicate l.length false)) &&
  lexM .any l.toArray [] ((List.range l2.length).map (kc + 1 + ·)) ((List.range l.length).map (fun j => Nat.ble j kc)).toArray
theorem aList_up {P : Program} {ops : Array Oper} {K K' : AS → Prop} (h : ∀ s, K s → K' s) : ∀ (l : List Oper) (s : AS), aList P ops K l s → aList P ops K' l s
  | [], s, hh => h s hh
  | o :: l, s, hh => aOp_mono (fun s' h' => aList_up h l s' h') hh
section
variable {P : Program} {X : Yx} {Q : Exit → Option Nat → AS → Prop} {s : AS}
set_option maxHeartbeats 1000000 in
/-- a region that draws its order, with one call of yield, that waits for all ahead of it. -/
theorem ywp_yieldD {ri kc i : Nat} {l l1 l1' l2 : List Oper} {d : Nat} {gop : Operand} {xl : List Operand} {tys : Array TypeId} {ty : Nat} {pos : String} {after : Array Edge} (hX : X.Ok P) (hm : P.follows .mixedOrders = true)
    (hcut : cutL kc l = some (l1, ⟨some d, .call ⟨.value gop, xl.toArray, tys⟩, ty, pos, after, none⟩ :: l2)) (hB : drawY kc l l1 l2 = true) (hl' : getAll l1 (ordOf l1) = some l1')
    (h : aList P l1.toArray (fun s1 => d < s1.n ∧ s1.look gop = some (vC (.func (.yield X.l) #[] #[])) ∧ ∃ (x ys : List AV), X.xs[i]? = some x ∧ xl.map s1.look = ys.map some ∧ Elds X ys x ∧
      aList P l.toArray (fun s' => Q .normal (some (i + 1)) s') l2 (s1.put (some d) (vB true)) ∧ aList P l.toArray (fun s' => Q .normal none s') l2 (s1.put (some d) (vB false))) l1' s) : YWp P X (.region ri l.toArray true) Q (some i) s := by
  intro ok a w A ρ C hR0
  have hl := cutL_spec _ _ _ _ hcut
  refine wpIn_region_any hm ?_
  have hR : YR X (some i) s a { w with drawn := w.drawn + 1 } A ρ C := yr_next hX hR0 (hR0.rel.call ((Below.refl _ w).drew))
  generalize hw1 : ({ w with drawn := w.drawn + 1 } : World) = w1 at hR
  unfold drawY at hB
  simp only [Bool.and_eq_true] at hB
  obtain ⟨⟨⟨⟨⟨⟨⟨⟨e1, e2⟩, e3⟩, e4⟩, e5⟩, e6⟩, e7⟩, ⟨⟨⟨b0, b1⟩, b2⟩, b3⟩, b4⟩, e8⟩ := hB
  have e1 : l1.length = kc := Nat.eq_of_beq_eq_true e1
  have e2 : l.length = kc + 1 + l2.length := Nat.eq_of_beq_eq_true e2
  rw [List.all_eq_true] at e3 e6 e7 b2 b3
  obtain ⟨g1, g2⟩ := getAll_spec _ _ hl'
  have hlen1 : (ordOf l1).length = l1.length := Nat.eq_of_beq_eq_true b0
  have hoa : l.toArray[kc]? = some ⟨some d, .call ⟨.value gop, xl.toArray, tys⟩, ty, pos, after, none⟩ := by rw [hl]; simp [e1]
  have hpre : ∀ j, j < kc → l.toArray[j]? = l1.toArray[j]? := fun j hj => by
    rw [hl]; simp [List.getElem?_append_left (show j < l1.length by omega)]
  have hun0 : ∀ j, j < l.length → (Array.replicate l.length false).getD j true = false := fun j hj => by simp [hj]
  have hdn0 : ∀ (ops : Array Oper), Down .any ops (Array.replicate l.length false) := fun ops k o hk => by exfalso; rcases Nat.lt_or_ge k l.length with q | q <;> simp [q] at hk
  have hany := aAny_lex (md := .any) (ops := l1.toArray) (prs := []) (ordOf l1) l1' (Array.replicate l.length false) s g1 (by simpa using g2) (fun q hq => by
      have := b3 q hq; simp [Nat.blt_eq] at this; exact hun0 q (by omega)) (fun q hq _ => by simpa using b2 q (List.mem_range.2 (by simpa using hq))) (ndB_spec _ b1) (hdn0 _) ok b4 (aList_up (fun s' h' => ⟨rfl, h'⟩) _ _ h)
  rw [g1, hlen1, e1] at hany
  have hsz : l.toArray.size = kc + (l2.length + 1) := by rw [List.size_toArray, e2]; omega
  rw [hsz]
  have hrep : Array.replicate (kc + (l2.length + 1)) false = Array.replicate l.length false := by rw [e2, Nat.add_assoc, Nat.add_comm 1]
  rw [hrep]
  refine yAny_sound (md := .any) (ops := l.toArray) (ops1 := l1.toArray) (kc := kc) (f2 := l2.length + 1) rfl (by simpa using e1) hpre e5 (fun j o ho => ?_) (fun i hi => e6 i (List.mem_range.2 hi)) (fun j h1 h2 => ?_) ?_ kc (Array.replicate l.length false) s ρ a w1 (by simp) (by rw [hsz]; omega) (fun j h1 h2 => hun0 j (by simpa using h2)) (hdn0 _) ok hR.rel hany
  · have := e3 o (by have := List.mem_of_getElem? (by simpa using ho : l1[j]? = some o); exact this)
    simpa using this
  · have := e7 j (List.mem_range.2 (by simpa using h2))
    rw [Bool.or_eq_true] at this
    rcases this with h | h
    · rw [Nat.ble_eq] at h; omega
    · exact h
  rintro listed s1 ρ1 a1 w2 hsz1 hall hun hdn ok1 hR1 ⟨hd, hg, x, ys, hv, hxl, hex, h1, h0⟩
  have hY := yr_next hX hR hR1
  have hkl : kc < listed.size := by rw [hsz1, hsz]; omega
  have hunk := hun kc (Nat.le_refl _) (by rw [hsz]; omega)
  have hready : kc ∈ Region.ready .any l.toArray listed := mem_ready.2 ⟨hunk, _, hoa, fun e he hb => hall _ (risesB_spec e4 (Nat.lt_succ_self _) hoa e he hb)⟩
  refine ⟨fun he => (by rw [he] at hready; cases hready), fun j hj => ?_⟩
  have hjk : j = kc := by
    obtain ⟨q1, o, q2, q3⟩ := mem_ready.1 hj
    have hjo : j < l.toArray.size := (Array.getElem?_eq_some_iff.1 q2).1
    rcases Nat.lt_trichotomy j kc with hlt | heq | hgt
    · have := hall j hlt
      have hl : j < listed.size := by omega
      simp [hl] at this q1
      rw [this] at q1; cases q1
    · exact heq
    · have h3 := e7 j (List.mem_range.2 (by simpa using hjo))
      rw [Bool.or_eq_true] at h3
      rcases h3 with h3 | h3
      · rw [Nat.ble_eq] at h3; omega
      · have := waits_listed hdn 12 j kc o q2 q3 h3
        simp [hkl] at this hunk
        rw [this] at hunk; cases hunk
  subst hjk
  unfold wpOpIn
  rw [hoa]
  simp only [Region.wanted, if_true]
  have htold : RpVs X.U id X.W1 x ((xl.map a1.eval).toArray).toList := by
    have e0 : ((xl.map a1.eval).toArray).toList = xl.map a1.eval := rfl
    rw [e0]
    have hl1 : xl.length = ys.length := by have := congrArg List.length hxl; simpa using this
    refine ⟨by rw [← hex.1, ← hl1, List.length_map], fun j z u hz hu => ?_⟩
    have hlt : j < ys.length := by rw [hex.1]; exact (List.getElem?_eq_some_iff.1 hz).1
    refine hex.2 j _ z (List.getElem?_eq_getElem hlt) hz (s1.free A ρ1) ρ1 w2 u ?_
    have e1 := congrArg (fun z => z[j]?) hxl
    simp only [List.getElem?_map] at e1
    rw [List.getElem?_map] at hu
    cases hx : xl[j]? with
    | none => rw [hx] at hu; cases hu
    | some o =>
      rw [hx] at e1 hu
      cases hu
      rw [List.getElem?_eq_getElem hlt] at e1
      simp only [Option.map_some, Option.some.injEq] at e1
      exact hY.rel.look e1
  obtain ⟨fn, tm, assign, body, hy, hro⟩ := hX.rd i C w2 x _ hY.j hY.c0 hv htold
  have hrun : (execOp a1.eval ⟨some d, .call ⟨.value gop, xl.toArray, tys⟩, ty, pos, after, none⟩).run P w2 = .ok (.round X.l fn tm assign body) w2 := run_yield_op rfl (hY.rel.look hg).1 rfl hy
  refine ⟨fun _ _ => trivial, ?_⟩
  rw [Oper.semAt_eq _ _ _ (fun c hc => by cases hc), hrun]
  refine ⟨fun h => (by cases h), hro.mono ?_⟩
  have hlst : listed.setIfInBounds j true = ((List.range l.length).map (fun q => Nat.ble q j)).toArray := by
    apply Array.ext
    · simp only [Array.size_setIfInBounds, List.size_toArray, List.length_map, List.length_range]; rw [hsz1]; simp
    · intro q hq1 hq2
      have hq : q < listed.size := by simpa using hq1
      have hq' : q < l.length := by simpa using hq2
      have hr : ((List.range l.length).map (fun q => Nat.ble q j)).toArray[q] = Nat.ble q j := by simp
      rw [hr]
      by_cases hqj : j = q
      · subst hqj
        rw [Array.getElem_setIfInBounds_self]; simp
      · rw [Array.getElem_setIfInBounds_ne (by simpa using hq) hqj]
        rcases Nat.lt_or_gt_of_ne hqj with hgt | hlt
        · have := hun q (by omega) (by rw [hsz]; omega)
          simp [hq] at this
          rw [this]; symm
          cases hb : Nat.ble q j with
          | false => rfl
          | true => rw [Nat.ble_eq] at hb; omega
        · have := hall q hlt
          simp [hq] at this
          rw [this]; symm
          rw [Nat.ble_eq]; omega
  have hdn2 : Down .any l.toArray (listed.setIfInBounds j true) := hdn.set hready
  rw [← hlst] at e8
  have fin : ∀ (b : Bool) (g2 : Option Nat) (w3 : World), Grew C w2 w3 → X.G g2 (extC C w2 w3) w3 → aList P l.toArray (fun s' => Q .normal g2 s') l2 (s1.put (some d) (vB b)) →
      wpAnyIn Fence.wide 0 P .any l.toArray (fun e a' w' => ∃ g' s' A' ρ' C', s'.Ok ∧ YR X g' s' a' w' A' ρ' C' ∧ Q e g' s') l2.length (listed.setIfInBounds j true) (a1.put (some d) (.bool b)) w3 := fun b g2 w3 gr hj hl2 => by
    have hY2 := yr_round hY gr hj
    have hput := hY2.rel.put (dst := some d) (av := vB b) (v := .bool b) (fun d' e => by cases e; exact hd) ⟨rfl, rfl⟩
    have ok2 : (s1.put (some d) (vB b)).Ok := ok1.put fun j hj => absurd hj (noown _ j)
    have hY3 := yr_next hX hY2 hput
    refine aAny_sound (ro := none) (K := fun s' => Q .normal g2 s') (fun s' ρ' a' w' ok' hR' hk => ⟨g2, s', _, ρ', _, ok', yr_next hX hY3 hR', hk⟩) l2.length _ _ ρ1 _ w3 ok2 hY3.rel ?_
    refine aAny_lex (prs := []) ((List.range l2.length).map (j + 1 + ·)) l2 _ _ (by simp) (fun q => ?_) (fun q hq => ?_) (fun q hq hl0 => ?_) (List.pairwise_map.2 (List.Pairwise.imp (fun {a b} hab => by show j + 1 + a ≠ j + 1 + b; omega) (List.nodup_range (n := l2.length)))) hdn2 ok2 e8 (aList_up (fun s' h' => ⟨rfl, h'⟩) _ _ hl2)
    · rw [List.getElem?_map]
      by_cases hq : q < l2.length
      · rw [List.getElem?_range hq]
        show l2[q]? = l.toArray[j + 1 + q]?
        rw [hl]
        simp [List.getElem?_append_right, e1, Nat.add_assoc, Nat.add_comm 1 q]
      · rw [List.getElem?_eq_none (by omega), List.getElem?_eq_none (by simp; omega)]; rfl
    · obtain ⟨t, ht, rfl⟩ := List.mem_map.1 hq
      have ht := List.mem_range.1 ht
      rw [getD_set_ne true (by omega)]
      exact hun _ (by omega) (by rw [hsz]; omega)
    · have hq' : q < j + 1 + l2.length := by have := hq; rw [hsz] at this; omega
      by_cases h3 : q ≤ j
      · exfalso
        by_cases h4 : j = q
        · subst h4; simp [hkl] at hl0
        · rw [getD_set_ne true h4] at hl0
          have h5 := hall q (by omega)
          have hql : q < listed.size := by omega
          simp [hql] at h5 hl0
          rw [h5] at hl0; cases hl0
      · exact List.mem_map.2 ⟨q - (j + 1), List.mem_range.2 (by omega), by omega⟩
  rintro e w3 ⟨gr, ⟨rfl, hj⟩ | ⟨rfl, hj⟩⟩
  · exact fin true (some (i + 1)) w3 gr hj h1
  · exact fin false none w3 gr hj h0
end
end Go.Proofs.Ytlfkllmnekdghaa

namespace Go.Proofs.Ytlfkllmnekdghaa
open Go.RowKit
set_option linter.unusedVariables false
set_option linter.unusedSimpArgs false
/-- what is known of types, by their numbers. -/
structure Tab where
  ty : List (Nat × Bool × Nat)
  zero : List (Nat × List Value)
  fld : List (Nat × List (Nat × Nat))
  arr : List (Nat × Nat × Nat)
  plc : List (Nat × List (Nat × Nat))
def allL {α : Type} (R : α → Prop) : List α → Prop
  | [] => True
  | a :: l => R a ∧ allL R l
theorem allL_lkp {α : Type} {R : Nat × α → Prop} {k : Nat} {v : α} : ∀ (l : List (Nat × α)), allL R l → lkp l k = some v → R (k, v)
  | [], _, h => by cases h
  | (j, u) :: l, hl, h => by
    simp only [lkp] at h
    cases hb : Nat.beq k j with
    | true => rw [hb] at h; cases h; obtain rfl := Nat.eq_of_beq_eq_true hb; exact hl.1
    | false => rw [hb] at h; exact allL_lkp l hl.2 h
class QTab (P : Program) (T : outParam Tab) : Prop where
  ty : allL (fun p => tyOf P p.1 = some p.2) T.ty
  zero : allL (fun p => zeroOf P p.1 = some p.2) T.zero
  fld : allL (fun p => allL (fun q => fldOf P p.1 q.1 = some q.2) p.2) T.fld
  arr : allL (fun p => arrOf P p.1 = some p.2) T.arr
  plc : allL (fun p => plcOf P p.1 = some p.2) T.plc
def qcmp (b : BinOp) (m n : Int) : Option Bool :=
  match b with
  | .lss => some (decide (m < n))
  | .leq => some (decide (m ≤ n))
  | .gtr => some (decide (n < m))
  | .geq => some (decide (n ≤ m))
  | .eql => some (decide (m = n))
  | .neq => some (!decide (m = n))
  | _ => none
/-- an operation that hands a value to its slot. -/
def qop (T : Tab) (s : AS) (d : Nat) : Op → Option AS
  | .move x => match s.look x with
    | some av => some (s.put (some d) av)
    | none => none
  | .assign x => match s.look x with
    | some av => some (s.put (some d) av)
    | none => none
  | .pick c x y => match s.look c, s.look x, s.look y with
    | some (.w (.one (.c (.bool true)))), some av, some _ => some (s.put (some d) av)
    | some (.w (.one (.c (.bool false)))), some _, some bv => some (s.put (some d) bv)
    | _, _, _ => none
  | .alloc t => match lkp T.zero t, s.mem d with
    | some vs, none => bif vs.all fun v => v.oneCell' then some ((s.setm d (vs.map .c)).put (some d) (vO d 0)) else none
    | _, _ => none
  | .box _ x => match s.look x, s.mem d with
    | some (.w z), none => some ((s.setm d z.cells).put (some d) (vO d 0))
    | _, _ => none
  | .load t x => match s.look x with
    | some (.w (.one (.own k off))) => match s.mem k with
      | some cs => match lkp T.ty t with
        | some (false, _) => match cs[off]? with
          | some y => some (s.put (some d) (.w (.one y)))
          | none => none
        | some (true, n) => match takeN cs off n with
          | some ys => some (s.put (some d) (.w (.agg ys)))
          | none => none
        | none => none
      | none => none
    | _ => none
  | .fieldAddr t x i => match s.look x with
    | some (.w (.one (.own k off))) => match lkp T.fld t with
      | some l => match lkp l i with
        | some fo => some (s.put (some d) (vO k (off + fo)))
        | none => none
      | none => none
    | _ => none
  | .indexAddr t x y => match s.look x, s.look y with
    | some (.w (.one (.own k off))), some (.w (.one (.c (.int _ i)))) => match lkp T.arr t with
      | some (n, size) => bif decide (0 ≤ i) && decide (i < n) then some (s.put (some d) (vO k (off + i.toNat * size))) else none
      | none => none
    | _, _ => none
  | .extract x i => match s.look x with
    | some (.tup xs) => match xs[i]? with
      | some y => some (s.put (some d) (.w y))
      | none => none
    | _ => none
  | .build t parts => match lookP s.look parts.toList, lkp T.zero t, lkp T.plc t with
    | some zs, some vs, some ps => match buildN ps (vs.map .c) zs with
      | some r => bif vs.all fun v => v.oneCell' then some (s.put (some d) (.w (.agg r))) else none
      | none => none
    | _, _, _ => none
  | .binOp b _ x y _ => match s.look x, s.look y with
    | some (.w (.one (.c (.int k m)))), some (.w (.one (.c (.int k' n)))) => match decEq k k' with
      | isTrue _ => match qcmp b m n with
        | some r => some (s.put (some d) (vB r))
        | none => none
      | isFalse _ => none
    | _, _ => none
  | .unOp .not _ x => match s.look x with
    | some (.w (.one (.c (.bool b)))) => some (s.put (some d) (vB (!b)))
    | _ => none
  | _ => none
def qstep (T : Tab) (ops : Array Oper) (s : AS) (o : Oper) : Option AS :=
  match want ops o s with
  | some true => match o.dst with
    | some d => bif Nat.blt d s.n then qop T s d o.op else none
    | none => match o.op with
      | .store t x y => match s.look x, s.look y with
        | some (.w (.one (.own k off))), some (.w z) => match s.mem k, lkp T.ty t with
          | some cs, some (_, n) => bif Nat.beq n z.cells.length then (match putN cs off z.cells with
            | some ds => some (s.setm k ds)
            | none => none) else none
          | _, _ => none
        | _, _ => none
      | _ => none
  | some false => match o.dst with
    | some d => bif Nat.blt d s.n then some (s.put (some d) (.tup [])) else none
    | none => some s
  | none => none
section
variable {P : Program} {T : Tab} {s s' : AS} {ops : Array Oper} {K : AS → Prop} {rest : List Oper}
theorem al_qop [Q : QTab P T] {d ty : Nat} {op : Op} {pos : String} {after : Array Edge} {guard : Option (Nat × Bool)} (hw : want ops ⟨some d, op, ty, pos, after, guard⟩ s = some true) (hd : Nat.blt d s.n = true) (h : qop T s d op = some s') (k : aList P ops K rest s') :
    aList P ops K (⟨some d, op, ty, pos, after, guard⟩ :: rest) s := by
  cases op with
  | move x =>
    simp only [qop] at h
    split at h
    · rename_i av hx; cases h; exact al_move hw hx hd k
    · cases h
  | assign x =>
    simp only [qop] at h
    split at h
    · rename_i av hx; cases h; exact al_assign hw hx hd k
    · cases h
  | pick c x y =>
    simp only [qop] at h
    split at h
    · rename_i av bv hc hx hy; cases h; exact al_pick_t hw hc hx hy hd k
    · rename_i av bv hc hx hy; cases h; exact al_pick_f hw hc hy hx hd k
    · cases h
  | alloc t =>
    simp only [qop] at h
    split at h
    · rename_i vs hz hm
      have hZ := allL_lkp _ Q.zero hz
      cases h1 : (vs.all fun v => v.oneCell') with
      | true =>
        rw [h1] at h
        cases h
        have : ZeroOf P t vs := ⟨hZ⟩
        exact al_alloc hw hm h1 hd k
      | false => rw [h1] at h; cases h
    · cases h
  | box t x =>
    simp only [qop] at h
    split at h
    · rename_i z hx hm; cases h; exact al_box hw hx hm hd k
    · cases h
  | load t x =>
    simp only [qop] at h
    split at h
    · rename_i j off hx
      split at h
      · rename_i cs hm
        split at h
        · rename_i n hT
          have hT' := allL_lkp _ Q.ty hT
          split at h
          · rename_i y hc; cases h; have : TyOf P t false n := ⟨hT'⟩; exact al_load1 hw hx hm hc hd k
          · cases h
        · rename_i n hT
          have hT' := allL_lkp _ Q.ty hT
          split at h
          · rename_i ys hc; cases h; have : TyOf P t true n := ⟨hT'⟩; exact al_loadN hw hx hm hc hd k
          · cases h
        · cases h
      · cases h
    · cases h
  | fieldAddr t x i =>
    simp only [qop] at h
    split at h
    · rename_i j off hx
      split at h
      · rename_i l hl
        split at h
        · rename_i fo hf
          have hF := allL_lkp _ (allL_lkp _ Q.fld hl) hf
          cases h
          have : FldOf P t i fo := ⟨hF⟩
          exact al_fld hw hx hd k
        · cases h
      · cases h
    · cases h
  | indexAddr t x y =>
    simp only [qop] at h
    split at h
    · rename_i j off ik i hx hy
      split at h
      · rename_i n size hA
        have hA' := allL_lkp _ Q.arr hA
        cases h1 : (decide (0 ≤ i) && decide (i < (n : Int))) with
        | true =>
          rw [h1] at h
          cases h
          rw [Bool.and_eq_true, decide_eq_true_eq, decide_eq_true_eq] at h1
          have : ArrOf P t n size := ⟨hA'⟩
          exact al_idx hw hx hy h1.1 h1.2 hd k
        | false => rw [h1] at h; cases h
      · cases h
    · cases h
  | extract x i =>
    simp only [qop] at h
    split at h
    · rename_i xs hx
      split at h
      · rename_i y hy; cases h; exact al_extract hw hx hy hd k
      · cases h
    · cases h
  | build t parts =>
    simp only [qop] at h
    split at h
    · rename_i zs vs ps hz hv hp
      have hZ := allL_lkp _ Q.zero hv
      have hL := allL_lkp _ Q.plc hp
      split at h
      · rename_i r hr
        cases h1 : (vs.all fun v => v.oneCell') with
        | true =>
          rw [h1] at h
          cases h
          have : ZeroOf P t vs := ⟨hZ⟩
          have : PlcOf P t ps := ⟨hL⟩
          have g : aList P ops K (⟨some d, .build t parts.toList.toArray, ty, pos, after, guard⟩ :: rest) s := al_build (by rw [Array.toArray_toList]; exact hw) hz hr h1 hd k
          rwa [Array.toArray_toList] at g
        | false => rw [h1] at h; cases h
      · cases h
    · cases h
  | binOp b xt x y yt =>
    simp only [qop] at h
    split at h
    · rename_i ik m ik' n hx hy
      split at h
      · rename_i e he
        subst e
        cases b <;> simp only [qcmp] at h <;> cases h
        · exact al_eql hw hx hy hd k
        · exact al_neq hw hx hy hd k
        · exact al_lss hw hx hy hd k
        · exact al_leq hw hx hy hd k
        · exact al_gtr hw hx hy hd k
        · exact al_geq hw hx hy hd k
      · cases h
    · cases h
  | unOp u xt x =>
    cases u <;> simp only [qop] at h <;> try (cases h; done)
    split at h
    · rename_i b hx; cases h; exact al_not hw hx hd k
    · cases h
  | _ => simp only [qop] at h; cases h
theorem al_q [Q : QTab P T] {o : Oper} (h : qstep T ops s o = some s') (k : aList P ops K rest s') : aList P ops K (o :: rest) s := by
  obtain ⟨dst, op, ty, pos, after, guard⟩ := o
  unfold qstep at h
  split at h
  · rename_i hw
    cases dst with
    | some d =>
      simp only at h
      cases hd : Nat.blt d s.n with
      | true => rw [hd] at h; exact al_qop hw hd h k
      | false => rw [hd] at h; cases h
    | none =>
      simp only at h
      split at h
      · rename_i t x y
        split at h
        · rename_i j off z hx hy
          split at h
          · rename_i cs b n hm hT
            have hT' := allL_lkp _ Q.ty hT
            cases hn : Nat.beq n z.cells.length with
            | true =>
              rw [hn] at h
              simp only [cond_true] at h
              split at h
              · rename_i ds hp
                cases h
                have : TyOf P t b n := ⟨hT'⟩
                exact al_store hw hx hy hm hn hp k
              · cases h
            | false => rw [hn] at h; cases h
          · cases h
        · cases h
      · cases h
  · rename_i hw
    cases dst with
    | some d =>
      simp only at h
      cases hd : Nat.blt d s.n with
      | true => rw [hd] at h; cases h; exact al_pass hw (fun d' e => by cases e; exact hd) k
      | false => rw [hd] at h; cases h
    | none => cases h; exact al_pass hw (fun d' e => by cases e) k
  · cases h
end
end Go.Proofs.Ytlfkllmnekdghaa

namespace Go.Proofs.Ytlfkllmnekdghaa
instance : TyOf Try.prog 0 false 1 := ⟨by kernel_rfl⟩
instance : TyOf Try.prog 1 false 1 := ⟨by kernel_rfl⟩
instance : ZeroOf Try.prog 1 [.nilFunc] := ⟨by kernel_rfl⟩
instance : TyOf Try.prog 2 false 1 := ⟨by kernel_rfl⟩
instance : ZeroOf Try.prog 2 [.int .i64 0] := ⟨by kernel_rfl⟩
instance : IntTy Try.prog 2 .i64 := ⟨by kernel_rfl⟩
instance : TyOf Try.prog 3 false 1 := ⟨by kernel_rfl⟩
instance : ZeroOf Try.prog 3 [.int .i64 0] := ⟨by kernel_rfl⟩
instance : IntTy Try.prog 3 .i64 := ⟨by kernel_rfl⟩
instance : TyOf Try.prog 4 false 1 := ⟨by kernel_rfl⟩
instance : ZeroOf Try.prog 4 [.bool false] := ⟨by kernel_rfl⟩
instance : TyOf Try.prog 5 false 1 := ⟨by kernel_rfl⟩
instance : ZeroOf Try.prog 5 [.int .u8 0] := ⟨by kernel_rfl⟩
instance : IntTy Try.prog 5 .u8 := ⟨by kernel_rfl⟩
instance : TyOf Try.prog 6 false 1 := ⟨by kernel_rfl⟩
instance : ZeroOf Try.prog 6 [.int .u8 0] := ⟨by kernel_rfl⟩
instance : IntTy Try.prog 6 .u8 := ⟨by kernel_rfl⟩
instance : TyOf Try.prog 7 true 4 := ⟨by kernel_rfl⟩
instance : ZeroOf Try.prog 7 [.int .i64 0, .int .i64 0, .bool false, .int .u8 0] := ⟨by kernel_rfl⟩
instance : FldOf Try.prog 7 0 0 := ⟨by kernel_rfl⟩
instance : FldOf Try.prog 7 1 1 := ⟨by kernel_rfl⟩
instance : FldOf Try.prog 7 2 2 := ⟨by kernel_rfl⟩
instance : FldOf Try.prog 7 3 3 := ⟨by kernel_rfl⟩
instance : PlcOf Try.prog 7 [(0, 1), (1, 1), (2, 1), (3, 1)] := ⟨by kernel_rfl⟩
instance : TyOf Try.prog 8 true 4 := ⟨by kernel_rfl⟩
instance : ZeroOf Try.prog 8 [.int .i64 0, .int .i64 0, .bool false, .int .u8 0] := ⟨by kernel_rfl⟩
instance : FldOf Try.prog 8 0 0 := ⟨by kernel_rfl⟩
instance : FldOf Try.prog 8 1 1 := ⟨by kernel_rfl⟩
instance : FldOf Try.prog 8 2 2 := ⟨by kernel_rfl⟩
instance : FldOf Try.prog 8 3 3 := ⟨by kernel_rfl⟩
instance : PlcOf Try.prog 8 [(0, 1), (1, 1), (2, 1), (3, 1)] := ⟨by kernel_rfl⟩
instance : TyOf Try.prog 9 false 1 := ⟨by kernel_rfl⟩
instance : ZeroOf Try.prog 9 [.string ByteArray.empty] := ⟨by kernel_rfl⟩
instance : TyOf Try.prog 10 false 1 := ⟨by kernel_rfl⟩
instance : ZeroOf Try.prog 10 [.string ByteArray.empty] := ⟨by kernel_rfl⟩
instance : TyOf Try.prog 11 false 1 := ⟨by kernel_rfl⟩
instance : ZeroOf Try.prog 11 [.string ByteArray.empty] := ⟨by kernel_rfl⟩
instance : TyOf Try.prog 12 false 1 := ⟨by kernel_rfl⟩
instance : ZeroOf Try.prog 12 [.int .u64 0] := ⟨by kernel_rfl⟩
instance : IntTy Try.prog 12 .u64 := ⟨by kernel_rfl⟩
instance : TyOf Try.prog 13 true 2 := ⟨by kernel_rfl⟩
instance : ZeroOf Try.prog 13 [.string ByteArray.empty, .int .u64 0] := ⟨by kernel_rfl⟩
instance : FldOf Try.prog 13 0 0 := ⟨by kernel_rfl⟩
instance : FldOf Try.prog 13 1 1 := ⟨by kernel_rfl⟩
instance : PlcOf Try.prog 13 [(0, 1), (1, 1)] := ⟨by kernel_rfl⟩
instance : TyOf Try.prog 14 true 2 := ⟨by kernel_rfl⟩
instance : ZeroOf Try.prog 14 [.string ByteArray.empty, .int .u64 0] := ⟨by kernel_rfl⟩
instance : FldOf Try.prog 14 0 0 := ⟨by kernel_rfl⟩
instance : FldOf Try.prog 14 1 1 := ⟨by kernel_rfl⟩
instance : PlcOf Try.prog 14 [(0, 1), (1, 1)] := ⟨by kernel_rfl⟩
instance : TyOf Try.prog 15 false 1 := ⟨by kernel_rfl⟩
instance : ZeroOf Try.prog 15 [.pointer none] := ⟨by kernel_rfl⟩
instance : TyOf Try.prog 16 false 1 := ⟨by kernel_rfl⟩
instance : ZeroOf Try.prog 16 [.pointer none] := ⟨by kernel_rfl⟩
instance : TyOf Try.prog 17 false 1 := ⟨by kernel_rfl⟩
instance : ZeroOf Try.prog 17 [.pointer none] := ⟨by kernel_rfl⟩
instance : TyOf Try.prog 18 true 1 := ⟨by kernel_rfl⟩
instance : ZeroOf Try.prog 18 [.pointer none] := ⟨by kernel_rfl⟩
instance : FldOf Try.prog 18 0 0 := ⟨by kernel_rfl⟩
instance : PlcOf Try.prog 18 [(0, 1)] := ⟨by kernel_rfl⟩
instance : TyOf Try.prog 19 true 1 := ⟨by kernel_rfl⟩
instance : ZeroOf Try.prog 19 [.pointer none] := ⟨by kernel_rfl⟩
instance : FldOf Try.prog 19 0 0 := ⟨by kernel_rfl⟩
instance : PlcOf Try.prog 19 [(0, 1)] := ⟨by kernel_rfl⟩
instance : TyOf Try.prog 20 false 1 := ⟨by kernel_rfl⟩
instance : ZeroOf Try.prog 20 [.nilIface] := ⟨by kernel_rfl⟩
instance : TyOf Try.prog 21 false 1 := ⟨by kernel_rfl⟩
instance : ZeroOf Try.prog 21 [.int .i32 0] := ⟨by kernel_rfl⟩
instance : IntTy Try.prog 21 .i32 := ⟨by kernel_rfl⟩
instance : TyOf Try.prog 22 false 1 := ⟨by kernel_rfl⟩
instance : ZeroOf Try.prog 22 [.slice none 0 0] := ⟨by kernel_rfl⟩
instance : SliZ Try.prog 22 [.slice none 0 0] := ⟨by kernel_rfl⟩
instance : SliOf Try.prog 22 1 := ⟨by kernel_rfl⟩
instance : TyOf Try.prog 23 true 6 := ⟨by kernel_rfl⟩
instance : ZeroOf Try.prog 23 [.slice none 0 0, .slice none 0 0, .int .i64 0, .int .i64 0, .int .i64 0, .int .i64 0] := ⟨by kernel_rfl⟩
instance : FldOf Try.prog 23 0 0 := ⟨by kernel_rfl⟩
instance : FldOf Try.prog 23 1 1 := ⟨by kernel_rfl⟩
instance : FldOf Try.prog 23 2 2 := ⟨by kernel_rfl⟩
instance : FldOf Try.prog 23 3 3 := ⟨by kernel_rfl⟩
instance : FldOf Try.prog 23 4 4 := ⟨by kernel_rfl⟩
instance : FldOf Try.prog 23 5 5 := ⟨by kernel_rfl⟩
instance : PlcOf Try.prog 23 [(0, 1), (1, 1), (2, 1), (3, 1), (4, 1), (5, 1)] := ⟨by kernel_rfl⟩
instance : TyOf Try.prog 24 true 6 := ⟨by kernel_rfl⟩
instance : ZeroOf Try.prog 24 [.slice none 0 0, .slice none 0 0, .int .i64 0, .int .i64 0, .int .i64 0, .int .i64 0] := ⟨by kernel_rfl⟩
instance : FldOf Try.prog 24 0 0 := ⟨by kernel_rfl⟩
instance : FldOf Try.prog 24 1 1 := ⟨by kernel_rfl⟩
instance : FldOf Try.prog 24 2 2 := ⟨by kernel_rfl⟩
instance : FldOf Try.prog 24 3 3 := ⟨by kernel_rfl⟩
instance : FldOf Try.prog 24 4 4 := ⟨by kernel_rfl⟩
instance : FldOf Try.prog 24 5 5 := ⟨by kernel_rfl⟩
instance : PlcOf Try.prog 24 [(0, 1), (1, 1), (2, 1), (3, 1), (4, 1), (5, 1)] := ⟨by kernel_rfl⟩
instance : TyOf Try.prog 25 false 1 := ⟨by kernel_rfl⟩
instance : ZeroOf Try.prog 25 [.nilFunc] := ⟨by kernel_rfl⟩
instance : TyOf Try.prog 26 false 1 := ⟨by kernel_rfl⟩
instance : ZeroOf Try.prog 26 [.int .i64 0] := ⟨by kernel_rfl⟩
instance : IntTy Try.prog 26 .i64 := ⟨by kernel_rfl⟩
instance : TyOf Try.prog 27 false 1 := ⟨by kernel_rfl⟩
instance : ZeroOf Try.prog 27 [.nilFunc] := ⟨by kernel_rfl⟩
instance : TyOf Try.prog 28 true 6 := ⟨by kernel_rfl⟩
instance : ZeroOf Try.prog 28 [.slice none 0 0, .slice none 0 0, .int .i64 0, .int .i64 0, .int .i64 0, .int .i64 0] := ⟨by kernel_rfl⟩
instance : FldOf Try.prog 28 0 0 := ⟨by kernel_rfl⟩
instance : FldOf Try.prog 28 1 1 := ⟨by kernel_rfl⟩
instance : FldOf Try.prog 28 2 2 := ⟨by kernel_rfl⟩
instance : FldOf Try.prog 28 3 3 := ⟨by kernel_rfl⟩
instance : FldOf Try.prog 28 4 4 := ⟨by kernel_rfl⟩
instance : FldOf Try.prog 28 5 5 := ⟨by kernel_rfl⟩
instance : PlcOf Try.prog 28 [(0, 1), (1, 1), (2, 1), (3, 1), (4, 1), (5, 1)] := ⟨by kernel_rfl⟩
instance : TyOf Try.prog 29 false 1 := ⟨by kernel_rfl⟩
instance : ZeroOf Try.prog 29 [.nilFunc] := ⟨by kernel_rfl⟩
instance : TyOf Try.prog 30 false 1 := ⟨by kernel_rfl⟩
instance : ZeroOf Try.prog 30 [.nilFunc] := ⟨by kernel_rfl⟩
instance : TyOf Try.prog 31 false 1 := ⟨by kernel_rfl⟩
instance : ZeroOf Try.prog 31 [.nilFunc] := ⟨by kernel_rfl⟩
instance : TyOf Try.prog 32 false 1 := ⟨by kernel_rfl⟩
instance : ZeroOf Try.prog 32 [.slice none 0 0] := ⟨by kernel_rfl⟩
instance : SliZ Try.prog 32 [.int .i64 0, .int .i64 0, .int .i64 0, .int .i64 0, .int .i64 0] := ⟨by kernel_rfl⟩
instance : SliOf Try.prog 32 5 := ⟨by kernel_rfl⟩
instance : TyOf Try.prog 33 false 1 := ⟨by kernel_rfl⟩
instance : ZeroOf Try.prog 33 [.nilFunc] := ⟨by kernel_rfl⟩
instance : TyOf Try.prog 34 false 1 := ⟨by kernel_rfl⟩
instance : ZeroOf Try.prog 34 [.slice none 0 0] := ⟨by kernel_rfl⟩
instance : SliZ Try.prog 34 [.int .i64 0, .int .i64 0, .int .i64 0, .int .i64 0, .int .i64 0] := ⟨by kernel_rfl⟩
instance : SliOf Try.prog 34 5 := ⟨by kernel_rfl⟩
instance : TyOf Try.prog 35 false 1 := ⟨by kernel_rfl⟩
instance : ZeroOf Try.prog 35 [.nilFunc] := ⟨by kernel_rfl⟩
instance : TyOf Try.prog 36 true 2 := ⟨by kernel_rfl⟩
instance : ZeroOf Try.prog 36 [.int .i64 0, .int .i64 0] := ⟨by kernel_rfl⟩
instance : FldOf Try.prog 36 0 0 := ⟨by kernel_rfl⟩
instance : FldOf Try.prog 36 1 1 := ⟨by kernel_rfl⟩
instance : PlcOf Try.prog 36 [(0, 1), (1, 1)] := ⟨by kernel_rfl⟩
instance : TyOf Try.prog 37 true 2 := ⟨by kernel_rfl⟩
instance : ZeroOf Try.prog 37 [.int .i64 0, .int .i64 0] := ⟨by kernel_rfl⟩
instance : FldOf Try.prog 37 0 0 := ⟨by kernel_rfl⟩
instance : FldOf Try.prog 37 1 1 := ⟨by kernel_rfl⟩
instance : PlcOf Try.prog 37 [(0, 1), (1, 1)] := ⟨by kernel_rfl⟩
instance : TyOf Try.prog 38 true 5 := ⟨by kernel_rfl⟩
instance : ZeroOf Try.prog 38 [.int .i64 0, .int .i64 0, .int .i64 0, .int .i64 0, .int .i64 0] := ⟨by kernel_rfl⟩
instance : FldOf Try.prog 38 0 0 := ⟨by kernel_rfl⟩
instance : FldOf Try.prog 38 1 2 := ⟨by kernel_rfl⟩
instance : FldOf Try.prog 38 2 4 := ⟨by kernel_rfl⟩
instance : PlcOf Try.prog 38 [(0, 2), (2, 2), (4, 1)] := ⟨by kernel_rfl⟩
instance : TyOf Try.prog 39 true 5 := ⟨by kernel_rfl⟩
instance : ZeroOf Try.prog 39 [.int .i64 0, .int .i64 0, .int .i64 0, .int .i64 0, .int .i64 0] := ⟨by kernel_rfl⟩
instance : FldOf Try.prog 39 0 0 := ⟨by kernel_rfl⟩
instance : FldOf Try.prog 39 1 2 := ⟨by kernel_rfl⟩
instance : FldOf Try.prog 39 2 4 := ⟨by kernel_rfl⟩
instance : PlcOf Try.prog 39 [(0, 2), (2, 2), (4, 1)] := ⟨by kernel_rfl⟩
instance : TyOf Try.prog 40 true 5 := ⟨by kernel_rfl⟩
instance : ZeroOf Try.prog 40 [.int .i64 0, .int .i64 0, .int .i64 0, .int .i64 0, .int .i64 0] := ⟨by kernel_rfl⟩
instance : FldOf Try.prog 40 0 0 := ⟨by kernel_rfl⟩
instance : FldOf Try.prog 40 1 2 := ⟨by kernel_rfl⟩
instance : FldOf Try.prog 40 2 4 := ⟨by kernel_rfl⟩
instance : PlcOf Try.prog 40 [(0, 2), (2, 2), (4, 1)] := ⟨by kernel_rfl⟩
instance : TyOf Try.prog 41 false 1 := ⟨by kernel_rfl⟩
instance : ZeroOf Try.prog 41 [.nilFunc] := ⟨by kernel_rfl⟩
instance : TyOf Try.prog 42 false 1 := ⟨by kernel_rfl⟩
instance : ZeroOf Try.prog 42 [.nilFunc] := ⟨by kernel_rfl⟩
instance : TyOf Try.prog 43 false 1 := ⟨by kernel_rfl⟩
instance : ZeroOf Try.prog 43 [.nilFunc] := ⟨by kernel_rfl⟩
instance : TyOf Try.prog 44 false 1 := ⟨by kernel_rfl⟩
instance : ZeroOf Try.prog 44 [.slice none 0 0] := ⟨by kernel_rfl⟩
instance : SliZ Try.prog 44 [.int .i64 0, .int .i64 0] := ⟨by kernel_rfl⟩
instance : SliOf Try.prog 44 2 := ⟨by kernel_rfl⟩
instance : TyOf Try.prog 45 false 1 := ⟨by kernel_rfl⟩
instance : ZeroOf Try.prog 45 [.slice none 0 0] := ⟨by kernel_rfl⟩
instance : SliZ Try.prog 45 [.int .i64 0, .int .i64 0] := ⟨by kernel_rfl⟩
instance : SliOf Try.prog 45 2 := ⟨by kernel_rfl⟩
instance : TyOf Try.prog 46 false 1 := ⟨by kernel_rfl⟩
instance : TyOf Try.prog 47 false 1 := ⟨by kernel_rfl⟩
instance : ZeroOf Try.prog 47 [.nilFunc] := ⟨by kernel_rfl⟩
instance : TyOf Try.prog 48 false 1 := ⟨by kernel_rfl⟩
instance : ZeroOf Try.prog 48 [.nilFunc] := ⟨by kernel_rfl⟩
instance : TyOf Try.prog 49 true 3 := ⟨by kernel_rfl⟩
instance : ZeroOf Try.prog 49 [.int .i64 0, .int .i64 0, .int .i64 0] := ⟨by kernel_rfl⟩
instance : ArrOf Try.prog 49 3 1 := ⟨by kernel_rfl⟩
instance : PlcOf Try.prog 49 [(0, 1), (1, 1), (2, 1)] := ⟨by kernel_rfl⟩
instance : TyOf Try.prog 50 false 1 := ⟨by kernel_rfl⟩
instance : ZeroOf Try.prog 50 [.nilFunc] := ⟨by kernel_rfl⟩
instance : TyOf Try.prog 51 false 1 := ⟨by kernel_rfl⟩
instance : ZeroOf Try.prog 51 [.nilFunc] := ⟨by kernel_rfl⟩
instance : TyOf Try.prog 52 false 1 := ⟨by kernel_rfl⟩
instance : ZeroOf Try.prog 52 [.nilFunc] := ⟨by kernel_rfl⟩
instance : TyOf Try.prog 53 false 1 := ⟨by kernel_rfl⟩
instance : ZeroOf Try.prog 53 [.nilFunc] := ⟨by kernel_rfl⟩
instance : TyOf Try.prog 54 false 1 := ⟨by kernel_rfl⟩
instance : ZeroOf Try.prog 54 [.nilFunc] := ⟨by kernel_rfl⟩
instance : TyOf Try.prog 55 true 2 := ⟨by kernel_rfl⟩
instance : ZeroOf Try.prog 55 [.int .i64 0, .int .i64 0] := ⟨by kernel_rfl⟩
instance : ArrOf Try.prog 55 2 1 := ⟨by kernel_rfl⟩
instance : PlcOf Try.prog 55 [(0, 1), (1, 1)] := ⟨by kernel_rfl⟩
instance : TyOf Try.prog 56 false 1 := ⟨by kernel_rfl⟩
instance : ZeroOf Try.prog 56 [.nilFunc] := ⟨by kernel_rfl⟩
instance : TyOf Try.prog 57 false 1 := ⟨by kernel_rfl⟩
instance : ZeroOf Try.prog 57 [.nilFunc] := ⟨by kernel_rfl⟩
instance : TyOf Try.prog 58 false 1 := ⟨by kernel_rfl⟩
instance : ZeroOf Try.prog 58 [.nilFunc] := ⟨by kernel_rfl⟩
instance : TyOf Try.prog 59 false 1 := ⟨by kernel_rfl⟩
instance : ZeroOf Try.prog 59 [.nilFunc] := ⟨by kernel_rfl⟩
instance : TyOf Try.prog 60 true 2 := ⟨by kernel_rfl⟩
instance : ZeroOf Try.prog 60 [.slice none 0 0, .slice none 0 0] := ⟨by kernel_rfl⟩
instance : ArrOf Try.prog 60 2 1 := ⟨by kernel_rfl⟩
instance : PlcOf Try.prog 60 [(0, 1), (1, 1)] := ⟨by kernel_rfl⟩
instance : TyOf Try.prog 61 false 1 := ⟨by kernel_rfl⟩
instance : ZeroOf Try.prog 61 [.nilFunc] := ⟨by kernel_rfl⟩
instance : TyOf Try.prog 62 false 1 := ⟨by kernel_rfl⟩
instance : ZeroOf Try.prog 62 [.nilFunc] := ⟨by kernel_rfl⟩
instance : TyOf Try.prog 63 false 1 := ⟨by kernel_rfl⟩
instance : ZeroOf Try.prog 63 [.nilFunc] := ⟨by kernel_rfl⟩
instance : TyOf Try.prog 64 false 1 := ⟨by kernel_rfl⟩
instance : ZeroOf Try.prog 64 [.nilFunc] := ⟨by kernel_rfl⟩
instance : TyOf Try.prog 65 false 1 := ⟨by kernel_rfl⟩
instance : ZeroOf Try.prog 65 [.nilFunc] := ⟨by kernel_rfl⟩
instance : TyOf Try.prog 66 false 1 := ⟨by kernel_rfl⟩
instance : ZeroOf Try.prog 66 [.nilFunc] := ⟨by kernel_rfl⟩
instance : TyOf Try.prog 67 false 1 := ⟨by kernel_rfl⟩
instance : ZeroOf Try.prog 67 [.nilFunc] := ⟨by kernel_rfl⟩
instance : TyOf Try.prog 68 false 1 := ⟨by kernel_rfl⟩
instance : ZeroOf Try.prog 68 [.nilFunc] := ⟨by kernel_rfl⟩
instance : TyOf Try.prog 69 false 1 := ⟨by kernel_rfl⟩
instance : ZeroOf Try.prog 69 [.nilFunc] := ⟨by kernel_rfl⟩
instance : TyOf Try.prog 70 false 1 := ⟨by kernel_rfl⟩
instance : ZeroOf Try.prog 70 [.nilFunc] := ⟨by kernel_rfl⟩
instance : TyOf Try.prog 71 false 1 := ⟨by kernel_rfl⟩
instance : ZeroOf Try.prog 71 [.nilFunc] := ⟨by kernel_rfl⟩
instance : TyOf Try.prog 72 false 1 := ⟨by kernel_rfl⟩
instance : ZeroOf Try.prog 72 [.nilFunc] := ⟨by kernel_rfl⟩
instance : TyOf Try.prog 73 false 1 := ⟨by kernel_rfl⟩
instance : ZeroOf Try.prog 73 [.nilFunc] := ⟨by kernel_rfl⟩
instance : TyOf Try.prog 74 false 1 := ⟨by kernel_rfl⟩
instance : ZeroOf Try.prog 74 [.nilFunc] := ⟨by kernel_rfl⟩
instance : TyOf Try.prog 75 false 1 := ⟨by kernel_rfl⟩
instance : ZeroOf Try.prog 75 [.nilFunc] := ⟨by kernel_rfl⟩
instance : TyOf Try.prog 76 false 1 := ⟨by kernel_rfl⟩
instance : ZeroOf Try.prog 76 [.nilFunc] := ⟨by kernel_rfl⟩
instance : TyOf Try.prog 77 false 1 := ⟨by kernel_rfl⟩
instance : ZeroOf Try.prog 77 [.nilFunc] := ⟨by kernel_rfl⟩
instance : TyOf Try.prog 78 false 1 := ⟨by kernel_rfl⟩
instance : ZeroOf Try.prog 78 [.nilFunc] := ⟨by kernel_rfl⟩
instance : TyOf Try.prog 79 false 1 := ⟨by kernel_rfl⟩
instance : ZeroOf Try.prog 79 [.nilFunc] := ⟨by kernel_rfl⟩
instance : TyOf Try.prog 80 false 1 := ⟨by kernel_rfl⟩
instance : ZeroOf Try.prog 80 [.nilFunc] := ⟨by kernel_rfl⟩
instance : TyOf Try.prog 81 false 1 := ⟨by kernel_rfl⟩
instance : ZeroOf Try.prog 81 [.nilFunc] := ⟨by kernel_rfl⟩
instance : TyOf Try.prog 82 false 1 := ⟨by kernel_rfl⟩
instance : ZeroOf Try.prog 82 [.nilFunc] := ⟨by kernel_rfl⟩
instance : TyOf Try.prog 83 false 1 := ⟨by kernel_rfl⟩
instance : ZeroOf Try.prog 83 [.nilFunc] := ⟨by kernel_rfl⟩
instance : TyOf Try.prog 84 true 4 := ⟨by kernel_rfl⟩
instance : ZeroOf Try.prog 84 [.int .i64 0, .int .i64 0, .int .i64 0, .int .i64 0] := ⟨by kernel_rfl⟩
instance : FldOf Try.prog 84 0 0 := ⟨by kernel_rfl⟩
instance : FldOf Try.prog 84 1 2 := ⟨by kernel_rfl⟩
instance : PlcOf Try.prog 84 [(0, 2), (2, 2)] := ⟨by kernel_rfl⟩
instance : TyOf Try.prog 85 true 4 := ⟨by kernel_rfl⟩
instance : ZeroOf Try.prog 85 [.int .i64 0, .int .i64 0, .int .i64 0, .int .i64 0] := ⟨by kernel_rfl⟩
instance : FldOf Try.prog 85 0 0 := ⟨by kernel_rfl⟩
instance : FldOf Try.prog 85 1 2 := ⟨by kernel_rfl⟩
instance : PlcOf Try.prog 85 [(0, 2), (2, 2)] := ⟨by kernel_rfl⟩
instance : TyOf Try.prog 86 false 1 := ⟨by kernel_rfl⟩
instance : ZeroOf Try.prog 86 [.nilFunc] := ⟨by kernel_rfl⟩
instance : TyOf Try.prog 87 false 1 := ⟨by kernel_rfl⟩
instance : ZeroOf Try.prog 87 [.nilFunc] := ⟨by kernel_rfl⟩
instance : TyOf Try.prog 88 false 1 := ⟨by kernel_rfl⟩
instance : ZeroOf Try.prog 88 [.nilFunc] := ⟨by kernel_rfl⟩
instance : TyOf Try.prog 89 false 1 := ⟨by kernel_rfl⟩
instance : ZeroOf Try.prog 89 [.nilFunc] := ⟨by kernel_rfl⟩
instance : TyOf Try.prog 90 false 1 := ⟨by kernel_rfl⟩
instance : ZeroOf Try.prog 90 [.nilFunc] := ⟨by kernel_rfl⟩
instance : TyOf Try.prog 91 false 1 := ⟨by kernel_rfl⟩
instance : ZeroOf Try.prog 91 [.nilFunc] := ⟨by kernel_rfl⟩
instance : TyOf Try.prog 92 true 4 := ⟨by kernel_rfl⟩
instance : ZeroOf Try.prog 92 [.pointer none, .pointer none, .pointer none, .string ByteArray.empty] := ⟨by kernel_rfl⟩
instance : FldOf Try.prog 92 0 0 := ⟨by kernel_rfl⟩
instance : FldOf Try.prog 92 1 1 := ⟨by kernel_rfl⟩
instance : FldOf Try.prog 92 2 2 := ⟨by kernel_rfl⟩
instance : FldOf Try.prog 92 3 3 := ⟨by kernel_rfl⟩
instance : PlcOf Try.prog 92 [(0, 1), (1, 1), (2, 1), (3, 1)] := ⟨by kernel_rfl⟩
instance : TyOf Try.prog 93 true 4 := ⟨by kernel_rfl⟩
instance : ZeroOf Try.prog 93 [.pointer none, .pointer none, .pointer none, .string ByteArray.empty] := ⟨by kernel_rfl⟩
instance : FldOf Try.prog 93 0 0 := ⟨by kernel_rfl⟩
instance : FldOf Try.prog 93 1 1 := ⟨by kernel_rfl⟩
instance : FldOf Try.prog 93 2 2 := ⟨by kernel_rfl⟩
instance : FldOf Try.prog 93 3 3 := ⟨by kernel_rfl⟩
instance : PlcOf Try.prog 93 [(0, 1), (1, 1), (2, 1), (3, 1)] := ⟨by kernel_rfl⟩
instance : TyOf Try.prog 94 true 0 := ⟨by kernel_rfl⟩
instance : ZeroOf Try.prog 94 [] := ⟨by kernel_rfl⟩
instance : ArrOf Try.prog 94 0 1 := ⟨by kernel_rfl⟩
instance : TyOf Try.prog 95 true 0 := ⟨by kernel_rfl⟩
instance : ZeroOf Try.prog 95 [] := ⟨by kernel_rfl⟩
instance : PlcOf Try.prog 95 [(0, 0)] := ⟨by kernel_rfl⟩
instance : TyOf Try.prog 96 true 0 := ⟨by kernel_rfl⟩
instance : ZeroOf Try.prog 96 [] := ⟨by kernel_rfl⟩
instance : PlcOf Try.prog 96 [(0, 0)] := ⟨by kernel_rfl⟩
instance : TyOf Try.prog 97 false 1 := ⟨by kernel_rfl⟩
instance : ZeroOf Try.prog 97 [.nilFunc] := ⟨by kernel_rfl⟩
instance : TyOf Try.prog 98 false 1 := ⟨by kernel_rfl⟩
instance : ZeroOf Try.prog 98 [.int .u32 0] := ⟨by kernel_rfl⟩
instance : IntTy Try.prog 98 .u32 := ⟨by kernel_rfl⟩
instance : TyOf Try.prog 99 false 1 := ⟨by kernel_rfl⟩
instance : ZeroOf Try.prog 99 [.int .u8 0] := ⟨by kernel_rfl⟩
instance : IntTy Try.prog 99 .u8 := ⟨by kernel_rfl⟩
instance : TyOf Try.prog 100 false 1 := ⟨by kernel_rfl⟩
instance : ZeroOf Try.prog 100 [.int .u8 0] := ⟨by kernel_rfl⟩
instance : IntTy Try.prog 100 .u8 := ⟨by kernel_rfl⟩
instance : TyOf Try.prog 101 false 1 := ⟨by kernel_rfl⟩
instance : ZeroOf Try.prog 101 [.nilFunc] := ⟨by kernel_rfl⟩
instance : TyOf Try.prog 102 false 1 := ⟨by kernel_rfl⟩
instance : ZeroOf Try.prog 102 [.pointer none] := ⟨by kernel_rfl⟩
instance : TyOf Try.prog 103 false 1 := ⟨by kernel_rfl⟩
instance : ZeroOf Try.prog 103 [.int .i32 0] := ⟨by kernel_rfl⟩
instance : IntTy Try.prog 103 .i32 := ⟨by kernel_rfl⟩
instance : TyOf Try.prog 104 false 1 := ⟨by kernel_rfl⟩
instance : ZeroOf Try.prog 104 [.int .i32 0] := ⟨by kernel_rfl⟩
instance : IntTy Try.prog 104 .i32 := ⟨by kernel_rfl⟩
instance : TyOf Try.prog 105 true 11 := ⟨by kernel_rfl⟩
instance : ZeroOf Try.prog 105 [.int .u64 0, .int .u64 0, .int .u32 0, .int .u8 0, .int .u8 0, .int .u8 0, .int .u8 0, .nilFunc, .pointer none, .int .i32 0, .int .i32 0] := ⟨by kernel_rfl⟩
instance : FldOf Try.prog 105 0 0 := ⟨by kernel_rfl⟩
instance : FldOf Try.prog 105 1 1 := ⟨by kernel_rfl⟩
instance : FldOf Try.prog 105 2 2 := ⟨by kernel_rfl⟩
instance : FldOf Try.prog 105 3 3 := ⟨by kernel_rfl⟩
instance : FldOf Try.prog 105 4 4 := ⟨by kernel_rfl⟩
instance : FldOf Try.prog 105 5 5 := ⟨by kernel_rfl⟩
instance : FldOf Try.prog 105 6 6 := ⟨by kernel_rfl⟩
instance : FldOf Try.prog 105 7 7 := ⟨by kernel_rfl⟩
instance : FldOf Try.prog 105 8 8 := ⟨by kernel_rfl⟩
instance : FldOf Try.prog 105 9 9 := ⟨by kernel_rfl⟩
instance : FldOf Try.prog 105 10 10 := ⟨by kernel_rfl⟩
instance : PlcOf Try.prog 105 [(0, 1), (1, 1), (2, 1), (3, 1), (4, 1), (5, 1), (6, 1), (7, 1), (8, 1), (9, 1), (10, 1)] := ⟨by kernel_rfl⟩
instance : TyOf Try.prog 106 true 11 := ⟨by kernel_rfl⟩
instance : ZeroOf Try.prog 106 [.int .u64 0, .int .u64 0, .int .u32 0, .int .u8 0, .int .u8 0, .int .u8 0, .int .u8 0, .nilFunc, .pointer none, .int .i32 0, .int .i32 0] := ⟨by kernel_rfl⟩
instance : FldOf Try.prog 106 0 0 := ⟨by kernel_rfl⟩
instance : FldOf Try.prog 106 1 1 := ⟨by kernel_rfl⟩
instance : FldOf Try.prog 106 2 2 := ⟨by kernel_rfl⟩
instance : FldOf Try.prog 106 3 3 := ⟨by kernel_rfl⟩
instance : FldOf Try.prog 106 4 4 := ⟨by kernel_rfl⟩
instance : FldOf Try.prog 106 5 5 := ⟨by kernel_rfl⟩
instance : FldOf Try.prog 106 6 6 := ⟨by kernel_rfl⟩
instance : FldOf Try.prog 106 7 7 := ⟨by kernel_rfl⟩
instance : FldOf Try.prog 106 8 8 := ⟨by kernel_rfl⟩
instance : FldOf Try.prog 106 9 9 := ⟨by kernel_rfl⟩
instance : FldOf Try.prog 106 10 10 := ⟨by kernel_rfl⟩
instance : PlcOf Try.prog 106 [(0, 1), (1, 1), (2, 1), (3, 1), (4, 1), (5, 1), (6, 1), (7, 1), (8, 1), (9, 1), (10, 1)] := ⟨by kernel_rfl⟩
instance : TyOf Try.prog 107 false 1 := ⟨by kernel_rfl⟩
instance : ZeroOf Try.prog 107 [.pointer none] := ⟨by kernel_rfl⟩
instance : Enters Try.prog 2 := ⟨by kernel_rfl⟩
instance : Enters Try.prog 3 := ⟨by kernel_rfl⟩
instance : Enters Try.prog 4 := ⟨by kernel_rfl⟩
instance : Enters Try.prog 5 := ⟨by kernel_rfl⟩
instance : Enters Try.prog 6 := ⟨by kernel_rfl⟩
instance : Enters Try.prog 7 := ⟨by kernel_rfl⟩
instance : Enters Try.prog 8 := ⟨by kernel_rfl⟩
instance : Enters Try.prog 9 := ⟨by kernel_rfl⟩
instance : Enters Try.prog 10 := ⟨by kernel_rfl⟩
instance : Enters Try.prog 11 := ⟨by kernel_rfl⟩
instance : Enters Try.prog 12 := ⟨by kernel_rfl⟩
instance : Enters Try.prog 13 := ⟨by kernel_rfl⟩
instance : Enters Try.prog 14 := ⟨by kernel_rfl⟩
instance : Enters Try.prog 15 := ⟨by kernel_rfl⟩
instance : Enters Try.prog 16 := ⟨by kernel_rfl⟩
instance : Enters Try.prog 17 := ⟨by kernel_rfl⟩
instance : Enters Try.prog 18 := ⟨by kernel_rfl⟩
instance : Enters Try.prog 19 := ⟨by kernel_rfl⟩
instance : Enters Try.prog 20 := ⟨by kernel_rfl⟩
instance : Enters Try.prog 21 := ⟨by kernel_rfl⟩
instance : Enters Try.prog 22 := ⟨by kernel_rfl⟩
instance : Enters Try.prog 23 := ⟨by kernel_rfl⟩
instance : Enters Try.prog 24 := ⟨by kernel_rfl⟩
instance : Enters Try.prog 25 := ⟨by kernel_rfl⟩
instance : Enters Try.prog 26 := ⟨by kernel_rfl⟩
instance : Enters Try.prog 27 := ⟨by kernel_rfl⟩
instance : Enters Try.prog 28 := ⟨by kernel_rfl⟩
instance : Enters Try.prog 29 := ⟨by kernel_rfl⟩
instance : Enters Try.prog 30 := ⟨by kernel_rfl⟩
instance : Enters Try.prog 31 := ⟨by kernel_rfl⟩
instance : Enters Try.prog 32 := ⟨by kernel_rfl⟩
instance : Enters Try.prog 33 := ⟨by kernel_rfl⟩
instance : Enters Try.prog 34 := ⟨by kernel_rfl⟩
instance : Enters Try.prog 35 := ⟨by kernel_rfl⟩
instance : Enters Try.prog 36 := ⟨by kernel_rfl⟩
instance : Enters Try.prog 37 := ⟨by kernel_rfl⟩
instance : Enters Try.prog 38 := ⟨by kernel_rfl⟩
instance : Enters Try.prog 39 := ⟨by kernel_rfl⟩
instance : Enters Try.prog 40 := ⟨by kernel_rfl⟩
instance : Enters Try.prog 41 := ⟨by kernel_rfl⟩
instance : Enters Try.prog 42 := ⟨by kernel_rfl⟩
instance : Enters Try.prog 43 := ⟨by kernel_rfl⟩
instance : Enters Try.prog 44 := ⟨by kernel_rfl⟩
instance : Enters Try.prog 45 := ⟨by kernel_rfl⟩
instance : Enters Try.prog 46 := ⟨by kernel_rfl⟩
instance : Enters Try.prog 47 := ⟨by kernel_rfl⟩
instance : Enters Try.prog 48 := ⟨by kernel_rfl⟩
instance : Enters Try.prog 49 := ⟨by kernel_rfl⟩
instance : Enters Try.prog 50 := ⟨by kernel_rfl⟩
instance : Enters Try.prog 51 := ⟨by kernel_rfl⟩
instance : Enters Try.prog 52 := ⟨by kernel_rfl⟩
instance : Enters Try.prog 53 := ⟨by kernel_rfl⟩
instance : Enters Try.prog 54 := ⟨by kernel_rfl⟩
instance : Enters Try.prog 55 := ⟨by kernel_rfl⟩
instance : Enters Try.prog 56 := ⟨by kernel_rfl⟩
instance : Enters Try.prog 57 := ⟨by kernel_rfl⟩
instance : Enters Try.prog 58 := ⟨by kernel_rfl⟩
instance : Enters Try.prog 59 := ⟨by kernel_rfl⟩
instance : Enters Try.prog 60 := ⟨by kernel_rfl⟩
instance : Enters Try.prog 61 := ⟨by kernel_rfl⟩
instance : Enters Try.prog 62 := ⟨by kernel_rfl⟩
end Go.Proofs.Ytlfkllmnekdghaa

namespace Go.Proofs.Ytlfkllmnekdghaa
def tab : Tab where
  ty := [(0, false, 1), (1, false, 1), (2, false, 1), (3, false, 1), (4, false, 1), (5, false, 1), (6, false, 1), (7, true, 4), (8, true, 4), (9, false, 1), (10, false, 1), (11, false, 1), (12, false, 1), (13, true, 2), (14, true, 2), (15, false, 1), (16, false, 1), (17, false, 1), (18, true, 1), (19, true, 1), (20, false, 1), (21, false, 1), (22, false, 1), (23, true, 6), (24, true, 6), (25, false, 1), (26, false, 1), (27, false, 1), (28, true, 6), (29, false, 1), (30, false, 1), (31, false, 1), (32, false, 1), (33, false, 1), (34, false, 1), (35, false, 1), (36, true, 2), (37, true, 2), (38, true, 5), (39, true, 5), (40, true, 5), (41, false, 1), (42, false, 1), (43, false, 1), (44, false, 1), (45, false, 1), (46, false, 1), (47, false, 1), (48, false, 1), (49, true, 3), (50, false, 1), (51, false, 1), (52, false, 1), (53, false, 1), (54, false, 1), (55, true, 2), (56, false, 1), (57, false, 1), (58, false, 1), (59, false, 1), (60, true, 2), (61, false, 1), (62, false, 1), (63, false, 1), (64, false, 1), (65, false, 1), (66, false, 1), (67, false, 1), (68, false, 1), (69, false, 1), (70, false, 1), (71, false, 1), (72, false, 1), (73, false, 1), (74, false, 1), (75, false, 1), (76, false, 1), (77, false, 1), (78, false, 1), (79, false, 1), (80, false, 1), (81, false, 1), (82, false, 1), (83, false, 1), (84, true, 4), (85, true, 4), (86, false, 1), (87, false, 1), (88, false, 1), (89, false, 1), (90, false, 1), (91, false, 1), (92, true, 4), (93, true, 4), (94, true, 0), (95, true, 0), (96, true, 0), (97, false, 1), (98, false, 1), (99, false, 1), (100, false, 1), (101, false, 1), (102, false, 1), (103, false, 1), (104, false, 1), (105, true, 11), (106, true, 11), (107, false, 1)]
  zero := [(1, [.nilFunc]), (2, [.int .i64 0]), (3, [.int .i64 0]), (4, [.bool false]), (5, [.int .u8 0]), (6, [.int .u8 0]), (7, [.int .i64 0, .int .i64 0, .bool false, .int .u8 0]), (8, [.int .i64 0, .int .i64 0, .bool false, .int .u8 0]), (9, [.string ByteArray.empty]), (10, [.string ByteArray.empty]), (11, [.string ByteArray.empty]), (12, [.int .u64 0]), (13, [.string ByteArray.empty, .int .u64 0]), (14, [.string ByteArray.empty, .int .u64 0]), (15, [.pointer none]), (16, [.pointer none]), (17, [.pointer none]), (18, [.pointer none]), (19, [.pointer none]), (20, [.nilIface]), (21, [.int .i32 0]), (22, [.slice none 0 0]), (23, [.slice none 0 0, .slice none 0 0, .int .i64 0, .int .i64 0, .int .i64 0, .int .i64 0]), (24, [.slice none 0 0, .slice none 0 0, .int .i64 0, .int .i64 0, .int .i64 0, .int .i64 0]), (25, [.nilFunc]), (26, [.int .i64 0]), (27, [.nilFunc]), (28, [.slice none 0 0, .slice none 0 0, .int .i64 0, .int .i64 0, .int .i64 0, .int .i64 0]), (29, [.nilFunc]), (30, [.nilFunc]), (31, [.nilFunc]), (32, [.slice none 0 0]), (33, [.nilFunc]), (34, [.slice none 0 0]), (35, [.nilFunc]), (36, [.int .i64 0, .int .i64 0]), (37, [.int .i64 0, .int .i64 0]), (38, [.int .i64 0, .int .i64 0, .int .i64 0, .int .i64 0, .int .i64 0]), (39, [.int .i64 0, .int .i64 0, .int .i64 0, .int .i64 0, .int .i64 0]), (40, [.int .i64 0, .int .i64 0, .int .i64 0, .int .i64 0, .int .i64 0]), (41, [.nilFunc]), (42, [.nilFunc]), (43, [.nilFunc]), (44, [.slice none 0 0]), (45, [.slice none 0 0]), (47, [.nilFunc]), (48, [.nilFunc]), (49, [.int .i64 0, .int .i64 0, .int .i64 0]), (50, [.nilFunc]), (51, [.nilFunc]), (52, [.nilFunc]), (53, [.nilFunc]), (54, [.nilFunc]), (55, [.int .i64 0, .int .i64 0]), (56, [.nilFunc]), (57, [.nilFunc]), (58, [.nilFunc]), (59, [.nilFunc]), (60, [.slice none 0 0, .slice none 0 0]), (61, [.nilFunc]), (62, [.nilFunc]), (63, [.nilFunc]), (64, [.nilFunc]), (65, [.nilFunc]), (66, [.nilFunc]), (67, [.nilFunc]), (68, [.nilFunc]), (69, [.nilFunc]), (70, [.nilFunc]), (71, [.nilFunc]), (72, [.nilFunc]), (73, [.nilFunc]), (74, [.nilFunc]), (75, [.nilFunc]), (76, [.nilFunc]), (77, [.nilFunc]), (78, [.nilFunc]), (79, [.nilFunc]), (80, [.nilFunc]), (81, [.nilFunc]), (82, [.nilFunc]), (83, [.nilFunc]), (84, [.int .i64 0, .int .i64 0, .int .i64 0, .int .i64 0]), (85, [.int .i64 0, .int .i64 0, .int .i64 0, .int .i64 0]), (86, [.nilFunc]), (87, [.nilFunc]), (88, [.nilFunc]), (89, [.nilFunc]), (90, [.nilFunc]), (91, [.nilFunc]), (92, [.pointer none, .pointer none, .pointer none, .string ByteArray.empty]), (93, [.pointer none, .pointer none, .pointer none, .string ByteArray.empty]), (94, []), (95, []), (96, []), (97, [.nilFunc]), (98, [.int .u32 0]), (99, [.int .u8 0]), (100, [.int .u8 0]), (101, [.nilFunc]), (102, [.pointer none]), (103, [.int .i32 0]), (104, [.int .i32 0]), (105, [.int .u64 0, .int .u64 0, .int .u32 0, .int .u8 0, .int .u8 0, .int .u8 0, .int .u8 0, .nilFunc, .pointer none, .int .i32 0, .int .i32 0]), (106, [.int .u64 0, .int .u64 0, .int .u32 0, .int .u8 0, .int .u8 0, .int .u8 0, .int .u8 0, .nilFunc, .pointer none, .int .i32 0, .int .i32 0]), (107, [.pointer none])]
  fld := [(7, [(0, 0), (1, 1), (2, 2), (3, 3)]), (8, [(0, 0), (1, 1), (2, 2), (3, 3)]), (13, [(0, 0), (1, 1)]), (14, [(0, 0), (1, 1)]), (18, [(0, 0)]), (19, [(0, 0)]), (23, [(0, 0), (1, 1), (2, 2), (3, 3), (4, 4), (5, 5)]), (24, [(0, 0), (1, 1), (2, 2), (3, 3), (4, 4), (5, 5)]), (28, [(0, 0), (1, 1), (2, 2), (3, 3), (4, 4), (5, 5)]), (36, [(0, 0), (1, 1)]), (37, [(0, 0), (1, 1)]), (38, [(0, 0), (1, 2), (2, 4)]), (39, [(0, 0), (1, 2), (2, 4)]), (40, [(0, 0), (1, 2), (2, 4)]), (84, [(0, 0), (1, 2)]), (85, [(0, 0), (1, 2)]), (92, [(0, 0), (1, 1), (2, 2), (3, 3)]), (93, [(0, 0), (1, 1), (2, 2), (3, 3)]), (105, [(0, 0), (1, 1), (2, 2), (3, 3), (4, 4), (5, 5), (6, 6), (7, 7), (8, 8), (9, 9), (10, 10)]), (106, [(0, 0), (1, 1), (2, 2), (3, 3), (4, 4), (5, 5), (6, 6), (7, 7), (8, 8), (9, 9), (10, 10)])]
  arr := [(49, 3, 1), (55, 2, 1), (60, 2, 1), (94, 0, 1)]
  plc := [(7, [(0, 1), (1, 1), (2, 1), (3, 1)]), (8, [(0, 1), (1, 1), (2, 1), (3, 1)]), (13, [(0, 1), (1, 1)]), (14, [(0, 1), (1, 1)]), (18, [(0, 1)]), (19, [(0, 1)]), (23, [(0, 1), (1, 1), (2, 1), (3, 1), (4, 1), (5, 1)]), (24, [(0, 1), (1, 1), (2, 1), (3, 1), (4, 1), (5, 1)]), (28, [(0, 1), (1, 1), (2, 1), (3, 1), (4, 1), (5, 1)]), (36, [(0, 1), (1, 1)]), (37, [(0, 1), (1, 1)]), (38, [(0, 2), (2, 2), (4, 1)]), (39, [(0, 2), (2, 2), (4, 1)]), (40, [(0, 2), (2, 2), (4, 1)]), (49, [(0, 1), (1, 1), (2, 1)]), (55, [(0, 1), (1, 1)]), (60, [(0, 1), (1, 1)]), (84, [(0, 2), (2, 2)]), (85, [(0, 2), (2, 2)]), (92, [(0, 1), (1, 1), (2, 1), (3, 1)]), (93, [(0, 1), (1, 1), (2, 1), (3, 1)]), (95, [(0, 0)]), (96, [(0, 0)]), (105, [(0, 1), (1, 1), (2, 1), (3, 1), (4, 1), (5, 1), (6, 1), (7, 1), (8, 1), (9, 1), (10, 1)]), (106, [(0, 1), (1, 1), (2, 1), (3, 1), (4, 1), (5, 1), (6, 1), (7, 1), (8, 1), (9, 1), (10, 1)])]
theorem tab_ty : allL (fun p => tyOf Try.prog p.1 = some p.2) tab.ty := ⟨TyOf.h, TyOf.h, TyOf.h, TyOf.h, TyOf.h, TyOf.h, TyOf.h, TyOf.h, TyOf.h, TyOf.h, TyOf.h, TyOf.h, TyOf.h, TyOf.h, TyOf.h, TyOf.h, TyOf.h, TyOf.h, TyOf.h, TyOf.h, TyOf.h, TyOf.h, TyOf.h, TyOf.h, TyOf.h, TyOf.h, TyOf.h, TyOf.h, TyOf.h, TyOf.h, TyOf.h, TyOf.h, TyOf.h, TyOf.h, TyOf.h, TyOf.h, TyOf.h, TyOf.h, TyOf.h, TyOf.h, TyOf.h, TyOf.h, TyOf.h, TyOf.h, TyOf.h, TyOf.h, TyOf.h, TyOf.h, TyOf.h, TyOf.h, TyOf.h, TyOf.h, TyOf.h, TyOf.h, TyOf.h, TyOf.h, TyOf.h, TyOf.h, TyOf.h, TyOf.h, TyOf.h, TyOf.h, TyOf.h, TyOf.h, TyOf.h, TyOf.h, TyOf.h, TyOf.h, TyOf.h, TyOf.h, TyOf.h, TyOf.h, TyOf.h, TyOf.h, TyOf.h, TyOf.h, TyOf.h, TyOf.h, TyOf.h, TyOf.h, TyOf.h, TyOf.h, TyOf.h, TyOf.h, TyOf.h, TyOf.h, TyOf.h, TyOf.h, TyOf.h, TyOf.h, TyOf.h, TyOf.h, TyOf.h, TyOf.h, TyOf.h, TyOf.h, TyOf.h, TyOf.h, TyOf.h, TyOf.h, TyOf.h, TyOf.h, TyOf.h, TyOf.h, TyOf.h, TyOf.h, TyOf.h, TyOf.h, trivial⟩
theorem tab_zero : allL (fun p => zeroOf Try.prog p.1 = some p.2) tab.zero := ⟨ZeroOf.h, ZeroOf.h, ZeroOf.h, ZeroOf.h, ZeroOf.h, ZeroOf.h, ZeroOf.h, ZeroOf.h, ZeroOf.h, ZeroOf.h, ZeroOf.h, ZeroOf.h, ZeroOf.h, ZeroOf.h, ZeroOf.h, ZeroOf.h, ZeroOf.h, ZeroOf.h, ZeroOf.h, ZeroOf.h, ZeroOf.h, ZeroOf.h, ZeroOf.h, ZeroOf.h, ZeroOf.h, ZeroOf.h, ZeroOf.h, ZeroOf.h, ZeroOf.h, ZeroOf.h, ZeroOf.h, ZeroOf.h, ZeroOf.h, ZeroOf.h, ZeroOf.h, ZeroOf.h, ZeroOf.h, ZeroOf.h, ZeroOf.h, ZeroOf.h, ZeroOf.h, ZeroOf.h, ZeroOf.h, ZeroOf.h, ZeroOf.h, ZeroOf.h, ZeroOf.h, ZeroOf.h, ZeroOf.h, ZeroOf.h, ZeroOf.h, ZeroOf.h, ZeroOf.h, ZeroOf.h, ZeroOf.h, ZeroOf.h, ZeroOf.h, ZeroOf.h, ZeroOf.h, ZeroOf.h, ZeroOf.h, ZeroOf.h, ZeroOf.h, ZeroOf.h, ZeroOf.h, ZeroOf.h, ZeroOf.h, ZeroOf.h, ZeroOf.h, ZeroOf.h, ZeroOf.h, ZeroOf.h, ZeroOf.h, ZeroOf.h, ZeroOf.h, ZeroOf.h, ZeroOf.h, ZeroOf.h, ZeroOf.h, ZeroOf.h, ZeroOf.h, ZeroOf.h, ZeroOf.h, ZeroOf.h, ZeroOf.h, ZeroOf.h, ZeroOf.h, ZeroOf.h, ZeroOf.h, ZeroOf.h, ZeroOf.h, ZeroOf.h, ZeroOf.h, ZeroOf.h, ZeroOf.h, ZeroOf.h, ZeroOf.h, ZeroOf.h, ZeroOf.h, ZeroOf.h, ZeroOf.h, ZeroOf.h, ZeroOf.h, ZeroOf.h, ZeroOf.h, ZeroOf.h, trivial⟩
theorem tab_arr : allL (fun p => arrOf Try.prog p.1 = some p.2) tab.arr := ⟨ArrOf.h, ArrOf.h, ArrOf.h, ArrOf.h, trivial⟩
theorem tab_plc : allL (fun p => plcOf Try.prog p.1 = some p.2) tab.plc := ⟨PlcOf.h, PlcOf.h, PlcOf.h, PlcOf.h, PlcOf.h, PlcOf.h, PlcOf.h, PlcOf.h, PlcOf.h, PlcOf.h, PlcOf.h, PlcOf.h, PlcOf.h, PlcOf.h, PlcOf.h, PlcOf.h, PlcOf.h, PlcOf.h, PlcOf.h, PlcOf.h, PlcOf.h, PlcOf.h, PlcOf.h, PlcOf.h, PlcOf.h, trivial⟩
theorem tab_fld : allL (fun p => allL (fun q => fldOf Try.prog p.1 q.1 = some q.2) p.2) tab.fld := ⟨⟨FldOf.h, FldOf.h, FldOf.h, FldOf.h, trivial⟩, ⟨FldOf.h, FldOf.h, FldOf.h, FldOf.h, trivial⟩, ⟨FldOf.h, FldOf.h, trivial⟩, ⟨FldOf.h, FldOf.h, trivial⟩, ⟨FldOf.h, trivial⟩, ⟨FldOf.h, trivial⟩, ⟨FldOf.h, FldOf.h, FldOf.h, FldOf.h, FldOf.h, FldOf.h, trivial⟩, ⟨FldOf.h, FldOf.h, FldOf.h, FldOf.h, FldOf.h, FldOf.h, trivial⟩, ⟨FldOf.h, FldOf.h, FldOf.h, FldOf.h, FldOf.h, FldOf.h, trivial⟩, ⟨FldOf.h, FldOf.h, trivial⟩, ⟨FldOf.h, FldOf.h, trivial⟩, ⟨FldOf.h, FldOf.h, FldOf.h, trivial⟩, ⟨FldOf.h, FldOf.h, FldOf.h, trivial⟩, ⟨FldOf.h, FldOf.h, FldOf.h, trivial⟩, ⟨FldOf.h, FldOf.h, trivial⟩, ⟨FldOf.h, FldOf.h, trivial⟩, ⟨FldOf.h, FldOf.h, FldOf.h, FldOf.h, trivial⟩, ⟨FldOf.h, FldOf.h, FldOf.h, FldOf.h, trivial⟩, ⟨FldOf.h, FldOf.h, FldOf.h, FldOf.h, FldOf.h, FldOf.h, FldOf.h, FldOf.h, FldOf.h, FldOf.h, FldOf.h, trivial⟩, ⟨FldOf.h, FldOf.h, FldOf.h, FldOf.h, FldOf.h, FldOf.h, FldOf.h, FldOf.h, FldOf.h, FldOf.h, FldOf.h, trivial⟩, trivial⟩
instance : QTab Try.prog tab := ⟨tab_ty, tab_zero, tab_fld, tab_arr, tab_plc⟩
end Go.Proofs.Ytlfkllmnekdghaa

namespace Go.Proofs.Ytlfkllmnekdghaa
open Go.RowKit
set_option linter.unusedVariables false
set_option linter.unusedSimpArgs false
section
variable {P : Program} {s : AS} {ops : Array Oper} {K : AS → Prop} {rest : List Oper} {ty : Nat} {pos : String} {after : Array Edge} {guard : Option (Nat × Bool)} {d : Nat}
theorem al_rem {xt yt : Nat} {x y : Operand} {k : IntKind} {a b : Int} (hw : want ops ⟨some d, .binOp .rem xt x y yt, ty, pos, after, guard⟩ s = some true) (hx : s.look x = some (vC (.int k a))) (hy : s.look y = some (vC (.int k b))) (h0 : 0 ≤ a) (h1 : 0 < b) (hd : Nat.blt d s.n = true) (h : aList P ops K rest (s.put (some d) (vC (.int k (a % b))))) : aList P ops K (⟨some d, .binOp .rem xt x y yt, ty, pos, after, guard⟩ :: rest) s := by
  refine al_int hw hx hy (fun W => ?_) rfl hd h
  have hb : b ≠ 0 := by omega
  have e : a.tmod b = a % b := Int.tmod_eq_emod_of_nonneg h0
  rw [← e]
  cases k <;> simp [binOp, Op.intDiv, hb] <;> rfl
end
/-- two points. -/
abbrev vBx (l1 l2 h1 h2 : Int) : AV := .w (.agg [.c (.int .i64 l1), .c (.int .i64 l2), .c (.int .i64 h1), .c (.int .i64 h2)])
/-- are two points the same? -/
def eqP (a b c d : Int) : Bool := decide (a = c) && decide (b = d)
theorem eqP_iff {a b c d : Int} : eqP a b c d = true ↔ a = c ∧ b = d := by unfold eqP; rw [Bool.and_eq_true, decide_eq_true_eq, decide_eq_true_eq]
def eqB (a b c d a' b' c' d' : Int) : Bool := eqP a b a' b' && eqP c d c' d'
class EqP (P : Program) (t : TypeId) : Prop where
  g : P.eqGuardType P.depth t = false
  h : ∀ (a b c d : Int) W, (Op.equalIn 10000 t (.agg #[.int .i64 a, .int .i64 b]) (.agg #[.int .i64 c, .int .i64 d])).run P W = .ok (eqP a b c d) W
class EqB (P : Program) (t : TypeId) : Prop where
  g : P.eqGuardType P.depth t = false
  h : ∀ (a b c d a' b' c' d' : Int) W, (Op.equalIn 10000 t (.agg #[.int .i64 a, .int .i64 b, .int .i64 c, .int .i64 d]) (.agg #[.int .i64 a', .int .i64 b', .int .i64 c', .int .i64 d'])).run P W = .ok (eqB a b c d a' b' c' d') W
theorem eqg_agg {P : Program} {op : BinOp} {t : TypeId} {x y : Operand} {u v : Array Value} {W : World} (hg : P.eqGuardType P.depth t = false) : (eqGuard op t x y (.agg u) (.agg v)).run P W = .ok () W := by
  unfold eqGuard
  cases op <;> first | rfl | simp [Sem.run_bind, program, Sem.run, Result.andThen, hg]
section
variable {P : Program} {s : AS} {ops : Array Oper} {K : AS → Prop} {rest : List Oper} {ty : Nat} {pos : String} {after : Array Edge} {guard : Option (Nat × Bool)} {d : Nat}
theorem al_neqP {t yt : Nat} {x y : Operand} {a b a' b' : Int} [E : EqP P t] (hw : want ops ⟨some d, .binOp .neq t x y yt, ty, pos, after, guard⟩ s = some true) (hx : s.look x = some (vP a b)) (hy : s.look y = some (vP a' b')) (hd : Nat.blt d s.n = true) (h : aList P ops K rest (s.put (some d) (vB (!eqP a b a' b')))) : aList P ops K (⟨some d, .binOp .neq t x y yt, ty, pos, after, guard⟩ :: rest) s :=
  al_bin hw hx hy rfl rfl (fun W => eqg_agg E.g) (fun W => by rw [run_neq_struct, E.h]; rfl) rfl hd h
end
theorem eqPt_run (a b c d : Int) (W : World) : (Op.equalIn 10000 37 (.agg #[.int .i64 a, .int .i64 b]) (.agg #[.int .i64 c, .int .i64 d])).run Try.prog W = .ok (eqP a b c d) W := by
  unfold eqP
  go_simp
  by_cases h1 : a = c <;> by_cases h2 : b = d <;> simp [h1, h2]
instance iAbsP_3 : EqP Try.prog 37 := ⟨by kernel_rfl, eqPt_run⟩
theorem eqBx_run (a b c d a' b' c' d' : Int) (W : World) : (Op.equalIn 10000 85 (.agg #[.int .i64 a, .int .i64 b, .int .i64 c, .int .i64 d]) (.agg #[.int .i64 a', .int .i64 b', .int .i64 c', .int .i64 d'])).run Try.prog W = .ok (eqB a b c d a' b' c' d') W := by
  unfold eqB eqP
  go_simp
  by_cases h1 : a = a' <;> by_cases h2 : b = b' <;> by_cases h3 : c = c' <;> by_cases h4 : d = d' <;> simp [h1, h2, h3, h4]
instance iAbsP_4 : EqB Try.prog 85 := ⟨by kernel_rfl, eqBx_run⟩
end Go.Proofs.Ytlfkllmnekdghaa

namespace Go.Proofs.Ytlfkllmnekdghaa
open Go.RowKit
set_option linter.unusedVariables false
set_option linter.unusedSimpArgs false
def typB (P : Program) (ft : TypeId) (agg : Bool) (n : Nat) : Bool := match tyOf P ft with
  | some (b, m) => Bool.beq b agg && Nat.beq m n
  | none => false
where Bool.beq : Bool → Bool → Bool
  | true, true => true
  | false, false => true
  | _, _ => false
def fpartB (P : Program) (ty i off : Nat) (agg : Bool) (n : Nat) : Bool := match P.underlying ty with
  | some (.struct fs) => match fs[i]? with
    | some f => Nat.beq f.offset off && typB P f.type agg n
    | none => false
  | _ => false
def ipartB (P : Program) (ty len : Nat) (agg : Bool) (n : Nat) : Bool := match P.underlying ty with
  | some (.array l e) => Nat.beq l len && typB P e agg n && (match P.info? e with | some t => Nat.beq t.size n | none => false)
  | _ => false
class FPart (P : Program) (ty i : Nat) (off : outParam Nat) (agg : outParam Bool) (n : outParam Nat) : Prop where
  h : fpartB P ty i off agg n = true
class IPart (P : Program) (ty : Nat) (len : outParam Nat) (agg : outParam Bool) (n : outParam Nat) : Prop where
  h : ipartB P ty len agg n = true
section
variable {P : Program}
theorem typB_spec {ft n : Nat} {agg : Bool} (h : typB P ft agg n = true) : tyOf P ft = some (agg, n) := by
  unfold typB at h
  split at h
  · rename_i b m hb
    rw [Bool.and_eq_true] at h
    have e := Nat.eq_of_beq_eq_true h.2
    have e2 : b = agg := by cases b <;> cases agg <;> simp [typB.Bool.beq] at h ⊢
    rw [hb, e, e2]
  · cases h
theorem run_part1 {ft n off : Nat} {cs : List Value} {v : Value} {W : World} (h : tyOf P ft = some (false, n)) (hv : cs[off]? = some v) : (part ft cs.toArray off).run P W = .ok v W := by
  unfold tyOf at h
  cases hu : P.underlying ft with
  | none => rw [hu] at h; cases h
  | some D =>
    have h1 : (isAgg ft).run P W = .ok false W := by
      unfold isAgg
      simp only [Sem.run_bind, run_underlying hu, Result.andThen_ok]
      cases hi : P.info? ft with
      | none => rw [hu, hi] at h; cases D <;> first | rfl | (cases h)
      | some ti => rw [hu, hi] at h; cases D <;> first | rfl | (cases h)
    unfold part
    simp only [Sem.run_bind, h1, Result.andThen_ok, Bool.false_eq_true, if_false, List.getElem?_toArray, hv, Sem.run_pure]
variable {s : AS} {ops : Array Oper} {K : AS → Prop} {rest : List Oper} {ty : Nat} {pos : String} {after : Array Edge} {guard : Option (Nat × Bool)} {d : Nat}
theorem ipartB_spec {xt len n : Nat} {agg : Bool} (h : ipartB P xt len agg n = true) : ∃ e t, P.underlying xt = some (.array len e) ∧ P.info? e = some t ∧ t.size = n ∧ tyOf P e = some (agg, n) := by
  unfold ipartB at h
  split at h
  · rename_i l e hu
    simp only [Bool.and_eq_true] at h
    obtain ⟨⟨h1, h2⟩, h3⟩ := h
    split at h3
    · rename_i t ht
      exact ⟨e, t, by rw [hu, Nat.eq_of_beq_eq_true h1], ht, Nat.eq_of_beq_eq_true h3, typB_spec h2⟩
    · cases h3
  · cases h
theorem al_indexV1 {x y : Operand} {xt len n : Nat} {ik : IntKind} {i : Int} {xs : List AC} {z : AC} [A : IPart P xt len false n] (hw : want ops ⟨some d, .index xt x y, ty, pos, after, guard⟩ s = some true) (hx : s.look x = some (.w (.agg xs))) (hy : s.look y = some (vC (.int ik i))) (h0 : 0 ≤ i) (h1 : i < len) (hc : xs[i.toNat * n]? = some z) (hd : Nat.blt d s.n = true) (h : aList P ops K rest (s.put (some d) (.w (.one z)))) : aList P ops K (⟨some d, .index xt x y, ty, pos, after, guard⟩ :: rest) s := by
  refine al_quiet hw ⟨fun _ _ h => (by cases h), fun z hz => ?_, fun U ρ W env he => ?_, fun j hj => ⟨x, by simp [Op.operands], _, hx, ?_⟩⟩ hd h
  · simp [Op.operands] at hz
    rcases hz with rfl | rfl
    · exact ⟨_, hx⟩
    · exact ⟨_, hy⟩
  · obtain ⟨vs, e1, hl⟩ := he x (by simp [Op.operands]) _ hx
    have hi : env y = .int ik i := (he y (by simp [Op.operands]) _ hy).1
    obtain ⟨e, t, hu, ht, hs, hT⟩ := ipartB_spec A.h
    have hlt : i.toNat * n < vs.length := by rw [← hl.1]; exact (List.getElem?_eq_some_iff.1 hc).1
    refine ⟨vs[i.toNat * n], ?_, hl.2 _ z _ hc (List.getElem?_eq_getElem hlt)⟩
    simp only [execOp, Instr.index, e1, hi, asIntOf, Sem.run_bind, Sem.run_pure, Result.andThen_ok, run_underlying hu, if_pos (And.intro h0 h1), run_sizeOf' ht, hs, run_part1 hT (List.getElem?_eq_getElem hlt)]
  · obtain ⟨u, hu, huj⟩ := hj
    simp [AW.cells] at hu
    subst hu
    exact ⟨u, List.mem_of_getElem? hc, huj⟩
theorem al_neT {xt yt : Nat} {x y : Operand} {a b : Bool} (hw : want ops ⟨some d, .binOp .neq xt x y yt, ty, pos, after, guard⟩ s = some true) (hx : s.look x = some (vB a)) (hy : s.look y = some (vB b)) (hd : Nat.blt d s.n = true) (hu : P.underlying xt = some .bool) (h : aList P ops K rest (s.put (some d) (vB (!(a == b))))) : aList P ops K (⟨some d, .binOp .neq xt x y yt, ty, pos, after, guard⟩ :: rest) s :=
  al_bin hw hx hy rfl rfl (fun W => rfl) (fun W => run_neq_bool W xt a b hu) rfl hd h
end
end Go.Proofs.Ytlfkllmnekdghaa

namespace Go.Proofs.Ytlfkllmnekdghaa
open Go.RowKit
set_option linter.unusedVariables false
set_option linter.unusedSimpArgs false
/-- a slice of n things of z cells each that has no room behind them. -/
def SlF (z n : Nat) (xs : List AC) : SP where
  holds w v := (SlP z n xs).holds w v ∧ ∃ A, v = .slice A n n
  foot := (SlP z n xs).foot
  frame w w' v := by
    rintro ⟨h1, h2⟩ hf
    have := (SlP z n xs).frame w w' v h1 hf
    exact ⟨⟨this.1, h2⟩, this.2⟩
  old w v b := by
    rintro ⟨h1, h2⟩ hf
    exact (SlP z n xs).old w v b h1 hf
  cell w v := by
    rintro ⟨h1, h2⟩
    exact (SlP z n xs).cell w v h1
theorem le_maxLen {n : Nat} (h : n ≤ 1000000) : n ≤ maxLen := Nat.le_trans h (by decide)
abbrev vSF (z n : Nat) (xs : List AC) : AV := .w (.one (.p (SlF z n xs)))
section
variable {P : Program} {U : Nat → Prop} {ρ : Nat → Nat} {W W' : World}
theorem slice_tell {z n l h c c' : Nat} {xs : List AC} {A : Option Addr} (hx : RpV U ρ W (vS z n xs) (.slice A n c)) (h1 : l ≤ h) (h2 : h ≤ n) (h3 : h ≤ c') : RpV U ρ W (vS z (h - l) ((xs.drop (l * z)).take ((h - l) * z))) (sliced A l h c' z) := by
  obtain ⟨⟨A', c0, e1, hc, hl, hA⟩, hU⟩ := hx
  cases e1
  have hm : (h - l) * z ≤ n * z - l * z := by rw [← Nat.sub_mul]; exact Nat.mul_le_mul_right _ (by omega)
  refine ⟨⟨if c' = l then A else A.map (·.add (l * z)), c' - l, rfl, by omega, by rw [List.length_take, List.length_drop, hl]; exact Nat.min_eq_left hm, fun hn => ?_⟩, ?_⟩
  · obtain ⟨a, vs, rfl, hcs⟩ := hA (by omega)
    have hne : ¬ c' = l := by omega
    rw [if_neg hne]
    exact ⟨a.add (l * z), _, rfl, hcs.sub (l * z) ((h - l) * z)⟩
  · rintro b ⟨c2, a', q, hn, hf⟩
    obtain ⟨a, vs, rfl, hcs⟩ := hA (by omega)
    have hne : ¬ c' = l := by omega
    unfold sliced at q
    rw [if_neg hne] at q
    simp at q
    obtain ⟨rfl, _⟩ := q
    exact hU b ⟨c, a, rfl, by omega, footL.sub (off := l * z) (n := (h - l) * z) hf⟩
theorem slice_tellF {z n l h c : Nat} {xs : List AC} {A : Option Addr} (hx : RpV U ρ W (vS z n xs) (.slice A n c)) (h1 : l ≤ h) (h2 : h ≤ n) : RpV U ρ W (vSF z (h - l) ((xs.drop (l * z)).take ((h - l) * z))) (sliced A l h h z) := by
  obtain ⟨g1, g2⟩ := slice_tell (c' := h) hx h1 h2 (Nat.le_refl _)
  exact ⟨⟨g1, _, rfl⟩, g2⟩
/-- what lies in a new block. -/
theorem fresh_slp {z n c : Nat} {xs : List AC} {vs : List Value} {cur : Array Value} {e : TypeId} (hl : RpL U id W xs vs) (hcl : ∀ y ∈ xs, y.closedB = true) (hlen : xs.length = n * z) (hnc : n ≤ c) (hold : ∀ b, b < W.heap.size → W'.heap[b]? = W.heap[b]?) (hnew : W'.heap[W.heap.size]? = some (.cells cur e (0, 0))) (hcur : cur.toList.take (n * z) = vs) : RpV (fun b => U b ∨ W.heap.size ≤ b) ρ W' (vS z n xs) (.slice (some ⟨W.heap.size, 0, none⟩) n c) := by
  have hlt : W.heap.size < W'.heap.size := (Array.getElem?_eq_some_iff.1 hnew).1
  have hl' : RpL U id W' xs vs := hl.map (fun b hb hlt => ⟨hb, hold b hlt⟩) (fun _ _ _ _ => rfl)
  have hat : ∀ (j : Nat) v, vs[j]? = some v → W'.cell? ((⟨W.heap.size, 0, none⟩ : Addr).add j) = some v := fun j v hv => by
    have hadd : (⟨W.heap.size, 0, none⟩ : Addr).add j = ⟨W.heap.size, j, none⟩ := by unfold Addr.add; split <;> simp_all
    rw [hadd, cell_of_row W' _ j cur e (0, 0) hnew]
    rw [← hcur, List.getElem?_take] at hv
    split at hv
    · simpa using hv
    · cases hv
  have hCA : CellsAt W' ⟨W.heap.size, 0, none⟩ xs vs := ⟨hlt, hl'.map (fun b _ _ => ⟨trivial, rfl⟩) (fun _ _ _ _ => rfl), hat, hcl⟩
  refine ⟨⟨some ⟨W.heap.size, 0, none⟩, c, rfl, hnc, hlen, fun hn => ⟨_, vs, rfl, hCA⟩⟩, ?_⟩
  rintro b ⟨c', a', q, hn, hf⟩
  cases q
  rcases hf with rfl | ⟨j, y, v, hy, hv, hfo⟩
  · exact .inr (Nat.le_refl _)
  · have hj : j < vs.length := by rw [← hl.1]; exact (List.getElem?_eq_some_iff.1 hy).1
    have h2 := hat j _ (List.getElem?_eq_getElem hj)
    rw [hv] at h2
    cases h2
    have h3 := hl'.2 j y _ hy (List.getElem?_eq_getElem hj)
    cases y with
    | c u => cases hfo
    | own k o => cases hfo
    | p S => exact .inl (h3.2 b hfo)
theorem rpl_id {xs : List AC} {vs : List Value} (h : RpL U ρ W xs vs) (hc : ∀ y ∈ xs, y.closedB = true) : RpL U id W xs vs :=
  ⟨h.1, fun i x v hx hv => (h.2 i x v hx hv).map (fun b hb _ => ⟨hb, rfl⟩) fun j hj => absurd hj (AC.closed_of (hc x (List.mem_of_getElem? hx)) j)⟩
theorem rpl_append {xs ys : List AC} {us vs : List Value} (h1 : RpL U ρ W xs us) (h2 : RpL U ρ W ys vs) : RpL U ρ W (xs ++ ys) (us ++ vs) := by
  refine ⟨by rw [List.length_append, List.length_append, h1.1, h2.1], fun i x v hx hv => ?_⟩
  rcases Nat.lt_or_ge i xs.length with hlt | hge
  · rw [List.getElem?_append_left hlt] at hx
    rw [List.getElem?_append_left (by rw [← h1.1]; exact hlt)] at hv
    exact h1.2 i x v hx hv
  · rw [List.getElem?_append_right hge] at hx
    rw [List.getElem?_append_right (by rw [← h1.1]; exact hge), ← h1.1] at hv
    exact h2.2 _ x v hx hv
/-- a slice's cells: those of none, too. -/
theorem slp_cells {z n : Nat} {xs : List AC} {v : Value} (h : RpV U ρ W (vS z n xs) v) : ∃ A c vs, v = .slice A n c ∧ n ≤ c ∧ xs.length = n * z ∧ RpL U id W xs vs ∧ (∀ y ∈ xs, y.closedB = true) ∧ (∀ b, A = some b → ∀ (j : Nat) u, vs[j]? = some u → W.cell? (b.add j) = some u) ∧ (A = none → n = 0) := by
  rcases Nat.eq_zero_or_pos n with rfl | hn
  · obtain ⟨⟨A, c, e, hc, hl, hA⟩, hU⟩ := h
    have : xs = [] := List.eq_nil_of_length_eq_zero (by rw [hl]; simp)
    subst this
    exact ⟨A, c, [], e, hc, hl, ⟨rfl, fun i x v hx => by simp at hx⟩, fun y hy => (by cases hy), fun b _ j u hu => by simp at hu, fun _ => rfl⟩
  · have h0 := h
    obtain ⟨b, c, vs, e, hc, hl, hat, hrp⟩ := SlP.cells_rp h hn
    obtain ⟨⟨A, c', e', _, _, hA⟩, _⟩ := h0
    rw [e] at e'
    cases e'
    obtain ⟨a, us, ea, hcs⟩ := hA hn
    exact ⟨some b, c, vs, e, hc, hl, rpl_id hrp hcs.cl, hcs.cl, fun b' e => by cases e; exact hat, fun e => by cases e⟩
theorem run_append_full {tt e z n m bytes ty : Nat} {xs ys : List AC} {x y : Value} (ht : rowTyB P tt e z bytes = true) (hx : RpV U ρ W (vSF z n xs) x) (hy : RpV U ρ W (vS z m ys) y) (h1 : n + m ≤ maxLen) (h2 : (n + m) * bytes ≤ 140737488355328) :
    ∃ v W', (Builtin.append_ #[tt, tt] ty #[x, y]).run P W = .ok v W' ∧ RpV (fun b => U b ∨ W.heap.size ≤ b) ρ W' (vS z (n + m) (xs ++ ys)) v ∧ Below W.heap.size W W' := by
  obtain ⟨ti, zv, hu, hti, hz, hsize, hby, hzs, hsz⟩ := rowTy_spec ht
  have hx' : RpV U ρ W (vS z n xs) x := ⟨hx.1.1, hx.2⟩
  obtain ⟨A0, eA⟩ := hx.1.2
  obtain ⟨A, c, us, ex, hnc, hlx, hrx, hcx, hax, hnx⟩ := slp_cells hx'
  rw [eA] at ex
  cases ex
  obtain ⟨Ay, cy, vs, rfl, hmc, hly, hry, hcy, hay, hny⟩ := slp_cells hy
  subst eA
  have h63 : n + m ≤ 9223372036854775807 := by simp only [maxLen] at h1; omega
  rcases Nat.eq_zero_or_pos m with rfl | hmp
  · have hys : ys = [] := List.eq_nil_of_length_eq_zero (by rw [hly]; simp)
    subst hys
    refine ⟨.slice A0 n n, W, ?_, ?_, Below.refl _ _⟩
    · cases A0 <;> cases Ay <;> simp [Builtin.append_, run_underlying hu, sizeOf, typeInfo, hti, Builtin.lenOf, Builtin.firstCells, storeCells, loadCells, loadCellsFrom]
    · rw [Nat.add_zero, List.append_nil]
      exact RpV.map hx' (fun b hb _ => ⟨.inl hb, rfl⟩) fun _ _ => rfl
  · obtain ⟨a, rfl⟩ : ∃ a, Ay = some a := by
      cases Ay with
      | none => have := hny rfl; omega
      | some a => exact ⟨a, rfl⟩
    have hvl : vs.length = m * ti.size := by rw [hsize, ← hry.1]; exact hly
    have hcl : ∀ q ∈ xs ++ ys, q.closedB = true := fun q hq => by
      rcases List.mem_append.1 hq with h | h
      · exact hcx q h
      · exact hcy q h
    have hlen : (xs ++ ys).length = (n + m) * z := by rw [List.length_append, hlx, hly, Nat.add_mul]
    cases A0 with
    | none =>
      have hn0 : n = 0 := hnx rfl
      subst hn0
      have hxs : xs = [] := List.eq_nil_of_length_eq_zero (by rw [hlx]; simp)
      subst hxs
      have hr := run_append_nil (P := P) W tt ty e ti zv hu hti hz a m cy vs hvl (hay a rfl) hmp (by omega) (by rw [hby]; simp only [Nat.zero_add] at h2; omega)
      refine ⟨_, _, hr, ?_, (Below.drew (Below.refl _ W)).alloc (Nat.le_refl _) _⟩
      have hlen' : ys.length = (0 + m) * z := by rw [hly, Nat.zero_add]
      rw [List.nil_append]
      have e0 : 0 + m = m := Nat.zero_add m
      rw [e0]
      refine fresh_slp (vs := vs) (e := e) hry hcy hly (grownCap_ge _ _ _ _) (fun b hb => by first | exact heap_alloc_old W.drew _ b hb | exact heap_alloc_old W.drew _ hb) (heap_alloc_new W.drew _) ?_
      rw [Array.toList_append, List.toList_toArray, List.take_append_of_le_length (by rw [hvl, hsize]; exact Nat.le_refl _), List.take_of_length_le (by rw [hvl, hsize]; exact Nat.le_refl _)]
    | some b =>
      have hul : us.length = n * ti.size := by rw [hsize, ← hrx.1]; exact hlx
      have hr := run_append_grow (P := P) W tt ty e ti zv hu hti hz b n n us hul (hax b rfl) a m cy vs hvl (hay a rfl) (by omega) (by omega) (growslice_fits (by omega) (by rw [hby]; exact h2))
      refine ⟨_, _, hr, ?_, (Below.drew (Below.refl _ W)).alloc (Nat.le_refl _) _⟩
      refine fresh_slp (vs := us ++ vs) (e := e) (rpl_append hrx hry) hcl hlen (grownCap_ge _ _ _ _) (fun b hb => by first | exact heap_alloc_old W.drew _ b hb | exact heap_alloc_old W.drew _ hb) (heap_alloc_new W.drew _) ?_
      have hl2 : (us ++ vs).length = (n + m) * z := by rw [List.length_append, hul, hvl, hsize, Nat.add_mul]
      rw [Array.toList_append, Array.toList_append, List.toList_toArray, List.toList_toArray, List.take_append_of_le_length (by rw [hl2]; exact Nat.le_refl _), List.take_of_length_le (by rw [hl2]; exact Nat.le_refl _)]
end
section
variable {P : Program} {s : AS} {ops : Array Oper} {K : AS → Prop} {rest : List Oper} {ty : Nat} {pos : String} {after : Array Edge} {guard : Option (Nat × Bool)} {d : Nat}
theorem al_appF {tt e z n m k bytes : Nat} {x y : Operand} {xs ys zs : List AC} [T : RowTy P tt e z bytes] (hw : want ops ⟨some d, .call ⟨.builtin .append, #[x, y], #[tt, tt]⟩, ty, pos, after, guard⟩ s = some true) (hx : s.look x = some (vSF z n xs)) (hy : s.look y = some (vS z m ys)) (h1 : n + m ≤ maxLen) (h2 : (n + m) * bytes ≤ 140737488355328) (hk : n + m = k) (hz : xs ++ ys = zs) (hd : Nat.blt d s.n = true) (h : aList P ops K rest (s.put (some d) (vS z k zs))) : aList P ops K (⟨some d, .call ⟨.builtin .append, #[x, y], #[tt, tt]⟩, ty, pos, after, guard⟩ :: rest) s := by
  subst hk hz
  refine al_fresh (av := vS z (n + m) (xs ++ ys)) hw ⟨fun q hq => ?_, fun j hj => noownp _ j hj, fun U ρ W env he => ?_⟩ hd h
  · simp [Op.operands, Call.operands] at hq
    rcases hq with rfl | rfl
    · exact ⟨_, hx⟩
    · exact ⟨_, hy⟩
  · obtain ⟨v, W', hr, h3, h4⟩ := run_append_full (ty := ty) T.h (he x (by simp [Op.operands, Call.operands]) _ hx) (he y (by simp [Op.operands, Call.operands]) _ hy) h1 h2
    exact ⟨v, W', by simp only [execOp, resolve, invoke, builtin, Sem.run_bind, Sem.run_pure, Result.andThen_ok, List.map_toArray, List.map_cons, List.map_nil, hr], h3, h4⟩
theorem al_new0F {t sz e bytes : Nat} [S : SliOf P t sz] [T : RowTy P t e sz bytes] (hw : want ops ⟨some d, .buildSlice t 0 #[], ty, pos, after, guard⟩ s = some true) (hd : Nat.blt d s.n = true) (h : aList P ops K rest (s.put (some d) (vSF sz 0 []))) : aList P ops K (⟨some d, .buildSlice t 0 #[], ty, pos, after, guard⟩ :: rest) s := by
  refine al_fresh (av := vSF sz 0 []) hw ⟨fun q hq => ?_, fun j hj => noownp _ j hj, fun U ρ W env he => ?_⟩ hd h
  · simp [Op.operands] at hq
  · obtain ⟨ti, zv, hu, hti, hz, hsize, hby, hzs, hsz⟩ := rowTy_spec T.h
    refine ⟨.slice (some ⟨W.heap.size, 0, none⟩) 0 0, W.alloc (.cells #[] e), ?_, ⟨⟨⟨_, 0, rfl, Nat.le_refl _, by simp, fun h => absurd h (Nat.lt_irrefl _)⟩, _, rfl⟩, fun b ⟨c, a, q, hn, _⟩ => absurd hn (Nat.lt_irrefl _)⟩, (Below.refl _ _).alloc (Nat.le_refl _) _⟩
    simp [execOp, Instr.buildSlice, Sem.run_bind, run_underlying hu, run_sizeOf' hti, Instr.fill, newRow, newObj, Sem.run, Array.range_zero']
theorem al_sl_hmF {tt z n m : Nat} {x y u : Operand} {r : Int} {xs ys : List AC} [S : SliOf P tt z] (hw : want ops ⟨some d, .slice tt x none (some y) (some u), ty, pos, after, guard⟩ s = some true) (hx : s.look x = some (vS z n xs)) (hy : s.look y = some (vI r)) (hu : s.look u = some (vI r)) (h0 : 0 ≤ r) (h1 : r ≤ n) (hm : r.toNat - 0 = m) (he : (xs.drop (0 * z)).take (m * z) = ys) (hd : Nat.blt d s.n = true) (h : aList P ops K rest (s.put (some d) (vSF z m ys))) : aList P ops K (⟨some d, .slice tt x none (some y) (some u), ty, pos, after, guard⟩ :: rest) s := by
  subst hm he
  refine al_quiet (av := vSF z (r.toNat - 0) ((xs.drop (0 * z)).take ((r.toNat - 0) * z))) hw ⟨fun _ _ h => (by cases h), fun q hq => ?_, fun U ρ W env he => ?_, fun j hj => absurd hj (noownp _ j)⟩ hd h
  · simp [Op.operands] at hq
    rcases hq with rfl | rfl | rfl
    · exact ⟨_, hx⟩
    · exact ⟨_, hy⟩
    · exact ⟨_, hu⟩
  · have hv := he x (by simp [Op.operands]) _ hx
    obtain ⟨A, c, us, ex, hnc, _⟩ := slp_cells hv
    rw [ex] at hv
    have ey : env y = .int .i64 r := (he y (by simp [Op.operands]) _ hy).1
    have eu : env u = .int .i64 r := (he u (by simp [Op.operands]) _ hu).1
    obtain ⟨e', i', hu, hi', hs⟩ := sliOf_spec S.h
    have hu' : P.underlying tt = some (.slice (P.elem tt)) := by rw [elem_slice hu]; exact hu
    refine ⟨_, ?_, slice_tellF hv (by omega) (by omega)⟩
    simp only [execOp, ex, Option.map_some, Option.map_none, ey, eu, Sem.run_bind, run_sliceAt_slice W tt _ _ _ _ hu', run_slice_hm W tt A n c hu' .i64 .i64 r r h0 (Int.le_refl _) (by omega), elem_slice hu, run_sizeOf' hi', Result.andThen_ok, hs, Sem.run_pure]
end
end Go.Proofs.Ytlfkllmnekdghaa

namespace Go.Proofs.Ytlfkllmnekdghaa
open Go

section
variable {P : Program} {ops : Array Oper} {Q : Exit → Act → World → Prop} {md : Region.Mode} {S : World → Prop} {T : Nat → Bool}

/-- From here on in whatever order; S holds behind each operation but the late ones, which T names. -/
def Late (P : Program) (md : Region.Mode) (ops : Array Oper) (Q : Exit → Act → World → Prop) (S : World → Prop) (T : Nat → Bool) : Nat → Array Bool → Act → World → Prop
  | 0, l, a, w => Region.ready md ops l = [] ∧ Q .normal a w
  | n + 1, l, a, w => (Region.ready md ops l = [] → Q .normal a w) ∧ ∀ i ∈ Region.ready md ops l, wpOp P ops Q i (fun a' w' => (T i = true ∨ S w') ∧ Late P md ops Q S T n (l.setIfInBounds i true) a' w') a w

theorem Late.any {n : Nat} : ∀ {l : Array Bool} {a : Act} {w : World}, Late P md ops Q S T n l a w → wpAny P md ops Q n l a w := by
  induction n with
  | zero => exact fun h => h
  | succ n ih => exact fun h => ⟨h.1, fun i hi => wpOp_mono (fun _ _ k => ih k.2) (h.2 i hi)⟩

/-- What may come up waits for nothing that has not come up. -/
theorem no_wait {l : Array Bool} {i j : Nat} {oj : Oper} {e : Edge} (hun : l.getD i true = false) (hj : j ∈ Region.ready md ops l) (hoj : ops[j]? = some oj) (he : e ∈ oj.after) (hb : Region.binds md e = true) : e.on ≠ i := by
  rintro rfl
  obtain ⟨_, o, ho, hall⟩ := mem_ready.1 hj
  obtain rfl : oj = o := Option.some.inj (hoj.symm.trans ho)
  have h := hall e he hb
  cases hs : l[e.on]? with
  | none => simp [Array.getD_eq_getD_getElem?, hs] at hun
  | some b => simp [Array.getD_eq_getD_getElem?, hs] at hun h; rw [hun] at h; cases h

theorem un_set {l : Array Bool} {j m : Nat} (h : (l.setIfInBounds j true).getD m true = false) : l.getD m true = false := by
  by_cases e : j = m
  · subst e
    rw [Array.getD_eq_getD_getElem?, Array.getElem?_setIfInBounds] at h
    by_cases q : j < l.size
    · simp [q] at h
    · rw [if_pos rfl, if_neg q] at h; cases h
  · rw [getD_set_ne true e] at h; exact h
/-- One that may come up is taken first: every other one waits for it, or is apart from it; the late ones wait for it, or for number k, which waits for it. -/
theorem Late.first {i k : Nat} {oi : Oper} {v : Value} {U : Nat → Prop} (hi : ops[i]? = some oi) (hsel : ∀ (j : Nat) (o : Oper) cs b, ops[j]? = some o → o.op ≠ .select cs b)
    (hQ : ∀ c a w, Q (.panic c) (a.put oi.dst v) w → Q (.panic c) a w)
    (hap : ∀ j oj, U j → ops[j]? = some oj → j ≠ i → (∀ e ∈ oj.after, Region.binds md e = true → e.on ≠ i) → oi.apart ops oj = true)
    (hT : ∀ j oj, U j → T j = true → ops[j]? = some oj → ∃ e ∈ oj.after, Region.binds md e = true ∧ (e.on = i ∨ e.on = k))
    (hk : ∀ ok, ops[k]? = some ok → ∃ e ∈ ok.after, Region.binds md e = true ∧ e.on = i) (n : Nat) :
    ∀ (l : Array Bool) (a : Act) (w : World), (∀ j, l.getD j true = false → U j) → l.getD k true = false → i ∈ Region.ready md ops l → YieldsIf P ops S oi v a → S w →
      Late P md ops Q S T n (l.setIfInBounds i true) (a.put oi.dst v) w → Late P md ops Q S T (n + 1) l a w := by
  induction n with
  | zero =>
    intro l a w _ _ hr hy hS H
    refine ⟨fun h => absurd (h ▸ hr) (List.not_mem_nil), fun j hj => ?_⟩
    by_cases e : j = i
    · exact e ▸ hy.wpOp hi hS ⟨.inr hS, H⟩
    · exact absurd (H.1 ▸ ready_mono hj e) (List.not_mem_nil)
  | succ n ih =>
    intro l a w hU hl hr hy hS H
    have hun : l.getD i true = false := (mem_ready.1 hr).1
    refine ⟨fun h => absurd (h ▸ hr) (List.not_mem_nil), fun j hj => ?_⟩
    by_cases e : j = i
    · exact e ▸ hy.wpOp hi hS ⟨.inr hS, H⟩
    obtain ⟨_, oj, hoj, _⟩ := mem_ready.1 hj
    have hno : ∀ e ∈ oj.after, Region.binds md e = true → e.on ≠ i := fun e he hb => no_wait hun hj hoj he hb
    have hUj : U j := hU j (mem_ready.1 hj).1
    refine wpOp_mono (fun a' w' h => ?_) (wpOp_putIf hoj (hap j oj hUj hoj e hno) (fun cs b => hsel i oi cs b hi) (fun cs b => hsel j oj cs b hoj) hQ hy (H.2 j (ready_mono hj e)))
    obtain ⟨hy', ht | hS', H'⟩ := h
    · obtain ⟨x, hx, hb, hon | hon⟩ := hT j oj hUj ht hoj
      · exact absurd hon (hno x hx hb)
      · exact absurd hon (no_wait hl hj hoj hx hb)
    · have jk : j ≠ k := fun ek => by
        subst ek
        obtain ⟨x, hx, hb, hon⟩ := hk oj hoj
        exact hno x hx hb hon
      refine ⟨.inr hS', ih _ a' w' (fun m hm => hU m (un_set hm)) (by rw [getD_set_ne true jk]; exact hl) (ready_mono hr (Ne.symm e)) hy' hS' ?_⟩
      rw [Array.setIfInBounds_comm _ _ e]
      exact H'

/-- the three conditions, as one Bool. -/
def mayFirst (md : Region.Mode) (ops : Array Oper) (T : Nat → Bool) (l : Array Bool) (oi : Oper) (i k : Nat) : Bool :=
  (List.range ops.size).all (fun j => l.getD j true || (j == i || Region.waitsFor md ops j i || (match ops[j]? with | some oj => oi.apart ops oj | none => true)) && (!T j || Region.waitsFor md ops j i || Region.waitsFor md ops j k)) && Region.waitsFor md ops k i && !l.getD k true
end
end Go.Proofs.Ytlfkllmnekdghaa

namespace Go.Proofs.Ytlfkllmnekdghaa
open Go.RowKit
set_option linter.unusedVariables false

@[go_sem] theorem isSome_setCell (w : World) (a b : Addr) (v : Value) : ((w.setCell a v).cell? b).isSome = (w.cell? b).isSome := by
  unfold World.setCell World.cell?
  simp only [Array.getElem?_modify]
  by_cases e : a.block = b.block
  · rw [if_pos e]
    cases w.heap[b.block]? with
    | none => rfl
    | some o =>
      cases o <;> simp only [Option.map_some]
      by_cases s : a.spot.isSome = true
      · simp [s]
      · by_cases t : b.spot.isSome = true
        · simp [t]
        · simp only [if_neg s, if_neg t]
          rw [Array.getElem?_setIfInBounds]
          split
          · rename_i h1
            rw [← h1]
            split
            · rename_i h2; simp [h2]
            · rename_i h2; simp [h2]
          · rfl
  · rw [if_neg e]
theorem below_call {w W w1 : World} (h : Below w.heap.size w W) (hb : Below W.heap.size W w1) : Below w.heap.size w w1 := h.trans (hb.mono h.size)
theorem below_set {w W : World} (h : Below w.heap.size w W) (b o : Nat) (v : Value) (hb : w.heap.size ≤ b) : Below w.heap.size w (W.setCell ⟨b, o, none⟩ v) := h.setCell (p := ⟨b, o, none⟩) hb v

/-- two cells of a block, and that they may be written. -/
def Box (w : World) (b : Nat) (u v : Value) : Prop := (w.cell? ⟨b, 0, none⟩ = some u ∧ w.cell? ⟨b, 1, none⟩ = some v) ∧ (w.frozen? ⟨b, 0, none⟩ = false ∧ w.frozen? ⟨b, 1, none⟩ = false)
theorem Box.lt {w : World} {b : Nat} {u v : Value} (h : Box w b u v) : b < w.heap.size := World.block_lt_of_cell? w _ h.1.1
theorem Box.call {W w1 : World} {b : Nat} {u v : Value} (h : Box W b u v) (hb : Below W.heap.size W w1) : Box w1 b u v := by
  have hl := h.lt
  obtain ⟨⟨h1, h2⟩, h3, h4⟩ := h
  exact ⟨⟨(hb.cell (p := ⟨b, 0, none⟩) hl).trans h1, (hb.cell (p := ⟨b, 1, none⟩) hl).trans h2⟩, (hb.frozen (p := ⟨b, 0, none⟩) hl).trans h3, (hb.frozen (p := ⟨b, 1, none⟩) hl).trans h4⟩
theorem Box.alloc {W : World} {b : Nat} {u v : Value} (h : Box W b u v) (o : Obj) : Box (W.alloc o) b u v := h.call ((Below.refl _ _).alloc (Nat.le_refl _) o)
theorem Box.drew {W : World} {b : Nat} {u v : Value} (h : Box W b u v) : Box W.drew b u v := h.call ((Below.refl _ _).drew)
theorem Box.new {W : World} {b : Nat} {u v : Value} {t : TypeId} (e : b = W.heap.size) : Box (W.alloc (.cells #[u, v] t)) b u v := by
  subst e
  unfold Box
  go_simp
theorem Box.set {W : World} {b g : Nat} {u v x : Value} (h : Box W b u v) (o : Nat) (ne : g ≠ b) : Box (W.setCell ⟨g, o, none⟩ x) b u v := by
  obtain ⟨⟨h1, h2⟩, h3, h4⟩ := h
  have n0 : (⟨g, o, none⟩ : Addr) ≠ ⟨b, 0, none⟩ := fun e => ne (congrArg Addr.block e)
  have n1 : (⟨g, o, none⟩ : Addr) ≠ ⟨b, 1, none⟩ := fun e => ne (congrArg Addr.block e)
  refine ⟨⟨?_, ?_⟩, ?_, ?_⟩
  · rw [World.cell?_setCell_other _ _ _ _ n0]; exact h1
  · rw [World.cell?_setCell_other _ _ _ _ n1]; exact h2
  · go_simp
  · go_simp
/-- there are two cells in the block, and they may be written. -/
def HasBox (w : World) (b : Nat) : Prop := ((w.cell? ⟨b, 0, none⟩).isSome = true ∧ (w.cell? ⟨b, 1, none⟩).isSome = true) ∧ (w.frozen? ⟨b, 0, none⟩ = false ∧ w.frozen? ⟨b, 1, none⟩ = false)
theorem HasBox.of {W : World} {b : Nat} {u v : Value} (h : Box W b u v) : HasBox W b := by
  obtain ⟨⟨h1, h2⟩, h3, h4⟩ := h
  exact ⟨⟨by rw [h1]; rfl, by rw [h2]; rfl⟩, h3, h4⟩
theorem HasBox.box {W : World} {b : Nat} (h : HasBox W b) : ∃ u v, Box W b u v := by
  obtain ⟨⟨h1, h2⟩, h3, h4⟩ := h
  obtain ⟨u, hu⟩ := Option.isSome_iff_exists.1 h1
  obtain ⟨v, hv⟩ := Option.isSome_iff_exists.1 h2
  exact ⟨u, v, ⟨hu, hv⟩, h3, h4⟩
theorem HasBox.call {W w1 : World} {b : Nat} (h : HasBox W b) (hb : Below W.heap.size W w1) : HasBox w1 b := by
  obtain ⟨u, v, k⟩ := h.box
  exact .of (k.call hb)
theorem HasBox.alloc {W : World} {b : Nat} (h : HasBox W b) (o : Obj) : HasBox (W.alloc o) b := by
  obtain ⟨u, v, k⟩ := h.box
  exact .of (k.alloc o)
theorem HasBox.drew {W : World} {b : Nat} (h : HasBox W b) : HasBox W.drew b := by
  obtain ⟨u, v, k⟩ := h.box
  exact .of k.drew
theorem HasBox.new {W : World} {b : Nat} {u v : Value} {t : TypeId} (e : b = W.heap.size) : HasBox (W.alloc (.cells #[u, v] t)) b := .of (Box.new e)
theorem HasBox.set {W : World} {b : Nat} (h : HasBox W b) (a : Addr) (x : Value) : HasBox (W.setCell a x) b := by
  obtain ⟨⟨h1, h2⟩, h3, h4⟩ := h
  refine ⟨⟨by rw [isSome_setCell]; exact h1, by rw [isSome_setCell]; exact h2⟩, ?_, ?_⟩
  · go_simp
  · go_simp
theorem Box.put {W : World} {b : Nat} {u' v' : Value} (h : HasBox W b) : Box ((W.setCell ⟨b, 0, none⟩ u').setCell ⟨b, 1, none⟩ v') b u' v' := by
  obtain ⟨u, v, k⟩ := h.box
  obtain ⟨⟨h1, h2⟩, h3, h4⟩ := k
  unfold Box
  go_simp
def eqW (a b c d : Int) : Bool := a == c && b == d
/-- An Int of the program: its two halves, and the number. -/
def IsW (H L n : Int) : Prop := (-9223372036854775808 ≤ H ∧ H < 9223372036854775808) ∧ (0 ≤ L ∧ L < 18446744073709551616) ∧ n = H * 18446744073709551616 + L
/-- A size of the program: its two halves, and the number. -/
def IsS (H L n : Int) : Prop := (0 ≤ H ∧ H < 18446744073709551616) ∧ (0 ≤ L ∧ L < 18446744073709551616) ∧ n = H * 18446744073709551616 + L
/-- the number that goes round at 2^128. -/
def wr (n : Int) : Int := (n + 170141183460469231731687303715884105728) % 340282366920938463463374607431768211456 - 170141183460469231731687303715884105728
def fits (n : Int) : Bool := decide (-170141183460469231731687303715884105728 ≤ n ∧ n < 170141183460469231731687303715884105728)
/-- the Int n comes back; all older memory is as it was. -/
def RW (n : Int) (w : World) (e : Ending) (w' : World) : Prop := ∃ H L, e = .returned (.agg #[.int .i64 H, .int .u64 L]) ∧ IsW H L n ∧ Below w.heap.size w w'
/-- 'n, and true', or zero, and false, if n is none of the program's numbers. -/
def RWF (n : Int) (w : World) (e : Ending) (w' : World) : Prop := ∃ H L, e = .returned (.tuple #[.agg #[.int .i64 H, .int .u64 L], .bool (fits n)]) ∧ IsW H L (if fits n then n else 0) ∧ Below w.heap.size w w'
/-- the size n comes back. -/
def RS (n : Int) (w : World) (e : Ending) (w' : World) : Prop := ∃ H L, e = .returned (.agg #[.int .u64 H, .int .u64 L]) ∧ IsS H L n ∧ Below w.heap.size w w'
/-- a value comes back. -/
def RV (v : Value) (w : World) (e : Ending) (w' : World) : Prop := e = .returned v ∧ Below w.heap.size w w'
def icmp (n m : Int) : Int := if n = m then 0 else if n < m then -1 else 1

theorem IsW.fits {H L n : Int} (h : IsW H L n) : fits n = true := by
  obtain ⟨a, b, rfl⟩ := h
  unfold Proofs.Ytlfkllmnekdghaa.fits
  rw [decide_eq_true_eq]
  omega
theorem IsW.inj {H L H' L' n : Int} (h : IsW H L n) (k : IsW H' L' n) : H = H' ∧ L = L' := by
  obtain ⟨a, b, rfl⟩ := h
  obtain ⟨c, d, e⟩ := k
  omega
theorem IsW.eq {H L H' L' n m : Int} (h : IsW H L n) (k : IsW H' L' m) : n = m ↔ (H = H' ∧ L = L') := by
  obtain ⟨a, b, rfl⟩ := h
  obtain ⟨c, d, rfl⟩ := k
  omega
theorem IsW.neg {H L n : Int} (h : IsW H L n) : H < 0 ↔ n < 0 := by
  obtain ⟨a, b, rfl⟩ := h
  omega
theorem IsW.eqW {H L H' L' n m : Int} (h : IsW H L n) (k : IsW H' L' m) : eqW H L H' L' = decide (n = m) := by
  obtain ⟨a, b, rfl⟩ := h
  obtain ⟨c, d, rfl⟩ := k
  unfold Proofs.Ytlfkllmnekdghaa.eqW
  rw [Bool.eq_iff_iff]
  simp only [Bool.and_eq_true, beq_iff_eq, decide_eq_true_eq]
  omega
theorem IsS.eqW {H L H' L' n m : Int} (h : IsS H L n) (k : IsS H' L' m) : eqW H L H' L' = decide (n = m) := by
  obtain ⟨a, b, rfl⟩ := h
  obtain ⟨c, d, rfl⟩ := k
  unfold Proofs.Ytlfkllmnekdghaa.eqW
  rw [Bool.eq_iff_iff]
  simp only [Bool.and_eq_true, beq_iff_eq, decide_eq_true_eq]
  omega
theorem IsW.conv {H L n m : Int} (h : IsW H L n) (e : n = m) : IsW H L m := e ▸ h
/-- The model's entry for math/bits.Sub64. -/
def subEntry : Array Value → Sem Value := fun args => do
  let (x, y, b) ← Extern.MathBitsCarry.three "Sub64" args
  pure (Extern.MathBitsCarry.pair ((x + Extern.MathBitsCarry.m64 - y - b) % Extern.MathBitsCarry.m64) (if x < y + b then 1 else 0))
end Go.Proofs.Ytlfkllmnekdghaa
namespace Go.Proofs.Ytlfkllmnekdghaa
open Go.RowKit
set_option linter.unusedVariables false

def small (n : Int) : Bool := decide (-9223372036854775808 ≤ n ∧ n < 9223372036854775808)
end Go.Proofs.Ytlfkllmnekdghaa

namespace Go.Proofs.Ytlfkllmnekdghaa
set_option linter.unusedVariables false

/-- the number of a row, x standing above its highest digit. -/
def dvx : List Int → Int → Int
  | [], x => x
  | d :: ds, x => d + 10000 * dvx ds x
/-- a row's number. -/
def dval (ds : List Int) : Int := dvx ds 0
/-- all are digits. -/
def IsD (ds : List Int) : Prop := ∀ d ∈ ds, 0 ≤ d ∧ d < 10000
/-- the number of a row's digits from k on. -/
def hi (ds : List Int) (k : Nat) : Int := dval (ds.drop k)
/-- no nought at the high end. -/
def NoZ (ds : List Int) : Prop := 0 < ds.length → ds.getD (ds.length - 1) 0 ≠ 0

theorem IsD.tail {d : Int} {ds : List Int} (h : IsD (d :: ds)) : IsD ds := fun x hx => h x (List.mem_cons_of_mem _ hx)
theorem IsD.head {d : Int} {ds : List Int} (h : IsD (d :: ds)) : 0 ≤ d ∧ d < 10000 := h d List.mem_cons_self
theorem IsD.nil : IsD [] := fun d h => by cases h
theorem IsD.take {ds : List Int} (h : IsD ds) (k : Nat) : IsD (ds.take k) := fun x hx => h x (List.mem_of_mem_take hx)
theorem IsD.drop {ds : List Int} (h : IsD ds) (k : Nat) : IsD (ds.drop k) := fun x hx => h x (List.mem_of_mem_drop hx)
theorem IsD.set {ds : List Int} (h : IsD ds) (k : Nat) {d : Int} (h0 : 0 ≤ d) (h1 : d < 10000) : IsD (ds.set k d) := by
  intro x hx
  rcases List.mem_or_eq_of_mem_set hx with k | k
  · exact h x k
  · exact k ▸ ⟨h0, h1⟩
theorem IsD.getD {ds : List Int} (h : IsD ds) (k : Nat) : 0 ≤ ds.getD k 0 ∧ ds.getD k 0 < 10000 := by
  by_cases e : k < ds.length
  · rw [List.getD_eq_getElem?_getD, List.getElem?_eq_getElem e]
    exact h _ (List.getElem_mem e)
  · rw [List.getD_eq_getElem?_getD, List.getElem?_eq_none (by omega)]
    exact ⟨by decide, by decide⟩
theorem dvx_nonneg {a : List Int} (h : IsD a) {x : Int} (hx : 0 ≤ x) : 0 ≤ dvx a x := by
  induction a with
  | nil => exact hx
  | cons d ds ih => have := h.head; have := ih h.tail; simp only [dvx]; omega
theorem dval_nonneg {a : List Int} (h : IsD a) : 0 ≤ dval a := dvx_nonneg h (by omega)
theorem dval_cons (d : Int) (ds : List Int) : dval (d :: ds) = d + 10000 * dval ds := rfl
theorem dval_nil : dval [] = 0 := rfl
theorem dval_lt {ds : List Int} (h : IsD ds) : dval ds < 10000 ^ ds.length := by
  induction ds with
  | nil => decide
  | cons d ds ih => have := h.head; have := ih h.tail; rw [dval_cons, List.length_cons, Int.pow_succ]; omega
theorem pow_pos' (k : Nat) : (0 : Int) < 10000 ^ k := Int.pow_pos (by decide)
theorem pow_mono {k j : Nat} (h : k ≤ j) : (10000 : Int) ^ k ≤ 10000 ^ j := by
  obtain ⟨d, rfl⟩ := Nat.exists_eq_add_of_le h
  clear h
  induction d with
  | zero => exact Int.le_refl _
  | succ d ih => have := pow_pos' (k + d); rw [← Nat.add_assoc, Int.pow_succ]; omega
theorem nm_ge {ds : List Int} (h : IsD ds) (n : NoZ ds) (k : Nat) (e : ds.length = k + 1) : (10000 : Int) ^ k ≤ dval ds := by
  induction ds generalizing k with
  | nil => cases e
  | cons d ds ih =>
    rw [dval_cons]
    have hh := h.head
    cases k with
    | zero =>
      obtain rfl : ds = [] := List.eq_nil_of_length_eq_zero (by simpa using e)
      have := n (by simp)
      simp at this
      show (1 : Int) ≤ _
      rw [dval_nil]
      omega
    | succ k =>
      have hl : ds.length = k + 1 := by simpa using e
      have n' : NoZ ds := by
        intro hp
        have := n (by simp)
        rw [List.length_cons, hl] at this
        rw [hl]
        simpa using this
      have := ih h.tail n' k hl
      rw [Int.pow_succ]
      omega
/-- a row without noughts at its high end is as short as its number. -/
theorem nm_len {ds : List Int} (h : IsD ds) (n : NoZ ds) {k : Nat} (hk : dval ds < 10000 ^ k) : ds.length ≤ k := by
  rcases Nat.lt_or_ge k ds.length with hlt | hge
  · exfalso
    obtain ⟨j, hj⟩ : ∃ j, ds.length = j + 1 := ⟨ds.length - 1, by omega⟩
    have h1 := nm_ge h n j hj
    have h2 : (10000 : Int) ^ k ≤ 10000 ^ j := pow_mono (by omega)
    omega
  · exact hge
theorem nm_zero {ds : List Int} (h : IsD ds) (n : NoZ ds) (e : dval ds = 0) : ds = [] := by
  have := nm_len h n (k := 0) (by rw [e]; decide)
  exact List.eq_nil_of_length_eq_zero (by omega)
end Go.Proofs.Ytlfkllmnekdghaa
namespace Go.Proofs.Ytlfkllmnekdghaa
set_option linter.unusedVariables false

theorem getD_set_ne {o : List Int} {k j : Nat} (h : k ≠ j) (d : Int) : (o.set k d).getD j 0 = o.getD j 0 := by
  rw [List.getD_eq_getElem?_getD, List.getElem?_set_ne h, List.getD_eq_getElem?_getD]
/-- the part of a row from i to i + k. -/
def mid (o : List Int) (i k : Nat) : List Int := (o.drop i).take k
/-- What a product's inner round keeps: the row from i on, and what is to come, is what it was at first, and x times b. -/
def MulIn (o : List Int) (i k : Nat) (c x : Int) (b : List Int) (T : Int) : Prop := dvx (mid o i k) (hi o (i + k) + c + x * hi b k) = T
/-- What a product's outer round keeps. -/
def MulOut (o a b : List Int) (i : Nat) : Prop := dvx (o.take i) (hi o i + hi a i * dval b) = dval a * dval b
/-- a sign and a row: a number. -/
def sg (neg : Bool) (n : Int) : Int := if neg then -n else n
theorem sg_false (n : Int) : sg false n = n := rfl
theorem sg_true (n : Int) : sg true n = -n := rfl
/-- A row of digits, and a sign, that stand for n: no nought at the high end, and 0 has no sign. -/
structure Std (neg : Bool) (ds : List Int) (n : Int) : Prop where
  dg : IsD ds
  nm : NoZ ds
  sign : neg = true → ds ≠ []
  val : n = sg neg (dval ds)
theorem Std.pos {neg : Bool} {ds : List Int} {n : Int} (h : Std neg ds n) (hn : ds ≠ []) : 0 < dval ds := by
  have h1 := dval_nonneg h.dg
  rcases Int.lt_or_eq_of_le h1 with k | k
  · exact k
  · exact absurd (nm_zero h.dg h.nm k.symm) hn
theorem Std.abs {neg : Bool} {ds : List Int} {n : Int} (h : Std neg ds n) : dval ds = n.natAbs := by
  have h1 := dval_nonneg h.dg
  have hv := h.val
  cases neg with
  | false => rw [sg_false] at hv; omega
  | true => rw [sg_true] at hv; omega
theorem Std.len {neg : Bool} {ds : List Int} {n : Int} (h : Std neg ds n) {k : Nat} (hk : (n.natAbs : Int) < 10000 ^ k) : ds.length ≤ k := nm_len h.dg h.nm (by rw [h.abs]; exact hk)
end Go.Proofs.Ytlfkllmnekdghaa

namespace Go.Proofs.Ytlfkllmnekdghaa
open Go.RowKit
set_option linter.unusedVariables false

/-- a slice of ints that reads as the row ds. -/
def Dg (w : World) (A : Option Addr) (l c : Nat) (ds : List Int) : Prop :=
  ds.length = l ∧ l ≤ c ∧ c ≤ 9223372036854775807 ∧ (0 < l → ∃ g, A = some ⟨g, 0, none⟩ ∧ g < w.heap.size ∧ ∀ j, j < l → w.cell? ⟨g, j, none⟩ = some (.int .i64 (ds.getD j 0)))
theorem Dg.call {w w' : World} {A : Option Addr} {l c : Nat} {ds : List Int} (h : Dg w A l c ds) (hb : Below w.heap.size w w') : Dg w' A l c ds := by
  obtain ⟨h1, h2, h3, k⟩ := h
  refine ⟨h1, h2, h3, fun hne => ?_⟩
  obtain ⟨g, rfl, hg, hc⟩ := k hne
  exact ⟨g, rfl, Nat.lt_of_lt_of_le hg hb.size, fun j hj => (hb.cell (p := ⟨g, j, none⟩) hg).trans (hc j hj)⟩
theorem Dg.alloc {w : World} {A : Option Addr} {l c : Nat} {ds : List Int} (h : Dg w A l c ds) (o : Obj) : Dg (w.alloc o) A l c ds := h.call ((Below.refl _ _).alloc (Nat.le_refl _) o)
theorem Dg.nil {w : World} {A : Option Addr} {c : Nat} (hc : c ≤ 9223372036854775807) : Dg w A 0 c [] := ⟨rfl, Nat.zero_le _, hc, fun h => absurd h (by omega)⟩
theorem Dg.take {w : World} {A : Option Addr} {l c : Nat} {ds : List Int} (h : Dg w A l c ds) {k : Nat} (hk : k ≤ l) : Dg w A k c (ds.take k) := by
  obtain ⟨h1, h2, h3, h4⟩ := h
  refine ⟨by rw [List.length_take]; omega, by omega, h3, fun hp => ?_⟩
  obtain ⟨g, e, hg, hc⟩ := h4 (by omega)
  refine ⟨g, e, hg, fun j hj => ?_⟩
  rw [hc j (by omega), List.getD_eq_getElem?_getD, List.getD_eq_getElem?_getD, List.getElem?_take_of_lt hj]
theorem Dg.own {w : World} {base : Nat} {v : Value} {n : Nat} {ds : List Int} (h : w.ownsRow base 3 1 v n (ds.map (Value.int .i64))) : ∃ A c, v = .slice A n c ∧ Dg w A n c ds := by
  have hl : ds.length = n := by have := h.1; simpa using this
  have hh := h
  rcases h.2 with ⟨rfl, rfl⟩ | ⟨g, cap, cur, rfl, hb, hg, hn, hm, hs, ht⟩
  · exact ⟨none, 0, rfl, hl, Nat.le_refl _, by omega, fun k => absurd k (by omega)⟩
  · refine ⟨_, cap, rfl, hl, hn, by simpa [maxLen] using hm, fun _ => ⟨g, rfl, (Array.getElem?_eq_some_iff.1 hg).1, fun j hj => ?_⟩⟩
    rw [hh.cellAt j (by omega), List.getElem?_map, List.getElem?_eq_getElem (by omega), List.getD_eq_getElem?_getD, List.getElem?_eq_getElem (by omega)]
    rfl
/-- A number of the reference package, in memory w: its sign, its slice; n: the number. -/
def IsN (w : World) (neg : Bool) (A : Option Addr) (l c : Nat) (n : Int) : Prop := ∃ ds, Dg w A l c ds ∧ Std neg ds n
theorem IsN.call {w w' : World} {neg : Bool} {A : Option Addr} {l c : Nat} {n : Int} (h : IsN w neg A l c n) (hb : Below w.heap.size w w') : IsN w' neg A l c n := by
  obtain ⟨ds, h1, h2⟩ := h
  exact ⟨ds, h1.call hb, h2⟩
theorem IsN.len {w : World} {neg : Bool} {A : Option Addr} {l c : Nat} {n : Int} (h : IsN w neg A l c n) {k : Nat} (hk : (n.natAbs : Int) < 10000 ^ k) : l ≤ k := by
  obtain ⟨ds, h1, h2⟩ := h
  rw [← h1.1]
  exact h2.len hk
/-- the number n comes back, in memory of its own; all elder memory is as it was. -/
def RN (n : Int) (w : World) (e : Ending) (w' : World) : Prop := ∃ neg A l c, e = .returned (.agg #[.bool neg, .slice A l c]) ∧ IsN w' neg A l c n ∧ Below w.heap.size w w'
/-- a row whose number is n comes back. -/
def RD (n : Int) (k : Nat) (w : World) (e : Ending) (w' : World) : Prop := ∃ A l c ds, e = .returned (.slice A l c) ∧ Dg w' A l c ds ∧ IsD ds ∧ dval ds = n ∧ l ≤ k ∧ Below w.heap.size w w'

/-- the slice lies in no block below b. -/
def Fr (b : Nat) (A : Option Addr) : Prop := ∀ a, A = some a → b ≤ a.block
/-- RN, in memory that is new. -/
def RNF (n : Int) (w : World) (e : Ending) (w' : World) : Prop := ∃ neg A l c, e = .returned (.agg #[.bool neg, .slice A l c]) ∧ IsN w' neg A l c n ∧ Below w.heap.size w w' ∧ Fr w.heap.size A
/-- RD, in memory that is new. -/
def RDF (n : Int) (k : Nat) (w : World) (e : Ending) (w' : World) : Prop := ∃ A l c ds, e = .returned (.slice A l c) ∧ Dg w' A l c ds ∧ IsD ds ∧ dval ds = n ∧ l ≤ k ∧ Below w.heap.size w w' ∧ Fr w.heap.size A
/-- RN, in the row that was given. -/
def RT (n : Int) (A : Option Addr) (c : Nat) (w : World) (e : Ending) (w' : World) : Prop := ∃ neg l, e = .returned (.agg #[.bool neg, .slice A l c]) ∧ IsN w' neg A l c n ∧ Below w.heap.size w w'
theorem RDF.rd {n : Int} {k : Nat} {w w' : World} {e : Ending} (h : RDF n k w e w') : RD n k w e w' := by
  obtain ⟨A, l, c, ds, h1, h2, h3, h4, h5, h6, h7⟩ := h
  exact ⟨A, l, c, ds, h1, h2, h3, h4, h5, h6⟩
theorem Fr.own {w : World} {base : Nat} {t : TypeId} {A : Option Addr} {n c : Nat} {xs : List Value} (h : w.ownsRow base t 1 (.slice A n c) n xs) : Fr base A := fun a e => by
  subst e
  exact (h.lt a.block rfl).1
end Go.Proofs.Ytlfkllmnekdghaa
namespace Go.Proofs.Ytlfkllmnekdghaa
open Go.RowKit
set_option linter.unusedVariables false

def capOf : Value → Nat
  | .slice _ k _ => k
  | _ => 0
end Go.Proofs.Ytlfkllmnekdghaa
namespace Go.Proofs.Ytlfkllmnekdghaa
open Go.RowKit
set_option linter.unusedVariables false

end Go.Proofs.Ytlfkllmnekdghaa
namespace Go.Proofs.Ytlfkllmnekdghaa
open Go.RowKit
set_option linter.unusedVariables false

/-- what a sum's round keeps. -/
structure PlusR (w wr : World) (ds es : List Int) (l m : Nat) (v : Value) (c : Int) (k : Nat) (os : List Int) : Prop where
  c0 : 0 ≤ c
  c1 : c ≤ 1
  len : os.length = k
  dg : IsD os
  val : dvx os (c + hi ds k + hi es k) = dval ds + dval es
  more : 0 < c → k ≤ l ∨ k ≤ m
  top : k ≤ l ∨ k ≤ m + 1 ∨ k ≤ l + 1
  own : wr.ownsRow w.heap.size 3 1 v k (os.map (Value.int .i64))
  below : Below w.heap.size w wr
end Go.Proofs.Ytlfkllmnekdghaa
namespace Go.Proofs.Ytlfkllmnekdghaa
open Go.RowKit
set_option linter.unusedVariables false

/-- what a difference's round keeps. -/
structure MinusR (w wr : World) (ds es : List Int) (l : Nat) (v : Value) (c : Int) (k : Nat) (os : List Int) : Prop where
  c0 : 0 ≤ c
  c1 : c ≤ 1
  len : os.length = k
  dg : IsD os
  val : dvx os (hi ds k - hi es k - c) = dval ds - dval es
  top : k ≤ l
  own : wr.ownsRow w.heap.size 3 1 v k (os.map (Value.int .i64))
  below : Below w.heap.size w wr
end Go.Proofs.Ytlfkllmnekdghaa
namespace Go.Proofs.Ytlfkllmnekdghaa
open Go.RowKit
set_option linter.unusedVariables false

theorem IsN.alloc {w : World} {neg : Bool} {A : Option Addr} {l c : Nat} {n : Int} (h : IsN w neg A l c n) (o : Obj) : IsN (w.alloc o) neg A l c n := h.call ((Below.refl _ _).alloc (Nat.le_refl _) o)
theorem IsN.drew {w : World} {neg : Bool} {A : Option Addr} {l c : Nat} {n : Int} (h : IsN w neg A l c n) : IsN w.drew neg A l c n := h.call ((Below.refl _ _).drew)
/-- a block of two cells, the first of which holds a bool. -/
def HasBB (w : World) (b : Nat) : Prop := ∃ x u, Box w b (.bool x) u
theorem HasBB.of {w : World} {b : Nat} {x : Bool} {u : Value} (h : Box w b (.bool x) u) : HasBB w b := ⟨x, u, h⟩
theorem HasBB.call {w w1 : World} {b : Nat} (h : HasBB w b) (hb : Below w.heap.size w w1) : HasBB w1 b := by
  obtain ⟨x, u, k⟩ := h
  exact ⟨x, u, k.call hb⟩
theorem HasBB.alloc {w : World} {b : Nat} (h : HasBB w b) (o : Obj) : HasBB (w.alloc o) b := by
  obtain ⟨x, u, k⟩ := h
  exact ⟨x, u, k.alloc o⟩
theorem HasBB.drew {w : World} {b : Nat} (h : HasBB w b) : HasBB w.drew b := by
  obtain ⟨x, u, k⟩ := h
  exact ⟨x, u, k.drew⟩
theorem HasBB.new {w : World} {b : Nat} {x : Bool} {u : Value} {t : TypeId} (e : b = w.heap.size) : HasBB (w.alloc (.cells #[.bool x, u] t)) b := ⟨x, u, Box.new e⟩
theorem HasBB.set {w : World} {b g : Nat} (h : HasBB w b) (o : Nat) {x : Value} (ne : g ≠ b) : HasBB (w.setCell ⟨g, o, none⟩ x) b := by
  obtain ⟨y, u, k⟩ := h
  exact ⟨y, u, k.set o ne⟩
theorem HasBB.put {w : World} {b : Nat} {x : Bool} {u : Value} (h : HasBB w b) : HasBB ((w.setCell ⟨b, 0, none⟩ (.bool x)).setCell ⟨b, 1, none⟩ u) b := by
  obtain ⟨y, v, k⟩ := h
  exact ⟨x, u, Box.put (HasBox.of k)⟩
theorem Dg.set {w : World} {A : Option Addr} {l c : Nat} {ds : List Int} (h : Dg w A l c ds) {b : Nat} {x : Bool} (hb : w.cell? ⟨b, 0, none⟩ = some (.bool x)) (o : Nat) (v : Value) : Dg (w.setCell ⟨b, o, none⟩ v) A l c ds := by
  obtain ⟨h1, h2, h3, h4⟩ := h
  refine ⟨h1, h2, h3, fun hp => ?_⟩
  obtain ⟨g, e, hg, hc⟩ := h4 hp
  have hne : g ≠ b := by
    rintro rfl
    have := hc 0 hp
    rw [hb] at this
    cases this
  refine ⟨g, e, by simpa [World.setCell] using hg, fun j hj => ?_⟩
  rw [World.cell?_setCell_other _ _ _ _ (fun e => hne (congrArg Addr.block e).symm)]
  exact hc j hj
theorem IsN.put {w : World} {neg : Bool} {A : Option Addr} {l c : Nat} {n : Int} {b : Nat} {x : Bool} {u : Value} (h : IsN w neg A l c n) (hb : HasBB w b) : IsN ((w.setCell ⟨b, 0, none⟩ (.bool x)).setCell ⟨b, 1, none⟩ u) neg A l c n := by
  obtain ⟨ds, hD, hS⟩ := h
  obtain ⟨y, v, ⟨k1, k2⟩, k3, k4⟩ := hb
  refine ⟨ds, (hD.set k1 _ _).set (x := x) ?_ _ _, hS⟩
  rw [World.cell?_setCell_same _ _ _ k1]
end Go.Proofs.Ytlfkllmnekdghaa
namespace Go.Proofs.Ytlfkllmnekdghaa
open Go.RowKit
set_option linter.unusedVariables false

theorem Std.below {ds : List Int} {n : Int} (h : Std true ds n) : n < 0 := by have := h.pos (h.sign rfl); rw [h.val]; simp [sg]; omega
end Go.Proofs.Ytlfkllmnekdghaa

namespace Go.Proofs.Ytlfkllmnekdghaa
open Go.RowKit
set_option linter.unusedVariables false

end Go.Proofs.Ytlfkllmnekdghaa
namespace Go.Proofs.Ytlfkllmnekdghaa
open Go.RowKit
set_option linter.unusedVariables false

theorem dvx_ge {os : List Int} (h : IsD os) {y : Int} (hy : 0 ≤ y) : (10000 : Int) ^ os.length * y ≤ dvx os y := by
  induction os with
  | nil => simp [dvx]
  | cons d ds ih =>
    have h1 := h.head
    have h2 := ih h.tail
    rw [List.length_cons, Int.pow_succ, dvx, Int.mul_comm (10000 ^ ds.length) 10000, Int.mul_assoc]
    omega
/-- what the rounds of Of and Unsigned keep: N: the number without its sign; z: what is left of it. -/
structure OfR (w wr : World) (x : Bool) (N : Nat) (v : Value) (k : Nat) (os : List Int) (z : Nat) : Prop where
  b0 : Box wr w.heap.size (.bool false) (.slice none 0 0)
  b1 : Box wr (w.heap.size + 1) (.bool x) v
  own : wr.ownsRow (w.heap.size + 2) 3 1 v k (os.map (Value.int .i64))
  len : os.length = k
  dg : IsD os
  val : dvx os z = N
  nm : z = 0 → NoZ os
  below : Below w.heap.size w wr
theorem OfR.short {w wr : World} {x : Bool} {N : Nat} {v : Value} {k : Nat} {os : List Int} {z : Nat} (h : OfR w wr x N v k os z) (hN : N < 100000000000000000000) (hz : 0 < z) : k < 5 := by
  rcases Nat.lt_or_ge k 5 with q | q
  · exact q
  · exfalso
    have h1 := dvx_ge h.dg (y := z) (by omega)
    rw [h.val, h.len] at h1
    have h2 : (10000 : Int) ^ 5 ≤ 10000 ^ k := pow_mono q
    have h3 : (10000 : Int) ^ k * 1 ≤ 10000 ^ k * z := Int.mul_le_mul_of_nonneg_left (by omega) (Int.le_of_lt (pow_pos' k))
    have h4 : (10000 : Int) ^ 5 = 100000000000000000000 := by decide
    omega
end Go.Proofs.Ytlfkllmnekdghaa
namespace Go.Proofs.Ytlfkllmnekdghaa
open Go.RowKit
set_option linter.unusedVariables false

theorem neg_tmod (y : Nat) : (-(y : Int)).tmod 10000 = -((y : Int) % 10000) := by rw [Int.neg_tmod, Int.tmod_eq_emod_of_nonneg (by omega)]
end Go.Proofs.Ytlfkllmnekdghaa
namespace Go.Proofs.Ytlfkllmnekdghaa
open Go.RowKit
set_option linter.unusedVariables false

end Go.Proofs.Ytlfkllmnekdghaa

namespace Go.Proofs.Ytlfkllmnekdghaa
open Go.RowKit
set_option linter.unusedVariables false

/-- the memory of a product under way: its two numbers, the place of its result, and the row os. -/
structure MulW (w wr : World) (x : Bool) (A : Option Addr) (l c : Nat) (ds : List Int) (y : Bool) (B : Option Addr) (m d : Nat) (es : List Int) (os : List Int) : Prop where
  b0 : Box wr w.heap.size (.bool x) (.slice A l c)
  b1 : Box wr (w.heap.size + 1) (.bool y) (.slice B m d)
  b2 : Box wr (w.heap.size + 1 + 1) (.bool false) (.slice none 0 0)
  own : wr.ownsRow (w.heap.size + 1 + 1 + 1) 3 1 (.slice (some ⟨w.heap.size + 1 + 1 + 1, 0, none⟩) (l + m + 1) (l + m + 1)) (l + m + 1) (os.map (Value.int .i64))
  dg : IsD os
  below : Below w.heap.size w wr
section
variable {w wr : World} {x y : Bool} {A B : Option Addr} {l c m d : Nat} {ds es os : List Int}
theorem MulW.len (h : MulW w wr x A l c ds y B m d es os) : os.length = l + m + 1 := by have := h.own.1; simpa using this
theorem MulW.cell (h : MulW w wr x A l c ds y B m d es os) {j : Nat} (hj : j < l + m + 1) : wr.cell? ⟨w.heap.size + 1 + 1 + 1, j, none⟩ = some (.int .i64 (os.getD j 0)) ∧ wr.frozen? ⟨w.heap.size + 1 + 1 + 1, j, none⟩ = false := by
  refine ⟨?_, h.own.frozenAt j⟩
  have hl := h.len
  rw [h.own.cellAt j (by omega), List.getElem?_map, List.getElem?_eq_getElem (by omega), List.getD_eq_getElem?_getD, List.getElem?_eq_getElem (by omega)]
  rfl
theorem MulW.store (h : MulW w wr x A l c ds y B m d es os) (j : Nat) {s : Int} (h0 : 0 ≤ s) (h1 : s < 10000) : MulW w (wr.setCell ⟨w.heap.size + 1 + 1 + 1, j, none⟩ (.int .i64 s)) x A l c ds y B m d es (os.set j s) := by
  refine ⟨h.b0.set _ (by omega), h.b1.set _ (by omega), h.b2.set _ (by omega), ?_, h.dg.set j h0 h1, below_set h.below _ _ _ (by omega)⟩
  rw [List.map_set]
  exact (h.own.stored j _).1
end
/-- what an inner round keeps. -/
structure MulI (os0 : List Int) (i l m : Nat) (a : Int) (es : List Int) (k : Nat) (cc : Int) (os : List Int) : Prop where
  c0 : 0 ≤ cc
  c1 : cc ≤ 9999
  val : MulIn os i k cc a es (hi os0 i + a * dval es)
  low : os.take i = os0.take i
  top : ∀ j, i + m + 1 ≤ j → os.getD j 0 = 0
  at_ : k ≤ m → os.getD (i + m) 0 = 0
  more : 0 < cc → k ≤ m
  kk : k ≤ m + 1
/-- what an outer round keeps. -/
structure MulO (os ds es : List Int) (i l m : Nat) : Prop where
  val : MulOut os ds es i
  top : ∀ j, i + m ≤ j → os.getD j 0 = 0
  ii : i ≤ l
end Go.Proofs.Ytlfkllmnekdghaa
namespace Go.Proofs.Ytlfkllmnekdghaa
open Go.RowKit
set_option linter.unusedVariables false

theorem IsN.conv {w : World} {neg : Bool} {A : Option Addr} {l c : Nat} {n m : Int} (h : IsN w neg A l c n) (e : n = m) : IsN w neg A l c m := e ▸ h
theorem MulW.row {w wr : World} {x y : Bool} {A B : Option Addr} {l c m d : Nat} {ds es os : List Int} (h : MulW w wr x A l c ds y B m d es os) : Dg wr (some ⟨w.heap.size + 1 + 1 + 1, 0, none⟩) (l + m + 1) (l + m + 1) os := by
  obtain ⟨A', c', e, hD⟩ := Dg.own h.own
  cases e
  exact hD
end Go.Proofs.Ytlfkllmnekdghaa
namespace Go.Proofs.Ytlfkllmnekdghaa
open Go.RowKit
set_option linter.unusedVariables false

end Go.Proofs.Ytlfkllmnekdghaa
namespace Go.Proofs.Ytlfkllmnekdghaa
open Go.RowKit
set_option linter.unusedVariables false
attribute [local go_sem ↓] Go.wp_at_zero Go.wp_at_succ

/-- one block that holds a number of the reference package, the number itself, and what is below. -/
structure OneN (w : World) (g : Nat) (x : Bool) (A : Option Addr) (l c : Nat) (n : Int) (W : World) : Prop where
  b : Box W g (.bool x) (.slice A l c)
  n : IsN W x A l c n
  below : Below w.heap.size w W
section
variable {w W w1 : World} {g : Nat} {x : Bool} {A : Option Addr} {l c : Nat} {n : Int}
theorem OneN.call (h : OneN w g x A l c n W) (hb : Below W.heap.size W w1) : OneN w g x A l c n w1 := ⟨h.b.call hb, h.n.call hb, below_call h.below hb⟩
theorem OneN.s (h : OneN w g x A l c n W) : W.cell? ⟨g, 0, none⟩ = some (.bool x) ∧ W.cell? ⟨g, 1, none⟩ = some (.slice A l c) := h.b.1
end
end Go.Proofs.Ytlfkllmnekdghaa
namespace Go.Proofs.Ytlfkllmnekdghaa
open Go.RowKit
set_option linter.unusedVariables false

/-- what an outer round of a division keeps: the digits from k on are divided. -/
def DivO (ds qs : List Int) (k : Nat) (b r : Int) : Prop := hi ds k = hi qs k * b + r ∧ 0 ≤ r ∧ r < b ∧ (∀ j, j < k → qs.getD j 0 = 0)
/-- what an inner round keeps: d is a digit of the quotient that is still counted. -/
def DivI (ds qs : List Int) (k : Nat) (b r d : Int) : Prop := hi ds k = (d + 10000 * hi qs (k + 1)) * b + r ∧ 0 ≤ r ∧ r < (10000 - d) * b ∧ 0 ≤ d ∧ qs.getD k 0 = d ∧ (∀ j, j < k → qs.getD j 0 = 0)
/-- the memory of a division under way. -/
structure DivW (w : World) (g : Nat) (wr : World) (x : Bool) (A : Option Addr) (l c : Nat) (ds : List Int) (y : Bool) (B : Option Addr) (m d : Nat) (b : Int) (qs : List Int) (z : Bool) (C : Option Addr) (p e : Nat) (r : Int) : Prop where
  b0 : Box wr w.heap.size (.bool x) (.slice A l c)
  b1 : Box wr (w.heap.size + 1) (.bool y) (.slice B m d)
  b2 : Box wr (w.heap.size + 1 + 1) (.bool false) (.slice none 0 0)
  b3 : Box wr (w.heap.size + 1 + 1 + 1) (.bool false) (.slice none 0 0)
  own : wr.ownsRow (w.heap.size + 1 + 1 + 1 + 1) 3 1 (.slice (some ⟨w.heap.size + 1 + 1 + 1 + 1, 0, none⟩) l l) l (qs.map (Value.int .i64))
  dg : IsD qs
  br : Box wr (g) (.bool z) (.slice C p e)
  nb : IsN wr y B m d b
  nr : IsN wr z C p e r
  fb : ∀ a, B = some a → a.block ≠ w.heap.size + 1 + 1 + 1 + 1
  fr : ∀ a, C = some a → w.heap.size + 1 + 1 + 1 + 1 < a.block
  below : Below w.heap.size w wr
section
variable {w wr : World} {g : Nat} {x y z : Bool} {A B C : Option Addr} {l c m d p e : Nat} {ds qs : List Int} {b r : Int}
theorem DivW.len (h : DivW w g wr x A l c ds y B m d b qs z C p e r) : qs.length = l := by have := h.own.1; simpa using this
theorem DivW.cell (h : DivW w g wr x A l c ds y B m d b qs z C p e r) {j : Nat} (hj : j < l) : wr.cell? ⟨w.heap.size + 1 + 1 + 1 + 1, j, none⟩ = some (.int .i64 (qs.getD j 0)) ∧ wr.frozen? ⟨w.heap.size + 1 + 1 + 1 + 1, j, none⟩ = false := by
  refine ⟨?_, h.own.frozenAt j⟩
  have hl := h.len
  rw [h.own.cellAt j (by omega), List.getElem?_map, List.getElem?_eq_getElem (by omega), List.getD_eq_getElem?_getD, List.getElem?_eq_getElem (by omega)]
  rfl
/-- the remainder's block, and memory beyond, are written; all else stands. -/
theorem DivW.turn {w1 : World} {z' : Bool} {C' : Option Addr} {p' e' : Nat} {r' : Int} (h : DivW w g wr x A l c ds y B m d b qs z C p e r) (hg : w.heap.size + 1 + 1 + 1 + 1 < g) (hb : Below wr.heap.size wr w1) (hr : IsN w1 z' C' p' e' r') (hf : ∀ a, C' = some a → w.heap.size + 1 + 1 + 1 + 1 < a.block) :
    DivW w g ((w1.setCell ⟨g, 0, none⟩ (.bool z')).setCell ⟨g, 1, none⟩ (.slice C' p' e')) x A l c ds y B m d b qs z' C' p' e' r' := by
  have hbr := HasBB.of (h.br.call hb)
  refine ⟨((h.b0.call hb).set _ (by omega)).set _ (by omega), ((h.b1.call hb).set _ (by omega)).set _ (by omega), ((h.b2.call hb).set _ (by omega)).set _ (by omega), ((h.b3.call hb).set _ (by omega)).set _ (by omega), ?_, h.dg, Box.put (HasBox.of (h.br.call hb)), (h.nb.call hb).put hbr, hr.put hbr, h.fb, hf, below_set (below_set (below_call h.below hb) _ _ _ (by omega)) _ _ _ (by omega)⟩
  have k1 : w1.ownsRow (w.heap.size + 1 + 1 + 1 + 1) 3 1 (.slice (some ⟨w.heap.size + 1 + 1 + 1 + 1, 0, none⟩) l l) l (qs.map (Value.int .i64)) := h.own.kept (row := none) ⟨hb.os, hb.tape, hb.output, hb.size, fun i hi _ => hb.block i hi⟩ (.inr (by simp [Value.ownBlock]))
  have far : ∀ (W : World) (o : Nat) (u : Value), W.ownsRow (w.heap.size + 1 + 1 + 1 + 1) 3 1 (.slice (some ⟨w.heap.size + 1 + 1 + 1 + 1, 0, none⟩) l l) l (qs.map (Value.int .i64)) → (W.setCell ⟨g, o, none⟩ u).ownsRow (w.heap.size + 1 + 1 + 1 + 1) 3 1 (.slice (some ⟨w.heap.size + 1 + 1 + 1 + 1, 0, none⟩) l l) l (qs.map (Value.int .i64)) := fun W o u hW =>
    hW.kept (row := some g) ⟨rfl, rfl, rfl, by simp [World.setCell], fun k _ hk => Below.heap_setCell W ⟨g, o, none⟩ u k (fun e => hk (by rw [e]))⟩ (.inr (by simp [Value.ownBlock]; omega))
  exact far _ _ _ (far _ _ _ k1)
theorem DivW.call {w1 : World} (h : DivW w g wr x A l c ds y B m d b qs z C p e r) (hb : Below wr.heap.size wr w1) : DivW w g w1 x A l c ds y B m d b qs z C p e r :=
  ⟨h.b0.call hb, h.b1.call hb, h.b2.call hb, h.b3.call hb, h.own.kept (row := none) ⟨hb.os, hb.tape, hb.output, hb.size, fun i hi _ => hb.block i hi⟩ (.inr (by simp [Value.ownBlock])), h.dg, h.br.call hb, h.nb.call hb, h.nr.call hb, h.fb, h.fr, below_call h.below hb⟩
theorem DivW.row (h : DivW w g wr x A l c ds y B m d b qs z C p e r) : Dg wr (some ⟨w.heap.size + 1 + 1 + 1 + 1, 0, none⟩) l l qs := by
  obtain ⟨A', c', e', hD⟩ := Dg.own h.own
  cases e'
  exact hD
theorem DivW.drew (h : DivW w g wr x A l c ds y B m d b qs z C p e r) : DivW w g wr.drew x A l c ds y B m d b qs z C p e r :=
  ⟨h.b0.drew, h.b1.drew, h.b2.drew, h.b3.drew, h.own, h.dg, h.br.drew, h.nb.drew, h.nr.drew, h.fb, h.fr, h.below.drew⟩
theorem DivW.store (h : DivW w g wr x A l c ds y B m d b qs z C p e r) (hg : w.heap.size + 1 + 1 + 1 + 1 < g) {j : Nat} (hj : j < l) {s : Int} (h0 : 0 ≤ s) (h1 : s < 10000) :
    DivW w g (wr.setCell ⟨w.heap.size + 1 + 1 + 1 + 1, j, none⟩ (.int .i64 s)) x A l c ds y B m d b (qs.set j s) z C p e r := by
  have keepN : ∀ {z : Bool} {C : Option Addr} {p e : Nat} {r : Int}, IsN wr z C p e r → (∀ a, C = some a → a.block ≠ w.heap.size + 1 + 1 + 1 + 1) → IsN (wr.setCell ⟨w.heap.size + 1 + 1 + 1 + 1, j, none⟩ (.int .i64 s)) z C p e r := fun {z C p e r} hN hne => by
    obtain ⟨es, ⟨k1, k2, k3, k4⟩, hS⟩ := hN
    refine ⟨es, ⟨k1, k2, k3, fun hp => ?_⟩, hS⟩
    obtain ⟨g', e1, e2, e3⟩ := k4 hp
    refine ⟨g', e1, by simpa [World.setCell] using e2, fun i hi => ?_⟩
    rw [World.cell?_setCell_other _ _ _ _ (fun e => hne _ e1 (congrArg Addr.block e).symm)]
    exact e3 i hi
  refine ⟨h.b0.set _ (by omega), h.b1.set _ (by omega), h.b2.set _ (by omega), h.b3.set _ (by omega), ?_, h.dg.set j h0 h1, h.br.set _ (by omega), keepN h.nb h.fb, keepN h.nr (fun a e => by have := h.fr a e; omega), h.fb, h.fr, below_set h.below _ _ _ (by omega)⟩
  rw [List.map_set]
  exact (h.own.stored j _).1
end
end Go.Proofs.Ytlfkllmnekdghaa
namespace Go.Proofs.Ytlfkllmnekdghaa
open Go.RowKit
set_option linter.unusedVariables false
set_option linter.unusedSimpArgs false
attribute [local go_sem ↓] Go.wp_at_zero Go.wp_at_succ

/-- two numbers come back. -/
def RN2 (n m : Int) (w : World) (e : Ending) (w' : World) : Prop := ∃ x A l c y B k d, e = .returned (.tuple #[.agg #[.bool x, .slice A l c], .agg #[.bool y, .slice B k d]]) ∧ IsN w' x A l c n ∧ IsN w' y B k d m ∧ Below w.heap.size w w'
/-- two numbers come back, in new memory. -/
def RN2F (n m : Int) (w : World) (e : Ending) (w' : World) : Prop := ∃ x A l c y B k d, e = .returned (.tuple #[.agg #[.bool x, .slice A l c], .agg #[.bool y, .slice B k d]]) ∧ IsN w' x A l c n ∧ IsN w' y B k d m ∧ Below w.heap.size w w' ∧ Fr w.heap.size A ∧ Fr w.heap.size B
theorem Std.lt {neg : Bool} {ds : List Int} {n : Int} (h : Std neg ds n) : n < 10000 ^ ds.length := by have := dval_lt h.dg; have := h.abs; omega
end Go.Proofs.Ytlfkllmnekdghaa

namespace Go.Proofs.Ytlfkllmnekdghaa
open Go.RowKit
set_option linter.unusedVariables false

theorem IsS.conv {H L n m : Int} (h : IsS H L n) (e : n = m) : IsS H L m := e ▸ h
end Go.Proofs.Ytlfkllmnekdghaa
namespace Go.Proofs.Ytlfkllmnekdghaa
set_option linter.unusedVariables false

/-- how many bits n needs. -/
def IsLen (n len : Nat) : Prop := (n = 0 ∧ len = 0) ∨ (1 ≤ len ∧ len ≤ 128 ∧ 2 ^ (len - 1) ≤ n ∧ n < 2 ^ len)
end Go.Proofs.Ytlfkllmnekdghaa
namespace Go.Proofs.Ytlfkllmnekdghaa
open Go.RowKit
set_option linter.unusedVariables false

def RMul (n : Int) (w : World) (e : Ending) (w' : World) : Prop := ∃ H L, e = .returned (.tuple #[.int .u64 H, .int .u64 L]) ∧ IsS H L n ∧ w = w'
def fitS (n : Int) : Bool := decide (n < 340282366920938463463374607431768211456)
def RSF (n : Int) (w : World) (e : Ending) (w' : World) : Prop := ∃ H L, e = .returned (.tuple #[.agg #[.int .u64 H, .int .u64 L], .bool (fitS n)]) ∧ IsS H L (if fitS n then n else 0) ∧ Below w.heap.size w w'
def RLen (n : Int) (w : World) (e : Ending) (w' : World) : Prop := ∃ k : Nat, e = .returned (.int .i64 k) ∧ IsLen n.toNat k ∧ Below w.heap.size w w'
end Go.Proofs.Ytlfkllmnekdghaa
namespace Go.Proofs.Ytlfkllmnekdghaa
open Go.RowKit
set_option linter.unusedVariables false

def MulCut (w : World) (N : Int) (a b c d : Value) (s6 s7 : Value) (wx : World) : Prop :=
  ∃ (g : Nat) (ph pl : Int), s6 = .pointer (some ⟨g, 0, none⟩) ∧ s7 = .bool (fitS N) ∧ w.heap.size + 3 ≤ g ∧ IsS ph pl (if fitS N then N else 0) ∧
    Box wx g (.int .u64 ph) (.int .u64 pl) ∧ Box wx w.heap.size a b ∧ Box wx (w.heap.size + 1) c d ∧ Box wx (w.heap.size + 1 + 1) (.int .i64 0) (.int .u64 0) ∧ g < wx.heap.size ∧ Below w.heap.size w wx
end Go.Proofs.Ytlfkllmnekdghaa
namespace Go.Proofs.Ytlfkllmnekdghaa
open Go.RowKit
set_option linter.unusedVariables false

end Go.Proofs.Ytlfkllmnekdghaa
namespace Go.Proofs.Ytlfkllmnekdghaa
open Go.RowKit
set_option linter.unusedVariables false

end Go.Proofs.Ytlfkllmnekdghaa

namespace Go.Proofs.Ytlfkllmnekdghaa
set_option linter.unusedVariables false

/-- what holds of the divisor's two digits, of what is divided, and of the next digit. -/
structure Kn (u d a b : Int) : Prop where
  a0 : 2147483648 ≤ a
  a1 : a < 4294967296
  b0 : 0 ≤ b
  b1 : b < 4294967296
  u0 : 0 ≤ u
  u1 : u < a * 4294967296 + b
  d0 : 0 ≤ d
  d1 : d < 4294967296
/-- the right digit. -/
def kq (u d a b : Int) : Int := (u * 4294967296 + d) / (a * 4294967296 + b)
/-- what is left. -/
def kr (u d a b : Int) : Int := (u * 4294967296 + d) % (a * 4294967296 + b)
/-- what holds of a digit that is tried. -/
structure KTry (u d a b q r : Int) : Prop where
  sum : q * a + r = u
  q0 : 0 ≤ q
  r0 : 0 ≤ r
  le : kq u d a b ≤ q

variable {u d a b q r : Int}
theorem Kn.y0 (h : Kn u d a b) : 0 < a * 4294967296 + b := by have := h.a0; have := h.b0; omega
theorem Kn.q0 (h : Kn u d a b) : 0 ≤ kq u d a b := Int.ediv_nonneg (by have := h.u0; have := h.d0; omega) (Int.le_of_lt h.y0)
theorem Kn.qlt (h : Kn u d a b) : kq u d a b < 4294967296 := by
  unfold kq
  refine Int.ediv_lt_of_lt_mul h.y0 ?_
  have h1 := h.u1; have h2 := h.d1
  generalize a * 4294967296 + b = y at *
  omega
/-- q times the divisor is not above just if q is not above the digit. -/
theorem Kn.le_iff (h : Kn u d a b) (q : Int) : q ≤ kq u d a b ↔ q * (a * 4294967296 + b) ≤ u * 4294967296 + d := by
  unfold kq
  exact Int.le_ediv_iff_mul_le h.y0
theorem mul_y (q a b : Int) : q * (a * 4294967296 + b) = q * a * 4294967296 + q * b := by rw [Int.mul_add, Int.mul_assoc]
theorem KTry.down (h : Kn u d a b) (t : KTry u d a b q r) (k : 4294967296 ≤ q ∨ 4294967296 * r + d < q * b) : KTry u d a b (q - 1) (r + a) ∧ 1 ≤ q := by
  have hlt : kq u d a b < q := by
    rcases k with k | k
    · exact Int.lt_of_lt_of_le h.qlt k
    · rcases Int.lt_or_le (kq u d a b) q with l | l
      · exact l
      · have h1 := (h.le_iff q).1 l
        rw [mul_y] at h1
        have h2 := t.sum
        generalize q * a = qa at *
        generalize q * b = qb at *
        omega
  have h0 := h.q0
  refine ⟨⟨?_, by omega, by have := t.r0; have := h.a0; omega, by omega⟩, by omega⟩
  rw [Int.sub_mul, ← t.sum]
  omega
theorem KTry.done (h : Kn u d a b) (t : KTry u d a b q r) (k : q * b ≤ 4294967296 * r + d) : q = kq u d a b := by
  have h1 : q ≤ kq u d a b := by
    rw [h.le_iff, mul_y]
    have h2 := t.sum
    generalize q * a = qa at *
    generalize q * b = qb at *
    omega
  have := t.le
  omega
theorem KTry.small (h : Kn u d a b) (t : KTry u d a b q r) (k : 4294967296 ≤ r) : q < 4294967296 := by
  rcases Int.lt_or_le q 4294967296 with l | l
  · exact l
  · have h1 := Int.mul_le_mul_of_nonneg_right l (show (0 : Int) ≤ a by have := h.a0; omega)
    have h2 := t.sum; have h3 := h.u1; have h4 := h.b1
    omega
theorem KTry.mul_lt (h : Kn u d a b) (t : KTry u d a b q r) (k : q < 4294967296) : 0 ≤ q * b ∧ q * b < 18446744073709551616 := by
  refine ⟨Int.mul_nonneg t.q0 h.b0, ?_⟩
  have h1 : q * b ≤ 4294967295 * 4294967295 := Int.mul_le_mul (by omega) (by have := h.b1; omega) h.b0 (by omega)
  omega
theorem KTry.out (h : Kn u d a b) (t : KTry u d a b q r) (k : 4294967296 ≤ r) : q = kq u d a b := by
  have h1 := t.small h k
  refine t.done h ?_
  have h2 := (t.mul_lt h h1).2
  have h3 := h.d0
  omega
theorem Kn.rest (h : Kn u d a b) : IntKind.u64.wrap (IntKind.u64.wrap (IntKind.u64.wrap (u * 4294967296) + d) - IntKind.u64.wrap (kq u d a b * (a * 4294967296 + b))) = kr u d a b := by
  have h1 : u * 4294967296 + d - kq u d a b * (a * 4294967296 + b) = kr u d a b := by
    unfold kq kr
    rw [Int.emod_def, Int.mul_comm (a * 4294967296 + b)]
  have h2 : 0 ≤ kr u d a b := Int.emod_nonneg _ (by have := h.y0; omega)
  have h3 : kr u d a b < a * 4294967296 + b := Int.emod_lt_of_pos _ h.y0
  have h4 := h.a1; have h5 := h.b1
  simp only [IntKind.wrap_u64]
  generalize kr u d a b = k at *
  generalize kq u d a b * (a * 4294967296 + b) = p at *
  omega
theorem Kn.next (h : Kn u d a b) (e : Int) (e0 : 0 ≤ e ∧ e < 4294967296) : Kn (kr u d a b) e a b :=
  ⟨h.a0, h.a1, h.b0, h.b1, Int.emod_nonneg _ (by have := h.y0; omega), Int.emod_lt_of_pos _ h.y0, e0.1, e0.2⟩
/-- two digits, one behind the other. -/
theorem Kn.two (h : Kn u d a b) (e : Int) (e0 : 0 ≤ e ∧ e < 4294967296) :
    kq u d a b * 4294967296 + kq (kr u d a b) e a b = (u * 18446744073709551616 + d * 4294967296 + e) / (a * 4294967296 + b) ∧ kr (kr u d a b) e a b = (u * 18446744073709551616 + d * 4294967296 + e) % (a * 4294967296 + b) := by
  have k := h.next e e0
  have y0 := h.y0
  have s1 : u * 4294967296 + d = (a * 4294967296 + b) * kq u d a b + kr u d a b := (Int.mul_ediv_add_emod _ _).symm
  have s2 : kr u d a b * 4294967296 + e = (a * 4294967296 + b) * kq (kr u d a b) e a b + kr (kr u d a b) e a b := (Int.mul_ediv_add_emod _ _).symm
  have r0 : 0 ≤ kr (kr u d a b) e a b := Int.emod_nonneg _ (by omega)
  have r1 : kr (kr u d a b) e a b < a * 4294967296 + b := Int.emod_lt_of_pos _ y0
  generalize kr (kr u d a b) e a b = R at *
  generalize kq (kr u d a b) e a b = Q2 at *
  generalize kr u d a b = R1 at *
  generalize kq u d a b = Q1 at *
  generalize a * 4294967296 + b = y at *
  have t : u * 18446744073709551616 + d * 4294967296 + e = R + y * (Q1 * 4294967296 + Q2) := by
    rw [Int.mul_add, ← Int.mul_assoc]
    generalize y * Q1 = p at *
    generalize y * Q2 = p2 at *
    omega
  rw [t]
  constructor
  · rw [Int.add_mul_ediv_left _ _ (by omega), Int.ediv_eq_zero_of_lt r0 r1]
    omega
  · rw [Int.add_mul_emod_self_left, Int.emod_eq_of_lt r0 r1]
/-- y's length, and what it is shifted by. -/
structure Lz (y s : Int) : Prop where
  s0 : 0 ≤ s
  s1 : s < 64
  lo : 9223372036854775808 ≤ y * 2 ^ s.toNat
  hi : y * 2 ^ s.toNat < 18446744073709551616
/-- what is divided, shifted as the divisor is. -/
structure Nm (hi lo y s U V Y : Int) : Prop where
  y : Y = y * 2 ^ s.toNat
  n : (hi * 18446744073709551616 + lo) * 2 ^ s.toNat = U * 18446744073709551616 + V
  u0 : 0 ≤ U
  u1 : U < Y
  v0 : 0 ≤ V
  v1 : V < 18446744073709551616
end Go.Proofs.Ytlfkllmnekdghaa
namespace Go.Proofs.Ytlfkllmnekdghaa
set_option linter.unusedVariables false

end Go.Proofs.Ytlfkllmnekdghaa
namespace Go.Proofs.Ytlfkllmnekdghaa
open Go.RowKit
set_option linter.unusedVariables false

def RLz (y : Int) (w : World) (e : Ending) (w' : World) : Prop := ∃ s : Int, e = .returned (.int .i64 s) ∧ Lz y s ∧ w = w'
def RDiv (q r : Int) (w : World) (e : Ending) (w' : World) : Prop := e = .returned (.tuple #[.int .u64 q, .int .u64 r]) ∧ Below w.heap.size w w'
end Go.Proofs.Ytlfkllmnekdghaa
namespace Go.Proofs.Ytlfkllmnekdghaa
open Go.RowKit
set_option linter.unusedVariables false

def RGuess (q : Int) (w : World) (e : Ending) (w' : World) : Prop := ∃ g : Int, e = .returned (.int .u64 g) ∧ (0 ≤ g ∧ g ≤ q ∧ q ≤ g + 1 ∧ g < 18446744073709551616) ∧ Below w.heap.size w w'
def RSS (q r : Int) (w : World) (e : Ending) (w' : World) : Prop := ∃ a b c d : Int, e = .returned (.tuple #[.agg #[.int .u64 a, .int .u64 b], .agg #[.int .u64 c, .int .u64 d]]) ∧ IsS a b q ∧ IsS c d r ∧ Below w.heap.size w w'
end Go.Proofs.Ytlfkllmnekdghaa
namespace Go.Proofs.Ytlfkllmnekdghaa
open Go.RowKit
set_option linter.unusedVariables false

end Go.Proofs.Ytlfkllmnekdghaa

namespace Go.Proofs.Ytlfkllmnekdghaa
open Go.RowKit
set_option linter.unusedVariables false

def DivCut (w : World) (Q R : Int) (a b c d : Value) (s7 s8 : Value) (wx : World) : Prop :=
  ∃ (g7 g8 : Nat) (qh ql rh rl : Int), s7 = .pointer (some ⟨g7, 0, none⟩) ∧ s8 = .pointer (some ⟨g8, 0, none⟩) ∧ w.heap.size + 4 ≤ g7 ∧ w.heap.size + 4 ≤ g8 ∧ IsS qh ql Q ∧ IsS rh rl R ∧
    Box wx g7 (.int .u64 qh) (.int .u64 ql) ∧ Box wx g8 (.int .u64 rh) (.int .u64 rl) ∧ Box wx w.heap.size a b ∧ Box wx (w.heap.size + 1) c d ∧ Box wx (w.heap.size + 1 + 1) (.int .i64 0) (.int .u64 0) ∧ Box wx (w.heap.size + 1 + 1 + 1) (.int .i64 0) (.int .u64 0) ∧ Below w.heap.size w wx
def Div7 (w : World) (x y : Int) (wx : World) : Prop := ∃ c1 c2 e1 e2 : Int, IsW c1 c2 x ∧ IsW e1 e2 y ∧ Box wx (w.heap.size + 1 + 1) (.int .i64 c1) (.int .u64 c2) ∧ Box wx (w.heap.size + 1 + 1 + 1) (.int .i64 e1) (.int .u64 e2) ∧ Below w.heap.size w wx
def RDV (n m : Int) (w : World) (e : Ending) (w' : World) : Prop := ∃ a b c d : Int, e = .returned (.tuple #[.agg #[.int .i64 a, .int .u64 b], .agg #[.int .i64 c, .int .u64 d], .bool true]) ∧ IsW a b (n / m) ∧ IsW c d (n % m) ∧ Below w.heap.size w w'
end Go.Proofs.Ytlfkllmnekdghaa

namespace Go.Proofs.Ytlfkllmnekdghaa
open Go.RowKit
set_option linter.unusedVariables false

/-- four cells of a block, and that they may be written. -/
def Box4 (w : World) (b : Nat) (u v x y : Value) : Prop := (w.cell? ⟨b, 0, none⟩ = some u ∧ w.cell? ⟨b, 1, none⟩ = some v ∧ w.cell? ⟨b, 2, none⟩ = some x ∧ w.cell? ⟨b, 3, none⟩ = some y) ∧ (w.frozen? ⟨b, 0, none⟩ = false ∧ w.frozen? ⟨b, 1, none⟩ = false ∧ w.frozen? ⟨b, 2, none⟩ = false ∧ w.frozen? ⟨b, 3, none⟩ = false)
section
variable {w W w1 : World} {b g : Nat} {u v x y q : Value}
theorem Box4.lt (h : Box4 w b u v x y) : b < w.heap.size := World.block_lt_of_cell? w _ h.1.1
theorem Box4.call (h : Box4 W b u v x y) (hb : Below W.heap.size W w1) : Box4 w1 b u v x y := by
  have hl := h.lt
  obtain ⟨⟨h1, h2, h3, h4⟩, k1, k2, k3, k4⟩ := h
  exact ⟨⟨(hb.cell (p := ⟨b, 0, none⟩) hl).trans h1, (hb.cell (p := ⟨b, 1, none⟩) hl).trans h2, (hb.cell (p := ⟨b, 2, none⟩) hl).trans h3, (hb.cell (p := ⟨b, 3, none⟩) hl).trans h4⟩, (hb.frozen (p := ⟨b, 0, none⟩) hl).trans k1, (hb.frozen (p := ⟨b, 1, none⟩) hl).trans k2, (hb.frozen (p := ⟨b, 2, none⟩) hl).trans k3, (hb.frozen (p := ⟨b, 3, none⟩) hl).trans k4⟩
theorem Box4.alloc (h : Box4 W b u v x y) (o : Obj) : Box4 (W.alloc o) b u v x y := h.call ((Below.refl _ _).alloc (Nat.le_refl _) o)
theorem Box4.drew (h : Box4 W b u v x y) : Box4 W.drew b u v x y := h.call ((Below.refl _ _).drew)
theorem Box4.new {t : TypeId} (e : b = W.heap.size) : Box4 (W.alloc (.cells #[u, v, x, y] t)) b u v x y := by
  subst e
  unfold Box4
  go_simp
theorem Box4.set (h : Box4 W b u v x y) (o : Nat) (ne : g ≠ b) : Box4 (W.setCell ⟨g, o, none⟩ q) b u v x y := by
  obtain ⟨⟨h1, h2, h3, h4⟩, k1, k2, k3, k4⟩ := h
  have n0 : ∀ i, (⟨g, o, none⟩ : Addr) ≠ ⟨b, i, none⟩ := fun i e => ne (congrArg Addr.block e)
  refine ⟨⟨?_, ?_, ?_, ?_⟩, ?_, ?_, ?_, ?_⟩
  · rw [World.cell?_setCell_other _ _ _ _ (n0 0)]; exact h1
  · rw [World.cell?_setCell_other _ _ _ _ (n0 1)]; exact h2
  · rw [World.cell?_setCell_other _ _ _ _ (n0 2)]; exact h3
  · rw [World.cell?_setCell_other _ _ _ _ (n0 3)]; exact h4
  · go_simp
  · go_simp
  · go_simp
  · go_simp
end
section
variable {W : World} {b : Nat} {u v x y u' v' : Value}
end
/-- the whole part of n over d; 0, where d is not above 0. -/
def flo (n d : Int) : Int := if 0 < d then n / d else 0
end Go.Proofs.Ytlfkllmnekdghaa
namespace Go.Proofs.Ytlfkllmnekdghaa
open Go.RowKit
set_option linter.unusedVariables false
attribute [local go_sem ↓] Go.wp_at_zero Go.wp_at_succ

theorem Box.both {w : World} {b : Nat} {u v : Value} (h : Box w b u v) : w.cell? ⟨b, 0, none⟩ = some u ∧ w.cell? ⟨b, 1, none⟩ = some v := h.1
/-- the whole number nearest to n over d, of a half the upper one. -/
def nea (n d : Int) : Int := if n % d < d - n % d then n / d else n / d + 1
end Go.Proofs.Ytlfkllmnekdghaa
namespace Go.Proofs.Ytlfkllmnekdghaa
open Go.RowKit
set_option linter.unusedVariables false
attribute [local go_sem ↓] Go.wp_at_zero Go.wp_at_succ

/-- a fraction comes back. -/
def RF (n d : Int) (w : World) (e : Ending) (w' : World) : Prop := ∃ a b c f, e = .returned (.agg #[.int .i64 a, .int .u64 b, .int .i64 c, .int .u64 f]) ∧ IsW a b n ∧ IsW c f d ∧ Below w.heap.size w w'
/-- a fraction, and whether there is one. -/
def RFB (is : Bool) (n d : Int) (w : World) (e : Ending) (w' : World) : Prop := ∃ a b c f, e = .returned (.tuple #[.agg #[.int .i64 a, .int .u64 b, .int .i64 c, .int .u64 f], .bool is]) ∧ IsW a b n ∧ IsW c f d ∧ Below w.heap.size w w'
/-- what Make answers. -/
def mkIs (n d : Int) : Bool := decide (0 < d) || (decide (d < 0) && fits (-n) && fits (-d))
/-- what Make answers, of a d below 0. -/
def RFM (n d : Int) (w : World) (e : Ending) (w' : World) : Prop := RFB (fits (-n) && fits (-d)) (if (fits (-n) && fits (-d)) = true then -n else 0) (if (fits (-n) && fits (-d)) = true then -d else 0) w e w'
end Go.Proofs.Ytlfkllmnekdghaa
namespace Go.Proofs.Ytlfkllmnekdghaa
open Go.RowKit
set_option linter.unusedVariables false
attribute [local go_sem ↓] Go.wp_at_zero Go.wp_at_succ

theorem Box4.cs {w : World} {b : Nat} {u v x y : Value} (h : Box4 w b u v x y) : w.cell? ⟨b, 0, none⟩ = some u ∧ w.cell? ⟨b, 1, none⟩ = some v ∧ w.cell? ⟨b, 2, none⟩ = some x ∧ w.cell? ⟨b, 3, none⟩ = some y := h.1
/-- the Int n comes back, and true. -/
def RWT (n : Int) (w : World) (e : Ending) (w' : World) : Prop := ∃ H L, e = .returned (.tuple #[.agg #[.int .i64 H, .int .u64 L], .bool true]) ∧ IsW H L n ∧ Below w.heap.size w w'
/-- what Snap tells. -/
def sna (n d : Int) (k : Nat) : Int := if k = 0 then nea n d else nea (n / d) (2 ^ k)
end Go.Proofs.Ytlfkllmnekdghaa
namespace Go.Proofs.Ytlfkllmnekdghaa
open Go.RowKit
set_option linter.unusedVariables false
attribute [local go_sem ↓] Go.wp_at_zero Go.wp_at_succ

/-- two rows of two Ints come back. -/
def RBoth (q0 q1 r0 r1 : Int) (w : World) (e : Ending) (w' : World) : Prop := ∃ a b c d x y z t, e = .returned (.tuple #[.agg #[.int .i64 a, .int .u64 b, .int .i64 c, .int .u64 d], .agg #[.int .i64 x, .int .u64 y, .int .i64 z, .int .u64 t]]) ∧ IsW a b q0 ∧ IsW c d q1 ∧ IsW x y r0 ∧ IsW z t r1 ∧ Below w.heap.size w w'
end Go.Proofs.Ytlfkllmnekdghaa
namespace Go.Proofs.Ytlfkllmnekdghaa
open Go.RowKit
set_option linter.unusedVariables false
attribute [local go_sem ↓] Go.wp_at_zero Go.wp_at_succ

/-- what Cmp keeps from round to round: g, g': the two rows' blocks; C: what is to be told; k: what bounds the rounds. -/
def CmpR (w : World) (g g' : Nat) (C : Int) (k : Nat) (W : World) : Prop := ∃ a0 b0 n0 a1 b1 n1 c0 e0 d0 c1 e1 d1 : Int,
  Box4 W g (.int .i64 a0) (.int .u64 b0) (.int .i64 a1) (.int .u64 b1) ∧ Box4 W g' (.int .i64 c0) (.int .u64 e0) (.int .i64 c1) (.int .u64 e1) ∧ (IsW a0 b0 n0 ∧ IsW a1 b1 n1 ∧ IsW c0 e0 d0 ∧ IsW c1 e1 d1) ∧ (0 < d0 ∧ 0 < d1 ∧ d0 + d1 ≤ k) ∧ icmp (n0 * d1) (n1 * d0) = C ∧ Below w.heap.size w W
/-- two rows in new blocks. -/
def CmpC (w : World) (C : Int) (k : Nat) (s t : Value) (W : World) : Prop := ∃ g g', s = .pointer (some ⟨g, 0, none⟩) ∧ t = .pointer (some ⟨g', 0, none⟩) ∧ g ≠ g' ∧ w.heap.size < g ∧ w.heap.size < g' ∧ CmpR w g g' C k W
/-- what Cmp tells. -/
def cmpv (n0 d0 n1 d1 : Int) : Int := if 0 < d0 ∧ 0 < d1 then icmp (n0 * d1) (n1 * d0) else 0
end Go.Proofs.Ytlfkllmnekdghaa
namespace Go.Proofs.Ytlfkllmnekdghaa
open Go.RowKit
set_option linter.unusedVariables false
set_option linter.unusedSimpArgs false
attribute [local go_sem ↓] Go.wp_at_zero Go.wp_at_succ

/-- four Ints' halves compared. -/
def eqF (a b c d a' b' c' d' : Int) : Bool := eqW a b a' b' && eqW c d c' d'
/-- blocks of four cells and of two that the walk holds on to. -/
structure AlW (w : World) (g g' : Nat) (a b c d s t : Int) (W : World) : Prop where
  f : Box4 W g (.int .i64 a) (.int .u64 b) (.int .i64 c) (.int .u64 d)
  s : Box W g' (.int .i64 s) (.int .u64 t)
  below : Below w.heap.size w W
section
variable {w W w1 : World} {g g' : Nat} {a b c d s t : Int}
theorem AlW.call (h : AlW w g g' a b c d s t W) (hb : Below W.heap.size W w1) : AlW w g g' a b c d s t w1 := ⟨h.f.call hb, h.s.call hb, below_call h.below hb⟩
theorem AlW.k (h : AlW w g g' a b c d s t W) : (W.cell? ⟨g, 0, none⟩ = some (.int .i64 a) ∧ W.cell? ⟨g, 1, none⟩ = some (.int .u64 b) ∧ W.cell? ⟨g, 2, none⟩ = some (.int .i64 c) ∧ W.cell? ⟨g, 3, none⟩ = some (.int .u64 d)) ∧ (W.cell? ⟨g', 0, none⟩ = some (.int .i64 s) ∧ W.cell? ⟨g', 1, none⟩ = some (.int .u64 t)) := ⟨h.f.1, h.s.1⟩
end
end Go.Proofs.Ytlfkllmnekdghaa

namespace Go.Proofs.Ytlfkllmnekdghaa
open Go.RowKit
set_option linter.unusedVariables false
set_option linter.unusedSimpArgs false
/-! Ints -/
def hiW (n : Int) : Int := n / 18446744073709551616
def loW (n : Int) : Int := n % 18446744073709551616
abbrev iw (n : Int) : AW := .agg [.c (.int .i64 (hiW n)), .c (.int .u64 (loW n))]
abbrev wv (n : Int) : AV := .w (iw n)
/-- 'z, and true', or zero, and false. -/
abbrev wf (z : Int) : AV := .tup [iw (if fits z then z else 0), .one (.c (.bool (fits z)))]
/-! numbers of the reference package -/
theorem IsN.frame {w w' : World} {neg : Bool} {A : Option Addr} {l c : Nat} {n : Int} (h : IsN w neg A l c n) (hf : ∀ a, A = some a → 0 < l → w'.heap[a.block]? = w.heap[a.block]?) : IsN w' neg A l c n := by
  obtain ⟨ds, ⟨h1, h2, h3, h4⟩, hS⟩ := h
  refine ⟨ds, ⟨h1, h2, h3, fun hp => ?_⟩, hS⟩
  obtain ⟨g, rfl, hg, hc⟩ := h4 hp
  have e := hf _ rfl hp
  refine ⟨g, rfl, ?_, fun j hj => ?_⟩
  · have h5 : w.heap[g]? = some w.heap[g] := Array.getElem?_eq_getElem hg
    have h6 : w'.heap[g]? = some w.heap[g] := e.trans h5
    exact (Array.getElem?_eq_some_iff.1 h6).1
  · have e' : w'.heap[(⟨g, j, none⟩ : Addr).block]? = w.heap[(⟨g, j, none⟩ : Addr).block]? := e
    rw [World.cell?_of_block (w := w) e']; exact hc j hj
def NumP (n : Int) : SP where
  holds w v := ∃ A l c, v = .slice A l c ∧ IsN w (decide (n < 0)) A l c n
  foot w v b := ∃ A l c a, v = .slice A l c ∧ 0 < l ∧ A = some a ∧ a.block = b
  frame w w' v := by
    rintro ⟨A, l, c, rfl, h⟩ hf
    exact ⟨⟨A, l, c, rfl, h.frame fun a ha hl => hf a.block ⟨A, l, c, a, rfl, hl, ha, rfl⟩⟩, fun b hb => hb⟩
  old w v b := by
    rintro ⟨A, l, c, rfl, ds, ⟨h1, h2, h3, h4⟩, hS⟩ ⟨A', l', c', a, e, hl, ha, hb⟩
    cases e
    obtain ⟨g, rfl, hg, hc⟩ := h4 hl
    cases ha
    subst hb
    exact hg
  cell w v := by rintro ⟨A, l, c, rfl, h⟩; rfl
abbrev ni (n : Int) : AW := .agg [.c (.bool (decide (n < 0))), .p (NumP n)]
abbrev nv (n : Int) : AV := .w (ni n)
/-- n has no more than k digits. -/
def NB (k : Nat) (n : Int) : Prop := (n.natAbs : Int) < 10000 ^ k
theorem NB.len {w : World} {x : Bool} {A : Option Addr} {l c k : Nat} {n : Int} (b : NB k n) (h : IsN w x A l c n) : l ≤ k := h.len b
theorem NB.up {k j : Nat} {n : Int} (b : NB k n) (h : k ≤ j) : NB j n := by
  unfold NB at *
  have : (10000 : Int) ^ k ≤ 10000 ^ j := by
    have := Nat.pow_le_pow_right (show 0 < 10000 by decide) h
    have e1 : ((10000 : Int) ^ k) = ((10000 ^ k : Nat) : Int) := by simp
    have e2 : ((10000 : Int) ^ j) = ((10000 ^ j : Nat) : Int) := by simp
    rw [e1, e2]; omega
  omega
theorem pow10_pos (k : Nat) : (0 : Int) < 10000 ^ k := Int.pow_pos (by decide)
theorem NB.add {k : Nat} {n m : Int} (a : NB k n) (b : NB k m) : NB (k + 1) (n + m) := by
  unfold NB at *
  rw [Int.pow_succ]
  omega
theorem NB.neg {k : Nat} {n : Int} (a : NB k n) : NB k (-n) := by unfold NB at *; rw [Int.natAbs_neg]; exact a
theorem NB.mul {k j : Nat} {n m : Int} (a : NB k n) (b : NB j m) : NB (k + j) (n * m) := by
  unfold NB at *
  rw [Int.natAbs_mul, Int.pow_add, Int.natCast_mul]
  exact Int.mul_lt_mul' (Int.le_of_lt a) b (by omega) (pow10_pos k)
end Go.Proofs.Ytlfkllmnekdghaa

namespace Go.Proofs.Ytlfkllmnekdghaa
open Go.RowKit
set_option linter.unusedVariables false
set_option linter.unusedSimpArgs false
abbrev fi (n d : Int) : AW := .agg [.c (.int .i64 (hiW n)), .c (.int .u64 (loW n)), .c (.int .i64 (hiW d)), .c (.int .u64 (loW d))]
abbrev fv (n d : Int) : AV := .w (fi n d)
abbrev fx (n d : Int) : Value := .agg #[.int .i64 (hiW n), .int .u64 (loW n), .int .i64 (hiW d), .int .u64 (loW d)]
abbrev wx (n : Int) : Value := .agg #[.int .i64 (hiW n), .int .u64 (loW n)]
/-- a fraction of the reference package. -/
abbrev rfi (n d : Int) : AW := .agg [.c (.bool (decide (n < 0))), .p (NumP n), .c (.bool (decide (d < 0))), .p (NumP d)]
abbrev rfv (n d : Int) : AV := .w (rfi n d)
end Go.Proofs.Ytlfkllmnekdghaa

namespace Go.Proofs.Ytlfkllmnekdghaa
open Go.RowKit
set_option linter.unusedVariables false

/-- r is the rung nearest to k. -/
def IsR (k : Int) (r : Nat) : Prop := r ≤ 28 ∧ ((k < 0 ∧ r = 0) ∨ (28 < k ∧ r = 28) ∨ (r : Int) = k)
/-- the number of the pixels in which places with x v are. -/
def gsn (v : Int) (r : Nat) : Int := (2 * v + 2 ^ r) / (2 * 2 ^ r)
/-- is n from -m to m? -/
def wi (m n : Int) : Bool := decide (-m ≤ n) && decide (n ≤ m)
/-- is the center of the pixel (x, y) not too far? -/
def inB (r : Nat) (x y : Int) : Bool := wi (134217728 / 2 ^ r) x && wi (134217728 / 2 ^ r) y
/-- how two pixels compare. -/
def pcmp (x y x' y' : Int) : Int := if x = x' then icmp y y' else icmp x x'
end Go.Proofs.Ytlfkllmnekdghaa
namespace Go.Proofs.Ytlfkllmnekdghaa
open Go.RowKit
set_option linter.unusedVariables false
set_option linter.unusedSimpArgs false
attribute [local go_sem ↓] Go.wp_at_zero Go.wp_at_succ

/-- two pairs come back. -/
def RP (a b c d : Int) (w : World) (e : Ending) (w' : World) : Prop := e = .returned (.tuple #[.agg #[.int .i64 a, .int .i64 b], .agg #[.int .i64 c, .int .i64 d]]) ∧ Below w.heap.size w w'
end Go.Proofs.Ytlfkllmnekdghaa
namespace Go.Proofs.Ytlfkllmnekdghaa
open Go.RowKit
set_option linter.unusedVariables false
set_option linter.unusedSimpArgs false
attribute [local go_sem ↓] Go.wp_at_zero Go.wp_at_succ

/-- the Int z comes back, and s. -/
def RWB (s : Bool) (z : Int) (w : World) (e : Ending) (w' : World) : Prop := ∃ H L, e = .returned (.tuple #[.agg #[.int .i64 H, .int .u64 L], .bool s]) ∧ IsW H L z ∧ Below w.heap.size w w'
/-- a number comes back, and b. -/
def RT2 (v : Int) (b : Bool) (w : World) (e : Ending) (w' : World) : Prop := e = .returned (.tuple #[.int .i64 v, .bool b]) ∧ Below w.heap.size w w'
/-- behind the first statement: what was snapped, in a block of its own. -/
def SnC (w : World) (s : Bool) (z : Int) (u v : Value) (W : World) : Prop := ∃ g ga gb, u = .pointer (some ⟨g, 0, none⟩) ∧ v = .bool s ∧ IsW ga gb z ∧ Box W g (.int .i64 ga) (.int .u64 gb) ∧ Below w.heap.size w W
end Go.Proofs.Ytlfkllmnekdghaa

namespace Go.Proofs.Ytlfkllmnekdghaa
open Go.RowKit
set_option linter.unusedVariables false
set_option linter.unusedSimpArgs false
def snb (n d : Int) (r : Nat) : Bool := decide (0 < d) && wi (134217728 / 2 ^ r) (sna n d r)
def snv (n d : Int) (r : Nat) : Int := if snb n d r then sna n d r else 0
/-! the reference package -/
/-- is a number times 2^r not too far? -/
def nrB (n : Int) (r : Nat) : Bool := decide (-134217728 ≤ n * 2 ^ r) && decide (n * 2 ^ r ≤ 134217728)
end Go.Proofs.Ytlfkllmnekdghaa

namespace Go.Proofs.Ytlfkllmnekdghaa
set_option linter.unusedVariables false
set_option linter.unusedSimpArgs false
/-! of one edge: its two points as seen from the place -/
def dtR (u1 u2 v1 v2 : Int) : Int := u1 * v2 - u2 * v1
def onR (u1 u2 v1 v2 : Int) : Bool := decide (dtR u1 u2 v1 v2 = 0) && (decide (u1 ≤ 0) && decide (0 ≤ v1) || decide (v1 ≤ 0) && decide (0 ≤ u1)) && (decide (u2 ≤ 0) && decide (0 ≤ v2) || decide (v2 ≤ 0) && decide (0 ≤ u2))
/-- by a ray upwards. -/
def cuR (u1 u2 v1 v2 : Int) : Int := if 0 < u1 ∧ v1 ≤ 0 ∧ 0 < dtR u1 u2 v1 v2 then 1 else if 0 < v1 ∧ u1 ≤ 0 ∧ dtR u1 u2 v1 v2 < 0 then -1 else 0
/-- by a ray to the right. -/
def crR (u1 u2 v1 v2 : Int) : Int := if u2 ≤ 0 ∧ 0 < v2 ∧ 0 < dtR u1 u2 v1 v2 then 1 else if v2 ≤ 0 ∧ 0 < u2 ∧ dtR u1 u2 v1 v2 < 0 then -1 else 0
/-- the same, that takes the other end. -/
def crR' (u1 u2 v1 v2 : Int) : Int := if u2 < 0 ∧ 0 ≤ v2 ∧ 0 < dtR u1 u2 v1 v2 then 1 else if v2 < 0 ∧ 0 ≤ u2 ∧ dtR u1 u2 v1 v2 < 0 then -1 else 0
def q1R (w1 w2 : Int) : Int := if 0 < w1 ∧ 0 < w2 then 1 else 0
def q1R' (w1 w2 : Int) : Int := if 0 < w1 ∧ 0 ≤ w2 then 1 else 0
theorem mul_sg (a b : Int) : ((0 < a ∧ 0 < b → 0 < a * b) ∧ (a < 0 ∧ b < 0 → 0 < a * b) ∧ (0 < a ∧ b < 0 → a * b < 0) ∧ (a < 0 ∧ 0 < b → a * b < 0) ∧ (a = 0 ∨ b = 0 → a * b = 0)) :=
  ⟨fun h => Int.mul_pos h.1 h.2, fun h => Int.mul_pos_of_neg_of_neg h.1 h.2, fun h => Int.mul_neg_of_pos_of_neg h.1 h.2, fun h => Int.mul_neg_of_neg_of_pos h.1 h.2, fun h => by rcases h with rfl | rfl <;> simp⟩
theorem crR_cuR {u1 u2 v1 v2 : Int} (h : onR u1 u2 v1 v2 = false) : crR u1 u2 v1 v2 - cuR u1 u2 v1 v2 = q1R v1 v2 - q1R u1 u2 := by
  unfold onR at h
  unfold crR cuR q1R
  unfold dtR at *
  obtain ⟨a1, a2, a3, a4, a5⟩ := mul_sg u1 v2
  obtain ⟨b1, b2, b3, b4, b5⟩ := mul_sg u2 v1
  generalize u1 * v2 = p at *
  generalize u2 * v1 = q at *
  simp only [Bool.and_eq_false_iff, Bool.or_eq_false_iff, decide_eq_false_iff_not] at h
  repeat' split
  all_goals omega
/-! of a ring's edges -/
abbrev Pt := Int × Int
def edgM (l : List Pt) : List (Pt × Pt) := l.zip (l.drop 1 ++ l.take 1)
def relR (f : Int → Int → Int → Int → Int) (x y : Int) (e : Pt × Pt) : Int := f (2 * e.1.1 - x) (2 * e.1.2 - y) (2 * e.2.1 - x) (2 * e.2.2 - y)
def relB (f : Int → Int → Int → Int → Bool) (x y : Int) (e : Pt × Pt) : Bool := f (2 * e.1.1 - x) (2 * e.1.2 - y) (2 * e.2.1 - x) (2 * e.2.2 - y)
def wndE (f : Int → Int → Int → Int → Int) (x y : Int) (E : List (Pt × Pt)) : Int := (E.map (relR f x y)).sum
def anyE (x y : Int) (E : List (Pt × Pt)) : Bool := E.any (relB onR x y)
theorem wndE_app {f : Int → Int → Int → Int → Int} {x y : Int} {E F : List (Pt × Pt)} : wndE f x y (E ++ F) = wndE f x y E + wndE f x y F := by simp [wndE]
theorem anyE_app {x y : Int} {E F : List (Pt × Pt)} : anyE x y (E ++ F) = (anyE x y E || anyE x y F) := by simp [anyE]
theorem sum_sub (g h : Pt × Pt → Int) : ∀ (E : List (Pt × Pt)), (E.map fun e => g e - h e).sum = (E.map g).sum - (E.map h).sum
  | [] => rfl
  | e :: E => by simp only [List.map_cons, List.sum_cons, sum_sub g h E]; omega
theorem sum_perm {l l' : List Int} (h : l.Perm l') : l.sum = l'.sum := by
  induction h with
  | nil => rfl
  | cons x _ ih => simp only [List.sum_cons, ih]
  | swap x y l => simp only [List.sum_cons]; omega
  | trans _ _ h1 h2 => exact h1.trans h2
/-- what turns by a difference of the points' own numbers turns to nothing along a ring. -/
theorem tele (g : Pt → Int) (l : List Pt) : ((edgM l).map fun e => g e.2 - g e.1).sum = 0 := by
  rw [sum_sub]
  have hl : l.length = (l.drop 1 ++ l.take 1).length := by simp only [List.length_append, List.length_drop, List.length_take]; omega
  have h1 : (edgM l).map (fun e => g e.1) = l.map g := by
    unfold edgM
    rw [show (fun e : Pt × Pt => g e.1) = g ∘ Prod.fst from rfl, ← List.map_map, List.map_fst_zip (by omega)]
  have h2 : (edgM l).map (fun e => g e.2) = (l.drop 1 ++ l.take 1).map g := by
    unfold edgM
    rw [show (fun e : Pt × Pt => g e.2) = g ∘ Prod.snd from rfl, ← List.map_map, List.map_snd_zip (by omega)]
  have h3 : ((l.drop 1 ++ l.take 1).map g).sum = (l.map g).sum := by
    have : (l.drop 1 ++ l.take 1).Perm l := (List.perm_append_comm).trans (by rw [List.take_append_drop])
    exact sum_perm (this.map g)
  rw [h1, h2, h3]; omega
theorem wnd_same {f f' : Int → Int → Int → Int → Int} {g : Int → Int → Int} (hf : ∀ u1 u2 v1 v2, onR u1 u2 v1 v2 = false → f u1 u2 v1 v2 - f' u1 u2 v1 v2 = g v1 v2 - g u1 u2) {x y : Int} {l : List Pt} (h : anyE x y (edgM l) = false) : wndE f x y (edgM l) = wndE f' x y (edgM l) := by
  have h1 := tele (fun p => g (2 * p.1 - x) (2 * p.2 - y)) l
  have h2 : (edgM l).map (fun e => relR f x y e - relR f' x y e) = (edgM l).map fun e => g (2 * e.2.1 - x) (2 * e.2.2 - y) - g (2 * e.1.1 - x) (2 * e.1.2 - y) := by
    refine List.map_congr_left fun e he => hf _ _ _ _ ?_
    have := List.any_eq_false.1 h e he
    cases hb : onR (2 * e.1.1 - x) (2 * e.1.2 - y) (2 * e.2.1 - x) (2 * e.2.2 - y) with
    | false => rfl
    | true => exact absurd hb this
  have h3 := sum_sub (relR f x y) (relR f' x y) (edgM l)
  rw [h2] at h3
  unfold wndE
  omega
theorem wnd_rings {f f' : Int → Int → Int → Int → Int} {g : Int → Int → Int} (hf : ∀ u1 u2 v1 v2, onR u1 u2 v1 v2 = false → f u1 u2 v1 v2 - f' u1 u2 v1 v2 = g v1 v2 - g u1 u2) {x y : Int} : ∀ {L : List (List Pt)}, anyE x y (L.flatMap edgM) = false → wndE f x y (L.flatMap edgM) = wndE f' x y (L.flatMap edgM)
  | [], _ => rfl
  | l :: L, h => by
    rw [List.flatMap_cons, anyE_app, Bool.or_eq_false_iff] at h
    rw [List.flatMap_cons, wndE_app, wndE_app, wnd_same hf h.1, wnd_rings hf h.2]
/-! begun elsewhere; the other way round; moved -/
def peM : List Pt → List (Pt × Pt)
  | a :: b :: r => (a, b) :: peM (b :: r)
  | _ => []
def mvP (d : Pt) (p : Pt) : Pt := (p.1 + d.1, p.2 + d.2)
theorem edgM_map (g : Pt → Pt) (l : List Pt) : edgM (l.map g) = (edgM l).map fun e => (g e.1, g e.2) := by
  unfold edgM
  rw [← List.map_drop, ← List.map_take, ← List.map_append, List.zip_map]
  rfl
/-! the place goes round, on it or not -/
def wndV (x y : Int) (E : List (Pt × Pt)) : Int × Bool := if anyE x y E = true then (0, true) else (wndE cuR x y E, false)
end Go.Proofs.Ytlfkllmnekdghaa

namespace Go.Proofs.Ytlfkllmnekdghaa
open Go.RowKit
set_option linter.unusedVariables false
set_option linter.unusedSimpArgs false
/-- a ring's points, as cells. -/
def ptC (p : Int × Int) : List AC := [.c (.int .i64 p.1), .c (.int .i64 p.2)]
def ringC (l : List (Int × Int)) : List AC := l.flatMap ptC
def ringA (l : List (Int × Int)) : AC := .p (SlP 2 l.length (ringC l))
def ringsA (L : List (List (Int × Int))) : AC := .p (SlP 1 L.length (L.map ringA))
def edgsM (L : List (List (Int × Int))) : List ((Int × Int) × (Int × Int)) := L.flatMap edgM
def vEd (e : (Int × Int) × (Int × Int)) : List AV := [.w (.agg (ptC e.1)), .w (.agg (ptC e.2))]
def preN (L : List (List (Int × Int))) (k : Nat) : Nat := (edgsM (L.take k)).length
theorem edgM_len (l : List (Int × Int)) : (edgM l).length = l.length := by
  simp only [edgM, List.length_zip, List.length_append, List.length_drop, List.length_take]; omega
theorem edgM_at {l : List (Int × Int)} {i : Nat} {p q : Int × Int} (hp : l[i]? = some p) (hq : (if i + 1 < l.length then l[i + 1]? else l[0]?) = some q) : (edgM l)[i]? = some (p, q) := by
  have hi := (List.getElem?_eq_some_iff.1 hp).1
  simp only [edgM, List.getElem?_zip_eq_some]
  refine ⟨hp, ?_⟩
  by_cases h : i + 1 < l.length
  · rw [if_pos h] at hq
    rw [List.getElem?_append_left (by simp; omega), List.getElem?_drop, Nat.add_comm 1 i]; exact hq
  · rw [if_neg h] at hq
    rw [List.getElem?_append_right (by simp; omega), List.length_drop, show i - (l.length - 1) = 0 by omega, List.getElem?_take_of_lt (by omega)]; exact hq
theorem preN_succ {L : List (List (Int × Int))} {k : Nat} {r : List (Int × Int)} (h : L[k]? = some r) : preN L (k + 1) = preN L k + r.length := by
  have hk := (List.getElem?_eq_some_iff.1 h).1
  have : L.take (k + 1) = L.take k ++ [r] := by rw [List.take_succ_eq_append_getElem hk, (List.getElem?_eq_some_iff.1 h).2]
  simp only [preN, edgsM, this, List.flatMap_append, List.length_append, List.flatMap_cons, List.flatMap_nil, List.append_nil, edgM_len]
theorem edgsM_at {L : List (List (Int × Int))} {k i : Nat} {r : List (Int × Int)} (h : L[k]? = some r) (hi : i < r.length) : (edgsM L)[preN L k + i]? = (edgM r)[i]? := by
  have hk := (List.getElem?_eq_some_iff.1 h).1
  have e : edgsM L = edgsM (L.take k) ++ (edgM r ++ edgsM (L.drop (k + 1))) := by
    conv => lhs; rw [← List.take_append_drop k L, List.drop_eq_getElem_cons hk, (List.getElem?_eq_some_iff.1 h).2]
    simp only [edgsM, List.flatMap_append, List.flatMap_cons]
  rw [e, List.getElem?_append_right (by unfold preN; omega), show preN L k + i - (edgsM (L.take k)).length = i by unfold preN; omega, List.getElem?_append_left (by rw [edgM_len]; exact hi)]
theorem ringC_at {l : List (Int × Int)} {i : Nat} {ii : Int} {x y : Int} (hi : ii = i) (h : l[i]? = some (x, y)) : ((ringC l).drop (ii.toNat * 2)).take 2 = [.c (.int .i64 x), .c (.int .i64 y)] := by
  subst hi
  rw [Int.toNat_natCast]
  induction l generalizing i with
  | nil => simp at h
  | cons p l ih =>
    cases i with
    | zero => simp at h; subst h; rfl
    | succ i =>
      have := ih (i := i) (by simpa using h)
      rw [← this, Nat.succ_mul]
      show ((ptC p ++ ringC l).drop (i * 2 + 2)).take 2 = _
      rw [show ptC p ++ ringC l = AC.c (.int .i64 p.1) :: AC.c (.int .i64 p.2) :: ringC l from rfl]
      rfl
theorem ringsC_at {L : List (List (Int × Int))} {i : Nat} {ii : Int} {r : List (Int × Int)} (hi : ii = i) (h : L[i]? = some r) : ((L.map ringA).drop (ii.toNat * 1)).take 1 = [ringA r] := by
  subst hi
  rw [Int.toNat_natCast, Nat.mul_one]
  have hk := (List.getElem?_eq_some_iff.1 h).1
  rw [List.drop_eq_getElem_cons (by simpa using hk)]
  simp [(List.getElem?_eq_some_iff.1 h).2]
abbrev vOw11 (k : Nat) : AV := .w (.one (.own k 0))
def edC (x : Int × ((Int × Int) × (Int × Int))) : List AC := [.c (.int .i64 x.2.1.1), .c (.int .i64 x.2.1.2), .c (.int .i64 x.2.2.1), .c (.int .i64 x.2.2.2), .c (.int .i64 x.1)]
def edsC (l : List (Int × ((Int × Int) × (Int × Int)))) : List AC := l.flatMap edC
theorem take_one {α : Type} {l : List α} {i : Nat} {x : α} (h : l[i]? = some x) : l.take (i + 1) = l.take i ++ [x] := by
  rw [List.take_succ_eq_append_getElem (List.getElem?_eq_some_iff.1 h).1, (List.getElem?_eq_some_iff.1 h).2]
def jobC (A B : List (List (Int × Int))) (op fill rung cap : Int) : List AC := [ringsA A, ringsA B, .c (.int .i64 op), .c (.int .i64 fill), .c (.int .i64 rung), .c (.int .i64 cap)]
theorem plainR1 {i : Nat} {r : HRow} (h : 0 < r.sz) : PlainR (row1 i r) := fun j q hj => by
  by_cases e : j = i
  · subst e; rw [row1, upd_same] at hj; cases hj; exact h
  · rw [row1, upd_ne _ _ e] at hj; cases hj
end Go.Proofs.Ytlfkllmnekdghaa

