/-
  My own texts, without what this claim does not need. My own text.
-/
import Derived.WalkKit
import Derived.WalkSpells
import Derived.Lib.Hide
import Derived.BigQuiet
import Derived.BigGuardPart
import Derived.Deep.RegionHeld3
import Derived.Below
import Derived.Still
import Derived.Laws.CopyRow
import Derived.Laws.Cells
import Derived.Tactics
import Derived.IntWalk
import Derived.Test.YtaennpehlhgggaaProg
import Derived.ProofKit
import Derived.Laws.StructEq
import Derived.Laws.AppendOwn
import Derived.Laws.MakeOwn
import Derived.Laws.Slices
import Derived.StillTail
import Derived.Deep.QuietTactic
import Derived.OwnWalk
import Derived.Laws.OwnMore
import Derived.Maps.AppendAt
import Derived.Deep.DrawnRows
import Derived.Deep.LoopGhost
import Derived.Lib.ItoaNum
import Derived.Deep.DeepCutAuto
import Derived.Deep.CutBlock
import Derived.RegionTactic
import Derived.OpenShut
import Derived.Deep.DeepHandedRow
import Derived.Lib.LaidTab
import Derived.Lib.SmallJoins
import Derived.Laws.BytesArg
import Derived.Shelf.Spec.SlicesInsert
import Derived.Lib.AppendZerosOnto
import Derived.Deep.SlicePairs
import Derived.Carry
import Derived.Test.YtaennpehlhgggaaRows
import Derived.Test.YtaennpehlhgggaaHotRmK3
namespace Go.Proofs.Ytaennpehlhgggaa
open Go.RowKit
set_option linter.unusedVariables false
set_option linter.unusedSimpArgs false
/-- told by a value, or by a pointer into a block that is held with it. -/
def AC.plainB : AC → Bool
  | .p _ => false
  | _ => true
def plainM (m : Mem) (R : Rws) : Prop := (∀ k cs, m k = some cs → cs.all AC.plainB = true) ∧ ∀ i r, R i = some r → 0 < r.sz ∧ r.ys.all AC.plainB = true
theorem RpL.plain {U U' : Nat → Prop} {ρ : Nat → Nat} {W W' : World} {xs : List AC} {vs : List Value} (h : RpL U ρ W xs vs) (hp : xs.all AC.plainB = true) : RpL U' ρ W' xs vs := by
  refine ⟨h.1, fun i x v hx hv => ?_⟩
  have h1 := h.2 i x v hx hv
  have h2 := List.all_eq_true.1 hp x (List.mem_of_getElem? hx)
  cases x with
  | c u => exact h1
  | own k o => exact h1
  | p S => cases h2
theorem HRow.ok.plain {U U' : Nat → Prop} {ρ : Nat → Nat} {W : World} {r : HRow} (h : r.ok U ρ W) (hs : 0 < r.sz) (hp : r.ys.all AC.plainB = true) : r.ok U' ρ W := by
  obtain ⟨xs, h1, h2⟩ := h.row hs
  exact .inl ⟨hs, xs, h1, h2.plain hp⟩
abbrev ptrO (b off : Nat) : Value := .pointer (some ⟨b, off, none⟩)
abbrev ptrV (b : Nat) : Value := ptrO b 0
abbrev noU : Nat → Prop := fun _ => False
theorem HHeap.lt {U : Nat → Prop} {ρ : Nat → Nat} {W : World} {m : Mem} {R : Rws} (h : HHeap U ρ W m R) {b : Nat} (hb : HotAt ρ m R b) : b < W.heap.size := by
  rcases hb with ⟨k, cs, hk, rfl⟩ | ⟨i, r, hi, hg⟩
  · obtain ⟨vs, ty, h1, _⟩ := h.mm k cs hk
    exact (Array.getElem?_eq_some_iff.1 h1).1
  · exact (h.rows i r hi).1.lt hg
/-- these blocks and rows, as they are, with nothing else that they hang on. -/
def thingSP (ρ : Nat → Nat) (m : Mem) (R : Rws) (k : Nat) : SP where
  holds w v := v = ptrV (ρ k) ∧ HHeap noU ρ w m R ∧ plainM m R
  foot w v b := HotAt ρ m R b
  frame := by
    rintro w w' v ⟨rfl, h, hp⟩ hf
    refine ⟨⟨rfl, ⟨fun j cs hj => ?_, h.mo, h.inj, fun i r hi => ?_, h.apart⟩, hp⟩, fun b hb => hb⟩
    · obtain ⟨vs, ty, h1, h2, h3⟩ := h.mm j cs hj
      exact ⟨vs, ty, by rw [hf _ (.inl ⟨j, cs, hj, rfl⟩)]; exact h1, h2.plain (hp.1 j cs hj), h3⟩
    · obtain ⟨h1, h2, h3⟩ := h.rows i r hi
      obtain ⟨xs, g1, g2⟩ := h1.row (hp.2 i r hi).1
      exact ⟨.inl ⟨(hp.2 i r hi).1, xs, ownsRow_kept g1 fun g q => hf g (.inr ⟨i, r, hi, .inl q⟩), g2.plain (hp.2 i r hi).2⟩, h2, h3⟩
  old := fun w v b ⟨_, h, _⟩ hb => h.lt hb
  cell := fun w v ⟨e, _⟩ => by rw [e]; rfl
/-- such a thing, held beside a state's rows. -/
def obRow (ρ : Nat → Nat) (m : Mem) (R : Rws) (k : Nat) : HRow := ⟨0, 0, ptrV (ρ k), 0, [.p (thingSP ρ m R k)]⟩
theorem obRow_own {ρ : Nat → Nat} {m : Mem} {R : Rws} {k : Nat} {W : World} (h : HHeap noU ρ W m R) (hp : plainM m R) {b : Nat} : (obRow ρ m R k).own b ↔ HotAt ρ m R b := by
  constructor
  · rintro (h1 | ⟨_, S, w, h1, h2, h3⟩)
    · cases h1
    · cases h1; exact h3
  · exact fun h1 => .inr ⟨rfl, thingSP ρ m R k, W, rfl, ⟨rfl, h, hp⟩, h1⟩
theorem obRow_own_of {ρ : Nat → Nat} {m : Mem} {R : Rws} {k : Nat} {b : Nat} (h : (obRow ρ m R k).own b) : HotAt ρ m R b := by
  rcases h with h1 | ⟨_, S, w, h1, h2, h3⟩
  · cases h1
  · cases h1; exact h3
theorem obRow_ok {U : Nat → Prop} {ρ ρ' : Nat → Nat} {m : Mem} {R : Rws} {k : Nat} {W : World} (h : HHeap noU ρ W m R) (hp : plainM m R) : (obRow ρ m R k).ok U ρ' W :=
  .inr ⟨rfl, rfl, rfl, ⟨_, rfl, rfl, h, hp⟩, fun b hb => h.lt (obRow_own_of hb)⟩
theorem obRow_heap {U : Nat → Prop} {ρ ρ' : Nat → Nat} {m : Mem} {R : Rws} {k : Nat} {W : World} (h : (obRow ρ m R k).ok U ρ' W) : HHeap noU ρ W m R ∧ plainM m R := by
  rcases h with ⟨h1, _⟩ | ⟨_, _, _, ⟨S, hS, hh⟩, _⟩
  · cases h1
  · cases hS; exact hh.2
/-- part of what is held, alone. -/
theorem HHeap.sub {U : Nat → Prop} {ρ : Nat → Nat} {W : World} {m m1 : Mem} {R R1 : Rws} (h : HHeap U ρ W m R) (hm : ∀ k cs, m1 k = some cs → m k = some cs) (hr : RLe R1 R) (mo : ∀ k cs x j, m1 k = some cs → x ∈ cs → x.owns j → ∃ cs', m1 j = some cs') : HHeap U ρ W m1 R1 := by
  refine ⟨fun k cs hk => h.mm k cs (hm k cs hk), mo, fun k k' cs cs' hk hk' => h.inj k k' cs cs' (hm k cs hk) (hm k' cs' hk'), fun i r hi => ?_, fun i j r q hi hj => h.apart i j r q (hr i r hi) (hr j q hj)⟩
  obtain ⟨h1, h2, h3⟩ := h.rows i r (hr i r hi)
  exact ⟨h1, h2, fun g hg => ⟨(h3 g hg).1, fun k cs hk => (h3 g hg).2 k cs (hm k cs hk)⟩⟩
theorem HHeap.none {U : Nat → Prop} {ρ : Nat → Nat} {W : World} {m : Mem} {R : Rws} (h : HHeap U ρ W m R) (hp : plainM m R) : HHeap noU ρ W m R := by
  refine ⟨fun k cs hk => ?_, h.mo, h.inj, fun i r hi => ?_, h.apart⟩
  · obtain ⟨vs, ty, h1, h2, _⟩ := h.mm k cs hk
    exact ⟨vs, ty, h1, h2.plain (hp.1 k cs hk), id⟩
  · obtain ⟨h1, h2, h3⟩ := h.rows i r hi
    exact ⟨h1.plain (hp.2 i r hi).1 (hp.2 i r hi).2, h2, fun g hg => ⟨id, (h3 g hg).2⟩⟩
theorem HHeap.more {U : Nat → Prop} {ρ : Nat → Nat} {W : World} {m : Mem} {R : Rws} (h : HHeap noU ρ W m R) (hp : plainM m R) (hU : ∀ b, HotAt ρ m R b → ¬ U b) : HHeap U ρ W m R := by
  refine ⟨fun k cs hk => ?_, h.mo, h.inj, fun i r hi => ?_, h.apart⟩
  · obtain ⟨vs, ty, h1, h2, _⟩ := h.mm k cs hk
    exact ⟨vs, ty, h1, h2.plain (hp.1 k cs hk), hU _ (.inl ⟨k, cs, hk, rfl⟩)⟩
  · obtain ⟨h1, h2, h3⟩ := h.rows i r hi
    exact ⟨h1.plain (hp.2 i r hi).1 (hp.2 i r hi).2, h2, fun g hg => ⟨hU g (.inr ⟨i, r, hi, hg⟩), (h3 g hg).2⟩⟩
theorem HHeap.notU {U : Nat → Prop} {ρ : Nat → Nat} {W : World} {m : Mem} {R : Rws} (h : HHeap U ρ W m R) {b : Nat} (hb : HotAt ρ m R b) : ¬ U b := by
  rcases hb with ⟨k, cs, hk, rfl⟩ | ⟨i, r, hi, hg⟩
  · exact (h.mm k cs hk).choose_spec.choose_spec.2.2
  · exact ((h.rows i r hi).2.2 b hg).1
/-- two parts that have no name in common have no block in common. -/
theorem HHeap.split {U : Nat → Prop} {ρ : Nat → Nat} {W : World} {m m1 m2 : Mem} {R R1 R2 : Rws} (h : HHeap U ρ W m R) (h1 : ∀ k cs, m1 k = some cs → m k = some cs) (h2 : ∀ k cs, m2 k = some cs → m k = some cs) (r1 : RLe R1 R) (r2 : RLe R2 R) (dm : ∀ k cs cs', m1 k = some cs → m2 k = some cs' → False) (dr : ∀ i r q, R1 i = some r → R2 i = some q → False) {b : Nat} (hb : HotAt ρ m1 R1 b) : ¬ HotAt ρ m2 R2 b := by
  rintro (⟨j, ds, hj, e⟩ | ⟨j, q, hj, hq⟩)
  · rcases hb with ⟨k, cs, hk, rfl⟩ | ⟨i, r, hi, hg⟩
    · have := h.inj j k _ _ (h2 j ds hj) (h1 k cs hk) e
      subst this
      exact dm j cs ds hk hj
    · exact ((h.rows i r (r1 i r hi)).2.2 b hg).2 j ds (h2 j ds hj) e
  · rcases hb with ⟨k, cs, hk, rfl⟩ | ⟨i, r, hi, hg⟩
    · exact ((h.rows j q (r2 j q hj)).2.2 _ hq).2 k cs (h1 k cs hk) rfl
    · by_cases e : i = j
      · subst e; exact dr i r q hi hj
      · exact h.apart i j r q (r1 i r hi) (r2 j q hj) e b hg hq
/-- a thing that stands at p, and is what S says. -/
abbrev ob (p : Value) (S : SP) : HRow := ⟨0, 0, p, 0, [.p S]⟩
/-- a method of such a thing. -/
def ThCall (P : Program) (f : FuncId) (args : List AV) (p : Value) (S : SP) (post : AV → SP → Prop) : Prop := ∀ i, HCall P f args noMem (row1 i (ob p S)) fun v m' R' => ∃ S', m' = noMem ∧ R' = row1 i (ob p S') ∧ post v S'
/-- one that makes a row, too. -/
def ThCall2 (P : Program) (f : FuncId) (args : List AV) (p : Value) (S : SP) (post : AV → SP → HRow → Prop) : Prop := ∀ i j, i ≠ j → HCall P f args noMem (row1 i (ob p S)) fun v m' R' => ∃ S' q, m' = noMem ∧ R' = upd (row1 i (ob p S')) j q ∧ 0 < q.sz ∧ post v S' q
/-- one that makes another thing. -/
def ThCall3 (P : Program) (f : FuncId) (args : List AV) (p : Value) (S : SP) (post : SP → Value → SP → Prop) : Prop := ∀ i j, i ≠ j → HCall P f args noMem (row1 i (ob p S)) fun v m' R' => ∃ S' p2 S2, m' = noMem ∧ R' = upd (row1 i (ob p S')) j (ob p2 S2) ∧ v = vC p2 ∧ post S' p2 S2
/-- a function that makes such a thing. -/
def ThNew (P : Program) (f : FuncId) (args : List AV) (post : Value → SP → Prop) : Prop := ∀ i, HCall P f args noMem noRows fun v m' R' => ∃ p S, m' = noMem ∧ R' = row1 i (ob p S) ∧ v = vC p ∧ post p S
theorem ptr_own {U : Nat → Prop} {ρ : Nat → Nat} {W : World} {k off : Nat} {v : Value} (h : v = ptrO (ρ k) off) : RpV U ρ W (.w (.one (.own k off))) v := by subst h; rfl
theorem RpVs.closed {U : Nat → Prop} {ρ ρ' : Nat → Nat} {W : World} {args : List AV} {vs : List Value} (hc : args.all AV.closedB = true) (h : RpVs U ρ W args vs) : RpVs U ρ' W args vs :=
  ⟨h.1, fun i x v hx hv => (h.2 i x v hx hv).map (fun b hb _ => ⟨hb, rfl⟩) fun j hj => absurd hj (AV.closed_of (List.all_eq_true.1 hc x (List.mem_of_getElem? hx)) j)⟩
/-- what is told of a thing's parts, beside those of others: the world's side. Each of the things Ts holds its own names. -/
theorem ob_own {ρ : Nat → Nat} {m : Mem} {R : Rws} {k : Nat} {b : Nat} (h : (ob (ptrV (ρ k)) (thingSP ρ m R k)).own b) : HotAt ρ m R b := obRow_own_of h
/-- a call on a thing's own blocks and rows, seen from without: what comes is told by whatever is made of it (R2), of which each block is one of those that are held then. -/
theorem th_raw {P : Program} {f : FuncId} {args : List AV} {ρ : Nat → Nat} {m : Mem} {R : Rws} {k off : Nat} {Post : AV → Mem → Rws → Prop} {Post2 : AV → Mem → Rws → Prop} (hk : ∃ cs, m k = some cs) (hac : args.all AV.closedB = true) (hc : HCall P f (.w (.one (.own k off)) :: args) m R Post) (i : Nat)
    (hp : ∀ r m1 R1 ρ1 U1 W1 v, Post r m1 R1 → ρ1 k = ρ k → HHeap U1 ρ1 W1 m1 R1 → RpV U1 ρ1 W1 r v → ∃ r2 R2, Post2 r2 noMem R2 ∧ r2.closedB = true ∧ RpV U1 ρ1 W1 r2 v ∧ HHeap U1 ρ1 W1 noMem R2 ∧ (∃ q, R2 i = some q) ∧ ∀ b, HotAt ρ1 noMem R2 b → HotAt ρ1 m1 R1 b) : HCall P f (vC (ptrO (ρ k) off) :: args) noMem (row1 i (ob (ptrV (ρ k)) (thingSP ρ m R k))) Post2 := by
  refine ⟨fun U ρ0 W vs hH hown hvs => ?_⟩
  have hi : row1 i (ob (ptrV (ρ k)) (thingSP ρ m R k)) i = some (ob (ptrV (ρ k)) (thingSP ρ m R k)) := by unfold row1; exact upd_same _ _ _
  obtain ⟨hok, _, hnu⟩ := hH.rows i _ hi
  obtain ⟨hh, hpl⟩ := obRow_heap hok
  have hat : ∀ b, HotAt ρ0 noMem (row1 i (ob (ptrV (ρ k)) (thingSP ρ m R k))) b ↔ HotAt ρ m R b := fun b => by
    constructor
    · rintro (⟨j, cs, hj, _⟩ | ⟨j, q, hj, hg⟩)
      · cases hj
      · obtain ⟨rfl, rfl⟩ := row1_iff hj; exact ob_own hg
    · exact fun h => .inr ⟨i, _, hi, (obRow_own hh hpl).2 h⟩
  have hU : ∀ b, HotAt ρ m R b → ¬ U b := fun b hb => (hnu b ((obRow_own hh hpl).2 hb)).1
  obtain ⟨hlen, hv⟩ := hvs
  match vs, hlen with
  | v0 :: vs, hlen =>
    have hv0 : v0 = ptrO (ρ k) off := (hv 0 _ v0 rfl rfl).1
    have hrest : RpVs U ρ W args vs := RpVs.closed hac ⟨by simpa using hlen, fun j x v hx hv' => hv (j + 1) x v hx hv'⟩
    refine (hc.call U ρ W (v0 :: vs) (hh.more hpl hU) (fun x hx j hj => ?_) ⟨hlen, fun j x v hx hv' => ?_⟩).mono ?_
    · rcases List.mem_cons.1 hx with rfl | hx
      · obtain ⟨y, hy, hj⟩ := hj
        simp [AW.cells] at hy
        subst hy
        cases hj
        exact hk
      · exact absurd hj (AV.closed_of (List.all_eq_true.1 hac x hx) j)
    · match j with
      | 0 => cases hx; cases hv'; exact ptr_own hv0
      | j + 1 => exact hrest.2 j x v hx hv'
    · rintro e W' ⟨v, r, m1, R1, ρ1, U1, rfl, hpost, hH1, hrv, hro, k1, k2, u1, u2, hb⟩
      have hρ : ρ1 k = ρ k := by obtain ⟨cs, h⟩ := hk; exact (k1 k cs h).1
      obtain ⟨r2, R2, q1, q2, q3, q4, q5, q6⟩ := hp r m1 R1 ρ1 U1 W' v hpost hρ hH1 hrv
      refine ⟨v, r2, noMem, R2, ρ1, U1, rfl, q1, q4, q3, fun j hj => absurd hj (AV.closed_of q2 j), fun k cs hk => (by cases hk), fun j q hj => ?_, fun b hb => ?_, fun b hb => ?_, ⟨hb.os, hb.tape, hb.output, hb.size, fun b hf => hb.block b ⟨hf.1, fun hh' => hf.2 ((hat b).2 hh')⟩⟩⟩
      · obtain ⟨rfl, rfl⟩ := row1_iff hj
        exact q5
      · rcases u1 b hb with q | q | q
        · exact .inl q
        · exact .inr (.inl q)
        · exact .inr (.inr ((hat b).2 q))
      · rcases u2 b (q6 b hb) with q | q
        · exact .inl ((hat b).2 q)
        · exact .inr q
theorem ob_rows {U : Nat → Prop} {ρ ρ' : Nat → Nat} {W : World} {m m1 : Mem} {R R1 : Rws} {k : Nat} (h : HHeap U ρ W m R) (hm : ∀ k cs, m1 k = some cs → m k = some cs) (hr : RLe R1 R) (mo : ∀ k cs x j, m1 k = some cs → x ∈ cs → x.owns j → ∃ cs', m1 j = some cs') (hp : plainM m1 R1) :
    (ob (ptrV (ρ k)) (thingSP ρ m1 R1 k)).ok U ρ' W ∧ (∀ y ∈ (ob (ptrV (ρ k)) (thingSP ρ m1 R1 k)).ys, y.closedB = true) ∧ ∀ g, (ob (ptrV (ρ k)) (thingSP ρ m1 R1 k)).own g → ¬ U g ∧ ∀ j cs, noMem j = some cs → ρ' j ≠ g :=
  ⟨obRow_ok ((h.sub hm hr mo).none hp) hp, fun y hy => by simp at hy; subst hy; rfl, fun g hg => ⟨(h.sub hm hr mo).notU (ob_own hg), fun j cs hj => (by cases hj)⟩⟩
/-- what a call on a thing's own blocks and rows tells, told of the thing. -/
theorem th_of {P : Program} {f : FuncId} {args : List AV} {ρ : Nat → Nat} {m : Mem} {R : Rws} {k off : Nat} {Post : AV → Mem → Rws → Prop} {post : AV → SP → Prop} (hk : ∃ cs, m k = some cs) (hac : args.all AV.closedB = true) (hc : HCall P f (.w (.one (.own k off)) :: args) m R Post)
    (hp : ∀ v m1 R1, Post v m1 R1 → v.closedB = true ∧ plainM m1 R1 ∧ ∀ ρ1, ρ1 k = ρ k → post v (thingSP ρ1 m1 R1 k)) : ThCall P f (vC (ptrO (ρ k) off) :: args) (ptrV (ρ k)) (thingSP ρ m R k) post := by
  intro i
  refine th_raw hk hac hc i fun r m1 R1 ρ1 U1 W1 v hpost hρ hH hrv => ?_
  obtain ⟨c1, c2, c3⟩ := hp _ _ _ hpost
  have hb := ob_rows (ρ' := ρ1) (k := k) hH (fun _ _ h => h) (RLe.refl _) hH.mo c2
  refine ⟨r, row1 i (ob (ptrV (ρ k)) (thingSP ρ1 m1 R1 k)), ⟨_, rfl, rfl, c3 ρ1 hρ⟩, c1, hrv, ⟨fun k cs hk => (by cases hk), fun k cs x j hk => (by cases hk), fun k k' cs cs' hk => (by cases hk), fun j q hj => ?_, fun j j' q q' hj hj' hne => ?_⟩, ⟨_, by unfold row1; exact upd_same _ _ _⟩, ?_⟩
  · obtain ⟨rfl, rfl⟩ := row1_iff hj
    rw [← hρ]; exact hb
  · obtain ⟨rfl, _⟩ := row1_iff hj
    obtain ⟨rfl, _⟩ := row1_iff hj'
    exact absurd rfl hne
  · rintro b (⟨j, cs, hj, _⟩ | ⟨j, q, hj, hg⟩)
    · cases hj
    · obtain ⟨rfl, rfl⟩ := row1_iff hj
      rw [← hρ] at hg
      exact ob_own hg
theorem upd_row1 {i j : Nat} {r q : HRow} {x : Nat} {p : HRow} (h : upd (row1 i r) j q x = some p) : (x = j ∧ p = q) ∨ (x = i ∧ p = r) := by
  by_cases e : x = j
  · subst e; rw [upd_same] at h; cases h; exact .inl ⟨rfl, rfl⟩
  · rw [upd_ne _ _ e] at h; exact .inr (row1_iff h)
/-- .. and of a row that is made. -/
theorem th_row {P : Program} {f : FuncId} {args : List AV} {ρ : Nat → Nat} {m : Mem} {R : Rws} {k off : Nat} {Post : AV → Mem → Rws → Prop} {post : AV → SP → HRow → Prop} (hk : ∃ cs, m k = some cs) (hac : args.all AV.closedB = true) (hc : HCall P f (.w (.one (.own k off)) :: args) m R Post)
    (hp : ∀ v m1 R', Post v m1 R' → ∃ R1 n q, v.closedB = true ∧ RLe R1 R' ∧ R1 n = none ∧ R' n = some q ∧ 0 < q.sz ∧ plainM m1 R1 ∧ ∀ ρ1, ρ1 k = ρ k → post v (thingSP ρ1 m1 R1 k) q) : ThCall2 P f (vC (ptrO (ρ k) off) :: args) (ptrV (ρ k)) (thingSP ρ m R k) post := by
  intro i j hij
  refine th_raw hk hac hc i fun r m1 R' ρ1 U1 W1 v hpost hρ hH hrv => ?_
  obtain ⟨R1, n, q, c1, hle, hn, hq, hqz, c2, c3⟩ := hp _ _ _ hpost
  have hb := ob_rows (ρ' := ρ1) (k := k) hH (fun _ _ h => h) hle hH.mo c2
  have hap : ∀ g, (ob (ptrV (ρ1 k)) (thingSP ρ1 m1 R1 k)).own g → ¬ q.own g := fun g hg hg' =>
    hH.split (m1 := m1) (R1 := R1) (m2 := noMem) (R2 := row1 n q) (fun _ _ h => h) (fun _ _ h => by cases h) hle (rle1 hq) (fun _ _ _ _ h => by cases h) (fun x r' q' h1 h2 => by obtain ⟨rfl, rfl⟩ := row1_iff h2; rw [hn] at h1; cases h1) (ob_own hg) (.inr ⟨n, q, by unfold row1; exact upd_same _ _ _, hg'⟩)
  rw [hρ] at hb hap
  have hqr := hH.rows n q hq
  refine ⟨r, upd (row1 i (ob (ptrV (ρ k)) (thingSP ρ1 m1 R1 k))) j q, ⟨_, q, rfl, rfl, hqz, c3 ρ1 hρ⟩, c1, hrv, ⟨fun k cs hk => (by cases hk), fun k cs x j hk => (by cases hk), fun k k' cs cs' hk => (by cases hk), fun x p hx => ?_, fun x y p p' hx hy hne g hg hg' => ?_⟩, ⟨_, by rw [upd_ne _ _ hij]; unfold row1; exact upd_same _ _ _⟩, ?_⟩
  · rcases upd_row1 hx with ⟨rfl, rfl⟩ | ⟨rfl, rfl⟩
    · exact ⟨hqr.1, hqr.2.1, fun g hg => ⟨(hqr.2.2 g hg).1, fun j cs hj => (by cases hj)⟩⟩
    · exact hb
  · rcases upd_row1 hx with ⟨rfl, rfl⟩ | ⟨rfl, rfl⟩
    · rcases upd_row1 hy with ⟨rfl, rfl⟩ | ⟨rfl, rfl⟩
      · exact hne rfl
      · exact hap g hg' hg
    · rcases upd_row1 hy with ⟨rfl, rfl⟩ | ⟨rfl, rfl⟩
      · exact hap g hg hg'
      · exact hne rfl
  · rintro b (⟨x, cs, hx, _⟩ | ⟨x, p, hx, hg⟩)
    · cases hx
    · rcases upd_row1 hx with ⟨rfl, rfl⟩ | ⟨rfl, rfl⟩
      · exact .inr ⟨n, p, hq, hg⟩
      · rw [← hρ] at hg
        rcases ob_own hg with ⟨k', cs, h1, h2⟩ | ⟨i', r', h1, h2⟩
        · exact .inl ⟨k', cs, h1, h2⟩
        · exact .inr ⟨i', r', hle _ _ h1, h2⟩
/-- .. and of another thing that is made. -/
theorem th_two {P : Program} {f : FuncId} {args : List AV} {ρ : Nat → Nat} {m : Mem} {R : Rws} {k off : Nat} {Post : AV → Mem → Rws → Prop} {post : SP → Value → SP → Prop} (hk : ∃ cs, m k = some cs) (hac : args.all AV.closedB = true) (hc : HCall P f (.w (.one (.own k off)) :: args) m R Post)
    (hp : ∀ v m' R', Post v m' R' → ∃ m1 R1 m2 R2 k2, v = .w (.one (.own k2 0)) ∧ (∀ k cs, m1 k = some cs → m' k = some cs) ∧ (∀ k cs, m2 k = some cs → m' k = some cs) ∧ RLe R1 R' ∧ RLe R2 R' ∧ (∀ k cs cs', m1 k = some cs → m2 k = some cs' → False) ∧ (∀ i r q, R1 i = some r → R2 i = some q → False) ∧
      (∀ k cs x j, m1 k = some cs → x ∈ cs → x.owns j → ∃ cs', m1 j = some cs') ∧ (∀ k cs x j, m2 k = some cs → x ∈ cs → x.owns j → ∃ cs', m2 j = some cs') ∧ plainM m1 R1 ∧ plainM m2 R2 ∧ ∀ ρ1, ρ1 k = ρ k → post (thingSP ρ1 m1 R1 k) (ptrV (ρ1 k2)) (thingSP ρ1 m2 R2 k2)) : ThCall3 P f (vC (ptrO (ρ k) off) :: args) (ptrV (ρ k)) (thingSP ρ m R k) post := by
  intro i j hij
  refine th_raw hk hac hc i fun r m' R' ρ1 U1 W1 v hpost hρ hH hrv => ?_
  obtain ⟨m1, R1, m2, R2, k2, rfl, s1, s2, l1, l2, dm, dr, o1, o2, p1, p2, c3⟩ := hp _ _ _ hpost
  have hb := ob_rows (ρ' := ρ1) (k := k) hH s1 l1 o1 p1
  have hb2 := ob_rows (ρ' := ρ1) (k := k2) hH s2 l2 o2 p2
  have hap : ∀ g, (ob (ptrV (ρ1 k)) (thingSP ρ1 m1 R1 k)).own g → ¬ (ob (ptrV (ρ1 k2)) (thingSP ρ1 m2 R2 k2)).own g := fun g hg hg' => hH.split s1 s2 l1 l2 dm dr (ob_own hg) (ob_own hg')
  rw [hρ] at hb hap
  have hv : v = ptrV (ρ1 k2) := hrv
  refine ⟨vC (ptrV (ρ1 k2)), upd (row1 i (ob (ptrV (ρ k)) (thingSP ρ1 m1 R1 k))) j (ob (ptrV (ρ1 k2)) (thingSP ρ1 m2 R2 k2)), ⟨_, _, _, rfl, rfl, rfl, c3 ρ1 hρ⟩, rfl, ⟨hv, rfl⟩, ⟨fun k cs hk => (by cases hk), fun k cs x j hk => (by cases hk), fun k k' cs cs' hk => (by cases hk), fun x p hx => ?_, fun x y p p' hx hy hne g hg hg' => ?_⟩, ⟨_, by rw [upd_ne _ _ hij]; unfold row1; exact upd_same _ _ _⟩, ?_⟩
  · rcases upd_row1 hx with ⟨rfl, rfl⟩ | ⟨rfl, rfl⟩
    · exact hb2
    · exact hb
  · rcases upd_row1 hx with ⟨rfl, rfl⟩ | ⟨rfl, rfl⟩
    · rcases upd_row1 hy with ⟨rfl, rfl⟩ | ⟨rfl, rfl⟩
      · exact hne rfl
      · exact hap g hg' hg
    · rcases upd_row1 hy with ⟨rfl, rfl⟩ | ⟨rfl, rfl⟩
      · exact hap g hg hg'
      · exact hne rfl
  · rintro b (⟨x, cs, hx, _⟩ | ⟨x, p, hx, hg⟩)
    · cases hx
    · rcases upd_row1 hx with ⟨rfl, rfl⟩ | ⟨rfl, rfl⟩
      · rcases ob_own hg with ⟨k', cs, h1, h2⟩ | ⟨i', r', h1, h2⟩
        · exact .inl ⟨k', cs, s2 _ _ h1, h2⟩
        · exact .inr ⟨i', r', l2 _ _ h1, h2⟩
      · rw [← hρ] at hg
        rcases ob_own hg with ⟨k', cs, h1, h2⟩ | ⟨i', r', h1, h2⟩
        · exact .inl ⟨k', cs, s1 _ _ h1, h2⟩
        · exact .inr ⟨i', r', l1 _ _ h1, h2⟩
/-- .. and of a function that makes one. -/
theorem th_new {P : Program} {f : FuncId} {args : List AV} {Post : AV → Mem → Rws → Prop} {post : Value → SP → Prop} (hc : HCall P f args noMem noRows Post)
    (hp : ∀ v m1 R1, Post v m1 R1 → ∃ k, v = .w (.one (.own k 0)) ∧ plainM m1 R1 ∧ ∀ ρ1, post (ptrV (ρ1 k)) (thingSP ρ1 m1 R1 k)) : ThNew P f args post := by
  intro i
  refine ⟨fun U ρ W vs hH hown hvs => (hc.call U ρ W vs hH hown hvs).mono ?_⟩
  rintro e W' ⟨v, r, m1, R1, ρ1, U1, rfl, hpost, hH1, hrv, hro, k1, k2, u1, u2, hb⟩
  obtain ⟨k, rfl, c2, c3⟩ := hp _ _ _ hpost
  have hbb := ob_rows (ρ' := ρ1) (k := k) hH1 (fun _ _ h => h) (RLe.refl _) hH1.mo c2
  have hv : v = ptrV (ρ1 k) := hrv
  refine ⟨v, vC (ptrV (ρ1 k)), noMem, row1 i (ob (ptrV (ρ1 k)) (thingSP ρ1 m1 R1 k)), ρ1, U1, rfl, ⟨_, _, rfl, rfl, rfl, c3 ρ1⟩, ⟨fun k cs hk => (by cases hk), fun k cs x j hk => (by cases hk), fun k k' cs cs' hk => (by cases hk), fun j q hj => ?_, fun j j' q q' hj hj' hne => ?_⟩, ⟨hv, rfl⟩, fun j hj => absurd hj (noown _ j), fun k cs hk => (by cases hk), fun j q hj => (by cases hj), u1, fun b hb => ?_, hb⟩
  · obtain ⟨rfl, rfl⟩ := row1_iff hj
    exact hbb
  · obtain ⟨rfl, _⟩ := row1_iff hj
    obtain ⟨rfl, _⟩ := row1_iff hj'
    exact absurd rfl hne
  · rcases hb with ⟨j, cs, hj, _⟩ | ⟨j, q, hj, hg⟩
    · cases hj
    · obtain ⟨rfl, rfl⟩ := row1_iff hj
      exact u2 b (ob_own hg)
section
variable {P : Program} {R : Rws} {s : AS} {ops : Array Oper} {dr : Option (List Nat)} {ty : Nat} {pos : String} {after : Array Edge} {guard : Option (Nat × Bool)} {K : Rws → AS → Prop} {rest : List Oper}
/-- such calls in a walk. -/
theorem hs_t1 (i : Nat) {dst : Option Nat} {f : FuncId} {g : Operand} {ts : Array TypeId} {l : List Operand} {args : List AV} {p : Value} {S : SP} {post : AV → SP → Prop} [E : Enters P f] (hw : want ops ⟨dst, .call ⟨.value g, l.toArray, ts⟩, ty, pos, after, guard⟩ s = some true) (hm : hotM dr ⟨dst, .call ⟨.value g, l.toArray, ts⟩, ty, pos, after, guard⟩ = true)
    (hg : s.look g = some (vC (.func (.func f) #[] #[]))) (ha : l.map s.look = args.map some) (hp : ThCall P f args p S post) (hi : R i = some (ob p S)) (hac : args.all AV.closedB = true) (hd : dstB dst s.n = true)
    (h : ∀ v S', post v S' → hList P ops dr K rest (upd R i (ob p S')) (s.put dst v)) : hList P ops dr K (⟨dst, .call ⟨.value g, l.toArray, ts⟩, ty, pos, after, guard⟩ :: rest) R s := by
  refine hs_h hw hm hg ha (hp i) (fun x hx j hj => absurd hj (AV.closed_of (List.all_eq_true.1 hac x hx) j)) (fun k' cs' h' => by cases h') (fun i' r' h' => ?_) (fun k' cs' x j h' hx hj => by cases h') hd ?_
  · obtain ⟨rfl, rfl⟩ := row1_iff h'; exact hi
  · rintro v m' R' ⟨S', rfl, rfl, hq⟩
    refine ⟨fun k' c h' => (by cases h'), ?_⟩
    rw [show ovr (row1 i (ob p S')) R = upd R i (ob p S') from ovr_upd R i _, over_noMem]
    exact h v S' hq
theorem ovr_two {R : Rws} {i j : Nat} (hij : i ≠ j) {r q : HRow} : ovr (upd (row1 i r) j q) R = upd (upd R i r) j q := by
  funext x
  unfold row1
  by_cases e : x = j
  · subst e; rw [upd_same]; exact ovr_l (upd_same _ _ _)
  · by_cases e2 : x = i
    · subst e2; rw [upd_ne _ _ e, upd_same]; exact ovr_l (by rw [upd_ne _ _ e, upd_same])
    · rw [upd_ne _ _ e, upd_ne _ _ e2]; exact ovr_r (by rw [upd_ne _ _ e, upd_ne _ _ e2]; rfl)
/-- the row that is made is given up at once. -/
theorem hs_t2c (i j : Nat) (hij : i ≠ j) {d : Nat} {f : FuncId} {g : Operand} {ts : Array TypeId} {l : List Operand} {args : List AV} {p : Value} {S : SP} {post : AV → SP → HRow → Prop} [E : Enters P f] (hw : want ops ⟨some d, .call ⟨.value g, l.toArray, ts⟩, ty, pos, after, guard⟩ s = some true) (hm : hotM dr ⟨some d, .call ⟨.value g, l.toArray, ts⟩, ty, pos, after, guard⟩ = true)
    (hg : s.look g = some (vC (.func (.func f) #[] #[]))) (ha : l.map s.look = args.map some) (hp : ThCall2 P f args p S post) (hi : R i = some (ob p S)) (hac : args.all AV.closedB = true) (hd : Nat.blt d s.n = true)
    (h : ∀ v S' q, post v S' q → v = vC q.v ∧ hList P ops dr K rest (fun x => if x = j then none else upd R i (ob p S') x) (s.put (some d) (vS q.sz q.n q.ys))) : hList P ops dr K (⟨some d, .call ⟨.value g, l.toArray, ts⟩, ty, pos, after, guard⟩ :: rest) R s := by
  refine ⟨true, hw, dst_ok hd, .inr (.inr (.inr (.inr (.inr ⟨rfl, hm, f, args, noMem, row1 i (ob p S), _, ⟨⟨_, g, rfl, rfl, .inl ⟨[], hg, by simpa using ha, rfl⟩⟩, E.h⟩, hp i j hij, fun x hx j hj => absurd hj (AV.closed_of (List.all_eq_true.1 hac x hx) j), fun k' cs' h' => (by cases h'), fun i' r' h' => ?_, fun k' cs' x j h' => (by cases h'), ?_⟩))))⟩
  · obtain ⟨rfl, rfl⟩ := row1_iff h'; exact hi
  · rintro v m' R' ⟨S', q, rfl, rfl, hqz, hq⟩ _ _ _
    refine ⟨fun k' c h' => (by cases h'), ?_⟩
    obtain ⟨rfl, h'⟩ := h v S' q hq
    rw [ovr_two hij, over_noMem]
    refine ⟨j, d, q, rfl, upd_same _ _ _, hqz, upd_same _ _ _, by simpa [Nat.blt_eq, AS.put] using hd, ?_⟩
    have e1 : (fun x => if x = j then none else upd (upd R i (ob p S')) j q x) = fun x => if x = j then none else upd R i (ob p S') x := by
      funext x
      by_cases e : x = j
      · rw [if_pos e, if_pos e]
      · rw [if_neg e, if_neg e, upd_ne _ _ e]
    rw [e1, put_put]
    exact h'
theorem hs_t3 (i j : Nat) (hij : i ≠ j) {dst : Option Nat} {f : FuncId} {g : Operand} {ts : Array TypeId} {l : List Operand} {args : List AV} {p : Value} {S : SP} {post : SP → Value → SP → Prop} [E : Enters P f] (hw : want ops ⟨dst, .call ⟨.value g, l.toArray, ts⟩, ty, pos, after, guard⟩ s = some true) (hm : hotM dr ⟨dst, .call ⟨.value g, l.toArray, ts⟩, ty, pos, after, guard⟩ = true)
    (hg : s.look g = some (vC (.func (.func f) #[] #[]))) (ha : l.map s.look = args.map some) (hp : ThCall3 P f args p S post) (hi : R i = some (ob p S)) (hac : args.all AV.closedB = true) (hd : dstB dst s.n = true)
    (h : ∀ S' p2 S2, post S' p2 S2 → hList P ops dr K rest (upd (upd R i (ob p S')) j (ob p2 S2)) (s.put dst (vC p2))) : hList P ops dr K (⟨dst, .call ⟨.value g, l.toArray, ts⟩, ty, pos, after, guard⟩ :: rest) R s := by
  refine hs_h hw hm hg ha (hp i j hij) (fun x hx j hj => absurd hj (AV.closed_of (List.all_eq_true.1 hac x hx) j)) (fun k' cs' h' => by cases h') (fun i' r' h' => ?_) (fun k' cs' x j h' hx hj => by cases h') hd ?_
  · obtain ⟨rfl, rfl⟩ := row1_iff h'; exact hi
  · rintro v m' R' ⟨S', p2, S2, rfl, rfl, rfl, hq⟩
    refine ⟨fun k' c h' => (by cases h'), ?_⟩
    rw [ovr_two hij, over_noMem]
    exact h S' p2 S2 hq
theorem hs_tn (i : Nat) {dst : Option Nat} {f : FuncId} {g : Operand} {ts : Array TypeId} {l : List Operand} {args : List AV} {post : Value → SP → Prop} [E : Enters P f] (hw : want ops ⟨dst, .call ⟨.value g, l.toArray, ts⟩, ty, pos, after, guard⟩ s = some true) (hm : hotM dr ⟨dst, .call ⟨.value g, l.toArray, ts⟩, ty, pos, after, guard⟩ = true)
    (hg : s.look g = some (vC (.func (.func f) #[] #[]))) (ha : l.map s.look = args.map some) (hp : ThNew P f args post) (hac : args.all AV.closedB = true) (hd : dstB dst s.n = true)
    (h : ∀ p S, post p S → hList P ops dr K rest (upd R i (ob p S)) (s.put dst (vC p))) : hList P ops dr K (⟨dst, .call ⟨.value g, l.toArray, ts⟩, ty, pos, after, guard⟩ :: rest) R s := by
  refine hs_h hw hm hg ha (hp i) (fun x hx j hj => absurd hj (AV.closed_of (List.all_eq_true.1 hac x hx) j)) (fun k' cs' h' => by cases h') (fun i' r' h' => by cases h') (fun k' cs' x j h' hx hj => by cases h') hd ?_
  rintro v m' R' ⟨p, S, rfl, rfl, rfl, hq⟩
  refine ⟨fun k' c h' => (by cases h'), ?_⟩
  rw [show ovr (row1 i (ob p S)) R = upd R i (ob p S) from ovr_upd R i _, over_noMem]
  exact h p S hq
end
end Go.Proofs.Ytaennpehlhgggaa

namespace Go.Proofs.Ytaennpehlhgggaa
open Go.RowKit
set_option linter.unusedVariables false
set_option linter.unusedSimpArgs false
section
variable {P : Program} {s : AS} {ops : Array Oper} {K : AS → Prop} {rest : List Oper} {ty : Nat} {pos : String} {after : Array Edge} {guard : Option (Nat × Bool)} {d : Nat}
theorem al_nilckX {x : Operand} {b off : Nat} (hw : want ops ⟨some d, .nilCheck x, ty, pos, after, guard⟩ s = some true) (hx : s.look x = some (vC (ptrO b off))) (hd : Nat.blt d s.n = true) (h : aList P ops K rest (s.put (some d) (vC (ptrO b off)))) : aList P ops K (⟨some d, .nilCheck x, ty, pos, after, guard⟩ :: rest) s := by
  refine al_quiet hw ⟨fun _ _ h => (by cases h), fun y hy => ?_, fun U ρ W env he => ?_, fun j hj => absurd hj (noown _ j)⟩ hd h
  · simp [Op.operands] at hy
    subst hy
    exact ⟨_, hx⟩
  · have hv : env x = ptrO b off := (he x (by simp [Op.operands]) _ hx).1
    exact ⟨_, by simp only [execOp, hv]; rfl, rfl, rfl⟩
theorem al_fldX {x : Operand} {sty i b off fo : Nat} [F : FldOf P sty i fo] (hw : want ops ⟨some d, .fieldAddr sty x i, ty, pos, after, guard⟩ s = some true) (hx : s.look x = some (vC (ptrO b off))) (hd : Nat.blt d s.n = true) (h : aList P ops K rest (s.put (some d) (vC (ptrO b (off + fo))))) : aList P ops K (⟨some d, .fieldAddr sty x i, ty, pos, after, guard⟩ :: rest) s := by
  refine al_quiet (av := vC (ptrO b (off + fo))) hw ⟨fun _ _ h => (by cases h), fun y hy => ?_, fun U ρ W env he => ?_, fun j hj => absurd hj (noown _ j)⟩ hd h
  · simp [Op.operands] at hy
    subst hy
    exact ⟨_, hx⟩
  · have hp : env x = .pointer (some ⟨b, off, none⟩) := (he x (by simp [Op.operands]) _ hx).1
    have hF := F.h
    unfold fldOf at hF
    split at hF
    · rename_i fs hu
      cases hf : fs[i]? with
      | none => rw [hf] at hF; cases hF
      | some f =>
        rw [hf] at hF
        simp only [Option.bind_some] at hF
        cases hi : P.info? f.type with
        | none => rw [hi] at hF; cases hF
        | some t =>
          rw [hi] at hF
          simp only [Option.bind_some] at hF
          split at hF
          · cases hF
          · rename_i hne
            cases hF
            refine ⟨.pointer (some ⟨b, off + f.offset, none⟩), ?_, rfl, rfl⟩
            have hadd : (⟨b, off, none⟩ : Addr).add f.offset = ⟨b, off + f.offset, none⟩ := by unfold Addr.add; split <;> simp_all
            simp only [execOp, Instr.fieldAt, hp, Instr.sureAddr, Sem.run_bind, Sem.run_pure, Result.andThen_ok, run_underlying hu, hf, fieldPlace, run_sizeOf' hi, if_neg hne, hadd]
    · cases hF
theorem run_equalIn_nilp (n : Nat) {t e : TypeId} (hu : P.underlying t = some (.pointer e)) (a : Addr) (W : World) : (Op.equalIn (n + 1) t (.pointer (some a)) (.pointer none)).run P W = .ok false W := by
  simp [Op.equalIn, run_underlying hu]
theorem run_equal_nilp {t e : TypeId} (hu : P.underlying t = some (.pointer e)) (a : Addr) (W : World) : (Op.equal t (.pointer (some a)) (.pointer none)).run P W = .ok false W := run_equalIn_nilp 9999 hu a W
theorem run_eq_nilp {t e : TypeId} (hu : P.underlying t = some (.pointer e)) (a : Addr) (W : World) : (binOp .eql t (.pointer (some a)) (.pointer none)).run P W = .ok (.bool false) W := by
  simp only [binOp]
  simp [run_equal_nilp hu]
theorem guard_ptr {op : BinOp} {t : TypeId} {x y : Operand} {a : Option Addr} {v : Value} : eqGuard op t x y (.pointer a) v = pure () := by cases op <;> rfl
def isPtr (P : Program) (t : TypeId) : Bool := match P.underlying t with
  | some (.pointer _) => true
  | _ => false
theorem al_eqptr {t yt : Nat} {x : Operand} {b off : Nat} (hw : want ops ⟨some d, .binOp .eql t x (.const (.pointer none)) yt, ty, pos, after, guard⟩ s = some true) (hx : s.look x = some (vC (ptrO b off))) (hu : isPtr P t = true) (hd : Nat.blt d s.n = true) (h : aList P ops K rest (s.put (some d) (vB false))) : aList P ops K (⟨some d, .binOp .eql t x (.const (.pointer none)) yt, ty, pos, after, guard⟩ :: rest) s :=
  by
  obtain ⟨e, he⟩ : ∃ e, P.underlying t = some (.pointer e) := by
    unfold isPtr at hu
    split at hu
    · rename_i e he; exact ⟨e, he⟩
    · cases hu
  exact al_bin hw hx rfl rfl rfl (fun W => by rw [guard_ptr]; rfl) (fun W => run_eq_nilp he _ W) rfl hd h
end
section
variable {P : Program} {s : AS} {ops : Array Oper} {K : AS → Prop} {rest : List Oper} {ty : Nat} {pos : String} {after : Array Edge} {guard : Option (Nat × Bool)} {d : Nat}
theorem run_ne_nilp {t e : TypeId} (hu : P.underlying t = some (.pointer e)) (a : Addr) (W : World) : (binOp .neq t (.pointer (some a)) (.pointer none)).run P W = .ok (.bool true) W := by
  simp only [binOp]
  simp [run_equal_nilp hu]
theorem al_neptr {t yt : Nat} {x : Operand} {b off : Nat} (hw : want ops ⟨some d, .binOp .neq t x (.const (.pointer none)) yt, ty, pos, after, guard⟩ s = some true) (hx : s.look x = some (vC (ptrO b off))) (hu : isPtr P t = true) (hd : Nat.blt d s.n = true) (h : aList P ops K rest (s.put (some d) (vB true))) : aList P ops K (⟨some d, .binOp .neq t x (.const (.pointer none)) yt, ty, pos, after, guard⟩ :: rest) s := by
  obtain ⟨e, he⟩ : ∃ e, P.underlying t = some (.pointer e) := by
    unfold isPtr at hu
    split at hu
    · rename_i e he; exact ⟨e, he⟩
    · cases hu
  exact al_bin hw hx rfl rfl rfl (fun W => by rw [guard_ptr]; rfl) (fun W => run_ne_nilp he _ W) rfl hd h
end
/-- a function that makes a thing, and tells more. -/
def ThNewV (P : Program) (f : FuncId) (args : List AV) (post : AV → Value → SP → Prop) : Prop := ∀ i, HCall P f args noMem noRows fun v m' R' => ∃ p S, m' = noMem ∧ R' = row1 i (ob p S) ∧ v.closedB = true ∧ post v p S
theorem SP.same {A B : SP} (h1 : A.holds = B.holds) (h2 : A.foot = B.foot) : A = B := by
  cases A; cases B; cases h1; cases h2; rfl
theorem AC.ren_plain {π : Nat → Nat} (x : AC) : (x.ren π).plainB = x.plainB := by cases x <;> rfl
theorem plainM_ren {π σ τ : Nat → Nat} (hπ : ∀ j, π (π j) = j) (hσ : ∀ j, σ (τ j) = j) {m : Mem} {R : Rws} : plainM (m.ren π) (R.ren σ) ↔ plainM m R := by
  constructor
  · rintro ⟨h1, h2⟩
    refine ⟨fun k cs hk => ?_, fun i r hi => h2 (τ i) r (by unfold Rws.ren; rw [hσ]; exact hi)⟩
    have := h1 _ _ (Mem.ren_of hπ hk)
    rw [List.all_map] at this
    rw [List.all_eq_true] at this ⊢
    exact fun x hx => (AC.ren_plain x).symm.trans (this x hx)
  · rintro ⟨h1, h2⟩
    refine ⟨fun k cs hk => ?_, fun i r hi => h2 (σ i) r hi⟩
    obtain ⟨ds, hd, rfl⟩ := Mem.ren_some hk
    have := h1 _ _ hd
    rw [List.all_map]
    rw [List.all_eq_true] at this ⊢
    exact fun x hx => (AC.ren_plain x).trans (this x hx)
/-- the same thing by other names. -/
theorem thingSP_ren {π σ τ : Nat → Nat} (hπ : ∀ j, π (π j) = j) (hσ : ∀ j, σ (τ j) = j) (hτ : ∀ j, τ (σ j) = j) {ρ : Nat → Nat} {m : Mem} {R : Rws} {k : Nat} : thingSP ρ (m.ren π) (R.ren σ) (π k) = thingSP (fun j => ρ (π j)) m R k := by
  refine SP.same ?_ ?_
  · funext w v
    show (v = ptrV (ρ (π k)) ∧ HHeap noU ρ w (m.ren π) (R.ren σ) ∧ plainM (m.ren π) (R.ren σ)) = (v = ptrV (ρ (π k)) ∧ HHeap noU (fun j => ρ (π j)) w m R ∧ plainM m R)
    rw [propext (plainM_ren hπ hσ), propext (HHeap.ren hπ hσ hτ)]
  · funext w v b
    exact propext (HotAt.ren hπ hσ)
/-- the end of a function that is handed a thing's block and rows. -/
theorem hfin_g {P : Program} {fn : Func} {l : List ResultVar} {xs : List AW} {R R0 R1 : Rws} {s : AS} {cs cs' : List AC} {Post : AV → Mem → Rws → Prop} (hr : fn.results = l.toArray) (h : l.map (resOf P s) = xs.map some) (hk : s.mem 1000 = some cs') (hR : RLe R1 R) (hc : cs'.all AC.closedB = true) (hx : (packed xs).closedB = true) (h0 : ∀ i r, R0 i = some r → ∃ r', R1 i = some r')
    (hp : Post (packed xs) (mem1 1000 cs') R1) : hfin P fn (mem1 1000 cs) R0 Post R s := by
  refine ⟨xs, packed xs, mem1 1000 cs', R1, by rw [hr]; exact h, .refl _, hp, fun k c h => ?_, hR, fun j hj => absurd hj (AV.closed_of hx j), fun k c x j h hx hj => ?_, fun k c h => ?_, h0⟩
  · obtain ⟨rfl, rfl⟩ := mem1_iff h; exact hk
  · obtain ⟨rfl, rfl⟩ := mem1_iff h; exact absurd hj (AC.closed_of (List.all_eq_true.1 hc x hx) j)
  · obtain ⟨rfl, rfl⟩ := mem1_iff h; exact ⟨cs', by unfold mem1; exact upd_same _ _ _⟩
/-- the end of a function that makes a thing of block k and some rows. -/
theorem hfin_gn (k : Nat) {P : Program} {fn : Func} {l : List ResultVar} {xs : List AW} {R R1 : Rws} {s : AS} {cs' : List AC} {Post : AV → Mem → Rws → Prop} (hr : fn.results = l.toArray) (h : l.map (resOf P s) = xs.map some) (hk : s.mem k = some cs') (hR : RLe R1 R) (hc : cs'.all AC.closedB = true) (hx : (packed xs).ownB k = true)
    (hp : Post (packed xs) (mem1 k cs') R1) : hfin P fn noMem noRows Post R s := by
  refine ⟨xs, packed xs, mem1 k cs', R1, by rw [hr]; exact h, .refl _, hp, fun k c h => ?_, hR, fun j hj => ?_, fun k c x j h hxc hj => ?_, fun k c h => (by cases h), fun i r h => (by cases h)⟩
  · obtain ⟨rfl, rfl⟩ := mem1_iff h; exact hk
  · rw [AV.ownB_spec hx hj]; exact ⟨cs', by unfold mem1; exact upd_same _ _ _⟩
  · obtain ⟨rfl, rfl⟩ := mem1_iff h; exact absurd hj (AC.closed_of (List.all_eq_true.1 hc x hxc) j)
section
variable {P : Program} {R : Rws} {s : AS} {ops : Array Oper} {dr : Option (List Nat)} {ty : Nat} {pos : String} {after : Array Edge} {guard : Option (Nat × Bool)} {K : Rws → AS → Prop} {rest : List Oper}
end
end Go.Proofs.Ytaennpehlhgggaa

namespace Go.Proofs.Ytaennpehlhgggaa
open Go.RowKit
set_option linter.unusedVariables false
set_option linter.unusedSimpArgs false
/-- what a set is with one more pixel; is it new; what is told. -/
def addL (r : Int) (L : List Px) (x y : Int) : List Px := if 0 ≤ numI L x y then L else if r ≤ (L.length : Int) then L else L ++ [(x, y)]
def addB (r : Int) (L : List Px) (x y : Int) : Bool := if 0 ≤ numI L x y then false else if r ≤ (L.length : Int) then false else true
def addE (r : Int) (L : List Px) (x y : Int) : Int := if 0 ≤ numI L x y then 0 else if r ≤ (L.length : Int) then 90 else 0
theorem addL_len (r : Int) (L : List Px) (x y : Int) : (addL r L x y).length ≤ L.length + 1 := by unfold addL; split <;> (try split) <;> simp
theorem numI_iff {L : List Px} {x y : Int} : 0 ≤ numI L x y ↔ (x, y) ∈ L := by
  unfold numI
  cases h : L.findIdx? fun e => decide (e.1 = x) && decide (e.2 = y) with
  | none =>
    rw [List.findIdx?_eq_none_iff] at h
    refine ⟨fun h' => absurd h' (by decide), fun h' => ?_⟩
    have := h _ h'
    simp at this
  | some k =>
    obtain ⟨hk, h1, _⟩ := List.findIdx?_eq_some_iff_getElem.1 h
    simp only [Bool.and_eq_true, decide_eq_true_eq] at h1
    refine ⟨fun _ => ?_, fun _ => Int.natCast_nonneg k⟩
    have : L[k] = (x, y) := Prod.ext h1.1 h1.2
    rw [← this]; exact List.getElem_mem hk
/-- a set of these. -/
def madeS (r : Int) (l : List Px) : List Px := l.foldl (fun L p => addL r L p.1 p.2) []
/-- what hot's methods tell of a set that SI tells of. -/
abbrev SIT := Int → List Px → Value → SP → Prop
def CNew9 (SI : SIT) : Prop := ∀ n : Int, ThNew Try.prog 10 [vI n] fun p S => ∃ b, p = ptrV b ∧ SI (room9 n) [] p S
def CAdd9 (SI : SIT) : Prop := ∀ (r : Int) L b S (x y : Int), SI r L (ptrV b) S → L.length ≤ 300 → ThCall Try.prog 14 [vC (ptrV b), vP x y] (ptrV b) S fun v S' => v = .tup [.one (.c (.bool (addB r L x y))), .one (.c (.int .i64 (addE r L x y)))] ∧ SI r (addL r L x y) (ptrV b) S'
/-- made's end. -/
def madeP (SI : SIT) (r : Int) (L : List Px) (v : AV) (p : Value) (S : SP) : Prop := ∃ b, p = ptrV b ∧ v = .tup [.one (.c (ptrV b)), .agg [.c (.int .i64 r), .p (SlP 2 L.length (itC L))]] ∧ SI r L p S
def M9I (SI : SIT) (r : Int) (l : List Px) (n : Nat) (R : Rws) (ts : List (Nat × AV)) (ms : List (Nat × List AC)) : Prop :=
  ∃ (k b : Nat) (S : SP) (ki : Int) (L : List Px), k ≤ l.length ∧ n = l.length - k ∧ ki = k ∧ L = madeS r (l.take k) ∧ SI r L (ptrV b) S ∧ R = row1 0 (ob (ptrV b) S) ∧ ms = [(5, [.c (.int .i64 0), .c (.slice none 0 0)]), (7, [.c (.int .i64 r), .p (SlP 2 L.length (itC L))])] ∧ ts = [(5, vOw 5), (6, vC (ptrV b)), (7, vOw 7), (14, vIt l), (15, vI l.length), (16, vI ki)]
end Go.Proofs.Ytaennpehlhgggaa

namespace Go.Proofs.Ytaennpehlhgggaa
open Go.RowKit
set_option linter.unusedVariables false
set_option linter.unusedSimpArgs false
/-- the block that holds the opposite: right, for a way that goes left; up, for one that goes down. -/
abbrev cB (b : Bool) : AC := .p (PtrP [.c (.bool (!b))])
abbrev vAlong (l d : Bool) : AV := .w (.one (.p (FunP (.func 54) [cB l, cB d])))
set_option maxRecDepth 100000 in
set_option maxHeartbeats 4000000 in
theorem p_Along {a1 a2 b1 b2 : Int} : PCall Try.prog 39 [vP a1 a2, vP b1 b2] (vAlong (decide (b1 < a1)) (decide (b2 < a2))) := by
  have e1 : decide (b1 ≥ a1) = !decide (b1 < a1) := by by_cases h : b1 < a1 <;> simp [h] <;> omega
  have e2 : decide (b2 ≥ a2) = !decide (b2 < a2) := by by_cases h : b2 < a2 <;> simp [h] <;> omega
  refine pcall_bodyT (f := 39) Try.func39 rfl rfl rfl rfl ?_
  refine awt_seq (awt_awp ?_)
  (repeat (first | ((with_reducible apply al_q); exact rfl) | ((with_reducible apply athen_normal)) | ((with_reducible apply awp_region)) | ((with_reducible apply al_nil))))
  refine awt_seq (awt_awp ?_)
  (repeat (first | ((with_reducible apply al_q); exact rfl) | ((with_reducible apply al_nilS); kernel_rfl) | ((with_reducible apply awp_region_draw); kernel_rfl; kernel_rfl; exact rfl) | ((with_reducible apply athen_normal))))
  refine awt_freeze 5 _ rfl rfl ?_
  refine awt_freeze 6 _ rfl rfl ?_
  refine awt_awp ?_
  (repeat (first | ((with_reducible apply al_q); exact rfl) | (refine al_mkfnP (xs := [_, _]) (cs := [_, _]) rfl rfl rfl rfl ?_) | ((with_reducible apply awp_seq)) | ((with_reducible apply athen_normal)) | ((with_reducible apply awp_region)) | ((with_reducible apply al_nil)) | ((with_reducible apply awp_ret))))
  (first | (refine apost_ret rfl (resl_tmp rfl resl_nil) ?_))
  exact AV.Le.of_eq (by rw [e1, e2]; rfl)
set_option maxRecDepth 100000 in
set_option maxHeartbeats 4000000 in
theorem p_along1 {x y z w : Int} {l d r : Bool} (hr : ahdN x y z w l d = r) : PCall Try.prog 54 [vP x y, vP z w, .w (.one (cB l)), .w (.one (cB d))] (vB r) := by
  have cs : (¬ x = z ∧ z < x ∧ r = l) ∨ (¬ x = z ∧ ¬ z < x ∧ r = !l) ∨ (x = z ∧ ¬ y = w ∧ w < y ∧ r = d) ∨ (x = z ∧ ¬ y = w ∧ ¬ w < y ∧ r = !d) ∨ (x = z ∧ y = w ∧ r = false) := by
    rw [← hr]; unfold ahdN
    by_cases h1 : x < z <;> by_cases h2 : z < x <;> by_cases h3 : y < w <;> by_cases h4 : w < y <;> simp [h1, h2, h3, h4] <;> omega
  clear hr
  rcases cs with ⟨h1, h2, rfl⟩ | ⟨h1, h2, rfl⟩ | ⟨h1, h3, h2, rfl⟩ | ⟨h1, h3, h2, rfl⟩ | ⟨h1, h3, rfl⟩
  all_goals
    refine pcall_body (f := 54) Try.func54 rfl rfl rfl rfl ?_
    (repeat (first | ((with_reducible apply al_q); exact rfl) | ((with_reducible apply al_loadP1); (iterate 5 exact rfl)) | ((with_reducible apply al_eqT); (iterate 4 exact rfl); kernel_rfl) | ((with_reducible apply al_guard_b (c := true)); exact rfl; exact rfl; (first | assumption | exact decide_eq_true (by omega) | (simp only [Bool.not_eq_true', decide_eq_false_iff_not, decide_eq_true_eq, Bool.not_eq_false']; (first | done | omega)))) | ((with_reducible apply al_guard_b (c := false)); exact rfl; exact rfl; (first | assumption | exact decide_eq_false (by omega) | (simp only [Bool.not_eq_true', decide_eq_false_iff_not, decide_eq_true_eq, Bool.not_eq_false']; (first | done | omega)))) | ((with_reducible apply awp_seq)) | ((with_reducible apply athen_normal)) | ((with_reducible apply awp_region)) | ((with_reducible apply al_nil)) | ((with_reducible apply awp_ret)) | ((with_reducible apply awp_skip)) | ((with_reducible apply athen_ret)) | ((with_reducible apply awp_cond_1); exact rfl; (first | assumption | exact decide_eq_true (by omega) | (simp only [Bool.not_eq_true', decide_eq_false_iff_not, decide_eq_true_eq, Bool.not_eq_false']; (first | done | omega)))) | ((with_reducible apply awp_cond_0); exact rfl; (first | assumption | exact decide_eq_false (by omega) | (simp only [Bool.not_eq_true', decide_eq_false_iff_not, decide_eq_true_eq, Bool.not_eq_false']; (first | done | omega))))))
    (first | (refine apost_ret rfl (resl_tmp rfl resl_nil) ?_))
    first
    | exact AV.Le.refl _
    | exact AV.Le.of_eq (by rw [decide_eq_false (show ¬ x < z by omega), Bool.false_beq, Bool.not_not]; rfl)
    | exact AV.Le.of_eq (by rw [decide_eq_true (show x < z by omega), Bool.true_beq]; rfl)
    | exact AV.Le.of_eq (by rw [decide_eq_false (show ¬ y < w by omega), Bool.false_beq, Bool.not_not]; rfl)
    | exact AV.Le.of_eq (by rw [decide_eq_true (show y < w by omega), Bool.true_beq]; rfl)
end Go.Proofs.Ytaennpehlhgggaa

namespace Go.Proofs.Ytaennpehlhgggaa
open Go.RowKit
set_option linter.unusedVariables false
set_option linter.unusedSimpArgs false
section
variable {P : Program} {s : AS} {ops : Array Oper} {K : AS → Prop} {rest : List Oper} {ty : Nat} {pos : String} {after : Array Edge} {guard : Option (Nat × Bool)} {d : Nat}
theorem al_quo {xt yt : Nat} {x y : Operand} {a b : Int} (hw : want ops ⟨some d, .binOp .quo xt x y yt, ty, pos, after, guard⟩ s = some true) (hx : s.look x = some (vC (.int .i64 a))) (hy : s.look y = some (vC (.int .i64 b))) (h0 : 0 ≤ a) (h1 : 0 < b) (h2 : a ≤ 9223372036854775807) (hd : Nat.blt d s.n = true) (h : aList P ops K rest (s.put (some d) (vC (.int .i64 (a / b))))) : aList P ops K (⟨some d, .binOp .quo xt x y yt, ty, pos, after, guard⟩ :: rest) s := by
  refine al_int hw hx hy (fun W => ?_) rfl hd h
  have hb : b ≠ 0 := by omega
  have e : a.tdiv b = a / b := Int.tdiv_eq_ediv_of_nonneg h0
  have e2 : IntKind.i64.wrap (a / b) = a / b := i64_wrap (by
    have := Int.ediv_nonneg h0 (show 0 ≤ b by omega)
    have := Int.ediv_le_self b h0
    omega)
  simp [binOp, Op.intDiv, hb, e, e2]
def byT (P : Program) (t : TypeId) : Bool := match P.underlying t with
  | some (.slice e) => (match P.underlying e with | some (.int .u8) => true | _ => false)
  | _ => false
def strT (P : Program) (t : TypeId) : Bool := match P.underlying t with
  | some .string => true
  | _ => false
class ByT (P : Program) (t : TypeId) : Prop where
  h : byT P t = true
class StrT (P : Program) (t : TypeId) : Prop where
  h : strT P t = true
end
end Go.Proofs.Ytaennpehlhgggaa

namespace Go.Proofs.Ytaennpehlhgggaa
open Go.RowKit
set_option linter.unusedVariables false
set_option linter.unusedSimpArgs false
theorem itC_nil : itC [] = [] := rfl
theorem itC_tail (p : Int × Int) (l : List (Int × Int)) : ((itC (p :: l)).drop ((1 : Int).toNat * 2)).take (l.length * 2) = itC l := by
  show ((itC (p :: l)).drop 2).take (l.length * 2) = itC l
  rw [← itC_len]
  simp [itC]
theorem itC_one (p : Int × Int) (l : List (Int × Int)) : itC l ++ [.c (.int .i64 p.1), .c (.int .i64 p.2)] = itC (l ++ [p]) := by rw [itC_append]; rfl
theorem itC_take (l : List (Int × Int)) (k : Nat) : ((itC l).drop (0 * 2)).take ((l.take k).length * 2) = itC (l.take k) := by
  have e : itC l = itC (l.take k) ++ itC (l.drop k) := by rw [← itC_append, List.take_append_drop]
  rw [e, Nat.zero_mul, List.drop_zero, ← itC_len]
  simp
theorem itC_drop (l : List (Int × Int)) (k : Nat) (hk : k ≤ l.length) : ((itC l).drop (k * 2)).take ((l.drop k).length * 2) = itC (l.drop k) := by
  have e : itC l = itC (l.take k) ++ itC (l.drop k) := by rw [← itC_append, List.take_append_drop]
  have e2 : k * 2 = (itC (l.take k)).length := by rw [itC_len, List.length_take, Nat.min_eq_left hk]
  rw [e, e2, List.drop_left, ← itC_len, List.take_length]
/-- what is handed to a function that tells what comes ahead; the function, and no more. -/
abbrev pxRow (v : Value) (l : List (Int × Int)) : HRow := ⟨32, 2, v, l.length, itC l⟩
instance iHotI_1 : RowTy Try.prog 22 32 2 16 := ⟨by kernel_rfl⟩
def MgP (M : List (Int × Int)) (lt : Int × Int → Int × Int → Bool) (lv : AV) (K : Nat) (m : Nat) (R : Rws) (ts : List (Nat × AV)) (ms : List (Nat × List AC)) : Prop :=
  ∃ (a b out : List (Int × Int)) (v : Value), m = a.length + b.length ∧ out ++ mrgL lt a b = M ∧ out.length + m = K ∧ R = row1 0 (pxRow v out) ∧ ts = [(0, vIt a), (1, vIt b), (2, lv), (7, vC v)] ∧ ms = []
set_option maxRecDepth 100000 in
set_option maxHeartbeats 8000000 in
theorem p_mergeP {fx fy : Bool} {a b : List (Int × Int)} (ha : a.length ≤ 100000) (hb : b.length ≤ 100000) :
    PCall Try.prog 53 [vIt a, vIt b, vAlong fx fy] (vIt (mrgL (ahP fx fy) a b)) := by
  refine pcall_body (f := 53) Try.func53 rfl rfl rfl rfl ?_
  refine awp_rows ?_
  (repeat (first | ((with_reducible apply rwp_seq)) | ((with_reducible apply rthen_normal)) | ((with_reducible apply rwp_region)) | ((with_reducible apply hs_nil)) | ((with_reducible apply hs_c); exact rfl; (repeat (first | ((with_reducible apply al_q); exact rfl) | ((with_reducible apply al_add); (iterate 3 exact rfl); (first | exact i64_wrap (by omega) | assumption | rfl); exact rfl) | ((with_reducible apply al_len); (iterate 3 exact rfl)))); (with_reducible apply al_nil))))
  refine hs_make (l := 0) (c' := a.length + b.length) 0 rfl rfl rfl rfl (Nat.zero_le _) rfl rfl ?h2 (le_maxLen (by omega)) rfl (fun v hv => ?_)
  case h2 => omega
  (repeat (first | ((with_reducible apply rwp_seq)) | ((with_reducible apply rthen_normal)) | ((with_reducible apply hs_nil)) | ((with_reducible apply rwp_block)) | ((with_reducible apply hs_c); exact rfl; (repeat (first | ((with_reducible apply al_q); exact rfl))); (with_reducible apply al_nil))))
  refine rwp_loopL 52 (MgP (mrgL (ahP fx fy) a b) (ahP fx fy) (vAlong fx fy) (a.length + b.length)) (a.length + b.length) (row1 0 (pxRow v [])) _ _ ⟨a, b, [], v, rfl, rfl, Nat.zero_add _, rfl, rfl, rfl⟩ (row1_le _ _ _) rfl ⟨rfl, rfl, rfl, rfl, trivial⟩ trivial rfl ?_
  rintro m R ts ms ⟨a', b', out, v, rfl, hM, hK, rfl, rfl, rfl⟩ hok
  clear hok hv
  by_cases qa : 0 < a'.length
  · by_cases qb : 0 < b'.length
    · have qa' : (a'.length : Int) > 0 := by omega
      have qb' : (b'.length : Int) > 0 := by omega
      obtain ⟨⟨x, n⟩, a2, rfl⟩ := List.exists_cons_of_length_pos qa
      obtain ⟨⟨y, m⟩, b2, rfl⟩ := List.exists_cons_of_length_pos qb
      have E1 : ((itC ((x, n) :: a2)).drop ((0 : Int).toNat * 2)).take 2 = [.c (.int .i64 x), .c (.int .i64 n)] := itC_xy (j := 0) (i := 0) rfl rfl
      have E2 : ((itC ((y, m) :: b2)).drop ((0 : Int).toNat * 2)).take 2 = [.c (.int .i64 y), .c (.int .i64 m)] := itC_xy (j := 0) (i := 0) rfl rfl
      have C1 := p_along1 (x := y) (y := m) (z := x) (w := n) (l := fx) (d := fy) rfl
      rw [show ahdN y m x n fx fy = ahP fx fy (y, m) (x, n) from rfl] at C1
      cases hlt : ahP fx fy (y, m) (x, n) with
      | true =>
        rw [hlt] at C1
        have e1 : ((y, m) :: b2).length - (1 : Int).toNat = b2.length := rfl
        have e2 := itC_tail (y, m) b2
        have hM' : (out ++ [(y, m)]) ++ mrgL (ahP fx fy) ((x, n) :: a2) b2 = mrgL (ahP fx fy) a b := by
          rw [← hM, mrgL, if_pos hlt, List.append_assoc]; rfl
        have hl1 : (out ++ [(y, m)]).length = out.length + 1 := List.length_append
        have hl2 : ((y, m) :: b2).length = b2.length + 1 := rfl
        have hl3 : ((x, n) :: a2).length = a2.length + 1 := rfl
        (repeat (first | ((with_reducible apply hs_nilS); kernel_rfl) | ((with_reducible apply rwp_draw (id := 3) [0,1,2,3,4,5,6,7]); kernel_rfl; kernel_rfl; exact rfl) | ((with_reducible apply rwp_draw (id := 4) [0,1,2,3,6,7,4,5,8,9]); kernel_rfl; kernel_rfl; exact rfl) | ((with_reducible apply rwp_seq)) | ((with_reducible apply rthen_normal)) | ((with_reducible apply rwp_region)) | ((with_reducible apply hs_nil)) | ((with_reducible apply rwp_skip)) | ((with_reducible apply rwp_block)) | ((with_reducible apply rwp_cond_1); exact rfl; (first | assumption | exact decide_eq_true (by omega) | (simp only [Bool.not_eq_true', decide_eq_false_iff_not, decide_eq_true_eq, Bool.not_eq_false']; (first | done | omega)) | exact rfl)) | ((with_reducible apply hs_c); exact rfl; (repeat (first | ((with_reducible apply al_q); exact rfl) | ((with_reducible apply al_loadPN); (iterate 5 exact rfl)) | ((with_reducible apply al_idxS); (iterate 3 exact rfl); (first | decide | omega); (first | decide | omega); (first | assumption | rfl); exact rfl) | ((with_reducible apply al_len); (iterate 3 exact rfl)) | ((with_reducible apply al_sl_l); (iterate 3 exact rfl); (first | assumption | omega); (first | assumption | omega); (first | assumption | rfl); (first | assumption | rfl); exact rfl) | ((with_reducible apply al_bslice); (iterate 10 exact rfl)) | (refine al_callF (args := [_, _]) rfl rfl rfl (by (first | exact C1)) rfl ?_) | ((with_reducible apply al_guard_b (c := true)); exact rfl; exact rfl; (first | assumption | exact decide_eq_true (by omega) | (simp only [Bool.not_eq_true', decide_eq_false_iff_not, decide_eq_true_eq, Bool.not_eq_false']; (first | done | omega)))))); (with_reducible apply al_nil))))
        refine hs_app0 0 rfl rfl rfl rfl ?q1 ?q2 rfl rfl (fun v' hv' => ?_)
        case q1 => exact le_maxLen (by show out.length + 1 ≤ 1000000; omega)
        case q2 => show (out.length + 1) * 16 ≤ 140737488355328; omega
        (repeat (first | ((with_reducible apply hs_nilS); kernel_rfl) | ((with_reducible apply rthen_normal)) | ((with_reducible apply rblock_normal)) | ((with_reducible apply hs_c); exact rfl; (repeat (first | ((with_reducible apply al_q); exact rfl))); (with_reducible apply al_nil))))
        have e3 : pxRow v' (out ++ [(y, m)]) = ⟨32, 2, v', out.length + 1, itC out ++ [.c (.int .i64 y), .c (.int .i64 m)]⟩ := by
          unfold pxRow; rw [← itC_one, List.length_append]; rfl
        refine ⟨_, row1 0 (pxRow v' (out ++ [(y, m)])), _, _, ?_, ⟨(x, n) :: a2, b2, out ++ [(y, m)], v', rfl, hM', ?_, rfl, rfl, rfl⟩, by rw [e3]; exact row1_le _ _ _, rfl, ⟨rfl, rfl, rfl, rfl, trivial⟩, trivial, rfl⟩
        · omega
        · omega
      | false =>
        rw [hlt] at C1
        have e1 : ((x, n) :: a2).length - (1 : Int).toNat = a2.length := rfl
        have e2 := itC_tail (x, n) a2
        have hM' : (out ++ [(x, n)]) ++ mrgL (ahP fx fy) a2 ((y, m) :: b2) = mrgL (ahP fx fy) a b := by
          rw [← hM, mrgL, if_neg (by rw [hlt]; decide), List.append_assoc]; rfl
        have hl1 : (out ++ [(x, n)]).length = out.length + 1 := List.length_append
        have hl2 : ((y, m) :: b2).length = b2.length + 1 := rfl
        have hl3 : ((x, n) :: a2).length = a2.length + 1 := rfl
        (repeat (first | ((with_reducible apply hs_nilS); kernel_rfl) | ((with_reducible apply rwp_draw (id := 3) [0,1,2,3,4,5,6,7]); kernel_rfl; kernel_rfl; exact rfl) | ((with_reducible apply rwp_draw (id := 5) [0,1,2,3,6,7,4,5,8,9]); kernel_rfl; kernel_rfl; exact rfl) | ((with_reducible apply rwp_seq)) | ((with_reducible apply rthen_normal)) | ((with_reducible apply rwp_region)) | ((with_reducible apply hs_nil)) | ((with_reducible apply rwp_skip)) | ((with_reducible apply rwp_block)) | ((with_reducible apply rwp_cond_1); exact rfl; (first | assumption | exact decide_eq_true (by omega) | (simp only [Bool.not_eq_true', decide_eq_false_iff_not, decide_eq_true_eq, Bool.not_eq_false']; (first | done | omega)) | exact rfl)) | ((with_reducible apply rwp_cond_0); exact rfl; (first | assumption | exact decide_eq_false (by omega) | (simp only [Bool.not_eq_true', decide_eq_false_iff_not, decide_eq_true_eq, Bool.not_eq_false']; (first | done | omega)) | exact rfl)) | ((with_reducible apply hs_c); exact rfl; (repeat (first | ((with_reducible apply al_q); exact rfl) | ((with_reducible apply al_loadPN); (iterate 5 exact rfl)) | ((with_reducible apply al_idxS); (iterate 3 exact rfl); (first | decide | omega); (first | decide | omega); (first | assumption | rfl); exact rfl) | ((with_reducible apply al_len); (iterate 3 exact rfl)) | ((with_reducible apply al_sl_l); (iterate 3 exact rfl); (first | assumption | omega); (first | assumption | omega); (first | assumption | rfl); (first | assumption | rfl); exact rfl) | ((with_reducible apply al_bslice); (iterate 10 exact rfl)) | (refine al_callF (args := [_, _]) rfl rfl rfl (by (first | exact C1)) rfl ?_) | ((with_reducible apply al_guard_b (c := true)); exact rfl; exact rfl; (first | assumption | exact decide_eq_true (by omega) | (simp only [Bool.not_eq_true', decide_eq_false_iff_not, decide_eq_true_eq, Bool.not_eq_false']; (first | done | omega)))))); (with_reducible apply al_nil))))
        refine hs_app0 0 rfl rfl rfl rfl ?q1 ?q2 rfl rfl (fun v' hv' => ?_)
        case q1 => exact le_maxLen (by show out.length + 1 ≤ 1000000; omega)
        case q2 => show (out.length + 1) * 16 ≤ 140737488355328; omega
        (repeat (first | ((with_reducible apply hs_nilS); kernel_rfl) | ((with_reducible apply rthen_normal)) | ((with_reducible apply rblock_normal)) | ((with_reducible apply hs_c); exact rfl; (repeat (first | ((with_reducible apply al_q); exact rfl))); (with_reducible apply al_nil))))
        have e3 : pxRow v' (out ++ [(x, n)]) = ⟨32, 2, v', out.length + 1, itC out ++ [.c (.int .i64 x), .c (.int .i64 n)]⟩ := by
          unfold pxRow; rw [← itC_one, List.length_append]; rfl
        refine ⟨_, row1 0 (pxRow v' (out ++ [(x, n)])), _, _, ?_, ⟨a2, (y, m) :: b2, out ++ [(x, n)], v', rfl, hM', ?_, rfl, rfl, rfl⟩, by rw [e3]; exact row1_le _ _ _, rfl, ⟨rfl, rfl, rfl, rfl, trivial⟩, trivial, rfl⟩
        · omega
        · omega
    · have qa' : (a'.length : Int) > 0 := by omega
      have qb' : ¬ (b'.length : Int) > 0 := by omega
      have hb0 : b' = [] := List.length_eq_zero_iff.1 (by omega)
      have hz : (a'.length : Int) = a'.length := rfl
      (repeat (first | ((with_reducible apply rwp_seq)) | ((with_reducible apply rthen_normal)) | ((with_reducible apply rwp_region)) | ((with_reducible apply hs_nil)) | ((with_reducible apply rblock_same)) | ((with_reducible apply rwp_exit)) | ((with_reducible apply rthen_exit)) | ((with_reducible apply rwp_cond_0); exact rfl; (first | assumption | exact decide_eq_false (by omega) | (simp only [Bool.not_eq_true', decide_eq_false_iff_not, decide_eq_true_eq, Bool.not_eq_false']; (first | done | omega)) | exact rfl)) | ((with_reducible apply hs_c); exact rfl; (repeat (first | ((with_reducible apply al_q); exact rfl) | ((with_reducible apply al_len); (iterate 3 exact rfl)) | ((with_reducible apply al_guard_b (c := true)); exact rfl; exact rfl; (first | assumption | exact decide_eq_true (by omega) | (simp only [Bool.not_eq_true', decide_eq_false_iff_not, decide_eq_true_eq, Bool.not_eq_false']; (first | done | omega)))))); (with_reducible apply al_nil))))
      refine hs_app0 0 rfl rfl rfl rfl ?q1 ?q2 (itC_closed _) rfl (fun v' hv' => ?_)
      case q1 => exact le_maxLen (by show out.length + a'.length ≤ 1000000; omega)
      case q2 => show (out.length + a'.length) * 16 ≤ 140737488355328; omega
      (repeat (first | ((with_reducible apply rwp_seq)) | ((with_reducible apply rthen_normal)) | ((with_reducible apply rwp_region)) | ((with_reducible apply hs_nil)) | ((with_reducible apply hs_c); exact rfl; (repeat (first | ((with_reducible apply al_q); exact rfl))); (with_reducible apply al_nil))))
      refine hs_appC (k := (mrgL (ahP fx fy) a b).length) (zs := itC (mrgL (ahP fx fy) a b)) 0 rfl rfl rfl rfl ?p1 ?p2 ?p3 ?p4 (itC_closed _) rfl ?_
      case p1 => exact le_maxLen (by show (out.length + a'.length) + b'.length ≤ 1000000; omega)
      case p2 => show ((out.length + a'.length) + b'.length) * 16 ≤ 140737488355328; omega
      case p3 => show (out.length + a'.length) + b'.length = (mrgL (ahP fx fy) a b).length; rw [mrgL_len]; omega
      case p4 => show (itC out ++ itC a') ++ itC b' = itC (mrgL (ahP fx fy) a b); rw [← hM, hb0, mrgL_nil, ← itC_append, itC_nil, List.append_nil]
      (repeat (first | ((with_reducible apply rthen_normal)) | ((with_reducible apply hs_nil)) | ((with_reducible apply rwp_ret)) | ((with_reducible apply hs_c); exact rfl; (repeat (first | ((with_reducible apply al_q); exact rfl))); (with_reducible apply al_nil))))
      (first | (refine apost_ret rfl (resl_tmp rfl resl_nil) ?_))
      exact AV.Le.refl _
  · have qa' : ¬ (a'.length : Int) > 0 := by omega
    have ha0 : a' = [] := List.length_eq_zero_iff.1 (by omega)
    (repeat (first | ((with_reducible apply rwp_seq)) | ((with_reducible apply rthen_normal)) | ((with_reducible apply rwp_region)) | ((with_reducible apply hs_nil)) | ((with_reducible apply rblock_same)) | ((with_reducible apply rwp_exit)) | ((with_reducible apply rthen_exit)) | ((with_reducible apply rwp_cond_0); exact rfl; (first | assumption | exact decide_eq_false (by omega) | (simp only [Bool.not_eq_true', decide_eq_false_iff_not, decide_eq_true_eq, Bool.not_eq_false']; (first | done | omega)) | exact rfl)) | ((with_reducible apply hs_c); exact rfl; (repeat (first | ((with_reducible apply al_q); exact rfl) | ((with_reducible apply al_len); (iterate 3 exact rfl)) | ((with_reducible apply al_guard_b (c := false)); exact rfl; exact rfl; (first | assumption | exact decide_eq_false (by omega) | (simp only [Bool.not_eq_true', decide_eq_false_iff_not, decide_eq_true_eq, Bool.not_eq_false']; (first | done | omega)))))); (with_reducible apply al_nil))))
    refine hs_app0 0 rfl rfl rfl rfl ?q1 ?q2 (itC_closed _) rfl (fun v' hv' => ?_)
    case q1 => exact le_maxLen (by show out.length + a'.length ≤ 1000000; omega)
    case q2 => show (out.length + a'.length) * 16 ≤ 140737488355328; omega
    (repeat (first | ((with_reducible apply rwp_seq)) | ((with_reducible apply rthen_normal)) | ((with_reducible apply rwp_region)) | ((with_reducible apply hs_nil)) | ((with_reducible apply hs_c); exact rfl; (repeat (first | ((with_reducible apply al_q); exact rfl))); (with_reducible apply al_nil))))
    refine hs_appC (k := (mrgL (ahP fx fy) a b).length) (zs := itC (mrgL (ahP fx fy) a b)) 0 rfl rfl rfl rfl ?p1 ?p2 ?p3 ?p4 (itC_closed _) rfl ?_
    case p1 => exact le_maxLen (by show (out.length + a'.length) + b'.length ≤ 1000000; omega)
    case p2 => show ((out.length + a'.length) + b'.length) * 16 ≤ 140737488355328; omega
    case p3 => show (out.length + a'.length) + b'.length = (mrgL (ahP fx fy) a b).length; rw [mrgL_len]; omega
    case p4 => show (itC out ++ itC a') ++ itC b' = itC (mrgL (ahP fx fy) a b); rw [← hM, ha0, mrgL_nil', itC_nil, List.append_nil, ← itC_append]
    (repeat (first | ((with_reducible apply rthen_normal)) | ((with_reducible apply hs_nil)) | ((with_reducible apply rwp_ret)) | ((with_reducible apply hs_c); exact rfl; (repeat (first | ((with_reducible apply al_q); exact rfl))); (with_reducible apply al_nil))))
    (first | (refine apost_ret rfl (resl_tmp rfl resl_nil) ?_))
    exact AV.Le.refl _
set_option maxRecDepth 100000 in
set_option maxHeartbeats 8000000 in
theorem p_SortP {fx fy : Bool} :
    ∀ (N : Nat) (l : List (Int × Int)), l.length ≤ N → N ≤ 100000 → PCall Try.prog 37 [vIt l, vAlong fx fy] (vIt (srtL (ahP fx fy) l)) := by
  intro N
  induction N with
  | zero =>
    intro l h1 h2
    have C0 := p_mergeP (fx := fx) (fy := fy) (a := l) (b := []) (by omega) (by simp)
    rw [mrgL_nil] at C0
    have C1 : PCall Try.prog 53 [vIt l, vNil, vAlong fx fy] (vIt l) := pcall_le C0 rfl rfl (by
      intro i x y hx hy
      match i with
      | 0 => cases hx; cases hy; exact .refl _
      | 1 => cases hx; cases hy; exact nil_le 2
      | 2 => cases hx; cases hy; exact .refl _
      | i + 3 => simp at hx)
    have q1 : (l.length : Int) < 2 := by omega
    have e : srtL (ahP fx fy) l = l := by rw [srtL, dif_pos (by omega)]
    rw [e]
    clear C0
    refine pcall_body (f := 37) Try.func37 rfl rfl rfl rfl ?_
    (repeat (first | ((with_reducible apply al_q); exact rfl) | ((with_reducible apply al_len); (iterate 3 exact rfl)) | (refine al_call3 rfl rfl rfl rfl rfl (by (first | exact C1)) rfl ?_) | ((with_reducible apply awp_seq)) | ((with_reducible apply athen_normal)) | ((with_reducible apply awp_region)) | ((with_reducible apply al_nil)) | ((with_reducible apply awp_ret)) | ((with_reducible apply athen_ret)) | ((with_reducible apply awp_cond_1); exact rfl; (first | assumption | exact decide_eq_true (by omega) | (simp only [Bool.not_eq_true', decide_eq_false_iff_not, decide_eq_true_eq, Bool.not_eq_false']; (first | done | omega))))))
    (first | (refine apost_ret rfl (resl_tmp rfl resl_nil) ?_))
    exact AV.Le.refl _
  | succ N ih =>
    intro l h1 h2
    by_cases q : l.length < 2
    · have C0 := p_mergeP (fx := fx) (fy := fy) (a := l) (b := []) (by omega) (by simp)
      rw [mrgL_nil] at C0
      have C1 : PCall Try.prog 53 [vIt l, vNil, vAlong fx fy] (vIt l) := pcall_le C0 rfl rfl (by
        intro i x y hx hy
        match i with
        | 0 => cases hx; cases hy; exact .refl _
        | 1 => cases hx; cases hy; exact nil_le 2
        | 2 => cases hx; cases hy; exact .refl _
        | i + 3 => simp at hx)
      have q1 : (l.length : Int) < 2 := by omega
      have e : srtL (ahP fx fy) l = l := by rw [srtL, dif_pos (by omega)]
      rw [e]
      clear C0 ih
      refine pcall_body (f := 37) Try.func37 rfl rfl rfl rfl ?_
      (repeat (first | ((with_reducible apply al_q); exact rfl) | ((with_reducible apply al_len); (iterate 3 exact rfl)) | (refine al_call3 rfl rfl rfl rfl rfl (by (first | exact C1)) rfl ?_) | ((with_reducible apply awp_seq)) | ((with_reducible apply athen_normal)) | ((with_reducible apply awp_region)) | ((with_reducible apply al_nil)) | ((with_reducible apply awp_ret)) | ((with_reducible apply athen_ret)) | ((with_reducible apply awp_cond_1); exact rfl; (first | assumption | exact decide_eq_true (by omega) | (simp only [Bool.not_eq_true', decide_eq_false_iff_not, decide_eq_true_eq, Bool.not_eq_false']; (first | done | omega))))))
      (first | (refine apost_ret rfl (resl_tmp rfl resl_nil) ?_))
      exact AV.Le.refl _
    · have q1 : ¬ (l.length : Int) < 2 := by omega
      have e : srtL (ahP fx fy) l = mrgL (ahP fx fy) (srtL (ahP fx fy) (l.take (l.length / 2))) (srtL (ahP fx fy) (l.drop (l.length / 2))) := by rw [srtL, dif_neg q]
      have C1 := ih (l.take (l.length / 2)) (by simp; omega) (by omega)
      have C2 := ih (l.drop (l.length / 2)) (by simp; omega) (by omega)
      have l1 := srtL_len (ahP fx fy) _ (l.take (l.length / 2)) (Nat.le_refl _)
      have l2 := srtL_len (ahP fx fy) _ (l.drop (l.length / 2)) (Nat.le_refl _)
      have C3 := p_mergeP (fx := fx) (fy := fy) (a := srtL (ahP fx fy) (l.take (l.length / 2))) (b := srtL (ahP fx fy) (l.drop (l.length / 2))) (by rw [l1]; simp; omega) (by rw [l2]; simp; omega)
      have hh : ((l.length : Int) / 2).toNat = l.length / 2 := by omega
      have e1 : ((l.length : Int) / 2).toNat - 0 = (l.take (l.length / 2)).length := by rw [hh]; simp; omega
      have e2 := itC_take l (l.length / 2)
      have e3 : ((l.length : Int)).toNat - ((l.length : Int) / 2).toNat = (l.drop (l.length / 2)).length := by rw [hh]; simp
      have e4 := itC_drop l (l.length / 2) (by omega)
      have e5 : ((itC l).drop (((l.length : Int) / 2).toNat * 2)).take ((l.drop (l.length / 2)).length * 2) = itC (l.drop (l.length / 2)) := by rw [hh]; exact e4
      rw [e]
      clear ih l1 l2 e e4 hh
      refine pcall_body (f := 37) Try.func37 rfl rfl rfl rfl ?_
      (repeat (first | ((with_reducible apply al_q); exact rfl) | ((with_reducible apply al_len); (iterate 3 exact rfl)) | ((with_reducible apply al_sl_hm); (iterate 4 exact rfl); (first | assumption | omega); (first | assumption | omega); (first | assumption | omega); (first | assumption | rfl); (first | assumption | rfl); exact rfl) | ((with_reducible apply al_sl_lhm); (iterate 5 exact rfl); (first | assumption | omega); (first | assumption | omega); (first | assumption | omega); (first | assumption | omega); (first | assumption | rfl); (first | assumption | rfl); exact rfl) | ((with_reducible apply al_quo); (iterate 3 exact rfl); omega; omega; omega; exact rfl) | (refine al_call2 rfl rfl rfl rfl (by (first | exact C1 | exact C2 | exact C3)) rfl ?_) | (refine al_call3 rfl rfl rfl rfl rfl (by (first | exact C1 | exact C2 | exact C3)) rfl ?_) | ((with_reducible apply al_nilS); kernel_rfl) | ((with_reducible apply awp_region_draw); kernel_rfl; kernel_rfl; exact rfl) | ((with_reducible apply awp_seq)) | ((with_reducible apply athen_normal)) | ((with_reducible apply awp_region)) | ((with_reducible apply al_nil)) | ((with_reducible apply awp_ret)) | ((with_reducible apply awp_skip)) | ((with_reducible apply awp_cond_0); exact rfl; (first | assumption | exact decide_eq_false (by omega) | (simp only [Bool.not_eq_true', decide_eq_false_iff_not, decide_eq_true_eq, Bool.not_eq_false']; (first | done | omega))))))
      (first | (refine apost_ret rfl (resl_tmp rfl resl_nil) ?_))
      exact AV.Le.refl _
end Go.Proofs.Ytaennpehlhgggaa

namespace Go.Proofs.Ytaennpehlhgggaa
open Go.RowKit
set_option linter.unusedVariables false
set_option linter.unusedSimpArgs false
abbrev vSeg9 (a1 a2 b1 b2 : Int) : AV := .w (.agg [.c (.int .i64 a1), .c (.int .i64 a2), .c (.int .i64 b1), .c (.int .i64 b2)])
def CNear9 (SI : SIT) : Prop := ∀ (s : Int) L b S (a1 a2 b1 b2 k : Int) (r : Nat), SI s L (ptrV b) S → L.length ≤ 300 → L.Nodup → (∀ p ∈ L, InI p) → IsR k r → rB5 a1 a2 = true → rB5 b1 b2 = true → ThCall Try.prog 23 [vC (ptrV b), vP a1 a2, vP b1 b2, vI k] (ptrV b) S fun v S' => v = vIt (sortI (decide (b1 < a1)) (decide (b2 < a2)) (nearF a1 a2 b1 b2 r) L) ∧ SI s L (ptrV b) S'
end Go.Proofs.Ytaennpehlhgggaa

namespace Go.Proofs.Ytaennpehlhgggaa
open Go.RowKit
set_option linter.unusedVariables false
set_option linter.unusedSimpArgs false
def CRoom9 (SI : SIT) : Prop := ∀ (r : Int) L b S, SI r L (ptrV b) S → L.length ≤ 300 → ThCall Try.prog 12 [vC (ptrV b)] (ptrV b) S fun v S' => v = vI r ∧ SI r L (ptrV b) S'
def CLen9 (SI : SIT) : Prop := ∀ (r : Int) L b S, SI r L (ptrV b) S → L.length ≤ 300 → ThCall Try.prog 17 [vC (ptrV b)] (ptrV b) S fun v S' => v = vI L.length ∧ SI r L (ptrV b) S'
def CNum9 (SI : SIT) : Prop := ∀ (r : Int) L b S (x y : Int), SI r L (ptrV b) S → L.length ≤ 300 → ThCall Try.prog 15 [vC (ptrV b), vP x y] (ptrV b) S fun v S' => ∃ k : Int, v = .tup [.one (.c (.int .i64 k)), .one (.c (.bool (decide (0 ≤ numI L x y))))] ∧ (0 ≤ numI L x y → k = numI L x y) ∧ SI r L (ptrV b) S'
def CAll9 (SI : SIT) : Prop := ∀ (r : Int) L b S, SI r L (ptrV b) S → L.length ≤ 300 → ThCall2 Try.prog 20 [vC (ptrV b)] (ptrV b) S fun v S' q => ∃ v', v = vC v' ∧ q = pxRow v' L ∧ SI r L (ptrV b) S'
def A9I (SI : SIT) (r : Int) (l : List Px) (n : Nat) (R : Rws) (ts : List (Nat × AV)) (ms : List (Nat × List AC)) : Prop :=
  ∃ (k b : Nat) (S : SP) (ki : Int) (L : List Px), k ≤ l.length ∧ n = l.length - k ∧ ki = k ∧ L.length ≤ k ∧ SI r L (ptrV b) S ∧ R = row1 0 (ob (ptrV b) S) ∧ ms = [(6, [.c (.int .i64 r), .p (SlP 2 L.length (itC L))])] ∧ ts = [(5, vC (ptrV b)), (6, vOw 6), (34, vIt l), (35, vI l.length), (36, vI ki)]
end Go.Proofs.Ytaennpehlhgggaa

namespace Go.Proofs.Ytaennpehlhgggaa
open Go.RowKit
set_option linter.unusedVariables false
set_option linter.unusedSimpArgs false
def CMet9 (SI : SIT) : Prop := ∀ (s : Int) L b S (a1 a2 b1 b2 k : Int), SI s L (ptrV b) S → L.length ≤ 300 → L.Nodup → (∀ p ∈ L, InI p) → InI (k, k) → rB5 a1 a2 = true → rB5 b1 b2 = true → ThCall2 Try.prog 25 [vC (ptrV b), vP a1 a2, vP b1 b2, vI k] (ptrV b) S fun v S' q => ∃ v', v = vC v' ∧ q = pxRow v' (sortI (decide (b1 < a1)) (decide (b2 < a2)) (metF a1 a2 b1 b2 k) L) ∧ SI s L (ptrV b) S'
/-- how often. -/
def cntP (x y : Int) (l : List Px) : Int := (l.countP fun e => eqP e.1 e.2 x y : Nat)
theorem hiB_rung {a1 a2 b1 b2 x y k : Int} {r : Nat} (hr : IsR k r) (h : hiB a1 a2 b1 b2 x y k = true) : k = r := by
  have := hr
  unfold hiB at h
  simp only [Bool.and_eq_true, decide_eq_true_eq] at h
  unfold IsR at hr
  omega
theorem met_near {a1 a2 b1 b2 k : Int} {r : Nat} (hr : IsR k r) (p : Px) (h : metF a1 a2 b1 b2 k p = true) : nearF a1 a2 b1 b2 r p = true := by
  have hk := hiB_rung hr h
  unfold metF at h
  rw [hk] at h
  obtain ⟨⟨h1, h2⟩, h3, h4⟩ := hiB_between hr.1 h
  unfold nearF btw9
  simp only [Bool.and_eq_true, Bool.or_eq_true, decide_eq_true_eq]
  constructor
  · by_cases q : gsn b1 r < gsn a1 r
    · rw [if_pos q] at h1; rw [if_neg (by omega)] at h2; omega
    · rw [if_neg q] at h1
      by_cases q2 : gsn b1 r > gsn a1 r
      · rw [if_pos q2] at h2; omega
      · rw [if_neg q2] at h2; omega
  · by_cases q : gsn b2 r < gsn a2 r
    · rw [if_pos q] at h3; rw [if_neg (by omega)] at h4; omega
    · rw [if_neg q] at h3
      by_cases q2 : gsn b2 r > gsn a2 r
      · rw [if_pos q2] at h4; omega
      · rw [if_neg q2] at h4; omega
end Go.Proofs.Ytaennpehlhgggaa

namespace Go.Proofs.Ytaennpehlhgggaa
open Go.RowKit
set_option linter.unusedVariables false
set_option linter.unusedSimpArgs false
def T9O (T U V : List Px) (n : Nat) (R : Rws) (ts : List (Nat × AV)) (ms : List (Nat × List AC)) : Prop :=
  ∃ (k : Nat) (ki : Int), k ≤ T.length ∧ n = T.length - k ∧ ki = k ∧ R = noRows ∧ ms = [] ∧ ts = [(10, vIt U), (11, vIt V), (80, vIt T), (81, vI T.length), (82, vI ki)]
def T9V (T U V : List Px) (x y ki : Int) (n : Nat) (R : Rws) (ts : List (Nat × AV)) (ms : List (Nat × List AC)) : Prop :=
  ∃ (i : Nat) (ii c : Int), i ≤ V.length ∧ n = V.length - i ∧ ii = i ∧ c = cntP x y (V.take i) ∧ R = noRows ∧ ms = [(13, mPx x y)] ∧ ts = [(10, vIt U), (11, vIt V), (13, vOw 13), (14, vI c), (15, vI 0), (80, vIt T), (81, vI T.length), (82, vI ki), (86, vIt V), (87, vI V.length), (88, vI ii)]
def T9U (T U V : List Px) (x y ki : Int) (n : Nat) (R : Rws) (ts : List (Nat × AV)) (ms : List (Nat × List AC)) : Prop :=
  ∃ (i : Nat) (ii c : Int), i ≤ U.length ∧ n = U.length - i ∧ ii = i ∧ c = cntP x y (U.take i) ∧ R = noRows ∧ ms = [(13, mPx x y)] ∧ ts = [(10, vIt U), (11, vIt V), (13, vOw 13), (14, vI 1), (15, vI c), (80, vIt T), (81, vI T.length), (82, vI ki), (98, vIt U), (99, vI U.length), (100, vI ii)]
end Go.Proofs.Ytaennpehlhgggaa

namespace Go.Proofs.Ytaennpehlhgggaa
open Go.RowKit
set_option linter.unusedVariables false
set_option linter.unusedSimpArgs false
def CCopy9 (SI : SIT) : Prop := ∀ (r : Int) L b S, SI r L (ptrV b) S → L.length ≤ 300 → ThCall3 Try.prog 27 [vC (ptrV b)] (ptrV b) S fun S' p2 S2 => ∃ b2, p2 = ptrV b2 ∧ SI r L (ptrV b) S' ∧ SI r L p2 S2
def IntC (ys : List AC) : Prop := ∀ c ∈ ys, ∃ a : Int, c = .c (.int .i64 a)
theorem IntC.splice {ys : List AC} (h : IntC ys) (off : Nat) (a : Int) : IntC (splice ys off [.c (.int .i64 a)]) := fun c hc => by
  unfold Go.Proofs.Ytaennpehlhgggaa.splice at hc
  simp only [List.mem_append, List.mem_singleton] at hc
  rcases hc with (hc | hc) | hc
  · exact h c (List.mem_of_mem_take hc)
  · exact ⟨a, hc⟩
  · exact h c (List.mem_of_mem_drop hc)
abbrev anyRow (v : Value) (n : Nat) (ys : List AC) : HRow := ⟨32, 2, v, n, ys⟩
def O9I (r : Int) (L : List Px) (b b2 : Nat) (S S2 : SP) (v : Value) (n : Nat) (R : Rws) (ts : List (Nat × AV)) (ms : List (Nat × List AC)) : Prop :=
  ∃ (k : Nat) (ki : Int) (ys : List AC), k ≤ L.length ∧ n = L.length - k ∧ ki = k ∧ IntC ys ∧ ys.length = L.length * 2 ∧ R = upd (upd (row1 0 (ob (ptrV b) S)) 1 (ob (ptrV b2) S2)) 2 (anyRow v L.length ys) ∧ ms = [(6, [.c (.int .i64 r), .p (SlP 2 L.length (itC L))])] ∧ ts = [(5, vC (ptrV b)), (6, vOw 6), (7, vC (ptrV b2)), (8, vC v), (38, vI L.length), (39, vI ki)]
end Go.Proofs.Ytaennpehlhgggaa

namespace Go.Proofs.Ytaennpehlhgggaa
set_option linter.unusedVariables false
/-- how many come ahead of a pixel. -/
def posE (l : List Ent) (x y : Int) : Nat := (putA l x y).length
theorem posE_len (l : List Ent) (x y : Int) : posE l x y ≤ l.length := putA_len l x y
theorem posE_spec : ∀ {l : List Ent} (h : Rises l) (x y : Int) (k : Nat) (e : Ent), l[k]? = some e → (k < posE l x y ↔ pLt e.1 e.2.1 x y = true)
  | [], _, _, _, k, e, hk => by simp at hk
  | f :: l, h, x, y, k, e, hk => by
    have hc := List.pairwise_cons.1 h
    by_cases hf : pLt f.1 f.2.1 x y = true
    · have hp : posE (f :: l) x y = posE l x y + 1 := by
        unfold posE putA
        rw [List.filter_cons, if_pos hf]; rfl
      rw [hp]
      cases k with
      | zero => simp at hk; subst hk; simp [hf]
      | succ k =>
        have := posE_spec hc.2 x y k e (by simpa using hk)
        rw [← this]; omega
    · have hall : ∀ g ∈ f :: l, ¬ pLt g.1 g.2.1 x y = true := by
        intro g hg
        rcases List.mem_cons.1 hg with rfl | hg
        · exact hf
        · have h1 := hc.1 g hg
          rw [pLt_iff] at h1 hf ⊢
          omega
      have hp : posE (f :: l) x y = 0 := by
        unfold posE putA
        rw [List.filter_eq_nil_iff.2 hall]; rfl
      rw [hp]
      have := hall e (List.mem_of_getElem? hk)
      simp [this]
theorem take_lt {l : List Ent} (h : Rises l) {x y : Int} : ∀ e ∈ l.take (posE l x y), pLt e.1 e.2.1 x y = true := by
  intro e he
  obtain ⟨k, hk⟩ := List.getElem?_of_mem he
  have hlt := (List.getElem?_eq_some_iff.1 hk).1
  rw [List.length_take] at hlt
  rw [List.getElem?_take_of_lt (by omega)] at hk
  exact (posE_spec h x y k e hk).1 (by omega)
theorem drop_ge {l : List Ent} (h : Rises l) {x y : Int} : ∀ e ∈ l.drop (posE l x y), ¬ pLt e.1 e.2.1 x y = true := by
  intro e he
  obtain ⟨k, hk⟩ := List.getElem?_of_mem he
  rw [List.getElem?_drop] at hk
  intro hlt
  have := (posE_spec h x y _ e hk).2 hlt
  omega
theorem putA_pos {l : List Ent} (h : Rises l) {x y : Int} : putA l x y = l.take (posE l x y) := by
  conv => lhs; rw [← List.take_append_drop (posE l x y) l]
  unfold putA
  rw [List.filter_append, List.filter_eq_self.2 (take_lt h), List.filter_eq_nil_iff.2 (drop_ge h), List.append_nil]
/-- is the pixel there? -/
theorem has_pos {l : List Ent} (h : Rises l) {x y : Int} : hasE l x y = true ↔ ∃ u, l[posE l x y]? = some (x, y, u) := by
  constructor
  · intro hh
    unfold hasE at hh
    rw [List.any_eq_true] at hh
    obtain ⟨e, he, hq⟩ := hh
    simp only [Bool.and_eq_true, decide_eq_true_eq] at hq
    obtain ⟨k, hk⟩ := List.getElem?_of_mem he
    have h1 := posE_spec h x y k e hk
    have h2 : ¬ k < posE l x y := by rw [h1, pLt_iff]; omega
    have hkl := (List.getElem?_eq_some_iff.1 hk).1
    have hpl : posE l x y < l.length := by omega
    have hp := List.getElem?_eq_getElem hpl
    have h3 := posE_spec h x y _ _ hp
    by_cases e' : k = posE l x y
    · refine ⟨e.2.2, ?_⟩
      rw [← e', hk]
      exact congrArg some (Prod.ext hq.1 (Prod.ext hq.2 rfl))
    · exfalso
      have h4 := List.pairwise_iff_getElem.1 h (posE l x y) k hpl hkl (by omega)
      have ek : l[k] = e := (List.getElem?_eq_some_iff.1 hk).2
      rw [ek, pLt_iff] at h4
      have h5 : pLt l[posE l x y].1 l[posE l x y].2.1 x y = true := by rw [pLt_iff]; omega
      have := h3.2 h5
      omega
  · rintro ⟨u, hu⟩
    exact List.any_eq_true.2 ⟨_, List.mem_of_getElem? hu, by simp⟩
theorem drop_gt {l : List Ent} (h : Rises l) {x y : Int} (hn : hasE l x y = false) : ∀ e ∈ l.drop (posE l x y), pLt x y e.1 e.2.1 = true := by
  intro e he
  have h1 := drop_ge h e he
  have h2 : ¬ (e.1 = x ∧ e.2.1 = y) := by
    rintro ⟨h3, h4⟩
    have : hasE l x y = true := List.any_eq_true.2 ⟨_, List.mem_of_mem_drop he, by simp [h3, h4]⟩
    rw [hn] at this; cases this
  rw [pLt_iff] at *
  omega
theorem putL_new {l : List Ent} (h : Rises l) {x y v : Int} (hn : hasE l x y = false) : putL l x y v = l.take (posE l x y) ++ (x, y, v) :: l.drop (posE l x y) := by
  unfold putL
  rw [putA_pos h]
  congr 2
  conv => lhs; rw [← List.take_append_drop (posE l x y) l]
  unfold putZ
  rw [List.filter_append, List.filter_eq_self.2 (drop_gt h hn), List.filter_eq_nil_iff.2 fun e he => ?_, List.nil_append]
  have := take_lt h e he
  rw [pLt_iff] at *
  omega
theorem putL_has {l : List Ent} (h : Rises l) {x y v u : Int} (hp : l[posE l x y]? = some (x, y, u)) : putL l x y v = l.take (posE l x y) ++ (x, y, v) :: l.drop (posE l x y + 1) := by
  unfold putL
  rw [putA_pos h]
  congr 2
  have hl := (List.getElem?_eq_some_iff.1 hp).1
  have he := (List.getElem?_eq_some_iff.1 hp).2
  conv => lhs; rw [← List.take_append_drop (posE l x y) l]
  unfold putZ
  rw [List.filter_append, List.filter_eq_nil_iff.2 (fun e he => by have := take_lt h e he; rw [pLt_iff] at *; omega), List.nil_append, List.drop_eq_getElem_cons hl, he, List.filter_cons_of_neg (by rw [pLt_iff]; simp)]
  refine List.filter_eq_self.2 fun e hm => ?_
  obtain ⟨k, hk⟩ := List.getElem?_of_mem hm
  rw [List.getElem?_drop] at hk
  have hkl := (List.getElem?_eq_some_iff.1 hk).1
  have h4 := List.pairwise_iff_getElem.1 h (posE l x y) _ hl hkl (by omega)
  rw [he, (List.getElem?_eq_some_iff.1 hk).2] at h4
  exact h4
theorem valE_pos {l : List Ent} (h : Rises l) {x y u : Int} (hp : l[posE l x y]? = some (x, y, u)) : hasE l x y = true ∧ valE l x y = u := valE_mem h (List.mem_of_getElem? hp)
/-- a box's part: all behind the first one that is not ahead of its low corner. -/
theorem inL_drop {l : List Ent} (h : Rises l) (a b c d : Int) : inL l a b c d = inL (l.drop (posE l a b)) a b c d := by
  conv => lhs; rw [← List.take_append_drop (posE l a b) l]
  unfold inL
  rw [List.filter_append, List.filter_eq_nil_iff.2 (fun e he => ?_), List.nil_append]
  have := take_lt h e he
  rw [pLt_iff] at this
  simp
  intros
  omega
/-- .. until the first one that is right of it. -/
theorem inL_stop {l : List Ent} (h : Rises l) {a b c d : Int} {k : Nat} {e : Ent} (hk : l[k]? = some e) (he : c < e.1) : inL l a b c d = inL (l.take k) a b c d := by
  conv => lhs; rw [← List.take_append_drop k l]
  unfold inL
  rw [List.filter_append, show (l.drop k).filter _ = [] from List.filter_eq_nil_iff.2 (fun f hf => ?_), List.append_nil]
  obtain ⟨j, hj⟩ := List.getElem?_of_mem hf
  rw [List.getElem?_drop] at hj
  have hjl := (List.getElem?_eq_some_iff.1 hj).1
  have hkl := (List.getElem?_eq_some_iff.1 hk).1
  have hc : c < f.1 := by
    by_cases e0 : j = 0
    · subst e0
      rw [Nat.add_zero, hk] at hj; cases hj; exact he
    · have h4 := List.pairwise_iff_getElem.1 h k (k + j) hkl hjl (by omega)
      rw [(List.getElem?_eq_some_iff.1 hk).2, (List.getElem?_eq_some_iff.1 hj).2, pLt_iff] at h4
      omega
  simp
  intros
  omega
theorem inL_step {l : List Ent} {a b c d : Int} {k : Nat} {x y v : Int} (hk : l[k]? = some (x, y, v)) (ha : a ≤ x) (hc : x ≤ c) : inL (l.take (k + 1)) a b c d = inL (l.take k) a b c d ++ if b ≤ y ∧ y ≤ d then [(x, y, v)] else [] := by
  unfold inL
  rw [take_filter hk]
  congr 1
  by_cases q : b ≤ y ∧ y ≤ d
  · rw [if_pos q, if_pos]
    simp [ha, hc, q.1, q.2]
  · rw [if_neg q, if_neg]
    simp [ha, hc]
    omega
theorem Rises.drop {l : List Ent} (h : Rises l) (k : Nat) : Rises (l.drop k) := List.Pairwise.sublist (List.drop_sublist k l) h
theorem drop_low {l : List Ent} (h : Rises l) {a b : Int} {k : Nat} {e : Ent} (hk : (l.drop (posE l a b))[k]? = some e) : a ≤ e.1 := by
  have := drop_ge h e (List.mem_of_getElem? hk)
  rw [pLt_iff] at this
  omega
end Go.Proofs.Ytaennpehlhgggaa

namespace Go.Proofs.Ytaennpehlhgggaa
set_option linter.unusedVariables false
set_option linter.unusedSimpArgs false
/-- an entry's pixel. -/
abbrev pixE (e : Ent) : Px := (e.1, e.2.1)
/-- pixels with their numbers, from k on. -/
def numF : Nat → List Px → List Ent
  | _, [] => []
  | k, p :: l => (p.1, p.2, (k : Int)) :: numF (k + 1) l
theorem numF_app : ∀ (k : Nat) (l : List Px) (p : Px), numF k (l ++ [p]) = numF k l ++ [(p.1, p.2, ((k + l.length : Nat) : Int))]
  | k, [], p => by simp [numF]
  | k, q :: l, p => by
    simp only [List.cons_append, numF, numF_app (k + 1) l p, List.length_cons]
    rw [show k + 1 + l.length = k + (l.length + 1) by omega]
theorem numF_pix : ∀ (k : Nat) (l : List Px), (numF k l).map pixE = l
  | _, [] => rfl
  | k, p :: l => by simp only [numF, List.map_cons, numF_pix (k + 1) l]
theorem numF_len (k : Nat) (l : List Px) : (numF k l).length = l.length := by
  have := congrArg List.length (numF_pix k l)
  rwa [List.length_map] at this
theorem numF_mem : ∀ (k : Nat) (l : List Px) (x y w : Int), (x, y, w) ∈ numF k l ↔ ∃ i : Nat, l[i]? = some (x, y) ∧ w = ((k + i : Nat) : Int)
  | k, [], x, y, w => by simp [numF]
  | k, p :: l, x, y, w => by
    rw [numF, List.mem_cons, numF_mem (k + 1) l x y w]
    constructor
    · rintro (h | ⟨i, h1, h2⟩)
      · simp only [Prod.mk.injEq] at h
        exact ⟨0, by rw [List.getElem?_cons_zero, h.1, h.2.1], by rw [h.2.2]; rfl⟩
      · exact ⟨i + 1, by rw [List.getElem?_cons_succ]; exact h1, by rw [h2]; omega⟩
    · rintro ⟨i, h1, h2⟩
      match i with
      | 0 => rw [List.getElem?_cons_zero] at h1; cases h1; exact .inl (by rw [h2]; rfl)
      | i + 1 => rw [List.getElem?_cons_succ] at h1; exact .inr ⟨i, h1, by rw [h2]; omega⟩
abbrev leV (a b : Ent) : Prop := a.2.2 ≤ b.2.2
theorem numF_ge : ∀ (k : Nat) (l : List Px) (e : Ent), e ∈ numF k l → (k : Int) ≤ e.2.2
  | k, p :: l, e, h => by
    rcases List.mem_cons.1 h with h | h
    · rw [h]; exact Int.le_refl _
    · have := numF_ge (k + 1) l e h; omega
theorem numF_sorted : ∀ (k : Nat) (l : List Px), (numF k l).Pairwise leV
  | _, [] => .nil
  | k, p :: l => List.pairwise_cons.2 ⟨fun e h => by have := numF_ge (k + 1) l e h; show (k : Int) ≤ e.2.2; omega, numF_sorted (k + 1) l⟩
/-- rows of entries, put together, put in order. -/
abbrev ltV (a b : Ent) : Bool := decide (a.2.2 < b.2.2)
def mrgE : List Ent → List Ent → List Ent
  | [], b => b
  | x :: a, [] => x :: a
  | x :: a, y :: b => if ltV y x then y :: mrgE (x :: a) b else x :: mrgE a (y :: b)
termination_by a b => a.length + b.length
theorem mrgE_nil (a : List Ent) : mrgE a [] = a := by cases a <;> simp [mrgE]
theorem mrgE_nil' (a : List Ent) : mrgE [] a = a := by simp [mrgE]
theorem mrgE_perm : ∀ a b, (mrgE a b).Perm (a ++ b) := by
  intro a b
  induction a, b using mrgE.induct with
  | case1 b => simp [mrgE]
  | case2 x a => simp [mrgE]
  | case3 x a y b h ih =>
    rw [mrgE, if_pos h]
    exact (ih.cons y).trans List.perm_middle.symm
  | case4 x a y b h ih =>
    rw [mrgE, if_neg h]
    exact ih.cons x
theorem mrgE_len (a b : List Ent) : (mrgE a b).length = a.length + b.length := by rw [(mrgE_perm a b).length_eq, List.length_append]
theorem mrgE_sorted : ∀ a b, a.Pairwise leV → b.Pairwise leV → (mrgE a b).Pairwise leV := by
  intro a b
  induction a, b using mrgE.induct with
  | case1 b => intro _ h; simpa [mrgE] using h
  | case2 x a => intro h _; simpa [mrgE] using h
  | case3 x a y b h ih =>
    intro ha hb
    rw [mrgE, if_pos h]
    have hbc := List.pairwise_cons.1 hb
    have hac := List.pairwise_cons.1 ha
    have hlt := of_decide_eq_true h
    refine List.pairwise_cons.2 ⟨fun r hr => ?_, ih ha hbc.2⟩
    rcases List.mem_append.1 ((mrgE_perm _ _).mem_iff.1 hr) with hr | hr
    · rcases List.mem_cons.1 hr with rfl | hr
      · exact Int.le_of_lt hlt
      · exact Int.le_trans (Int.le_of_lt hlt) (hac.1 r hr)
    · exact hbc.1 r hr
  | case4 x a y b h ih =>
    intro ha hb
    rw [mrgE, if_neg h]
    have hbc := List.pairwise_cons.1 hb
    have hac := List.pairwise_cons.1 ha
    have hle : x.2.2 ≤ y.2.2 := by
      have : ¬ y.2.2 < x.2.2 := fun h' => h (decide_eq_true h')
      omega
    refine List.pairwise_cons.2 ⟨fun r hr => ?_, ih hac.2 hb⟩
    rcases List.mem_append.1 ((mrgE_perm _ _).mem_iff.1 hr) with hr | hr
    · exact hac.1 r hr
    · rcases List.mem_cons.1 hr with rfl | hr
      · exact hle
      · exact Int.le_trans hle (hbc.1 r hr)
def srtE (l : List Ent) : List Ent :=
  if h : l.length < 2 then l else mrgE (srtE (l.take (l.length / 2))) (srtE (l.drop (l.length / 2)))
termination_by l.length
decreasing_by all_goals (simp; omega)
theorem srtE_perm : ∀ (N : Nat) (l : List Ent), l.length ≤ N → (srtE l).Perm l
  | N, l, h => by
    by_cases q : l.length < 2
    · rw [srtE, dif_pos q]
    · match N with
      | 0 => omega
      | N + 1 =>
        rw [srtE, dif_neg q]
        have h1 := srtE_perm N (l.take (l.length / 2)) (by simp; omega)
        have h2 := srtE_perm N (l.drop (l.length / 2)) (by simp; omega)
        refine (mrgE_perm _ _).trans ((h1.append h2).trans ?_)
        rw [List.take_append_drop]
theorem srtE_len (l : List Ent) : (srtE l).length = l.length := (srtE_perm _ l (Nat.le_refl _)).length_eq
theorem srtE_sorted : ∀ (N : Nat) (l : List Ent), l.length ≤ N → (srtE l).Pairwise leV
  | N, l, h => by
    by_cases q : l.length < 2
    · rw [srtE, dif_pos q]
      match l, q with
      | [], _ => exact .nil
      | [a], _ => exact List.pairwise_singleton _ _
    · match N with
      | 0 => omega
      | N + 1 =>
        rw [srtE, dif_neg q]
        exact mrgE_sorted _ _ (srtE_sorted N _ (by simp; omega)) (srtE_sorted N _ (by simp; omega))
/-- the index of these pixels. -/
def IdxOf (L : List Px) (es : List Ent) : Prop := Rises es ∧ es.Perm (numF 0 L) ∧ L.Nodup
theorem IdxOf.len {L : List Px} {es : List Ent} (h : IdxOf L es) : es.length = L.length := by rw [h.2.1.length_eq, numF_len]
theorem IdxOf.srt {L : List Px} {es : List Ent} (h : IdxOf L es) : srtE es = numF 0 L := by
  refine List.Perm.eq_of_pairwise (le := leV) (fun a b ha hb h1 h2 => ?_) (srtE_sorted _ es (Nat.le_refl _)) (numF_sorted 0 L) ((srtE_perm _ es (Nat.le_refl _)).trans h.2.1)
  have ha' := ((srtE_perm _ es (Nat.le_refl _)).trans h.2.1).mem_iff.1 ha
  obtain ⟨x, y, w⟩ := a
  obtain ⟨x', y', w'⟩ := b
  obtain ⟨i, p1, p2⟩ := (numF_mem 0 L x y w).1 ha'
  obtain ⟨j, q1, q2⟩ := (numF_mem 0 L x' y' w').1 hb
  have hw : w = w' := Int.le_antisymm h1 h2
  have hij : i = j := by omega
  subst hij
  rw [p1] at q1
  cases q1
  rw [hw]
theorem numI_at {L : List Px} (hn : L.Nodup) {i : Nat} {x y : Int} (h : L[i]? = some (x, y)) : numI L x y = (i : Int) := by
  have h0 : 0 ≤ numI L x y := numI_iff.2 (List.mem_of_getElem? h)
  unfold numI at h0 ⊢
  cases hf : L.findIdx? fun e => decide (e.1 = x) && decide (e.2 = y) with
  | none => rw [hf] at h0; exact absurd h0 (by decide)
  | some k =>
    obtain ⟨hk, h1, _⟩ := List.findIdx?_eq_some_iff_getElem.1 hf
    simp only [Bool.and_eq_true, decide_eq_true_eq] at h1
    have e1 : L[k] = (x, y) := Prod.ext h1.1 h1.2
    obtain ⟨hi, e2⟩ := List.getElem?_eq_some_iff.1 h
    have := (List.getElem_inj (h₀ := hk) (h₁ := hi) hn).1 (e1.trans e2.symm)
    rw [this]
theorem hasE_iff {es : List Ent} {a b : Int} : hasE es a b = true ↔ ∃ w, (a, b, w) ∈ es := by
  unfold hasE
  rw [List.any_eq_true]
  constructor
  · rintro ⟨⟨p, q, w⟩, h1, h2⟩
    simp only [Bool.and_eq_true, decide_eq_true_eq] at h2
    exact ⟨w, by rw [← h2.1, ← h2.2]; exact h1⟩
  · rintro ⟨w, h⟩
    exact ⟨_, h, by simp⟩
theorem IdxOf.num {L : List Px} {es : List Ent} (h : IdxOf L es) (x y : Int) : hasE es x y = decide (0 ≤ numI L x y) ∧ (0 ≤ numI L x y → valE es x y = numI L x y) := by
  by_cases hh : 0 ≤ numI L x y
  · obtain ⟨i, hi⟩ := List.getElem?_of_mem (numI_iff.1 hh)
    have hm : (x, y, ((0 + i : Nat) : Int)) ∈ es := h.2.1.mem_iff.2 ((numF_mem 0 L x y _).2 ⟨i, hi, rfl⟩)
    have h1 := valE_mem h.1 hm
    exact ⟨by rw [h1.1, decide_eq_true hh], fun _ => by rw [h1.2, numI_at h.2.2 hi, Nat.zero_add]⟩
  · refine ⟨?_, fun h' => absurd h' hh⟩
    rw [decide_eq_false hh]
    cases he : hasE es x y with
    | false => rfl
    | true =>
      obtain ⟨w, hw⟩ := hasE_iff.1 he
      obtain ⟨i, hi, _⟩ := (numF_mem 0 L x y w).1 (h.2.1.mem_iff.1 hw)
      exact absurd (numI_iff.2 (List.mem_of_getElem? hi)) hh
theorem IdxOf.add {L : List Px} {es : List Ent} (h : IdxOf L es) {x y : Int} (hn : ¬ 0 ≤ numI L x y) : IdxOf (L ++ [(x, y)]) (putL es x y L.length) := by
  have hne : hasE es x y = false := by rw [(h.num x y).1]; exact decide_eq_false hn
  refine ⟨putL_rises h.1 x y L.length, ?_, ?_⟩
  · rw [putL_new h.1 hne, numF_app, Nat.zero_add]
    refine List.perm_middle.trans ?_
    rw [List.take_append_drop]
    refine (h.2.1.cons _).trans ?_
    exact (List.perm_append_singleton _ _).symm
  · rw [List.nodup_append]
    refine ⟨h.2.2, by simp, fun a ha b hb e => ?_⟩
    rw [List.mem_singleton] at hb
    subst hb; subst e
    exact hn (numI_iff.2 ha)
theorem IdxOf.nil : IdxOf [] [] := ⟨.nil, .refl _, .nil⟩
/-- those that stand in a box, put in order by halves. -/
theorem IdxOf.box {L : List Px} {es : List Ent} (h : IdxOf L es) (a b c d : Int) : ((inL es a b c d).map pixE).Perm (L.filter fun p => decide (a ≤ p.1) && decide (p.1 ≤ c) && decide (b ≤ p.2) && decide (p.2 ≤ d)) := by
  have h1 : (inL es a b c d).Perm (inL (numF 0 L) a b c d) := h.2.1.filter _
  have h2 := h1.map pixE
  have h3 : ((inL (numF 0 L) a b c d).map pixE) = ((numF 0 L).map pixE).filter fun p => decide (a ≤ p.1) && decide (p.1 ≤ c) && decide (b ≤ p.2) && decide (p.2 ≤ d) := by
    unfold inL
    rw [List.filter_map]
    rfl
  rw [h3, numF_pix] at h2
  exact h2
theorem addL_had {r : Int} {L : List Px} {x y : Int} (h : 0 ≤ numI L x y) : addL r L x y = L ∧ addB r L x y = false ∧ addE r L x y = 0 := by unfold addL addB addE; rw [if_pos h, if_pos h, if_pos h]; exact ⟨rfl, rfl, rfl⟩
theorem addL_full {r : Int} {L : List Px} {x y : Int} (h : ¬ 0 ≤ numI L x y) (h2 : r ≤ (L.length : Int)) : addL r L x y = L ∧ addB r L x y = false ∧ addE r L x y = 90 := by unfold addL addB addE; rw [if_neg h, if_neg h, if_neg h, if_pos h2, if_pos h2, if_pos h2]; exact ⟨rfl, rfl, rfl⟩
theorem addL_new {r : Int} {L : List Px} {x y : Int} (h : ¬ 0 ≤ numI L x y) (h2 : ¬ r ≤ (L.length : Int)) : addL r L x y = L ++ [(x, y)] ∧ addB r L x y = true ∧ addE r L x y = 0 := by unfold addL addB addE; rw [if_neg h, if_neg h, if_neg h, if_neg h2, if_neg h2, if_neg h2]; exact ⟨rfl, rfl, rfl⟩
end Go.Proofs.Ytaennpehlhgggaa

namespace Go.Proofs.Ytaennpehlhgggaa
open Go.RowKit
set_option linter.unusedVariables false
set_option linter.unusedSimpArgs false
abbrev inB8 (a b c d x y : Int) : Bool := decide (a ≤ x) && decide (x ≤ c) && decide (b ≤ y) && decide (y ≤ d)
def S8I (l m : List Ent) (k : Nat) (ts : List (Nat × AV)) (ms : List (Nat × List AC)) : Prop :=
  ∃ i : Nat, i ≤ l.length ∧ k = l.length - i ∧ (∀ j, j < i → l[j]? = m[j]?) ∧ ms = [] ∧ ts = [(0, vEn l), (1, vEn m), (12, vEn l), (13, vI l.length), (14, vI i)]
end Go.Proofs.Ytaennpehlhgggaa

namespace Go.Proofs.Ytaennpehlhgggaa
open Go.RowKit
set_option linter.unusedVariables false
set_option linter.unusedSimpArgs false
/-- an index's row. -/
abbrev nxRow (v : Value) (l : List Ent) : HRow := ⟨69, 3, v, l.length, enC l⟩
instance iNearC_1 : RowTy Try.prog 42 69 3 24 := ⟨by kernel_rfl⟩
/-- what is known of Put, of any program whose index is a row alone. -/
def CPut (n : Nat) : Prop := ∀ l v (x y w : Int), v.oneCell' = true → Rises l → l.length ≤ n → OCall Try.prog 31 [vP x y, vI w] [.c v] (nxRow v l) fun r cs' r' => r = vB (!hasE l x y) ∧ ∃ v', v'.oneCell' = true ∧ cs' = [.c v'] ∧ r' = nxRow v' (putL l x y w)
def M8I (es : List Ent) (n : Nat) (R : Rws) (ts : List (Nat × AV)) (ms : List (Nat × List AC)) : Prop :=
  ∃ (k : Nat) (v : Value) (ki : Int), k ≤ es.length ∧ n = es.length - k ∧ ki = k ∧ v.oneCell' = true ∧ R = row1 0 (nxRow v (madeL [] (es.take k))) ∧ ms = [(9, [.c v])] ∧ ts = [(4, vOw 9), (5, vEn (madeL [] (es.take k))), (10, vEn es), (11, vI es.length), (12, vI ki)]
end Go.Proofs.Ytaennpehlhgggaa

namespace Go.Proofs.Ytaennpehlhgggaa
open Go.RowKit
set_option linter.unusedVariables false
set_option linter.unusedSimpArgs false
/-- such a function. -/
def ACall (P : Program) (f : FuncId) (args : List AV) (post : AV → HRow → Prop) : Prop :=
  ∀ i, HCall P f args noMem noRows fun v m' R' => ∃ q, m' = noMem ∧ R' = row1 i q ∧ 0 < q.sz ∧ post v q
theorem acall_of {P : Program} {f : FuncId} {args : List AV} {post : AV → HRow → Prop} (ha : args.all AV.closedB = true) (hp : ∀ v q, post v q → v.closedB = true)
    (h : HCall P f args noMem noRows fun v m' R' => ∃ q, m' = noMem ∧ R' = row1 0 q ∧ 0 < q.sz ∧ post v q) : ACall P f args post := by
  intro i
  have h1 := h.ren (π := fun j => j) (σ := swp 0 i) (τ := swp 0 i) (fun _ => rfl) (swp_swp _ _) (swp_swp _ _)
  rw [renId ha, show Mem.ren (fun j => j) noMem = noMem from rfl, show Rws.ren (swp 0 i) noRows = noRows from rfl] at h1
  refine ⟨fun U ρ W vs hH hown hvs => (h1.call U ρ W vs hH hown hvs).mono ?_⟩
  rintro e W' ⟨v1, r1, m', R', ρ', U', q0, ⟨r2, m2, R2, ⟨q, rfl, rfl, hz, hq⟩, rfl, rfl, rfl⟩, qq⟩
  rw [show Mem.ren (fun j => j) noMem = noMem from rfl, row1_ren, ren_closedV (hp _ _ hq)] at qq
  exact ⟨v1, r2, noMem, row1 i q, ρ', U', q0, ⟨q, rfl, rfl, hz, hq⟩, qq⟩
/-- its end. -/
theorem hfin_a {P : Program} {fn : Func} {l : List ResultVar} {xs : List AW} {R : Rws} {s : AS} {q : HRow} {post : AV → HRow → Prop} (hr : fn.results = l.toArray) (h : l.map (resOf P s) = xs.map some) (hi : R 0 = some q) (hx : (packed xs).closedB = true) (hqz : 0 < q.sz)
    (hp : post (packed xs) q) : hfin P fn noMem noRows (fun v m' R' => ∃ q, m' = noMem ∧ R' = row1 0 q ∧ 0 < q.sz ∧ post v q) R s := by
  refine ⟨xs, packed xs, noMem, row1 0 q, by rw [hr]; exact h, .refl _, ⟨q, rfl, rfl, hqz, hp⟩, fun k c h => (by cases h), fun i r h => ?_, fun j hj => absurd hj (AV.closed_of hx j), fun k c x j h => (by cases h), fun k c h => (by cases h), fun i r h => (by cases h)⟩
  obtain ⟨rfl, rfl⟩ := row1_iff h; exact hi
section
variable {P : Program} {R : Rws} {s : AS} {ops : Array Oper} {dr : Option (List Nat)} {ty : Nat} {pos : String} {after : Array Edge} {guard : Option (Nat × Bool)} {K : Rws → AS → Prop} {rest : List Oper}
theorem hs_a (i : Nat) {dst : Option Nat} {f : FuncId} {g : Operand} {ts : Array TypeId} {l : List Operand} {args : List AV} {post : AV → HRow → Prop} [E : Enters P f] (hw : want ops ⟨dst, .call ⟨.value g, l.toArray, ts⟩, ty, pos, after, guard⟩ s = some true) (hm : hotM dr ⟨dst, .call ⟨.value g, l.toArray, ts⟩, ty, pos, after, guard⟩ = true)
    (hg : s.look g = some (vC (.func (.func f) #[] #[]))) (ha : l.map s.look = args.map some) (hp : ACall P f args post) (hac : args.all AV.closedB = true) (hd : dstB dst s.n = true)
    (h : ∀ v q, post v q → hList P ops dr K rest (upd R i q) (s.put dst v)) : hList P ops dr K (⟨dst, .call ⟨.value g, l.toArray, ts⟩, ty, pos, after, guard⟩ :: rest) R s := by
  refine hs_h hw hm hg ha (hp i) (fun x hx j hj => absurd hj (AV.closed_of (List.all_eq_true.1 hac x hx) j)) (fun k' cs' h' => by cases h') (fun i' r' h' => by cases h') (fun k' cs' x j h' hx hj => by cases h') hd ?_
  rintro v m' R' ⟨q, rfl, rfl, _, hq⟩
  refine ⟨fun k' c h' => (by cases h'), ?_⟩
  rw [show ovr (row1 i q) R = upd R i q from ovr_upd R i _, over_noMem]
  exact h v q hq
/-- the row that is made is given up at once. -/
theorem hs_ac (j : Nat) {d : Nat} {f : FuncId} {g : Operand} {ts : Array TypeId} {l : List Operand} {args : List AV} {post : AV → HRow → Prop} [E : Enters P f] (hw : want ops ⟨some d, .call ⟨.value g, l.toArray, ts⟩, ty, pos, after, guard⟩ s = some true) (hm : hotM dr ⟨some d, .call ⟨.value g, l.toArray, ts⟩, ty, pos, after, guard⟩ = true)
    (hg : s.look g = some (vC (.func (.func f) #[] #[]))) (ha : l.map s.look = args.map some) (hp : ACall P f args post) (hj : R j = none) (hac : args.all AV.closedB = true) (hd : Nat.blt d s.n = true)
    (h : ∀ v q, post v q → v = vC q.v ∧ hList P ops dr K rest R (s.put (some d) (vS q.sz q.n q.ys))) : hList P ops dr K (⟨some d, .call ⟨.value g, l.toArray, ts⟩, ty, pos, after, guard⟩ :: rest) R s := by
  refine ⟨true, hw, dst_ok hd, .inr (.inr (.inr (.inr (.inr ⟨rfl, hm, f, args, noMem, noRows, _, ⟨⟨_, g, rfl, rfl, .inl ⟨[], hg, by simpa using ha, rfl⟩⟩, E.h⟩, hp j, fun x hx j hj => absurd hj (AV.closed_of (List.all_eq_true.1 hac x hx) j), fun k' cs' h' => (by cases h'), fun i' r' h' => (by cases h'), fun k' cs' x j h' => (by cases h'), ?_⟩))))⟩
  rintro v m' R' ⟨q, rfl, rfl, hqz, hq⟩ _ _ _
  refine ⟨fun k' c h' => (by cases h'), ?_⟩
  obtain ⟨rfl, h'⟩ := h v q hq
  rw [show ovr (row1 j q) R = upd R j q from ovr_upd R j _, over_noMem]
  refine ⟨j, d, q, rfl, upd_same _ _ _, hqz, upd_same _ _ _, by simpa [Nat.blt_eq, AS.put] using hd, ?_⟩
  have e1 : (fun x => if x = j then none else upd R j q x) = R := by
    funext x
    by_cases e : x = j
    · rw [if_pos e, e, hj]
    · rw [if_neg e, upd_ne _ _ e]
  rw [e1, put_put]
  exact h'
end
end Go.Proofs.Ytaennpehlhgggaa

namespace Go.Proofs.Ytaennpehlhgggaa
open Go.RowKit
set_option linter.unusedVariables false
set_option linter.unusedSimpArgs false
theorem enC_nil : enC [] = [] := rfl
theorem enC_tail (p : Ent) (l : List Ent) : ((enC (p :: l)).drop ((1 : Int).toNat * 3)).take (l.length * 3) = enC l := by
  show ((enC (p :: l)).drop 3).take (l.length * 3) = enC l
  rw [← enC_len]
  simp [enC]
theorem enC_takeT (l : List Ent) (k : Nat) : ((enC l).drop (0 * 3)).take ((l.take k).length * 3) = enC (l.take k) := by
  have e : enC l = enC (l.take k) ++ enC (l.drop k) := by rw [← enC_append, List.take_append_drop]
  rw [e, Nat.zero_mul, List.drop_zero, ← enC_len]
  simp
theorem enC_dropT (l : List Ent) (k : Nat) (hk : k ≤ l.length) : ((enC l).drop (k * 3)).take ((l.drop k).length * 3) = enC (l.drop k) := by
  have e : enC l = enC (l.take k) ++ enC (l.drop k) := by rw [← enC_append, List.take_append_drop]
  have e2 : k * 3 = (enC (l.take k)).length := by rw [enC_len, List.length_take, Nat.min_eq_left hk]
  rw [e, e2, List.drop_left, ← enC_len, List.take_length]
abbrev vE (x y v : Int) : AV := .w (.agg [.c (.int .i64 x), .c (.int .i64 y), .c (.int .i64 v)])
set_option maxRecDepth 100000 in
set_option maxHeartbeats 4000000 in
theorem p_came {x y v a b w : Int} : PCall Try.prog 36 [vE x y v, vE a b w] (vB (ltV (x, y, v) (a, b, w))) := by
  refine pcall_body (f := 36) Try.func36 rfl rfl rfl rfl ?_
  (repeat (first | ((with_reducible apply al_q); exact rfl) | ((with_reducible apply awp_seq)) | ((with_reducible apply athen_normal)) | ((with_reducible apply awp_region)) | ((with_reducible apply al_nil)) | ((with_reducible apply awp_ret))))
  (first | (refine apost_ret rfl (resl_tmp rfl resl_nil) ?_))
  exact AV.Le.refl _
/-- what tells which came earlier. -/
abbrev vCame : AV := vC (.func (.func 36) #[] #[])
def MgE (M : List Ent) (lv : AV) (K : Nat) (m : Nat) (R : Rws) (ts : List (Nat × AV)) (ms : List (Nat × List AC)) : Prop :=
  ∃ (a b out : List Ent) (v : Value), m = a.length + b.length ∧ out ++ mrgE a b = M ∧ out.length + m = K ∧ R = row1 0 (nxRow v out) ∧ ts = [(0, vEn a), (1, vEn b), (2, lv), (7, vC v)] ∧ ms = []
set_option maxRecDepth 100000 in
set_option maxHeartbeats 8000000 in
theorem p_mergeE {a b : List Ent} (ha : a.length ≤ 100000) (hb : b.length ≤ 100000) :
    PCall Try.prog 51 [vEn a, vEn b, vCame] (vEn (mrgE a b)) := by
  refine pcall_body (f := 51) Try.func51 rfl rfl rfl rfl ?_
  refine awp_rows ?_
  (repeat (first | ((with_reducible apply rwp_seq)) | ((with_reducible apply rthen_normal)) | ((with_reducible apply rwp_region)) | ((with_reducible apply hs_nil)) | ((with_reducible apply hs_c); exact rfl; (repeat (first | ((with_reducible apply al_q); exact rfl) | ((with_reducible apply al_add); (iterate 3 exact rfl); (first | exact i64_wrap (by omega) | assumption | rfl); exact rfl) | ((with_reducible apply al_len); (iterate 3 exact rfl)))); (with_reducible apply al_nil))))
  refine hs_make (l := 0) (c' := a.length + b.length) 0 rfl rfl rfl rfl (Nat.zero_le _) rfl rfl ?h2 (le_maxLen (by omega)) rfl (fun v hv => ?_)
  case h2 => omega
  (repeat (first | ((with_reducible apply rwp_seq)) | ((with_reducible apply rthen_normal)) | ((with_reducible apply hs_nil)) | ((with_reducible apply rwp_block)) | ((with_reducible apply hs_c); exact rfl; (repeat (first | ((with_reducible apply al_q); exact rfl))); (with_reducible apply al_nil))))
  refine rwp_loopL 52 (MgE (mrgE a b) (vCame) (a.length + b.length)) (a.length + b.length) (row1 0 (nxRow v [])) _ _ ⟨a, b, [], v, rfl, rfl, Nat.zero_add _, rfl, rfl, rfl⟩ (row1_le _ _ _) rfl ⟨rfl, rfl, rfl, rfl, trivial⟩ trivial rfl ?_
  rintro m R ts ms ⟨a', b', out, v, rfl, hM, hK, rfl, rfl, rfl⟩ hok
  clear hok hv
  by_cases qa : 0 < a'.length
  · by_cases qb : 0 < b'.length
    · have qa' : (a'.length : Int) > 0 := by omega
      have qb' : (b'.length : Int) > 0 := by omega
      obtain ⟨⟨x, n, s⟩, a2, rfl⟩ := List.exists_cons_of_length_pos qa
      obtain ⟨⟨y, m, t⟩, b2, rfl⟩ := List.exists_cons_of_length_pos qb
      have E1 : ((enC ((x, n, s) :: a2)).drop ((0 : Int).toNat * 3)).take 3 = [.c (.int .i64 x), .c (.int .i64 n), .c (.int .i64 s)] := enC_xyv (j := 0) (i := 0) rfl rfl
      have E2 : ((enC ((y, m, t) :: b2)).drop ((0 : Int).toNat * 3)).take 3 = [.c (.int .i64 y), .c (.int .i64 m), .c (.int .i64 t)] := enC_xyv (j := 0) (i := 0) rfl rfl
      have C1 := p_came (x := y) (y := m) (v := t) (a := x) (b := n) (w := s)
      cases hlt : ltV (y, m, t) (x, n, s) with
      | true =>
        rw [hlt] at C1
        have e1 : ((y, m, t) :: b2).length - (1 : Int).toNat = b2.length := rfl
        have e2 := enC_tail (y, m, t) b2
        have hM' : (out ++ [(y, m, t)]) ++ mrgE ((x, n, s) :: a2) b2 = mrgE a b := by
          rw [← hM, mrgE, if_pos hlt, List.append_assoc]; rfl
        have hl1 : (out ++ [(y, m, t)]).length = out.length + 1 := List.length_append
        have hl2 : ((y, m, t) :: b2).length = b2.length + 1 := rfl
        have hl3 : ((x, n, s) :: a2).length = a2.length + 1 := rfl
        (repeat (first | ((with_reducible apply hs_nilS); kernel_rfl) | ((with_reducible apply rwp_draw (id := 3) [0,1,2,3,4,5,6,7]); kernel_rfl; kernel_rfl; exact rfl) | ((with_reducible apply rwp_draw (id := 4) [0,1,2,3,6,7,4,5,8,9]); kernel_rfl; kernel_rfl; exact rfl) | ((with_reducible apply rwp_seq)) | ((with_reducible apply rthen_normal)) | ((with_reducible apply rwp_region)) | ((with_reducible apply hs_nil)) | ((with_reducible apply rwp_skip)) | ((with_reducible apply rwp_block)) | ((with_reducible apply rwp_cond_1); exact rfl; (first | assumption | exact decide_eq_true (by omega) | (simp only [Bool.not_eq_true', decide_eq_false_iff_not, decide_eq_true_eq, Bool.not_eq_false']; (first | done | omega)) | exact rfl)) | ((with_reducible apply hs_c); exact rfl; (repeat (first | ((with_reducible apply al_q); exact rfl) | ((with_reducible apply al_loadPN); (iterate 5 exact rfl)) | ((with_reducible apply al_idxS); (iterate 3 exact rfl); (first | decide | omega); (first | decide | omega); (first | assumption | rfl); exact rfl) | ((with_reducible apply al_len); (iterate 3 exact rfl)) | ((with_reducible apply al_sl_l); (iterate 3 exact rfl); (first | assumption | omega); (first | assumption | omega); (first | assumption | rfl); (first | assumption | rfl); exact rfl) | ((with_reducible apply al_bslice); (iterate 10 exact rfl)) | (refine al_call2 rfl rfl rfl rfl (by (first | exact C1)) rfl ?_) | ((with_reducible apply al_guard_b (c := true)); exact rfl; exact rfl; (first | assumption | exact decide_eq_true (by omega) | (simp only [Bool.not_eq_true', decide_eq_false_iff_not, decide_eq_true_eq, Bool.not_eq_false']; (first | done | omega)))))); (with_reducible apply al_nil))))
        refine hs_app0 0 rfl rfl rfl rfl ?q1 ?q2 rfl rfl (fun v' hv' => ?_)
        case q1 => exact le_maxLen (by show out.length + 1 ≤ 1000000; omega)
        case q2 => show (out.length + 1) * 24 ≤ 140737488355328; omega
        (repeat (first | ((with_reducible apply hs_nilS); kernel_rfl) | ((with_reducible apply rthen_normal)) | ((with_reducible apply rblock_normal)) | ((with_reducible apply hs_c); exact rfl; (repeat (first | ((with_reducible apply al_q); exact rfl))); (with_reducible apply al_nil))))
        have e3 : nxRow v' (out ++ [(y, m, t)]) = ⟨69, 3, v', out.length + 1, enC out ++ [.c (.int .i64 y), .c (.int .i64 m), .c (.int .i64 t)]⟩ := by
          unfold nxRow; rw [← enC_one, List.length_append]; rfl
        refine ⟨_, row1 0 (nxRow v' (out ++ [(y, m, t)])), _, _, ?_, ⟨(x, n, s) :: a2, b2, out ++ [(y, m, t)], v', rfl, hM', ?_, rfl, rfl, rfl⟩, by rw [e3]; exact row1_le _ _ _, rfl, ⟨rfl, rfl, rfl, rfl, trivial⟩, trivial, rfl⟩
        · omega
        · omega
      | false =>
        rw [hlt] at C1
        have e1 : ((x, n, s) :: a2).length - (1 : Int).toNat = a2.length := rfl
        have e2 := enC_tail (x, n, s) a2
        have hM' : (out ++ [(x, n, s)]) ++ mrgE a2 ((y, m, t) :: b2) = mrgE a b := by
          rw [← hM, mrgE, if_neg (by rw [hlt]; decide), List.append_assoc]; rfl
        have hl1 : (out ++ [(x, n, s)]).length = out.length + 1 := List.length_append
        have hl2 : ((y, m, t) :: b2).length = b2.length + 1 := rfl
        have hl3 : ((x, n, s) :: a2).length = a2.length + 1 := rfl
        (repeat (first | ((with_reducible apply hs_nilS); kernel_rfl) | ((with_reducible apply rwp_draw (id := 3) [0,1,2,3,4,5,6,7]); kernel_rfl; kernel_rfl; exact rfl) | ((with_reducible apply rwp_draw (id := 5) [0,1,2,3,6,7,4,5,8,9]); kernel_rfl; kernel_rfl; exact rfl) | ((with_reducible apply rwp_seq)) | ((with_reducible apply rthen_normal)) | ((with_reducible apply rwp_region)) | ((with_reducible apply hs_nil)) | ((with_reducible apply rwp_skip)) | ((with_reducible apply rwp_block)) | ((with_reducible apply rwp_cond_1); exact rfl; (first | assumption | exact decide_eq_true (by omega) | (simp only [Bool.not_eq_true', decide_eq_false_iff_not, decide_eq_true_eq, Bool.not_eq_false']; (first | done | omega)) | exact rfl)) | ((with_reducible apply rwp_cond_0); exact rfl; (first | assumption | exact decide_eq_false (by omega) | (simp only [Bool.not_eq_true', decide_eq_false_iff_not, decide_eq_true_eq, Bool.not_eq_false']; (first | done | omega)) | exact rfl)) | ((with_reducible apply hs_c); exact rfl; (repeat (first | ((with_reducible apply al_q); exact rfl) | ((with_reducible apply al_loadPN); (iterate 5 exact rfl)) | ((with_reducible apply al_idxS); (iterate 3 exact rfl); (first | decide | omega); (first | decide | omega); (first | assumption | rfl); exact rfl) | ((with_reducible apply al_len); (iterate 3 exact rfl)) | ((with_reducible apply al_sl_l); (iterate 3 exact rfl); (first | assumption | omega); (first | assumption | omega); (first | assumption | rfl); (first | assumption | rfl); exact rfl) | ((with_reducible apply al_bslice); (iterate 10 exact rfl)) | (refine al_call2 rfl rfl rfl rfl (by (first | exact C1)) rfl ?_) | ((with_reducible apply al_guard_b (c := true)); exact rfl; exact rfl; (first | assumption | exact decide_eq_true (by omega) | (simp only [Bool.not_eq_true', decide_eq_false_iff_not, decide_eq_true_eq, Bool.not_eq_false']; (first | done | omega)))))); (with_reducible apply al_nil))))
        refine hs_app0 0 rfl rfl rfl rfl ?q1 ?q2 rfl rfl (fun v' hv' => ?_)
        case q1 => exact le_maxLen (by show out.length + 1 ≤ 1000000; omega)
        case q2 => show (out.length + 1) * 24 ≤ 140737488355328; omega
        (repeat (first | ((with_reducible apply hs_nilS); kernel_rfl) | ((with_reducible apply rthen_normal)) | ((with_reducible apply rblock_normal)) | ((with_reducible apply hs_c); exact rfl; (repeat (first | ((with_reducible apply al_q); exact rfl))); (with_reducible apply al_nil))))
        have e3 : nxRow v' (out ++ [(x, n, s)]) = ⟨69, 3, v', out.length + 1, enC out ++ [.c (.int .i64 x), .c (.int .i64 n), .c (.int .i64 s)]⟩ := by
          unfold nxRow; rw [← enC_one, List.length_append]; rfl
        refine ⟨_, row1 0 (nxRow v' (out ++ [(x, n, s)])), _, _, ?_, ⟨a2, (y, m, t) :: b2, out ++ [(x, n, s)], v', rfl, hM', ?_, rfl, rfl, rfl⟩, by rw [e3]; exact row1_le _ _ _, rfl, ⟨rfl, rfl, rfl, rfl, trivial⟩, trivial, rfl⟩
        · omega
        · omega
    · have qa' : (a'.length : Int) > 0 := by omega
      have qb' : ¬ (b'.length : Int) > 0 := by omega
      have hb0 : b' = [] := List.length_eq_zero_iff.1 (by omega)
      have hz : (a'.length : Int) = a'.length := rfl
      (repeat (first | ((with_reducible apply rwp_seq)) | ((with_reducible apply rthen_normal)) | ((with_reducible apply rwp_region)) | ((with_reducible apply hs_nil)) | ((with_reducible apply rblock_same)) | ((with_reducible apply rwp_exit)) | ((with_reducible apply rthen_exit)) | ((with_reducible apply rwp_cond_0); exact rfl; (first | assumption | exact decide_eq_false (by omega) | (simp only [Bool.not_eq_true', decide_eq_false_iff_not, decide_eq_true_eq, Bool.not_eq_false']; (first | done | omega)) | exact rfl)) | ((with_reducible apply hs_c); exact rfl; (repeat (first | ((with_reducible apply al_q); exact rfl) | ((with_reducible apply al_len); (iterate 3 exact rfl)) | ((with_reducible apply al_guard_b (c := true)); exact rfl; exact rfl; (first | assumption | exact decide_eq_true (by omega) | (simp only [Bool.not_eq_true', decide_eq_false_iff_not, decide_eq_true_eq, Bool.not_eq_false']; (first | done | omega)))))); (with_reducible apply al_nil))))
      refine hs_app0 0 rfl rfl rfl rfl ?q1 ?q2 (enC_closed _) rfl (fun v' hv' => ?_)
      case q1 => exact le_maxLen (by show out.length + a'.length ≤ 1000000; omega)
      case q2 => show (out.length + a'.length) * 24 ≤ 140737488355328; omega
      (repeat (first | ((with_reducible apply rwp_seq)) | ((with_reducible apply rthen_normal)) | ((with_reducible apply rwp_region)) | ((with_reducible apply hs_nil)) | ((with_reducible apply hs_c); exact rfl; (repeat (first | ((with_reducible apply al_q); exact rfl))); (with_reducible apply al_nil))))
      refine hs_appC (k := (mrgE a b).length) (zs := enC (mrgE a b)) 0 rfl rfl rfl rfl ?p1 ?p2 ?p3 ?p4 (enC_closed _) rfl ?_
      case p1 => exact le_maxLen (by show (out.length + a'.length) + b'.length ≤ 1000000; omega)
      case p2 => show ((out.length + a'.length) + b'.length) * 24 ≤ 140737488355328; omega
      case p3 => show (out.length + a'.length) + b'.length = (mrgE a b).length; rw [mrgE_len]; omega
      case p4 => show (enC out ++ enC a') ++ enC b' = enC (mrgE a b); rw [← hM, hb0, mrgE_nil, ← enC_append, enC_nil, List.append_nil]
      (repeat (first | ((with_reducible apply rthen_normal)) | ((with_reducible apply hs_nil)) | ((with_reducible apply rwp_ret)) | ((with_reducible apply hs_c); exact rfl; (repeat (first | ((with_reducible apply al_q); exact rfl))); (with_reducible apply al_nil))))
      (first | (refine apost_ret rfl (resl_tmp rfl resl_nil) ?_))
      exact AV.Le.refl _
  · have qa' : ¬ (a'.length : Int) > 0 := by omega
    have ha0 : a' = [] := List.length_eq_zero_iff.1 (by omega)
    (repeat (first | ((with_reducible apply rwp_seq)) | ((with_reducible apply rthen_normal)) | ((with_reducible apply rwp_region)) | ((with_reducible apply hs_nil)) | ((with_reducible apply rblock_same)) | ((with_reducible apply rwp_exit)) | ((with_reducible apply rthen_exit)) | ((with_reducible apply rwp_cond_0); exact rfl; (first | assumption | exact decide_eq_false (by omega) | (simp only [Bool.not_eq_true', decide_eq_false_iff_not, decide_eq_true_eq, Bool.not_eq_false']; (first | done | omega)) | exact rfl)) | ((with_reducible apply hs_c); exact rfl; (repeat (first | ((with_reducible apply al_q); exact rfl) | ((with_reducible apply al_len); (iterate 3 exact rfl)) | ((with_reducible apply al_guard_b (c := false)); exact rfl; exact rfl; (first | assumption | exact decide_eq_false (by omega) | (simp only [Bool.not_eq_true', decide_eq_false_iff_not, decide_eq_true_eq, Bool.not_eq_false']; (first | done | omega)))))); (with_reducible apply al_nil))))
    refine hs_app0 0 rfl rfl rfl rfl ?q1 ?q2 (enC_closed _) rfl (fun v' hv' => ?_)
    case q1 => exact le_maxLen (by show out.length + a'.length ≤ 1000000; omega)
    case q2 => show (out.length + a'.length) * 24 ≤ 140737488355328; omega
    (repeat (first | ((with_reducible apply rwp_seq)) | ((with_reducible apply rthen_normal)) | ((with_reducible apply rwp_region)) | ((with_reducible apply hs_nil)) | ((with_reducible apply hs_c); exact rfl; (repeat (first | ((with_reducible apply al_q); exact rfl))); (with_reducible apply al_nil))))
    refine hs_appC (k := (mrgE a b).length) (zs := enC (mrgE a b)) 0 rfl rfl rfl rfl ?p1 ?p2 ?p3 ?p4 (enC_closed _) rfl ?_
    case p1 => exact le_maxLen (by show (out.length + a'.length) + b'.length ≤ 1000000; omega)
    case p2 => show ((out.length + a'.length) + b'.length) * 24 ≤ 140737488355328; omega
    case p3 => show (out.length + a'.length) + b'.length = (mrgE a b).length; rw [mrgE_len]; omega
    case p4 => show (enC out ++ enC a') ++ enC b' = enC (mrgE a b); rw [← hM, ha0, mrgE_nil', enC_nil, List.append_nil, ← enC_append]
    (repeat (first | ((with_reducible apply rthen_normal)) | ((with_reducible apply hs_nil)) | ((with_reducible apply rwp_ret)) | ((with_reducible apply hs_c); exact rfl; (repeat (first | ((with_reducible apply al_q); exact rfl))); (with_reducible apply al_nil))))
    (first | (refine apost_ret rfl (resl_tmp rfl resl_nil) ?_))
    exact AV.Le.refl _
set_option maxRecDepth 100000 in
set_option maxHeartbeats 8000000 in
theorem p_SortE :
    ∀ (N : Nat) (l : List Ent), l.length ≤ N → N ≤ 100000 → PCall Try.prog 34 [vEn l, vCame] (vEn (srtE l)) := by
  intro N
  induction N with
  | zero =>
    intro l h1 h2
    have C0 := p_mergeE (a := l) (b := []) (by omega) (by simp)
    rw [mrgE_nil] at C0
    have C1 : PCall Try.prog 51 [vEn l, vNil, vCame] (vEn l) := pcall_le C0 rfl rfl (by
      intro i x y hx hy
      match i with
      | 0 => cases hx; cases hy; exact .refl _
      | 1 => cases hx; cases hy; exact nil_le 3
      | 2 => cases hx; cases hy; exact .refl _
      | i + 3 => simp at hx)
    have q1 : (l.length : Int) < 2 := by omega
    have e : srtE l = l := by rw [srtE, dif_pos (by omega)]
    rw [e]
    clear C0
    refine pcall_body (f := 34) Try.func34 rfl rfl rfl rfl ?_
    (repeat (first | ((with_reducible apply al_q); exact rfl) | ((with_reducible apply al_len); (iterate 3 exact rfl)) | (refine al_call3 rfl rfl rfl rfl rfl (by (first | exact C1)) rfl ?_) | ((with_reducible apply awp_seq)) | ((with_reducible apply athen_normal)) | ((with_reducible apply awp_region)) | ((with_reducible apply al_nil)) | ((with_reducible apply awp_ret)) | ((with_reducible apply athen_ret)) | ((with_reducible apply awp_cond_1); exact rfl; (first | assumption | exact decide_eq_true (by omega) | (simp only [Bool.not_eq_true', decide_eq_false_iff_not, decide_eq_true_eq, Bool.not_eq_false']; (first | done | omega))))))
    (first | (refine apost_ret rfl (resl_tmp rfl resl_nil) ?_))
    exact AV.Le.refl _
  | succ N ih =>
    intro l h1 h2
    by_cases q : l.length < 2
    · have C0 := p_mergeE (a := l) (b := []) (by omega) (by simp)
      rw [mrgE_nil] at C0
      have C1 : PCall Try.prog 51 [vEn l, vNil, vCame] (vEn l) := pcall_le C0 rfl rfl (by
        intro i x y hx hy
        match i with
        | 0 => cases hx; cases hy; exact .refl _
        | 1 => cases hx; cases hy; exact nil_le 3
        | 2 => cases hx; cases hy; exact .refl _
        | i + 3 => simp at hx)
      have q1 : (l.length : Int) < 2 := by omega
      have e : srtE l = l := by rw [srtE, dif_pos (by omega)]
      rw [e]
      clear C0 ih
      refine pcall_body (f := 34) Try.func34 rfl rfl rfl rfl ?_
      (repeat (first | ((with_reducible apply al_q); exact rfl) | ((with_reducible apply al_len); (iterate 3 exact rfl)) | (refine al_call3 rfl rfl rfl rfl rfl (by (first | exact C1)) rfl ?_) | ((with_reducible apply awp_seq)) | ((with_reducible apply athen_normal)) | ((with_reducible apply awp_region)) | ((with_reducible apply al_nil)) | ((with_reducible apply awp_ret)) | ((with_reducible apply athen_ret)) | ((with_reducible apply awp_cond_1); exact rfl; (first | assumption | exact decide_eq_true (by omega) | (simp only [Bool.not_eq_true', decide_eq_false_iff_not, decide_eq_true_eq, Bool.not_eq_false']; (first | done | omega))))))
      (first | (refine apost_ret rfl (resl_tmp rfl resl_nil) ?_))
      exact AV.Le.refl _
    · have q1 : ¬ (l.length : Int) < 2 := by omega
      have e : srtE l = mrgE (srtE (l.take (l.length / 2))) (srtE (l.drop (l.length / 2))) := by rw [srtE, dif_neg q]
      have C1 := ih (l.take (l.length / 2)) (by simp; omega) (by omega)
      have C2 := ih (l.drop (l.length / 2)) (by simp; omega) (by omega)
      have l1 := srtE_len (l.take (l.length / 2))
      have l2 := srtE_len (l.drop (l.length / 2))
      have C3 := p_mergeE (a := srtE (l.take (l.length / 2))) (b := srtE (l.drop (l.length / 2))) (by rw [l1]; simp; omega) (by rw [l2]; simp; omega)
      have hh : ((l.length : Int) / 2).toNat = l.length / 2 := by omega
      have e1 : ((l.length : Int) / 2).toNat - 0 = (l.take (l.length / 2)).length := by rw [hh]; simp; omega
      have e2 := enC_takeT l (l.length / 2)
      have e3 : ((l.length : Int)).toNat - ((l.length : Int) / 2).toNat = (l.drop (l.length / 2)).length := by rw [hh]; simp
      have e4 := enC_dropT l (l.length / 2) (by omega)
      have e5 : ((enC l).drop (((l.length : Int) / 2).toNat * 3)).take ((l.drop (l.length / 2)).length * 3) = enC (l.drop (l.length / 2)) := by rw [hh]; exact e4
      rw [e]
      clear ih l1 l2 e e4 hh
      refine pcall_body (f := 34) Try.func34 rfl rfl rfl rfl ?_
      (repeat (first | ((with_reducible apply al_q); exact rfl) | ((with_reducible apply al_len); (iterate 3 exact rfl)) | ((with_reducible apply al_sl_hm); (iterate 4 exact rfl); (first | assumption | omega); (first | assumption | omega); (first | assumption | omega); (first | assumption | rfl); (first | assumption | rfl); exact rfl) | ((with_reducible apply al_sl_lhm); (iterate 5 exact rfl); (first | assumption | omega); (first | assumption | omega); (first | assumption | omega); (first | assumption | omega); (first | assumption | rfl); (first | assumption | rfl); exact rfl) | ((with_reducible apply al_quo); (iterate 3 exact rfl); omega; omega; omega; exact rfl) | (refine al_call2 rfl rfl rfl rfl (by (first | exact C1 | exact C2 | exact C3)) rfl ?_) | (refine al_call3 rfl rfl rfl rfl rfl (by (first | exact C1 | exact C2 | exact C3)) rfl ?_) | ((with_reducible apply al_nilS); kernel_rfl) | ((with_reducible apply awp_region_draw); kernel_rfl; kernel_rfl; exact rfl) | ((with_reducible apply awp_seq)) | ((with_reducible apply athen_normal)) | ((with_reducible apply awp_region)) | ((with_reducible apply al_nil)) | ((with_reducible apply awp_ret)) | ((with_reducible apply awp_skip)) | ((with_reducible apply awp_cond_0); exact rfl; (first | assumption | exact decide_eq_false (by omega) | (simp only [Bool.not_eq_true', decide_eq_false_iff_not, decide_eq_true_eq, Bool.not_eq_false']; (first | done | omega))))))
      (first | (refine apost_ret rfl (resl_tmp rfl resl_nil) ?_))
      exact AV.Le.refl _
end Go.Proofs.Ytaennpehlhgggaa

namespace Go.Proofs.Ytaennpehlhgggaa
open Go.RowKit Go.Lib
set_option linter.unusedVariables false
set_option linter.unusedSimpArgs false
section
variable {P : Program}
/-- copy into a row of plain memory, of things of some cells each. -/
theorem run_copy_rowz (w : World) (dT sT ty elem : TypeId) (g o dLen dCap z : Nat) (a : Addr) (sLen sCap : Nat) (cur : Array Value) (t : TypeId) (cs : List Value)
    (hu : P.underlying dT = some (.slice elem)) (hs : (P.info? elem).map (·.size) = some z)
    (hg : w.heap[g]? = some (.cells cur t (0, 0))) (hn : cs.length = Nat.min sLen dLen * z)
    (hsrc : ∀ j v, cs[j]? = some v → w.cell? (a.add j) = some v) (hfit : o + cs.length ≤ cur.size) (h1 : ∀ v ∈ cs, v.oneCell' = true) :
    (Builtin.copy_ #[dT, sT] ty #[.slice (some ⟨g, o, none⟩) dLen dCap, .slice (some a) sLen sCap]).run P w =
      .ok (goInt (Nat.min sLen dLen)) (w.setRow g (cur.toList.take o ++ cs ++ cur.toList.drop (o + cs.length)).toArray) := by
  have hl := run_loadCells_list (P := P) w a cs hsrc
  have hst := run_storeCells_at P g o t cs 0 cur w hg (by simpa using hfit) h1
  cases hq : P.info? elem with
  | none => simp [hq] at hs
  | some i =>
    have hi : i.size = z := by simpa [hq] using hs
    simp [Builtin.copy_, run_underlying hu, Builtin.lenOf, Builtin.firstCells, sizeOf, typeInfo, hq, hi, ← hn, hl, hst]
end
theorem cell_shape {w : World} {a : Addr} {v : Value} (h : w.cell? a = some v) : ∃ t k, w.shape? a.block = some (t, k) ∧ k ≠ 0 := by
  unfold World.cell? at h
  unfold World.shape?
  cases hb : w.heap[a.block]? with
  | none => rw [hb] at h; cases h
  | some o =>
    rw [hb] at h
    cases o with
    | cells c t fr =>
      refine ⟨t, c.size, rfl, fun e => ?_⟩
      simp only at h
      split at h
      · cases h
      · have := (Array.getElem?_eq_some_iff.1 h).1; omega
    | _ => cases h
/-- two rows in two blocks, the second one plain memory. -/
theorem run_overlaps_two {P : Program} (w : World) (tS tR e : TypeId) (ht : P.underlying tS = some (.slice e)) (size : Nat) (hz : ∀ w, (Go.sizeOf e).run P w = .ok size w)
    (a b : Addr) (la ca lb cb : Nat) (hne : a.block ≠ b.block) (v : Value) (ha : w.cell? a = some v) (cur : Array Value) (tB : TypeId) (hb : w.heap[b.block]? = some (.cells cur tB (0, 0))) (hc : cur.size ≠ 0) :
    (Extern.SlicesOverlaps.overlaps #[tS, tS] #[tR] #[.slice (some a) la ca, .slice (some b) lb cb]).run P w = .ok (.bool false) w := by
  obtain ⟨tA, kA, hsa, hkA⟩ := cell_shape ha
  have hsb : w.shape? b.block = some (tB, cur.size) := by unfold World.shape?; rw [hb]
  have hfb : ∀ x : Addr, x.block = b.block → w.frozen? x = false := fun x hx => by unfold World.frozen?; rw [hx, hb]; simp
  have hnb : (a.block != b.block) = true := by simpa using hne
  have hnb' : (a.block == b.block) = false := by simpa using hne
  have f1 := hfb b rfl
  have f2 := hfb { block := b.block, off := cur.size } rfl
  have key : ∀ (m : Sem Value), m = Extern.SlicesOverlaps.overlaps #[tS, tS] #[tR] #[.slice (some a) la ca, .slice (some b) lb cb] → m.run P w = .ok (.bool false) w := by
    intro m hm
    conv at hm => rhs; whnf
    subst hm
    have eb : ∀ {α β : Type} (x : Sem α) (f : α → Sem β), x.bind f = x >>= f := fun _ _ => rfl
    have ep : ∀ {α : Type} (x : α), Sem.pure x = (pure x : Sem α) := fun _ => rfl
    have er : ∀ {α : Type} (f : Program → Sem α), (Sem.program f).run P w = (f P).run P w := fun _ => rfl
    rw [er]
    simp only [eb, ep, Sem.run_bind, Sem.run_pure, Result.andThen_ok, List.getElem_toArray, List.getElem_cons_zero, ht]
    by_cases h0 : la = 0 ∨ lb = 0 ∨ size = 0
    · simp [hz, h0]
    · obtain ⟨kA, rfl⟩ : ∃ k, kA = k + 1 := ⟨kA - 1, by omega⟩
      generalize cur.size = kB at *
      obtain ⟨kB, rfl⟩ : ∃ k, kB = k + 1 := ⟨kB - 1, by omega⟩
      cases hfa : w.frozen? a <;> cases hfe : w.frozen? { block := a.block, off := kA + 1 } <;>
        simp [hz, h0, hnb, hnb', frozen, noView, viewAt, mayBeOne, stringish, shape, Sem.run, hsa, hsb, f1, f2, hfa, hfe]
  exact key _ rfl
/-- what stands there when one thing is put in, in place. -/
theorem ins_list (cur news : List Value) {i n cap : Nat} (hi : i < n) (hroom : n + 1 ≤ cap) (hc : cur.length = cap * 3) (hnl : news.length = 3) :
    let c1 := cur.take ((i + 1) * 3) ++ (cur.drop (i * 3)).take ((n - i) * 3) ++ cur.drop ((i + 1) * 3 + ((cur.drop (i * 3)).take ((n - i) * 3)).length)
    let c2 := c1.take (i * 3) ++ news ++ c1.drop (i * 3 + news.length)
    c1.length = cap * 3 ∧ c2.length = cap * 3 ∧ c2.take ((n + 1) * 3) = (cur.take (n * 3)).take (i * 3) ++ news ++ (cur.take (n * 3)).drop (i * 3) := by
  have e0 : ((cur.drop (i * 3)).take ((n - i) * 3)).length = (n - i) * 3 := by rw [List.length_take, List.length_drop]; omega
  intro c1 c2
  have e1 : c1.length = cap * 3 := by simp only [c1, List.length_append, List.length_take, List.length_drop, e0]; omega
  have e2 : c2.length = cap * 3 := by simp only [c2, List.length_append, List.length_take, List.length_drop, e1, hnl]; omega
  have g1 : ∀ j, c1[j]? = if j < (i + 1) * 3 then cur[j]? else if j < (n + 1) * 3 then cur[j - 3]? else cur[j]? := fun j => by
    simp only [c1]
    have t1 : (cur.take ((i + 1) * 3)).length = (i + 1) * 3 := by rw [List.length_take]; omega
    by_cases q1 : j < (i + 1) * 3
    · rw [if_pos q1, List.append_assoc, List.getElem?_append_left (by omega), List.getElem?_take_of_lt q1]
    · rw [if_neg q1]
      by_cases q2 : j < (n + 1) * 3
      · rw [if_pos q2, List.getElem?_append_left (by rw [List.length_append]; omega), List.getElem?_append_right (by omega), List.getElem?_take_of_lt (by omega), List.getElem?_drop, t1]
        congr 1; omega
      · rw [if_neg q2, List.getElem?_append_right (by rw [List.length_append]; omega), List.getElem?_drop, List.length_append, t1, e0]
        congr 1; omega
  refine ⟨e1, e2, ?_⟩
  have t2 : (c1.take (i * 3)).length = i * 3 := by rw [List.length_take]; omega
  have t3 : ((cur.take (n * 3)).take (i * 3)).length = i * 3 := by rw [List.length_take, List.length_take]; omega
  apply List.ext_getElem?
  intro j
  by_cases q0 : j < (n + 1) * 3
  · rw [List.getElem?_take_of_lt q0]
    simp only [c2]
    by_cases q1 : j < i * 3
    · rw [List.append_assoc, List.getElem?_append_left (by omega), List.getElem?_take_of_lt q1, g1, if_pos (by omega), List.append_assoc, List.getElem?_append_left (by omega), List.getElem?_take_of_lt q1, List.getElem?_take_of_lt (by omega)]
    · by_cases q2 : j < (i + 1) * 3
      · rw [List.append_assoc, List.getElem?_append_right (by omega), List.getElem?_append_left (by omega), List.append_assoc, List.getElem?_append_right (by omega), List.getElem?_append_left (by omega), t2, t3]
      · rw [List.getElem?_append_right (by rw [List.length_append]; omega), List.getElem?_drop, g1, List.getElem?_append_right (by rw [List.length_append]; omega), List.getElem?_drop, List.length_append, List.length_append, t2, t3, hnl, if_neg (by omega), if_pos (by omega), List.getElem?_take_of_lt (by omega)]
        congr 1; omega
  · rw [List.getElem?_eq_none (by rw [List.length_take]; omega), List.getElem?_eq_none]
    simp only [List.length_append, t3, hnl, List.length_drop, List.length_take]
    omega
section
variable (W : World) (g n cap i : Nat) (cur : Array Value) (news : List Value) (vb : Addr) (vc : Nat)
set_option maxHeartbeats 4000000 in
set_option maxRecDepth 100000 in
/-- there is room, and it is not the end. -/
theorem ins_room (hg : W.heap[g]? = some (.cells cur 69 (0, 0))) (hi : i < n) (hroom : n + 1 ≤ cap) (hcap : cap ≤ 9223372036854775807) (hcs : cur.size = cap * 3) (hone : ∀ v ∈ cur.toList.take (n * 3), v.oneCell' = true)
    (hnl : news.length = 3) (hnews : ∀ j v, news[j]? = some v → W.cell? (vb.add j) = some v) (h1 : ∀ v ∈ news, v.oneCell' = true) (hne : vb.block ≠ g) :
    Calls Try.prog 50 #[.slice (some ⟨g, 0, none⟩) n cap, .int .i64 i, .slice (some vb) 1 vc] W fun e W' =>
      e = .returned (.slice (some ⟨g, 0, none⟩) (n + 1) cap) ∧ ∃ cur' : Array Value, W' = W.drew.setRow g cur' ∧ cur'.size = cap * 3 ∧ cur'.toList.take ((n + 1) * 3) = (cur.toList.take (n * 3)).take (i * 3) ++ news ++ (cur.toList.take (n * 3)).drop (i * 3) := by
  obtain ⟨ti, z, hu, hti, hzz, hsize, hby, hzs, hsz⟩ := rowTy_spec (P := Try.prog) (tt := 42) (e := 69) (sz := 3) (bytes := 24) (by kernel_rfl)
  have hs3 : (Try.prog.info? 69).map (·.size) = some 3 := by rw [hti]; simp [hsize]
  have hz2 : ¬ ((i : Int) = (n : Int)) := by omega
  have hw1 : IntKind.i64.wrap ((i : Int) + 1) = (i : Int) + 1 := by rw [IntKind.wrap_i64]; omega
  have hw2 : IntKind.i64.wrap ((n : Int) + 1) = (n : Int) + 1 := by rw [IntKind.wrap_i64]; omega
  have hb1 : (0 : Int) ≤ (i : Int) + 1 := by omega
  have hin : i ≤ n := by omega
  have hb2 : ¬ (cap = i + 1) := by omega
  have hb3 : (i : Int) ≤ (n : Int) + 1 := by omega
  have hb4 : ¬ (cap = i) := by omega
  have hov : (callFunc 70 #[.slice (some vb) 1 vc, .slice (some ⟨g, (i + 1) * 3, none⟩) (n - i) (cap - (i + 1))]).run Try.prog W = .ok (.value (.bool false)) W := by
    rw [run_callFunc_extern Try.func70 (by kernel_rfl) (by kernel_rfl) (by kernel_rfl) (e := Extern.SlicesOverlaps.overlaps #[42, 42] #[4]) (by kernel_rfl),
      run_overlaps_two W _ _ 69 hu 3 (fun w => by rw [run_sizeOf' hti, hsize]) vb ⟨g, (i + 1) * 3, none⟩ 1 vc _ _ hne news[0] (by have := hnews 0 news[0] (List.getElem?_eq_getElem (by omega)); rwa [show vb.add 0 = vb from by unfold Addr.add; split <;> simp_all] at this) cur _ hg (by omega)]
    rfl
  obtain ⟨k1, k2, k3⟩ := ins_list cur.toList news hi hroom (by simpa using hcs) hnl
  generalize hcc : (cur.toList.drop (i * 3)).take ((n - i) * 3) = cc at *
  have hcl : cc.length = (n - i) * 3 := by rw [← hcc, List.length_take, List.length_drop, Array.length_toList]; omega
  have hcp1 : ∀ ty dc sc, (Builtin.copy_ #[42, 42] ty #[.slice (some ⟨g, (i + 1) * 3, none⟩) (n - i) dc, .slice (some ⟨g, i * 3, none⟩) (n + 1 - i) sc]).run Try.prog W.drew = .ok (goInt ((n - i : Nat) : Int)) (W.drew.setRow g (cur.toList.take ((i + 1) * 3) ++ cc ++ cur.toList.drop ((i + 1) * 3 + cc.length)).toArray) := fun ty dc sc => by
    have hm : Nat.min (n + 1 - i) (n - i) = n - i := Nat.min_eq_right (by omega)
    have := run_copy_rowz (P := Try.prog) W.drew 42 42 ty 69 g ((i + 1) * 3) (n - i) dc 3 ⟨g, i * 3, none⟩ (n + 1 - i) sc cur 69 cc hu hs3 hg (by rw [hm, hcl]) (fun j v hj => ?_) (by rw [hcl]; omega) (fun v hv => ?_)
    · rw [hm] at this; exact this
    · rw [Addr.add_lit]
      have hl : j < (n - i) * 3 := by rw [← hcl]; exact (List.getElem?_eq_some_iff.1 hj).1
      rw [← hcc, List.getElem?_take_of_lt hl, List.getElem?_drop] at hj
      show (W.drew.cell? _) = _
      unfold World.cell?
      rw [show W.drew.heap[(⟨g, i * 3 + j, none⟩ : Addr).block]? = some (.cells cur 69 (0, 0)) from hg]
      simpa using hj
    · refine hone v ?_
      obtain ⟨j, hj⟩ := List.getElem?_of_mem hv
      have hl : j < (n - i) * 3 := by rw [← hcl]; exact (List.getElem?_eq_some_iff.1 hj).1
      rw [← hcc, List.getElem?_take_of_lt hl, List.getElem?_drop] at hj
      exact List.mem_of_getElem? (i := i * 3 + j) (by rw [List.getElem?_take_of_lt (by omega)]; exact hj)
  generalize hc1 : cur.toList.take ((i + 1) * 3) ++ cc ++ cur.toList.drop ((i + 1) * 3 + cc.length) = c1 at *
  have hr1 := setRow_heap W.drew g cur c1.toArray _ (0, 0) hg
  have hcp2 : ∀ ty dc, (Builtin.copy_ #[42, 42] ty #[.slice (some ⟨g, i * 3, none⟩) (n + 1 - i) dc, .slice (some vb) 1 vc]).run Try.prog (W.drew.setRow g c1.toArray) = .ok (goInt ((1 : Nat) : Int)) ((W.drew.setRow g c1.toArray).setRow g (c1.take (i * 3) ++ news ++ c1.drop (i * 3 + news.length)).toArray) := fun ty dc => by
    have hm : Nat.min 1 (n + 1 - i) = 1 := Nat.min_eq_left (by omega)
    have := run_copy_rowz (P := Try.prog) (W.drew.setRow g c1.toArray) 42 42 ty 69 g (i * 3) (n + 1 - i) dc 3 vb 1 vc c1.toArray 69 news hu hs3 hr1 (by rw [hm, hnl]) (fun j v hj => ?_) (by rw [hnl]; simp [k1]; omega) h1
    · rw [hm] at this; simpa using this
    rw [← hnews j v hj]
    refine World.cell?_of_block (w := W) ?_
    show (World.setRow _ _ _).heap[(vb.add j).block]? = _
    rw [block_add]
    simp only [World.setRow, Array.getElem?_modify]
    rw [if_neg (fun e => hne e.symm)]
    rfl
  generalize hc2 : c1.take (i * 3) ++ news ++ c1.drop (i * 3 + news.length) = c2 at *
  clear hg hcc hc1 hc2 hone hnews h1 hr1 hti hzz
  go_enter Try.func50, Try.ntmps50
  go_wp2_with (simp only [hov])
  have mixed : Try.prog.follows .mixedOrders = true := by kernel_rfl
  go_region_law_o (refine step_copy_runI rfl _ _ 42 42 rfl _ _ (by simp [Act.eval, Act.put]) (by simp [Act.eval, Act.put]) (hcp1 _ _ _) ?_)
  go_wp2_with (at_builtin; refine wpList_copy_runI _ rfl _ _ 42 42 rfl _ _ rfl rfl (hcp2 _ _) ?_)
  go_ret
  exact ⟨rfl, c2.toArray, setRow_setRow _ _ _ _, by simpa using k2, by simpa using k3⟩
/-- what stands in a new row when one thing is put in. -/
theorem ins_list2 (R xs news : List Value) {i n G : Nat} (hi : i < n) (hG : n + 1 ≤ G) (hR : R.length = G * 3) (hx : xs.length = n * 3) (hRx : R.take (i * 3) = xs.take (i * 3)) (hnl : news.length = 3) :
    let c1 := R.take (i * 3) ++ news ++ R.drop (i * 3 + news.length)
    let c2 := c1.take ((i + 1) * 3) ++ xs.drop (i * 3) ++ c1.drop ((i + 1) * 3 + (xs.drop (i * 3)).length)
    c1.length = G * 3 ∧ c2.length = G * 3 ∧ c2.take ((n + 1) * 3) = xs.take (i * 3) ++ news ++ xs.drop (i * 3) := by
  have t1 : (xs.take (i * 3)).length = i * 3 := by rw [List.length_take]; omega
  have t2 : (xs.drop (i * 3)).length = (n - i) * 3 := by rw [List.length_drop]; omega
  intro c1 c2
  have e1 : c1.length = G * 3 := by simp only [c1, hRx, List.length_append, t1, List.length_drop, hR, hnl]; omega
  have e3 : c1.take ((i + 1) * 3) = xs.take (i * 3) ++ news := by
    simp only [c1, hRx]
    rw [List.take_append_of_le_length (by rw [List.length_append, t1, hnl]; omega), List.take_of_length_le (by rw [List.length_append, t1, hnl]; omega)]
  have e2 : c2.length = G * 3 := by simp only [c2, e3, List.length_append, t1, t2, List.length_drop, e1, hnl]; omega
  refine ⟨e1, e2, ?_⟩
  simp only [c2, e3]
  rw [List.take_append_of_le_length (by simp only [List.length_append, t1, t2, hnl]; omega), List.take_of_length_le (by simp only [List.length_append, t1, t2, hnl]; omega)]
set_option maxHeartbeats 4000000 in
set_option maxRecDepth 100000 in
/-- there is no room, and it is not the end: a new row. -/
theorem ins_grow (xs : List Value) (hg : W.heap[g]? = some (.cells cur 69 (0, 0))) (hxs : cur.toList.take (n * 3) = xs) (hxl : xs.length = n * 3) (hi : i < n) (hnc : n ≤ cap) (hroom : cap < n + 1) (hbig : (n + 1) * 24 ≤ 140737488355328) (hone : ∀ v ∈ xs, v.oneCell' = true)
    (hnl : news.length = 3) (hnews : ∀ j v, news[j]? = some v → W.cell? (vb.add j) = some v) (h1 : ∀ v ∈ news, v.oneCell' = true) :
    Calls Try.prog 50 #[.slice (some ⟨g, 0, none⟩) n cap, .int .i64 i, .slice (some vb) 1 vc] W fun e W' =>
      ∃ G cur' o, e = .returned (.slice (some ⟨W.heap.size, 0, none⟩) (n + 1) G) ∧ W'.heap = ((W.alloc o).setRow W.heap.size cur').heap ∧ W'.os = W.os ∧ W'.tape = W.tape ∧ W'.output = W.output ∧ (∃ c0, o = .cells c0 69 (0, 0)) ∧ n + 1 ≤ G ∧ G ≤ maxLen ∧ cur'.size = G * 3 ∧ cur'.toList.take ((n + 1) * 3) = xs.take (i * 3) ++ news ++ xs.drop (i * 3) := by
  obtain ⟨ti, z, hu, hti, hzz, hsize, hby, hzs, hsz⟩ := rowTy_spec (P := Try.prog) (tt := 42) (e := 69) (sz := 3) (bytes := 24) (by kernel_rfl)
  have hs3 : (Try.prog.info? 69).map (·.size) = some 3 := by rw [hti]; simp [hsize]
  have hcell : ∀ j v, xs[j]? = some v → W.cell? ⟨g, j, none⟩ = some v := fun j v hj => by
    have hl : j < n * 3 := by rw [← hxl]; exact (List.getElem?_eq_some_iff.1 hj).1
    rw [← hxs, List.getElem?_take_of_lt hl] at hj
    unfold World.cell?
    rw [show W.heap[(⟨g, j, none⟩ : Addr).block]? = some (.cells cur 69 (0, 0)) from hg]
    simpa using hj
  have hgl : g < W.heap.size := (Array.getElem?_eq_some_iff.1 hg).1
  have hvl : vb.block < W.heap.size := by
    have := hnews 0 news[0] (List.getElem?_eq_getElem (by omega))
    obtain ⟨t, k, h, _⟩ := cell_shape this
    rw [block_add] at h
    unfold World.shape? at h
    cases hq : W.heap[vb.block]? with
    | none => rw [hq] at h; cases h
    | some o => exact (Array.getElem?_eq_some_iff.1 hq).1
  have hz2 : ¬ ((i : Int) = (n : Int)) := by omega
  have hz3 : (cap : Int) < (n : Int) + 1 := by omega
  have hw1 : IntKind.i64.wrap ((i : Int) + 1) = (i : Int) + 1 := by rw [IntKind.wrap_i64]; omega
  have hw2 : IntKind.i64.wrap ((n : Int) + 1) = (n : Int) + 1 := by rw [IntKind.wrap_i64]; omega
  have hkk : (n : Int) + 1 - (i : Int) = ((n + 1 - i : Nat) : Int) := by omega
  have hw3 : IntKind.i64.wrap ((n : Int) + 1 - (i : Int)) = (n : Int) + 1 - (i : Int) := by rw [IntKind.wrap_i64]; omega
  have hik : i + (n + 1 - i) = n + 1 := by omega
  have hold : (Builtin.firstCells ti.size i (.slice (some ⟨g, 0, none⟩) i cap)).run Try.prog W.drew = .ok (xs.take (i * 3)).toArray W.drew := by
    rw [hsize]
    exact run_firstCells_some W.drew 3 i ⟨g, 0, none⟩ i cap (xs.take (i * 3)) (by rw [List.length_take]; omega) (fun j v hj => by
      rw [Addr.add_lit, Nat.zero_add]
      rw [List.getElem?_take] at hj
      split at hj
      · exact hcell j v hj
      · cases hj)
  obtain ⟨G, hG⟩ : ∃ G, G = grownCap W (n + 1) cap 69 := ⟨_, rfl⟩
  have hGn : n + 1 ≤ G := by rw [hG]; exact grownCap_ge W _ _ _
  have hGm : G ≤ maxLen := by rw [hG]; exact grownCap_le_maxLen W (n + 1) cap _ (by unfold maxLen; omega)
  have hG63 : G ≤ 9223372036854775807 := by unfold maxLen at hGm; omega
  obtain ⟨ROW, hROW⟩ : ∃ ROW : Array Value, ROW = (xs.take (i * 3)).toArray ++ Builtin.zeroCells z.cells (n + 1 - i) ++ Builtin.zeroCells z.cells (G - (n + 1)) := ⟨_, rfl⟩
  have hrz : ∀ ty, (Builtin.append_ #[42, 3] ty #[.slice (some ⟨g, 0, none⟩) i cap, .int .i64 ((n : Int) + 1 - (i : Int))]).run Try.prog W =
      .ok (.slice (some ⟨W.heap.size, 0, none⟩) (n + 1) G) (W.drew.alloc (.cells ROW 69)) := fun ty => by
    have h := Lib.run_append_grow_zeros W 42 3 ty 69 ti z .i64 .i64 hu Try.underlying3 hti hzz (some ⟨g, 0, none⟩) i cap _ hold (n + 1 - i) (by omega) (by omega) (by omega) (by omega) (by rw [hby]; omega) (by rw [hby, hik]; exact growslice_fits hroom hbig)
    rw [hik, ← hG, ← hROW] at h
    rw [hkk]
    exact h
  have hRl : ROW.size = G * 3 := by
    rw [hROW]
    simp [Builtin.zeroCells, hzs, List.length_take]
    omega
  have hRx : ROW.toList.take (i * 3) = xs.take (i * 3) := by
    rw [hROW, Array.toList_append, Array.toList_append, List.append_assoc, List.take_append_of_le_length (by simp [List.length_take]; omega), List.take_of_length_le (by simp [List.length_take]; omega)]
  obtain ⟨k1, k2, k3⟩ := ins_list2 ROW.toList xs news hi hGn (by simpa using hRl) hxl hRx hnl
  generalize hdx : xs.drop (i * 3) = dx at *
  have hdl : dx.length = (n - i) * 3 := by rw [← hdx, List.length_drop]; omega
  obtain ⟨N, hN⟩ : ∃ N, N = W.heap.size := ⟨_, rfl⟩
  obtain ⟨W1, hW1⟩ : ∃ W1, W1 = W.drew.alloc (.cells ROW 69) := ⟨_, rfl⟩
  have hN1 : W1.heap[N]? = some (.cells ROW 69 (0, 0)) := by rw [hW1, hN]; show (W.heap.push _)[W.heap.size]? = _; simp
  have hO1 : ∀ b, b < W.heap.size → W1.heap[b]? = W.heap[b]? := fun b hb => by rw [hW1]; show (W.heap.push _)[b]? = _; rw [Array.getElem?_push_lt hb, Array.getElem?_eq_getElem hb]
  generalize hc1 : ROW.toList.take (i * 3) ++ news ++ ROW.toList.drop (i * 3 + news.length) = c1 at *
  have hcpA : ∀ Wx : World, Wx.heap = W1.heap → ∀ ty dc, (Builtin.copy_ #[42, 42] ty #[.slice (some ⟨N, i * 3, none⟩) (n + 1 - i) dc, .slice (some vb) 1 vc]).run Try.prog Wx = .ok (goInt ((1 : Nat) : Int)) (Wx.setRow N c1.toArray) := fun Wx hW ty dc => by
    have hm : Nat.min 1 (n + 1 - i) = 1 := Nat.min_eq_left (by omega)
    have := run_copy_rowz (P := Try.prog) Wx 42 42 ty 69 N (i * 3) (n + 1 - i) dc 3 vb 1 vc ROW 69 news hu hs3 (by rw [hW]; exact hN1) (by rw [hm, hnl]) (fun j v hj => ?_) (by rw [hnl, hRl]; omega) h1
    · rw [hm, hc1] at this; exact this
    · rw [← hnews j v hj]
      refine World.cell?_of_block (w := W) ?_
      rw [block_add, hW, hO1 _ hvl]
  generalize hc2 : c1.take ((i + 1) * 3) ++ dx ++ c1.drop ((i + 1) * 3 + dx.length) = c2 at *
  have hgN : g ≠ N := by omega
  have hcpB : ∀ Wx : World, Wx.heap = (W1.setRow N c1.toArray).heap → ∀ ty dc sc, (Builtin.copy_ #[42, 42] ty #[.slice (some ⟨N, (i + 1) * 3, none⟩) (n - i) dc, .slice (some ⟨g, i * 3, none⟩) (n - i) sc]).run Try.prog Wx = .ok (goInt ((n - i : Nat) : Int)) (Wx.setRow N c2.toArray) := fun Wx hW ty dc sc => by
    have hm : Nat.min (n - i) (n - i) = n - i := Nat.min_self _
    have := run_copy_rowz (P := Try.prog) Wx 42 42 ty 69 N ((i + 1) * 3) (n - i) dc 3 ⟨g, i * 3, none⟩ (n - i) sc c1.toArray 69 dx hu hs3 (by rw [hW]; exact setRow_heap W1 N ROW _ _ (0, 0) hN1) (by rw [hm, hdl]) (fun j v hj => ?_) (by rw [hdl]; simp [k1]; omega) (fun v hv => hone v (by rw [← hdx] at hv; exact List.mem_of_mem_drop hv))
    · rw [hm] at this; simpa [hc2] using this
    · rw [Addr.add_lit]
      rw [← hdx, List.getElem?_drop] at hj
      rw [← hcell _ v hj]
      refine World.cell?_of_block (w := W) ?_
      rw [hW]
      simp only [World.setRow, Array.getElem?_modify]
      rw [if_neg (fun e => hgN e.symm), hO1 _ hgl]
  rw [← hW1] at hrz
  rw [← hN] at hrz ⊢
  have fin : ∀ Wx : World, Wx.heap = W1.heap → Wx.heap = (W.alloc (.cells ROW 69)).heap := fun Wx h => by rw [h, hW1]; rfl
  have hb1 : (0 : Int) ≤ (i : Int) + 1 := by omega
  have hin : i ≤ n := by omega
  have hbN : ¬ (G = i) := by omega
  have hbM : ¬ (G = i + 1) := by omega
  have hb3 : (i : Int) ≤ (n : Int) + 1 := by omega
  have hb4 : ¬ (cap = i) := by omega
  have hos : W1.os = W.os := by rw [hW1]; rfl
  have hta : W1.tape = W.tape := by rw [hW1]; rfl
  have hou : W1.output = W.output := by rw [hW1]; rfl
  have hhe : W1.heap = (W.alloc (.cells ROW 69)).heap := by rw [hW1]; rfl
  have mixed : Try.prog.follows .mixedOrders = true := by kernel_rfl
  clear hg hxs hxl hnews h1 hone hti hzz hold hG hROW hRx hdx hW1 hN1 hO1 hc1 hc2 hcell hkk hik fin hN hgl hvl
  go_enter Try.func50, Try.ntmps50
  go_wp2_with (first
    | (at_builtin; refine Lib.wpList_append_run _ rfl _ _ _ _ rfl _ _ rfl rfl _ _ (hrz _) ?_)
    | (at_builtin; refine wpList_copy_runI _ rfl _ _ 42 42 rfl _ _ rfl rfl (hcpA _ rfl _ _) ?_))
  go_region_law_o (refine step_copy_runI rfl _ _ 42 42 rfl (.slice (some ⟨N, (i + 1) * 3, none⟩) (n - i) (G - (i + 1))) (.slice (some ⟨g, i * 3, none⟩) (n - i) (cap - i)) (by simp [Act.eval, Act.put]) (by simp [Act.eval, Act.put]) (hcpB (W1.setRow N c1.toArray).drew rfl 3 (G - (i + 1)) (cap - i)) ?_)
  go_wp2
  go_ret
  refine ⟨G, c2.toArray, .cells ROW 69 (0, 0), rfl, ?_, hos, hta, hou, ⟨_, rfl⟩, hGn, hGm, by simpa using k2, by simpa using k3⟩
  show ((W1.setRow N c1.toArray).setRow N c2.toArray).heap = _
  rw [setRow_setRow]
  simp only [World.setRow, hhe]
end
set_option maxHeartbeats 4000000 in
set_option maxRecDepth 100000 in
/-- at the end. -/
theorem ins_end (W : World) (v : Value) (n : Nat) (xs news : List Value) (vb : Addr) (vc : Nat) (hown : W.ownsRow 0 69 3 v n xs) (hbig : (n + 1) * 24 ≤ 140737488355328)
    (hnl : news.length = 3) (hnews : ∀ j v, news[j]? = some v → W.cell? (vb.add j) = some v) (h1 : ∀ v ∈ news, v.oneCell' = true) :
    Calls Try.prog 50 #[v, .int .i64 n, .slice (some vb) 1 vc] W fun e W' =>
      ∃ v', e = .returned v' ∧ W'.ownsRow 0 69 3 v' (n + 1) (xs ++ news) ∧ W.grownBy W' v.ownBlock ∧ (∀ g, v'.ownBlock = some g → v.ownBlock = some g ∨ W.heap.size ≤ g) ∧ v'.oneCell' = true := by
  obtain ⟨ti, z, hu, hti, hzz, hsize, hby, hzs, hsz⟩ := rowTy_spec (P := Try.prog) (tt := 42) (e := 69) (sz := 3) (bytes := 24) (by kernel_rfl)
  obtain ⟨v', w', hr, q⟩ := run_append_own2 (P := Try.prog) W 0 42 42 69 ti z 3 24 hu hti hzz hsize hby hzs hsz v n xs hown vb 1 vc news (by rw [hnl]) hnews h1 (by unfold maxLen; omega) hbig (Nat.zero_le _) (by decide)
  rcases hown.2 with ⟨rfl, rfl⟩ | ⟨g, cap, cur, rfl, hbg, hg, hnc, hcm, hcs, htake⟩
  · clear hti hzz hown hnews
    go_enter Try.func50, Try.ntmps50
    go_wp2_with (at_builtin; refine Lib.wpList_append_run _ rfl _ _ _ _ rfl _ _ rfl rfl _ _ hr ?_)
    go_ret
    exact ⟨v', rfl, q⟩
  · have hcap : cap ≤ 9223372036854775807 := by unfold maxLen at hcm; omega
    clear hti hzz hown hnews hg hcs htake hcm
    go_enter Try.func50, Try.ntmps50
    go_wp2_with (at_builtin; refine Lib.wpList_append_run _ rfl _ _ _ _ rfl _ _ rfl rfl _ _ hr ?_)
    all_goals go_ret
    all_goals exact ⟨v', rfl, q⟩
set_option maxHeartbeats 4000000 in
set_option maxRecDepth 100000 in
/-- slices.Clone. -/
theorem w_Clone (W : World) (v : Value) (n : Nat) (xs : List Value) (hown : W.ownsRow 0 69 3 v n xs) (hbig : n * 24 ≤ 140737488355328) (hone : ∀ v ∈ xs, v.oneCell' = true) :
    Calls Try.prog 52 #[v] W fun e W' =>
      ∃ v', e = .returned v' ∧ W'.ownsRow 0 69 3 v' n xs ∧ W.grownBy W' none ∧ (∀ g, v'.ownBlock = some g → W.heap.size ≤ g) ∧ v'.oneCell' = true := by
  obtain ⟨ti, z, hu, hti, hzz, hsize, hby, hzs, hsz⟩ := rowTy_spec (P := Try.prog) (tt := 42) (e := 69) (sz := 3) (bytes := 24) (by kernel_rfl)
  have q22 : ∀ (w : World) (a : Option Addr) (n c n' c' : Nat), (binOp .eql 42 (.slice a n c) (.slice none n' c')).run Try.prog w = .ok (.bool a.isNone) w := fun w a n c n' c' => Lib.run_eql_slice_nil w _ _ a n c n' c' hu
  rcases hown.2 with ⟨rfl, rfl⟩ | ⟨g, cap, cur, rfl, hbg, hg, hnc, hcm, hcs, htake⟩
  · clear hti hzz
    go_enter Try.func52, Try.ntmps52
    go_wp2
    go_ret
    exact ⟨_, rfl, hown, ⟨rfl, rfl, rfl, Nat.le_refl _, fun _ _ _ => rfl⟩, fun g hg => (by cases hg), rfl⟩
  · have hgl : g < W.heap.size := (Array.getElem?_eq_some_iff.1 hg).1
    have hown1 : (W.alloc (.cells #[] 69 (0, 0))).ownsRow 0 69 3 (.slice (some ⟨W.heap.size, 0, none⟩) 0 0) 0 [] :=
      ⟨rfl, .inr ⟨W.heap.size, 0, #[], rfl, Nat.zero_le _, by show (W.heap.push _)[W.heap.size]? = _; simp, Nat.le_refl _, Nat.zero_le _, rfl, rfl⟩⟩
    have hal : W.grownBy (W.alloc (.cells #[] 69 (0, 0))) none := World.grownBy_alloc W _ none
    have hcell : ∀ j u, xs[j]? = some u → (W.alloc (.cells #[] 69 (0, 0))).cell? ((⟨g, 0, none⟩ : Addr).add j) = some u := fun j u hj => by
      rw [← hown.cells (g := g) rfl j u hj]
      exact World.cell?_of_block (w := W) (by rw [block_add]; exact hal.block g hgl fun e => by cases e)
    obtain ⟨v', w', hr, q⟩ : ∃ v' w', (Builtin.append_ #[42, 42] 42 #[.slice (some ⟨W.heap.size, 0, none⟩) 0 0, .slice (some ⟨g, 0, none⟩) n cap]).run Try.prog (W.alloc (.cells #[] 69 (0, 0))) = .ok v' w' ∧
        w'.ownsRow 0 69 3 v' n xs ∧ W.grownBy w' none ∧ (∀ g, v'.ownBlock = some g → W.heap.size ≤ g) ∧ v'.oneCell' = true := by
      by_cases h0 : n = 0
      · subst h0
        have hx : xs = [] := List.eq_nil_of_length_eq_zero (by simpa using hown.1)
        subst hx
        have hr := run_append_room (P := Try.prog) (W.alloc (.cells #[] 69 (0, 0))) 42 42 69 ti hu hti W.heap.size 0 0 #[] (by show (W.heap.push _)[W.heap.size]? = _; simp) ⟨g, 0, none⟩ 0 cap [] (by simp) (by simp) (by simp) (by simp) (by simp)
        rw [show ∀ X : Array Value, X = #[] → (W.alloc (.cells #[] 69 (0, 0))).setRow W.heap.size X = W.alloc (.cells #[] 69 (0, 0)) from fun X e => by rw [e]; exact setRow_self _ _ #[] 69 (0, 0) (by show (W.heap.push _)[W.heap.size]? = _; simp)] at hr
        · exact ⟨_, _, hr, hown1, hal, fun g' hg' => by simp [Value.ownBlock] at hg'; omega, rfl⟩
        · simp
      · obtain ⟨v', w', hr, q1, q2, q3, q4⟩ := run_append_own2 (P := Try.prog) (W.alloc (.cells #[] 69 (0, 0))) 0 42 42 69 ti z 3 24 hu hti hzz hsize hby hzs hsz _ 0 [] hown1 ⟨g, 0, none⟩ n cap xs hown.1 hcell hone (by unfold maxLen; omega) (by omega) (Nat.zero_le _) (by omega)
        rw [Nat.zero_add, List.nil_append] at q1
        refine ⟨v', w', hr, q1, ⟨q2.os, q2.tape, q2.output, Nat.le_trans hal.size q2.size, fun k hk _ => ?_⟩, fun g' hg' => ?_, q4⟩
        · rw [q2.block k (Nat.lt_of_lt_of_le hk hal.size) (by simp [Value.ownBlock]; omega)]
          exact hal.block k hk fun e => by cases e
        · rcases q3 g' hg' with h | h
          · simp [Value.ownBlock] at h; omega
          · exact Nat.le_trans hal.size h
    clear hti hzz hown1 hal hcell hown hg hcs htake
    go_enter Try.func52, Try.ntmps52
    go_wp2_with (at_builtin; refine Lib.wpList_append_run _ rfl _ _ _ _ rfl _ _ rfl rfl _ _ hr ?_)
    go_ret
    exact ⟨v', rfl, q⟩
end Go.Proofs.Ytaennpehlhgggaa

namespace Go.Proofs.Ytaennpehlhgggaa
open Go.RowKit Go.Lib
set_option linter.unusedVariables false
set_option linter.unusedSimpArgs false
theorem enC_take : ∀ (l : List Ent) (i : Nat), (enC l).take (i * 3) = enC (l.take i)
  | [], i => by simp [enC]
  | e :: l, 0 => by simp [enC]
  | e :: l, i + 1 => by
    rw [show (i + 1) * 3 = i * 3 + 1 + 1 + 1 by omega]
    simp only [enC, List.take_succ_cons, enC_take l i]
theorem enC_drop : ∀ (l : List Ent) (i : Nat), (enC l).drop (i * 3) = enC (l.drop i)
  | [], i => by simp [enC]
  | e :: l, 0 => by simp
  | e :: l, i + 1 => by
    rw [show (i + 1) * 3 = i * 3 + 1 + 1 + 1 by omega]
    simp only [enC, List.drop_succ_cons, enC_drop l i]
theorem RpL.take {U : Nat → Prop} {ρ : Nat → Nat} {W : World} {xs : List AC} {vs : List Value} (h : RpL U ρ W xs vs) (k : Nat) : RpL U ρ W (xs.take k) (vs.take k) := by
  have := h.sub 0 k
  simpa using this
theorem RpL.drop {U : Nat → Prop} {ρ : Nat → Nat} {W : World} {xs : List AC} {vs : List Value} (h : RpL U ρ W xs vs) (k : Nat) : RpL U ρ W (xs.drop k) (vs.drop k) := by
  refine ⟨by rw [List.length_drop, List.length_drop, h.1], fun i x v hx hv => ?_⟩
  rw [List.getElem?_drop] at hx hv
  exact h.2 _ x v hx hv
theorem RpL.ones {U : Nat → Prop} {ρ : Nat → Nat} {W : World} {xs : List AC} {vs : List Value} (h : RpL U ρ W xs vs) : ∀ v ∈ vs, v.oneCell' = true := fun v hv => by
  obtain ⟨j, hj⟩ := List.getElem?_of_mem hv
  have hlt : j < xs.length := by rw [h.1]; exact (List.getElem?_eq_some_iff.1 hj).1
  exact (h.2 j _ v (List.getElem?_eq_getElem hlt) hj).cell
theorem own_one {W : World} {b e sz n : Nat} {v : Value} {xs : List Value} (h : W.ownsRow b e sz v n xs) : v.oneCell' = true := by
  rcases h.2 with ⟨rfl, _⟩ | ⟨g, cap, cur, rfl, _⟩ <;> rfl
/-- the row with one thing put in. -/
abbrev insE (l : List Ent) (i : Nat) (e : Ent) : List Ent := l.take i ++ e :: l.drop i
theorem insE_len {l : List Ent} {i : Nat} {e : Ent} (hi : i ≤ l.length) : (insE l i e).length = l.length + 1 := by
  unfold insE; rw [List.length_append, List.length_cons, List.length_take, List.length_drop]; omega
theorem insE_rp {U : Nat → Prop} {ρ : Nat → Nat} {W : World} {l : List Ent} {xs news : List Value} {e : Ent} (i : Nat) (h : RpL U ρ W (enC l) xs) (hn : RpL U ρ W (enC [e]) news) : RpL U ρ W (enC (insE l i e)) (xs.take (i * 3) ++ news ++ xs.drop (i * 3)) := by
  have : enC (insE l i e) = (enC l).take (i * 3) ++ enC [e] ++ (enC l).drop (i * 3) := by
    rw [enC_take, enC_drop, ← enC_append, ← enC_append, List.append_assoc]; rfl
  rw [this]
  exact ((h.take _).append hn).append (h.drop _)
theorem enC_c : ∀ (l : List Ent) (y : AC), y ∈ enC l → ∃ u, y = .c u
  | [], y, h => by cases h
  | e :: l, y, h => by
    simp only [enC, List.mem_cons] at h
    rcases h with h | h | h | h
    · exact ⟨_, h⟩
    · exact ⟨_, h⟩
    · exact ⟨_, h⟩
    · exact enC_c l y h
/-- numbers alone: told of any memory. -/
theorem enC_any {U U' : Nat → Prop} {ρ ρ' : Nat → Nat} {W W' : World} {l : List Ent} {vs : List Value} (h : RpL U ρ W (enC l) vs) : RpL U' ρ' W' (enC l) vs := by
  refine ⟨h.1, fun i x v hx hv => ?_⟩
  have := h.2 i x v hx hv
  obtain ⟨u, rfl⟩ := enC_c l x (List.mem_of_getElem? hx)
  exact this
set_option maxRecDepth 100000 in
theorem c_Insert {l : List Ent} {v : Value} {i : Nat} {x y w : Int} (hi : i ≤ l.length) (hl : l.length ≤ 1000000) :
    RCall Try.prog 50 [vC v, vI i, vS 3 1 [.c (.int .i64 x), .c (.int .i64 y), .c (.int .i64 w)]] (nxRow v l) fun rv r' => ∃ v', v'.oneCell' = true ∧ rv = vC v' ∧ r' = nxRow v' (insE l i (x, y, w)) := by
  refine rcall_world rfl (Nat.zero_lt_succ _) (fun rv r' ⟨v', _, _, e⟩ => by rw [e]; exact Nat.zero_lt_succ _) ?_
  intro U W vs xs ho hrl hcl hnu hvs
  obtain ⟨hlen, hv⟩ := hvs
  match vs, hlen with
  | [a, b, c], _ =>
    have e0 : a = v := (hv 0 _ a rfl rfl).1
    have e1 : b = .int .i64 i := (hv 1 _ b rfl rfl).1
    obtain ⟨⟨A, cc, e2, hc1, hc2, hc3⟩, hfoot⟩ := hv 2 _ c rfl rfl
    obtain ⟨vb, news, rfl, hat⟩ := hc3 (by decide)
    subst e0 e1 e2
    have hnl : news.length = 3 := hat.rp.1.symm
    have hnw : RpL U id W (enC [(x, y, w)]) news := enC_any (U := fun _ => True) (ρ := id) (W := W) hat.rp
    have hnew := insE_rp i hrl hnw
    have hll : (insE l i (x, y, w)).length = l.length + 1 := insE_len hi
    have hxl : xs.length = l.length * 3 := ho.1
    have hvb : U vb.block := hfoot _ ⟨cc, vb, rfl, by decide, .inl rfl⟩
    have hcl' : ∀ q ∈ enC (insE l i (x, y, w)), q.closedB = true := fun q hq => List.all_eq_true.1 (enC_closed _) q hq
    have fin : ∀ (e : Ending) (W' : World) (v' : Value), e = .returned v' → W'.ownsRow 0 69 3 v' (l.length + 1) (xs.take (i * 3) ++ news ++ xs.drop (i * 3)) → W.grownBy W' a.ownBlock → (∀ g, v'.ownBlock = some g → a.ownBlock = some g ∨ W.heap.size ≤ g) →
        ∃ u rv r', e = .returned u ∧ (∃ v', v'.oneCell' = true ∧ rv = vC v' ∧ r' = nxRow v' (insE l i (x, y, w))) ∧ RowTo W W' (nxRow a l) r' U ∧ RpV U id W rv u ∧ rv.closedB = true := by
      rintro e W' v' rfl h1 h2 h3
      have h1c := own_one h1
      refine ⟨v', _, _, rfl, ⟨v', h1c, rfl, rfl⟩, ⟨h2, ⟨_, ?_, hnew⟩, hcl', h3⟩, ⟨rfl, h1c⟩, rfl⟩
      show W'.ownsRow 0 69 3 v' (insE l i (x, y, w)).length _
      rw [hll]; exact h1
    by_cases hend : i = l.length
    · subst hend
      refine (ins_end W a l.length xs news vb cc ho (by omega) hnl hat.at_ hnw.ones).mono ?_
      rintro e W' ⟨v', rfl, h1, h2, h3, _⟩
      refine fin _ _ v' rfl ?_ h2 h3
      rw [List.take_of_length_le (by omega), List.drop_of_length_le (by omega), List.append_nil]
      exact h1
    · have hlt : i < l.length := by omega
      obtain ⟨g, cap, cur, rfl, hbg, hg, hnc, hcm, hcs, htake⟩ : ∃ g cap cur, a = .slice (some ⟨g, 0, none⟩) l.length cap ∧ 0 ≤ g ∧ W.heap[g]? = some (.cells cur 69 (0, 0)) ∧ l.length ≤ cap ∧ cap ≤ maxLen ∧ cur.size = cap * 3 ∧ cur.toList.take (l.length * 3) = xs := by
        rcases ho.2 with ⟨_, h0⟩ | h
        · have : l.length = 0 := h0
          omega
        · exact h
      have hgne : vb.block ≠ g := fun e => hnu g rfl (by rw [← e]; exact hvb)
      by_cases hroom : l.length + 1 ≤ cap
      · refine (ins_room W g l.length cap i cur news vb cc hg hlt hroom (by unfold maxLen at hcm; omega) hcs (by rw [htake]; exact hrl.ones) hnl hat.at_ hnw.ones hgne).mono ?_
        rintro e W' ⟨rfl, cur', rfl, k1, k2⟩
        rw [htake] at k2
        have hh := setRow_heap W.drew g cur cur' _ (0, 0) hg
        refine fin _ _ _ rfl ⟨?_, .inr ⟨g, cap, cur', rfl, Nat.zero_le _, hh, hroom, hcm, k1, k2⟩⟩ ⟨rfl, rfl, rfl, by (show W.heap.size ≤ (Array.modify W.heap g _).size; rw [Array.size_modify]; exact Nat.le_refl _), fun k _ hk => ?_⟩ fun g' hg' => .inl hg'
        · simp only [List.length_append, List.length_take, List.length_drop, hnl]; omega
        · show (Array.modify W.heap g _)[k]? = _
          rw [Array.getElem?_modify]
          rw [if_neg (fun e => hk (by rw [e]; rfl))]
      · refine (ins_grow W g l.length cap i cur news vb cc xs hg htake hxl hlt hnc (by omega) (by omega) hrl.ones hnl hat.at_ hnw.ones).mono ?_
        rintro e W' ⟨G, cur', o, rfl, q1, q2, q3, q4, ⟨c0, rfl⟩, k1, k2, k3, k4⟩
        have hn0 : (W.alloc (.cells c0 69 (0, 0))).heap[W.heap.size]? = some (.cells c0 69 (0, 0)) := by show (W.heap.push _)[W.heap.size]? = _; simp
        have hh := setRow_heap _ W.heap.size c0 cur' _ (0, 0) hn0
        rw [← q1] at hh
        refine fin _ _ _ rfl ⟨?_, .inr ⟨W.heap.size, G, cur', rfl, Nat.zero_le _, hh, k1, k2, k3, k4⟩⟩ ⟨q2, q3, q4, ?_, fun k hk _ => ?_⟩ fun g' hg' => .inr (by simp [Value.ownBlock] at hg'; omega)
        · simp only [List.length_append, List.length_take, List.length_drop, hnl]; omega
        · rw [q1]
          show W.heap.size ≤ (Array.modify (W.heap.push _) _ _).size
          rw [Array.size_modify, Array.size_push]; omega
        · rw [q1]
          simp only [World.setRow, Array.getElem?_modify]
          rw [if_neg (by omega)]
          show (W.heap.push _)[k]? = _
          rw [Array.getElem?_push_lt hk, Array.getElem?_eq_getElem hk]
set_option maxRecDepth 100000 in
theorem c_Clone {l : List Ent} {v : Value} (hl : l.length ≤ 1000000) :
    RCall2 Try.prog 52 [vC v] (nxRow v l) fun rv q => ∃ v', v'.oneCell' = true ∧ rv = vC v' ∧ q = nxRow v' l := by
  refine rcall2_world rfl (Nat.zero_lt_succ _) (fun rv r' ⟨v', _, _, e⟩ => by rw [e]; exact Nat.zero_lt_succ _) ?_
  intro U W vs xs ho hrl hcl hvs
  obtain ⟨hlen, hv⟩ := hvs
  match vs, hlen with
  | [a], _ =>
    have e0 : a = v := (hv 0 _ a rfl rfl).1
    subst e0
    refine (w_Clone W a l.length xs ho (by omega) hrl.ones).mono ?_
    rintro e W' ⟨v', rfl, h1, h2, h3, h4⟩
    exact ⟨v', vC v', nxRow v' l, rfl, ⟨v', h4, rfl, rfl⟩, ⟨h2, ⟨xs, h1, hrl⟩, hcl, h3⟩, ⟨rfl, h4⟩, rfl⟩
end Go.Proofs.Ytaennpehlhgggaa

namespace Go.Proofs.Ytaennpehlhgggaa
open Go.RowKit
set_option linter.unusedVariables false
set_option linter.unusedSimpArgs false
/-- what is known of the methods that read. -/
def CGet (n : Nat) : Prop := ∀ l v (x y : Int), v.oneCell' = true → Rises l → l.length ≤ n → OCall Try.prog 32 [vP x y] [.c v] (nxRow v l) fun r cs' r' => r = .tup [.one (.c (.int .i64 (valE l x y))), .one (.c (.bool (hasE l x y)))] ∧ cs' = [.c v] ∧ r' = nxRow v l
def CLen (n : Nat) : Prop := ∀ l v, v.oneCell' = true → Rises l → l.length ≤ n → OCall Try.prog 17 [] [.c v] (nxRow v l) fun r cs' r' => r = vI l.length ∧ cs' = [.c v] ∧ r' = nxRow v l
def CAll (n : Nat) : Prop := ∀ l v, v.oneCell' = true → Rises l → l.length ≤ n → OCall2 Try.prog 35 [] [.c v] (nxRow v l) fun r cs' r' q => cs' = [.c v] ∧ r' = nxRow v l ∧ r = vC q.v ∧ q = nxRow q.v l
def CIn (n : Nat) : Prop := ∀ l v (a b c d : Int), v.oneCell' = true → Rises l → l.length ≤ n → OCall2 Try.prog 38 [vP a b, vP c d] [.c v] (nxRow v l) fun r cs' r' q => cs' = [.c v] ∧ r' = nxRow v l ∧ r = vC q.v ∧ q = nxRow q.v (inL l a b c d)
def CCopy (n : Nat) : Prop := ∀ l v, v.oneCell' = true → Rises l → l.length ≤ n → OCall2 Try.prog 45 [] [.c v] (nxRow v l) fun r cs' r' q => cs' = [.c v] ∧ r' = nxRow v l ∧ r = .w (.agg [.c q.v]) ∧ q = nxRow q.v l ∧ q.v.oneCell' = true
end Go.Proofs.Ytaennpehlhgggaa

namespace Go.Proofs.Ytaennpehlhgggaa
open Go.RowKit
set_option linter.unusedVariables false
set_option linter.unusedSimpArgs false
theorem pcmp_lt {x y a b : Int} : pcmp x y a b < 0 ↔ pLt x y a b = true := by
  rw [pLt_iff]
  unfold pcmp icmp
  split <;> split <;> first | omega | (split <;> omega)
theorem pcmp_eq {x y a b : Int} : pcmp x y a b = 0 ↔ x = a ∧ y = b := by
  unfold pcmp icmp
  split <;> split <;> first | omega | (split <;> omega)
set_option maxRecDepth 100000 in
set_option maxHeartbeats 4000000 in
theorem p_place1 {x y v a b : Int} : PCall Try.prog 68 [.w (.agg [.c (.int .i64 x), .c (.int .i64 y), .c (.int .i64 v)]), vP a b] (vI (pcmp x y a b)) := by
  have C1 := p_gCmp (x := x) (y := y) (x' := a) (y' := b)
  refine pcall_body (f := 68) Try.func68 rfl rfl rfl rfl ?_
  (repeat (first | ((with_reducible apply al_q); exact rfl) | (refine al_call2 rfl rfl rfl rfl (by (first | exact C1)) rfl ?_) | ((with_reducible apply awp_seq)) | ((with_reducible apply athen_normal)) | ((with_reducible apply awp_region)) | ((with_reducible apply al_nil)) | ((with_reducible apply awp_ret))))
  (first | (refine apost_ret rfl (resl_tmp rfl resl_nil) ?_))
  exact AV.Le.refl _
abbrev vFn25 : AV := vC (.func (.func 68) #[] #[])
def BSI (l : List Ent) (v : Value) (a b : Int) (n : Nat) (R : Rws) (ts : List (Nat × AV)) (ms : List (Nat × List AC)) : Prop :=
  ∃ (lo hi : Nat) (li hj : Int), lo ≤ posE l a b ∧ posE l a b ≤ hi ∧ hi ≤ l.length ∧ n = hi - lo ∧ li = lo ∧ hj = hi ∧ R = row1 0 (nxRow v l) ∧ ms = [(4, mPx a b)] ∧ ts = [(0, vC v), (2, vFn25), (4, vOw 4), (8, vI l.length), (9, vI li), (10, vI hj)]
set_option maxRecDepth 100000 in
set_option maxHeartbeats 8000000 in
theorem c_Search {l : List Ent} {v : Value} {a b : Int} (hr : Rises l) (hl : l.length ≤ 1000000) :
    RCall Try.prog 67 [vC v, vP a b, vFn25] (nxRow v l) fun rv r' => rv = .tup [.one (.c (.int .i64 (posE l a b))), .one (.c (.bool (hasE l a b)))] ∧ r' = nxRow v l := by
  refine rcall_of rfl (fun v r' h => by rw [h.1]; rfl) ?_
  refine hcall_of_body (f := 67) Try.func67 rfl (Nat.le_of_ble_eq_true rfl) (by first | exact big0 | exact big1 rfl) ?_
  (repeat (first | ((with_reducible apply rwp_seq)) | ((with_reducible apply rthen_normal)) | ((with_reducible apply rwp_region)) | ((with_reducible apply hs_nil)) | ((with_reducible apply rwp_block)) | ((with_reducible apply hs_c); exact rfl; (repeat (first | ((with_reducible apply al_q); exact rfl))); (with_reducible apply al_nil)) | ((with_reducible apply hs_len 0); (iterate 4 exact rfl); kernel_rfl; exact rfl)))
  refine rwp_loopL 49 (BSI l v a b) l.length (row1 0 (nxRow v l)) _ [(4, mPx a b)] ⟨0, l.length, 0, l.length, Nat.zero_le _, posE_len l a b, Nat.le_refl _, rfl, rfl, rfl, rfl, rfl, rfl⟩ (RLe.refl _) rfl ⟨rfl, rfl, rfl, rfl, rfl, rfl, trivial⟩ ⟨rfl, trivial⟩ rfl ?_
  rintro n R ts ms ⟨lo, hi, li, hj, h1, h2, h3, rfl, h4, h5, rfl, rfl, rfl⟩ hok
  clear hok
  by_cases hq : lo < hi
  · subst h4 h5
    have q2 : (lo : Int) < (hi : Int) := by omega
    obtain ⟨h, hh⟩ : ∃ h, h = (lo + hi) / 2 := ⟨_, rfl⟩
    have e1 : ((lo : Int) + (hi : Int)) / 2 = (h : Int) := by omega
    have hhl : h < l.length := by omega
    obtain ⟨x, y, w, g1⟩ : ∃ x y w, l[h]? = some (x, y, w) := ⟨_, _, _, List.getElem?_eq_getElem hhl⟩
    have q5 : 0 < l.length := by omega
    have E1 : (((lo : Int) + (hi : Int)) / 2).toNat * 3 + 3 ≤ (enC l).length ∧ ((enC l).drop ((((lo : Int) + (hi : Int)) / 2).toNat * 3)).take 3 = [.c (.int .i64 x), .c (.int .i64 y), .c (.int .i64 w)] := ⟨by rw [enC_len]; omega, enC_xyv e1 g1⟩
    have W1 : IntKind.i64.wrap ((lo : Int) + hi) = (lo : Int) + hi := i64_wrap (by omega)
    have W2 : IntKind.u64.wrap ((lo : Int) + hi) = (lo : Int) + hi := by rw [IntKind.wrap_u64]; omega
    have C1 := p_place1 (x := x) (y := y) (v := w) (a := a) (b := b)
    have P1 : h < posE l a b ↔ pcmp x y a b < 0 := (posE_spec hr a b h (x, y, w) g1).trans pcmp_lt.symm
    generalize pcmp x y a b = c at *
    have q6 : ((lo : Int) + (hi : Int)) / 2 < (l.length : Int) := by omega
    clear g1
    replace e1 := Lib.hid e1
    replace hh := Lib.hid hh
    by_cases hc : c < 0
    · (repeat (first | ((with_reducible apply hs_nilS); kernel_rfl) | ((with_reducible apply rwp_draw (id := 5) [0,1,2,3,4,5,6,7]); kernel_rfl; kernel_rfl; exact rfl) | ((with_reducible apply rwp_seq)) | ((with_reducible apply rthen_normal)) | ((with_reducible apply rwp_region)) | ((with_reducible apply hs_nil)) | ((with_reducible apply rwp_skip)) | ((with_reducible apply rwp_block)) | ((with_reducible apply rblock_normal)) | ((with_reducible apply rwp_cond_1); exact rfl; (first | assumption | exact decide_eq_true (by omega) | (simp only [Bool.not_eq_true', decide_eq_false_iff_not, decide_eq_true_eq, Bool.not_eq_false']; (first | done | omega)) | exact rfl)) | ((with_reducible apply hs_c); exact rfl; (repeat (first | ((with_reducible apply al_q); exact rfl) | ((with_reducible apply al_add); (iterate 3 exact rfl); (first | exact i64_wrap (by omega) | assumption | rfl); exact rfl) | ((with_reducible apply al_convI); exact rfl; exact rfl; (first | exact i64_wrap (by omega) | assumption | rfl); exact rfl) | (refine al_call2 rfl rfl rfl rfl (by (first | exact C1)) rfl ?_) | ((with_reducible apply al_bin); (iterate 5 exact rfl); (intro W; go_simp; try rfl); (intro W; go_simp; try rfl); exact rfl; exact rfl))); (with_reducible apply al_nil)) | ((with_reducible apply hs_idx 0); (iterate 4 exact rfl); (first | omega); (first | assumption | omega); exact rfl; kernel_rfl; exact rfl) | ((with_reducible apply hs_loadN 0); (iterate 3 exact rfl); (first | assumption | omega); assumption; exact rfl; kernel_rfl; exact rfl)))
      have hh := hh.out
      have e1 := e1.out
      refine ⟨hi - (h + 1), row1 0 (nxRow v l), _, [(4, mPx a b)], by omega, ⟨h + 1, hi, _, hi, P1.2 hc, h2, h3, rfl, ?_, rfl, rfl, rfl, rfl⟩, RLe.refl _, rfl, ⟨rfl, rfl, rfl, rfl, rfl, rfl, trivial⟩, ⟨rfl, trivial⟩, rfl⟩
      omega
    · have P2 : posE l a b ≤ h := by have := mt P1.1 hc; omega
      (repeat (first | ((with_reducible apply hs_nilS); kernel_rfl) | ((with_reducible apply rwp_draw (id := 5) [0,1,2,3,4,5,6,7]); kernel_rfl; kernel_rfl; exact rfl) | ((with_reducible apply rwp_seq)) | ((with_reducible apply rthen_normal)) | ((with_reducible apply rwp_region)) | ((with_reducible apply hs_nil)) | ((with_reducible apply rwp_skip)) | ((with_reducible apply rwp_block)) | ((with_reducible apply rblock_normal)) | ((with_reducible apply rwp_cond_1); exact rfl; (first | assumption | exact decide_eq_true (by omega) | (simp only [Bool.not_eq_true', decide_eq_false_iff_not, decide_eq_true_eq, Bool.not_eq_false']; (first | done | omega)) | exact rfl)) | ((with_reducible apply rwp_cond_0); exact rfl; (first | assumption | exact decide_eq_false (by omega) | (simp only [Bool.not_eq_true', decide_eq_false_iff_not, decide_eq_true_eq, Bool.not_eq_false']; (first | done | omega)) | exact rfl)) | ((with_reducible apply hs_c); exact rfl; (repeat (first | ((with_reducible apply al_q); exact rfl) | ((with_reducible apply al_add); (iterate 3 exact rfl); (first | exact i64_wrap (by omega) | assumption | rfl); exact rfl) | ((with_reducible apply al_convI); exact rfl; exact rfl; (first | exact i64_wrap (by omega) | assumption | rfl); exact rfl) | (refine al_call2 rfl rfl rfl rfl (by (first | exact C1)) rfl ?_) | ((with_reducible apply al_bin); (iterate 5 exact rfl); (intro W; go_simp; try rfl); (intro W; go_simp; try rfl); exact rfl; exact rfl))); (with_reducible apply al_nil)) | ((with_reducible apply hs_idx 0); (iterate 4 exact rfl); (first | omega); (first | assumption | omega); exact rfl; kernel_rfl; exact rfl) | ((with_reducible apply hs_loadN 0); (iterate 3 exact rfl); (first | assumption | omega); assumption; exact rfl; kernel_rfl; exact rfl)))
      have hh := hh.out
      have e1 := e1.out
      refine ⟨h - lo, row1 0 (nxRow v l), _, [(4, mPx a b)], by omega, ⟨lo, h, lo, _, h1, P2, by omega, rfl, rfl, e1, rfl, rfl, rfl⟩, RLe.refl _, rfl, ⟨rfl, rfl, rfl, rfl, rfl, rfl, trivial⟩, ⟨rfl, trivial⟩, rfl⟩
  · have e0 : lo = posE l a b := by omega
    subst e0
    have q2 : ¬ li < hj := by omega
    clear h5 hq h2 h3 h1
    generalize hp : posE l a b = p at *
    by_cases hn : p < l.length
    · subst h4
      have q3 : (p : Int) < (l.length : Int) := by omega
      have q5 : 0 < l.length := by omega
      obtain ⟨x, y, w, g1⟩ : ∃ x y w, l[p]? = some (x, y, w) := ⟨_, _, _, List.getElem?_eq_getElem hn⟩
      have E1 : ((p : Int)).toNat * 3 + 3 ≤ (enC l).length ∧ ((enC l).drop (((p : Int)).toNat * 3)).take 3 = [.c (.int .i64 x), .c (.int .i64 y), .c (.int .i64 w)] := ⟨by rw [enC_len]; omega, enC_xyv rfl g1⟩
      have C1 := p_place1 (x := x) (y := y) (v := w) (a := a) (b := b)
      have P1 : hasE l a b = decide (pcmp x y a b = 0) := by
        rw [Bool.eq_iff_iff, has_pos hr, hp, g1, decide_eq_true_iff, pcmp_eq]
        constructor
        · rintro ⟨u, hu⟩; cases hu; exact ⟨rfl, rfl⟩
        · rintro ⟨rfl, rfl⟩; exact ⟨w, rfl⟩
      generalize pcmp x y a b = c at *
      (repeat (first | ((with_reducible apply hs_nilS); kernel_rfl) | ((with_reducible apply rwp_draw (id := 8) [0,1,2,3,4,5,6,7,8,9,10,11,12,13,14,15]); kernel_rfl; kernel_rfl; exact rfl) | ((with_reducible apply rwp_seq)) | ((with_reducible apply rthen_normal)) | ((with_reducible apply rwp_region)) | ((with_reducible apply hs_nil)) | ((with_reducible apply rwp_ret)) | ((with_reducible apply rblock_same)) | ((with_reducible apply rwp_exit)) | ((with_reducible apply rthen_exit)) | ((with_reducible apply rwp_cond_0); exact rfl; (first | assumption | exact decide_eq_false (by omega) | (simp only [Bool.not_eq_true', decide_eq_false_iff_not, decide_eq_true_eq, Bool.not_eq_false']; (first | done | omega)) | exact rfl)) | ((with_reducible apply hs_c); exact rfl; (repeat (first | ((with_reducible apply al_q); exact rfl) | (refine al_call2 rfl rfl rfl rfl (by (first | exact C1)) rfl ?_) | ((with_reducible apply al_guard_b (c := true)); exact rfl; exact rfl; (first | assumption | exact decide_eq_true (by omega) | (simp only [Bool.not_eq_true', decide_eq_false_iff_not, decide_eq_true_eq, Bool.not_eq_false']; (first | done | omega)))))); (with_reducible apply al_nil)) | ((with_reducible apply hs_idx 0); (iterate 4 exact rfl); (first | omega); (first | assumption | omega); exact rfl; kernel_rfl; exact rfl) | ((with_reducible apply hs_loadN 0); (iterate 3 exact rfl); (first | assumption | omega); assumption; exact rfl; kernel_rfl; exact rfl)))
      (first | (refine hfin_r1 rfl (resl_tmp rfl (resl_tmp rfl resl_nil)) rfl rfl ?_))
      exact ⟨by rw [P1]; rfl, rfl⟩
    · subst h4
      have q3 : ¬ (p : Int) < (l.length : Int) := by omega
      have P1 : hasE l a b = false := by
        cases hh : hasE l a b with
        | false => rfl
        | true =>
          obtain ⟨u, hu⟩ := (has_pos hr).1 hh
          rw [hp] at hu
          have := (List.getElem?_eq_some_iff.1 hu).1
          omega
      (repeat (first | ((with_reducible apply hs_nilS); kernel_rfl) | ((with_reducible apply rwp_draw (id := 8) [0,1,2,3,4,5,6,7,8,9,10,11,12,13,14,15]); kernel_rfl; kernel_rfl; exact rfl) | ((with_reducible apply rwp_seq)) | ((with_reducible apply rthen_normal)) | ((with_reducible apply rwp_region)) | ((with_reducible apply hs_nil)) | ((with_reducible apply rwp_ret)) | ((with_reducible apply rblock_same)) | ((with_reducible apply rwp_exit)) | ((with_reducible apply rthen_exit)) | ((with_reducible apply rwp_cond_0); exact rfl; (first | assumption | exact decide_eq_false (by omega) | (simp only [Bool.not_eq_true', decide_eq_false_iff_not, decide_eq_true_eq, Bool.not_eq_false']; (first | done | omega)) | exact rfl)) | ((with_reducible apply hs_c); exact rfl; (repeat (first | ((with_reducible apply al_q); exact rfl) | ((with_reducible apply al_guard_b (c := false)); exact rfl; exact rfl; (first | assumption | exact decide_eq_false (by omega) | (simp only [Bool.not_eq_true', decide_eq_false_iff_not, decide_eq_true_eq, Bool.not_eq_false']; (first | done | omega)))))); (with_reducible apply al_nil))))
      (first | (refine hfin_r1 rfl (resl_tmp rfl (resl_tmp rfl resl_nil)) rfl rfl ?_))
      exact ⟨by rw [P1]; rfl, rfl⟩
end Go.Proofs.Ytaennpehlhgggaa

namespace Go.Proofs.Ytaennpehlhgggaa
open Go.RowKit
set_option linter.unusedVariables false
set_option linter.unusedSimpArgs false
theorem splice_one {l : List Ent} {p : Nat} {x y u w : Int} (hu : l[p]? = some (x, y, u)) : splice (enC l) ((p : Int).toNat * 3 + 2) [.c (.int .i64 w)] = enC (l.take p ++ (x, y, w) :: l.drop (p + 1)) := by
  have hlt := (List.getElem?_eq_some_iff.1 hu).1
  have he := (List.getElem?_eq_some_iff.1 hu).2
  have e1 : l = l.take p ++ (x, y, u) :: l.drop (p + 1) := by
    conv => lhs; rw [← List.take_append_drop p l, List.drop_eq_getElem_cons hlt, he]
  have t1 : (enC (l.take p)).length = p * 3 := by rw [enC_len, List.length_take]; omega
  rw [Int.toNat_natCast]
  conv => lhs; rw [e1]
  unfold splice
  rw [enC_append, enC_append]
  simp only [enC]
  rw [List.take_append, List.drop_append, t1, show (enC (l.take p)).take (p * 3 + 2) = enC (l.take p) from List.take_of_length_le (by omega), show (enC (l.take p)).drop (p * 3 + 2 + [AC.c (.int .i64 w)].length) = [] from List.drop_of_length_le (by rw [t1, List.length_singleton]; omega)]
  rw [show p * 3 + 2 - p * 3 = 2 by omega, show p * 3 + 2 + [AC.c (.int .i64 w)].length - p * 3 = 3 by simp; omega]
  simp
theorem nxRow_one (v : Value) (l : List Ent) (x y w : Int) : nxRow v (l ++ [(x, y, w)]) = ⟨69, 3, v, l.length + 1, enC l ++ [.c (.int .i64 x), .c (.int .i64 y), .c (.int .i64 w)]⟩ := by
  unfold nxRow; rw [← enC_one, List.length_append]; rfl
theorem rowSl_one {v : Value} {z a b : Nat} (hv : v.oneCell' = true) : (rowSl v z a b).oneCell' = true := by
  unfold rowSl
  split
  · rfl
  · exact hv
def INI (l : List Ent) (v : Value) (p : Nat) (a b c d : Int) (n : Nat) (R : Rws) (ts : List (Nat × AV)) (ms : List (Nat × List AC)) : Prop :=
  ∃ (k : Nat) (u : Value) (ki : Int), k ≤ l.length - p ∧ n = l.length - p - k ∧ ki = k ∧ u.oneCell' = true ∧ R = rowTwo (nxRow v l) (nxRow u (inL ((l.drop p).take k) a b c d)) ∧ ms = [(4, mPx a b), (5, mPx c d), (1000, [.c v])] ∧ ts = [(4, vOw 4), (5, vOw 5), (7, vC u), (23, vC (rowSl v 3 p l.length)), (24, vI ((l.length - p : Nat) : Int)), (25, vI ki)]
end Go.Proofs.Ytaennpehlhgggaa

namespace Go.Proofs.Ytaennpehlhgggaa
open Go.RowKit
set_option linter.unusedVariables false
set_option linter.unusedSimpArgs false
def CPutZ (n : Nat) : Prop := ∀ (u9 : Value) l v (x y w : Int), v.oneCell' = true → Rises l → l.length ≤ n → OCall Try.prog 31 [vP x y, vI w] [.c v, .c u9] (nxRow v l) fun r cs' r' => r = vB (!hasE l x y) ∧ ∃ v', v'.oneCell' = true ∧ cs' = [.c v', .c u9] ∧ r' = nxRow v' (putL l x y w)
def CGetZ (n : Nat) : Prop := ∀ (u9 : Value) l v (x y : Int), v.oneCell' = true → Rises l → l.length ≤ n → OCall Try.prog 32 [vP x y] [.c v, .c u9] (nxRow v l) fun r cs' r' => r = .tup [.one (.c (.int .i64 (valE l x y))), .one (.c (.bool (hasE l x y)))] ∧ cs' = [.c v, .c u9] ∧ r' = nxRow v l
def CLenZ (n : Nat) : Prop := ∀ (u9 : Value) l v, v.oneCell' = true → Rises l → l.length ≤ n → OCall Try.prog 17 [] [.c v, .c u9] (nxRow v l) fun r cs' r' => r = vI l.length ∧ cs' = [.c v, .c u9] ∧ r' = nxRow v l
def CAllZ (n : Nat) : Prop := ∀ (u9 : Value) l v, v.oneCell' = true → Rises l → l.length ≤ n → OCall2 Try.prog 35 [] [.c v, .c u9] (nxRow v l) fun r cs' r' q => cs' = [.c v, .c u9] ∧ r' = nxRow v l ∧ r = vC q.v ∧ q = nxRow q.v l
def CInZ (n : Nat) : Prop := ∀ (u9 : Value) l v (a b c d : Int), v.oneCell' = true → Rises l → l.length ≤ n → OCall2 Try.prog 38 [vP a b, vP c d] [.c v, .c u9] (nxRow v l) fun r cs' r' q => cs' = [.c v, .c u9] ∧ r' = nxRow v l ∧ r = vC q.v ∧ q = nxRow q.v (inL l a b c d)
def CCopyZ (n : Nat) : Prop := ∀ (u9 : Value) l v, v.oneCell' = true → Rises l → l.length ≤ n → OCall2 Try.prog 45 [] [.c v, .c u9] (nxRow v l) fun r cs' r' q => cs' = [.c v, .c u9] ∧ r' = nxRow v l ∧ r = .w (.agg [.c q.v]) ∧ q = nxRow q.v l ∧ q.v.oneCell' = true
set_option maxRecDepth 100000 in
set_option maxHeartbeats 4000000 in
theorem c_placeZ {u9 : Value} {l : List Ent} {v : Value} {a b : Int} (hv : v.oneCell' = true) (hr : Rises l) (hl : l.length ≤ 1000000) : OCall Try.prog 49 [vP a b] [.c v, .c u9] (nxRow v l) fun rv cs' r' => rv = .tup [.one (.c (.int .i64 (posE l a b))), .one (.c (.bool (hasE l a b)))] ∧ cs' = [.c v, .c u9] ∧ r' = nxRow v l := by
  have C1 := c_Search (v := v) (a := a) (b := b) hr hl
  refine ocall_of rfl rfl (fun v cs' r' h => by obtain ⟨rfl, rfl, rfl⟩ := h; exact ⟨rfl, rfl⟩) ?_
  refine hcall_of_body (f := 49) Try.func49 rfl (Nat.le_of_ble_eq_true rfl) (by first | exact big0 | exact big1 rfl) ?_
  (repeat (first | ((with_reducible apply rwp_drawH (id := 1) [0,1,2,3,4,5,6,7,8,9] [11]); kernel_rfl; kernel_rfl; exact rfl) | ((with_reducible apply rwp_seq)) | ((with_reducible apply rthen_normal)) | ((with_reducible apply rwp_region)) | ((with_reducible apply hs_nil)) | ((with_reducible apply hs_c); exact rfl; (repeat (first | ((with_reducible apply al_q); exact rfl) | ((with_reducible apply al_nilck); (iterate 3 exact rfl)))); (with_reducible apply al_nil))))
  refine hs_r1 0 rfl rfl rfl rfl C1 rfl rfl rfl (fun rv r' h => ?_)
  obtain ⟨rfl, rfl⟩ := h
  (repeat (first | ((with_reducible apply hs_nilS); kernel_rfl) | ((with_reducible apply rthen_normal)) | ((with_reducible apply rwp_ret)) | ((with_reducible apply hs_c); exact rfl; (repeat (first | ((with_reducible apply al_q); exact rfl))); (with_reducible apply al_nil))))
  (first | (refine hfin_o1 rfl (resl_tmp rfl (resl_tmp rfl resl_nil)) rfl rfl rfl rfl ?_))
  exact ⟨rfl, rfl, rfl⟩
set_option maxRecDepth 100000 in
set_option maxHeartbeats 4000000 in
theorem k_LenZ : CLenZ 300 := by
  intro u9 l v hv hr hl
  refine ocall_of rfl rfl (fun v cs' r' h => by obtain ⟨rfl, rfl, rfl⟩ := h; exact ⟨rfl, rfl⟩) ?_
  refine hcall_of_body (f := 17) Try.func17 rfl (Nat.le_of_ble_eq_true rfl) (by first | exact big0 | exact big1 rfl) ?_
  (repeat (first | ((with_reducible apply rwp_seq)) | ((with_reducible apply rthen_normal)) | ((with_reducible apply rwp_region)) | ((with_reducible apply hs_nil)) | ((with_reducible apply rwp_ret)) | ((with_reducible apply hs_c); exact rfl; (repeat (first | ((with_reducible apply al_q); exact rfl) | ((with_reducible apply al_nilck); (iterate 3 exact rfl)))); (with_reducible apply al_nil)) | ((with_reducible apply hs_len 0); (iterate 4 exact rfl); kernel_rfl; exact rfl)))
  (first | (refine hfin_o1 rfl (resl_tmp rfl resl_nil) rfl rfl rfl rfl ?_))
  exact ⟨rfl, rfl, rfl⟩
set_option maxRecDepth 100000 in
set_option maxHeartbeats 4000000 in
theorem k_GetZ : CGetZ 300 := by
  intro u9 l v x y hv hr hl
  have C1 := c_placeZ (u9 := u9) (v := v) (a := x) (b := y) hv hr (by omega)
  have hp := has_pos (l := l) hr (x := x) (y := y)
  refine ocall_of rfl rfl (fun v cs' r' h => by obtain ⟨rfl, rfl, rfl⟩ := h; exact ⟨rfl, rfl⟩) ?_
  cases hh : hasE l x y with
  | false =>
    rw [hh] at C1
    rw [valE_none hh]
    refine hcall_of_body (f := 32) Try.func32 rfl (Nat.le_of_ble_eq_true rfl) (by first | exact big0 | exact big1 rfl) ?_
    (repeat (first | ((with_reducible apply rwp_seq)) | ((with_reducible apply rthen_normal)) | ((with_reducible apply rwp_region)) | ((with_reducible apply hs_nil)) | ((with_reducible apply hs_c); exact rfl; (repeat (first | ((with_reducible apply al_q); exact rfl))); (with_reducible apply al_nil))))
    refine hs_h1 1000 0 rfl rfl rfl rfl C1 rfl rfl rfl rfl rfl rfl (fun r cs' r' h => ?_)
    obtain ⟨rfl, rfl, rfl⟩ := h
    (repeat (first | ((with_reducible apply rwp_seq)) | ((with_reducible apply rthen_normal)) | ((with_reducible apply rwp_region)) | ((with_reducible apply hs_nil)) | ((with_reducible apply rwp_ret)) | ((with_reducible apply rthen_ret)) | ((with_reducible apply rwp_cond_1); exact rfl; (first | assumption | exact decide_eq_true (by omega) | (simp only [Bool.not_eq_true', decide_eq_false_iff_not, decide_eq_true_eq, Bool.not_eq_false']; (first | done | omega)) | exact rfl)) | ((with_reducible apply hs_c); exact rfl; (repeat (first | ((with_reducible apply al_q); exact rfl))); (with_reducible apply al_nil))))
    (first | (refine hfin_o1 rfl (resl_tmp rfl (resl_tmp rfl resl_nil)) rfl rfl rfl rfl ?_))
    exact ⟨rfl, rfl, rfl⟩
  | true =>
    rw [hh] at C1
    obtain ⟨u, hu⟩ := hp.1 hh
    rw [(valE_pos hr hu).2]
    have hlt := (List.getElem?_eq_some_iff.1 hu).1
    generalize posE l x y = p at *
    clear hp
    have q3 : (p : Int) < (l.length : Int) := by omega
    have q5 : 0 < l.length := by omega
    have E1 : (enC l)[(p : Int).toNat * 3 + 2]? = some (.c (.int .i64 u)) := by
      have h1 := enC_at l p (x, y, u) hu
      have h2 : ((((enC l).drop (p * 3)).take 3))[2]? = some (.c (.int .i64 u)) := by rw [h1]; rfl
      rw [List.getElem?_take_of_lt (by decide), List.getElem?_drop] at h2
      exact h2
    refine hcall_of_body (f := 32) Try.func32 rfl (Nat.le_of_ble_eq_true rfl) (by first | exact big0 | exact big1 rfl) ?_
    (repeat (first | ((with_reducible apply rwp_seq)) | ((with_reducible apply rthen_normal)) | ((with_reducible apply rwp_region)) | ((with_reducible apply hs_nil)) | ((with_reducible apply hs_c); exact rfl; (repeat (first | ((with_reducible apply al_q); exact rfl))); (with_reducible apply al_nil))))
    refine hs_h1 1000 0 rfl rfl rfl rfl C1 rfl rfl rfl rfl rfl rfl (fun r cs' r' h => ?_)
    obtain ⟨rfl, rfl, rfl⟩ := h
    (repeat (first | ((with_reducible apply rwp_seq)) | ((with_reducible apply rthen_normal)) | ((with_reducible apply rwp_region)) | ((with_reducible apply hs_nil)) | ((with_reducible apply rwp_ret)) | ((with_reducible apply rwp_skip)) | ((with_reducible apply rwp_cond_0); exact rfl; (first | assumption | exact decide_eq_false (by omega) | (simp only [Bool.not_eq_true', decide_eq_false_iff_not, decide_eq_true_eq, Bool.not_eq_false']; (first | done | omega)) | exact rfl)) | ((with_reducible apply hs_c); exact rfl; (repeat (first | ((with_reducible apply al_q); exact rfl) | ((with_reducible apply al_nilck); (iterate 3 exact rfl)))); (with_reducible apply al_nil)) | ((with_reducible apply hs_idx 0); (iterate 4 exact rfl); (first | omega); (first | assumption | omega); exact rfl; kernel_rfl; exact rfl) | ((with_reducible apply hs_fld 0); (iterate 3 exact rfl); (first | assumption | omega); kernel_rfl; exact rfl) | ((with_reducible apply hs_load1 0); (iterate 3 exact rfl); (first | assumption | omega); assumption; exact rfl; kernel_rfl; exact rfl)))
    (first | (refine hfin_o1 rfl (resl_tmp rfl (resl_tmp rfl resl_nil)) rfl rfl rfl rfl ?_))
    exact ⟨rfl, rfl, rfl⟩
set_option maxRecDepth 100000 in
set_option maxHeartbeats 4000000 in
theorem k_AllZ' (u9 : Value) (l : List Ent) (v : Value) (hv : v.oneCell' = true) (hr : Rises l) (hl : l.length ≤ 300) : OCall2 Try.prog 35 [] [.c v, .c u9] (nxRow v l) fun r cs' r' q => cs' = [.c v, .c u9] ∧ r' = nxRow v l ∧ r = vC q.v ∧ q = nxRow q.v l ∧ q.v.oneCell' = true := by
  have C1 := c_Clone (l := l) (v := v) (by omega)
  refine ocall2_of rfl rfl (fun v cs' r' q h => by obtain ⟨rfl, rfl, rfl, e, _⟩ := h; exact ⟨rfl, rfl, by rw [e]; exact Nat.zero_lt_succ _⟩) ?_
  refine hcall_of_body (f := 35) Try.func35 rfl (Nat.le_of_ble_eq_true rfl) (by first | exact big0 | exact big1 rfl) ?_
  (repeat (first | ((with_reducible apply rwp_seq)) | ((with_reducible apply rthen_normal)) | ((with_reducible apply rwp_region)) | ((with_reducible apply hs_nil)) | ((with_reducible apply hs_c); exact rfl; (repeat (first | ((with_reducible apply al_q); exact rfl) | ((with_reducible apply al_nilck); (iterate 3 exact rfl)))); (with_reducible apply al_nil))))
  refine hs_r2 0 1 (by decide) rfl rfl rfl rfl C1 rfl rfl rfl (fun rv q h => ?_)
  obtain ⟨v', hv', rfl, rfl⟩ := h
  (repeat (first | ((with_reducible apply rthen_normal)) | ((with_reducible apply hs_nil)) | ((with_reducible apply rwp_ret)) | ((with_reducible apply hs_c); exact rfl; (repeat (first | ((with_reducible apply al_q); exact rfl))); (with_reducible apply al_nil))))
  (first | (refine hfin_o2 rfl (resl_tmp rfl resl_nil) rfl rfl rfl rfl rfl (Nat.zero_lt_succ _) ?_))
  exact ⟨rfl, rfl, rfl, rfl, hv'⟩
theorem k_AllZ : CAllZ 300 := by
  intro u9 l v hv hr hl k i j hij
  refine ⟨fun U ρ W vs hH hown hvs => (((k_AllZ' u9 l v hv hr hl) k i j hij).call U ρ W vs hH hown hvs).mono ?_⟩
  rintro e W' ⟨v1, r1, m', R', ρ', U', q0, ⟨cs', r', q, e1, e2, ez, e3, e4, e5, e6, _⟩, qq⟩
  exact ⟨v1, r1, m', R', ρ', U', q0, ⟨cs', r', q, e1, e2, ez, e3, e4, e5, e6⟩, qq⟩
set_option maxRecDepth 100000 in
set_option maxHeartbeats 4000000 in
theorem k_CopyZ : CCopyZ 300 := by
  intro u9 l v hv hr hl
  have C1 := k_AllZ' u9 l v hv hr hl
  refine ocall2_of rfl rfl (fun v cs' r' q h => by obtain ⟨rfl, rfl, rfl, e, _⟩ := h; exact ⟨rfl, rfl, by rw [e]; exact Nat.zero_lt_succ _⟩) ?_
  refine hcall_of_body (f := 45) Try.func45 rfl (Nat.le_of_ble_eq_true rfl) (by first | exact big0 | exact big1 rfl) ?_
  (repeat (first | ((with_reducible apply rwp_seq)) | ((with_reducible apply rthen_normal)) | ((with_reducible apply rwp_region)) | ((with_reducible apply hs_nil)) | ((with_reducible apply hs_c); exact rfl; (repeat (first | ((with_reducible apply al_q); exact rfl))); (with_reducible apply al_nil))))
  refine hs_h2 1000 0 1 (by decide) rfl rfl rfl rfl C1 rfl rfl rfl rfl rfl rfl (fun r cs' r' q h => ?_)
  obtain ⟨rfl, rfl, rfl, hq, hqc⟩ := h
  generalize hw : q.v = w at *
  subst hq
  clear hw
  (repeat (first | ((with_reducible apply rthen_normal)) | ((with_reducible apply hs_nil)) | ((with_reducible apply rwp_ret)) | ((with_reducible apply hs_c); exact rfl; (repeat (first | ((with_reducible apply al_q); exact rfl))); (with_reducible apply al_nil))))
  (first | (refine hfin_o2 rfl (resl_agg rfl rfl rfl resl_nil) rfl rfl rfl rfl rfl (Nat.zero_lt_succ _) ?_) | (refine hfin_o2 rfl (resl_one rfl rfl rfl resl_nil) rfl rfl rfl rfl rfl (Nat.zero_lt_succ _) ?_))
  exact ⟨rfl, rfl, rfl, rfl, hqc⟩
set_option maxRecDepth 100000 in
set_option maxHeartbeats 4000000 in
theorem k_PutZ : CPutZ 300 := by
  intro u9 l v x y w hv hr hl
  have C1 := c_placeZ (u9 := u9) (v := v) (a := x) (b := y) hv hr (by omega)
  have hp := has_pos (l := l) hr (x := x) (y := y)
  have hpl := posE_len l x y
  refine ocall_of rfl rfl (fun v cs' r' h => by obtain ⟨rfl, v', hv', rfl, rfl⟩ := h; exact ⟨rfl, rfl⟩) ?_
  cases hh : hasE l x y with
  | false =>
    rw [hh] at C1
    rw [putL_new hr hh]
    have C2 := c_Insert (l := l) (v := v) (i := posE l x y) (x := x) (y := y) (w := w) hpl (by omega)
    generalize posE l x y = p at *
    clear hp
    refine hcall_of_body (f := 31) Try.func31 rfl (Nat.le_of_ble_eq_true rfl) (by first | exact big0 | exact big1 rfl) ?_
    (repeat (first | ((with_reducible apply rwp_seq)) | ((with_reducible apply rthen_normal)) | ((with_reducible apply rwp_region)) | ((with_reducible apply hs_nil)) | ((with_reducible apply hs_c); exact rfl; (repeat (first | ((with_reducible apply al_q); exact rfl))); (with_reducible apply al_nil))))
    refine hs_h1 1000 0 rfl rfl rfl rfl C1 rfl rfl rfl rfl rfl rfl (fun r cs' r' h => ?_)
    obtain ⟨rfl, rfl, rfl⟩ := h
    (repeat (first | ((with_reducible apply rwp_drawH (id := 5) [0,1,2,3,4,5,6,7,8,9,10,11,12,13] [34]); kernel_rfl; kernel_rfl; exact rfl) | ((with_reducible apply rwp_seq)) | ((with_reducible apply rthen_normal)) | ((with_reducible apply rwp_region)) | ((with_reducible apply hs_nil)) | ((with_reducible apply rwp_skip)) | ((with_reducible apply rwp_cond_0); exact rfl; (first | assumption | exact decide_eq_false (by omega) | (simp only [Bool.not_eq_true', decide_eq_false_iff_not, decide_eq_true_eq, Bool.not_eq_false']; (first | done | omega)) | exact rfl)) | ((with_reducible apply hs_c); exact rfl; (repeat (first | ((with_reducible apply al_q); exact rfl) | ((with_reducible apply al_nilck); (iterate 3 exact rfl)) | ((with_reducible apply al_bslice); (iterate 10 exact rfl)))); (with_reducible apply al_nil))))
    refine hs_r1 0 rfl rfl rfl rfl C2 rfl rfl rfl (fun rv r' h => ?_)
    obtain ⟨v', hv', rfl, rfl⟩ := h
    (repeat (first | ((with_reducible apply hs_nilS); kernel_rfl) | ((with_reducible apply rwp_seq)) | ((with_reducible apply rthen_normal)) | ((with_reducible apply rwp_region)) | ((with_reducible apply hs_nil)) | ((with_reducible apply rwp_ret)) | ((with_reducible apply hs_c); exact rfl; (repeat (first | ((with_reducible apply al_q); exact rfl) | ((with_reducible apply al_nilck); (iterate 3 exact rfl)))); (with_reducible apply al_nil))))
    (first | (refine hfin_o1 rfl (resl_tmp rfl resl_nil) rfl rfl rfl rfl ?_))
    exact ⟨rfl, v', hv', rfl, rfl⟩
  | true =>
    rw [hh] at C1
    obtain ⟨u, hu⟩ := hp.1 hh
    rw [putL_has hr hu]
    have hlt := (List.getElem?_eq_some_iff.1 hu).1
    generalize posE l x y = p at *
    clear hp
    have q3 : (p : Int) < (l.length : Int) := by omega
    have q5 : 0 < l.length := by omega
    refine hcall_of_body (f := 31) Try.func31 rfl (Nat.le_of_ble_eq_true rfl) (by first | exact big0 | exact big1 rfl) ?_
    (repeat (first | ((with_reducible apply rwp_seq)) | ((with_reducible apply rthen_normal)) | ((with_reducible apply rwp_region)) | ((with_reducible apply hs_nil)) | ((with_reducible apply hs_c); exact rfl; (repeat (first | ((with_reducible apply al_q); exact rfl))); (with_reducible apply al_nil))))
    refine hs_h1 1000 0 rfl rfl rfl rfl C1 rfl rfl rfl rfl rfl rfl (fun r cs' r' h => ?_)
    obtain ⟨rfl, rfl, rfl⟩ := h
    (repeat (first | ((with_reducible apply rwp_seq)) | ((with_reducible apply rthen_normal)) | ((with_reducible apply rwp_region)) | ((with_reducible apply hs_nil)) | ((with_reducible apply rwp_cond_1); exact rfl; (first | assumption | exact decide_eq_true (by omega) | (simp only [Bool.not_eq_true', decide_eq_false_iff_not, decide_eq_true_eq, Bool.not_eq_false']; (first | done | omega)) | exact rfl)) | ((with_reducible apply hs_c); exact rfl; (repeat (first | ((with_reducible apply al_q); exact rfl) | ((with_reducible apply al_nilck); (iterate 3 exact rfl)))); (with_reducible apply al_nil)) | ((with_reducible apply hs_idx 0); (iterate 4 exact rfl); (first | omega); (first | assumption | omega); exact rfl; kernel_rfl; exact rfl) | ((with_reducible apply hs_fld 0); (iterate 3 exact rfl); (first | assumption | omega); kernel_rfl; exact rfl)))
    refine hs_store 0 rfl rfl rfl rfl q5 rfl rfl ?_ rfl ?_
    · show (p : Int).toNat * 3 + 2 + 1 ≤ (enC l).length
      rw [enC_len]; omega
    · have e1 := splice_one (w := w) hu
      have e2 : (l.take p ++ (x, y, w) :: l.drop (p + 1)).length = l.length := by
        rw [List.length_append, List.length_cons, List.length_take, List.length_drop]; omega
      have e3 : (⟨69, 3, v, l.length, splice (enC l) ((p : Int).toNat * 3 + 2) [.c (.int .i64 w)]⟩ : HRow) = nxRow v (l.take p ++ (x, y, w) :: l.drop (p + 1)) := by
        rw [e1]; unfold nxRow; rw [e2]
      (repeat (first | ((with_reducible apply rwp_seq)) | ((with_reducible apply rthen_normal)) | ((with_reducible apply rwp_region)) | ((with_reducible apply hs_nil)) | ((with_reducible apply rwp_ret)) | ((with_reducible apply rthen_ret)) | ((with_reducible apply hs_c); exact rfl; (repeat (first | ((with_reducible apply al_q); exact rfl))); (with_reducible apply al_nil))))
      (first | (refine hfin_o1 rfl (resl_tmp rfl resl_nil) rfl rfl rfl rfl ?_))
      exact ⟨rfl, v, hv, rfl, e3⟩
def INIZ (u9 : Value) (l : List Ent) (v : Value) (p : Nat) (a b c d : Int) (n : Nat) (R : Rws) (ts : List (Nat × AV)) (ms : List (Nat × List AC)) : Prop :=
  ∃ (k : Nat) (u : Value) (ki : Int), k ≤ l.length - p ∧ n = l.length - p - k ∧ ki = k ∧ u.oneCell' = true ∧ R = rowTwo (nxRow v l) (nxRow u (inL ((l.drop p).take k) a b c d)) ∧ ms = [(4, mPx a b), (5, mPx c d), (1000, [.c v, .c u9])] ∧ ts = [(4, vOw 4), (5, vOw 5), (7, vC u), (23, vC (rowSl v 3 p l.length)), (24, vI ((l.length - p : Nat) : Int)), (25, vI ki)]
set_option maxRecDepth 100000 in
set_option maxHeartbeats 8000000 in
theorem k_InZ : CInZ 300 := by
  intro u9 l v a b c d hv hr hl
  have C1 := c_placeZ (u9 := u9) (v := v) (a := a) (b := b) hv hr (by omega)
  refine ocall2_of rfl rfl (fun v cs' r' q h => by obtain ⟨rfl, rfl, rfl, e⟩ := h; exact ⟨rfl, rfl, by rw [e]; exact Nat.zero_lt_succ _⟩) ?_
  have hpl := posE_len l a b
  have hlow := fun k e => drop_low (l := l) hr (a := a) (b := b) (k := k) (e := e)
  have hdr : Rises (l.drop (posE l a b)) := hr.drop _
  rw [inL_drop hr a b c d]
  generalize posE l a b = p at *
  have hone := rowSl_one (v := v) (z := 3) (a := p) (b := l.length) hv
  generalize hh : hasE l a b = hb at *
  clear hh hr
  refine hcall_of_body (f := 38) Try.func38 rfl (Nat.le_of_ble_eq_true rfl) (by first | exact big0 | exact big1 rfl) ?_
  refine rwp_nil 1 69 3 rfl ?_
  (repeat (first | ((with_reducible apply rwp_seq)) | ((with_reducible apply rthen_normal)) | ((with_reducible apply rwp_region)) | ((with_reducible apply hs_nil)) | ((with_reducible apply hs_c); exact rfl; (repeat (first | ((with_reducible apply al_q); exact rfl))); (with_reducible apply al_nil))))
  refine hs_h1 1000 0 rfl rfl rfl rfl C1 rfl rfl rfl rfl rfl rfl (fun r cs' r' h => ?_)
  obtain ⟨rfl, rfl, rfl⟩ := h
  (repeat (first | ((with_reducible apply rwp_seq)) | ((with_reducible apply rthen_normal)) | ((with_reducible apply rwp_region)) | ((with_reducible apply hs_nil)) | ((with_reducible apply rwp_block)) | ((with_reducible apply hs_c); exact rfl; (repeat (first | ((with_reducible apply al_q); exact rfl) | ((with_reducible apply al_nilck); (iterate 3 exact rfl)))); (with_reducible apply al_nil)) | ((with_reducible apply hs_slL 0); (iterate 6 exact rfl); (first | assumption | omega); (first | assumption | exact rfl); kernel_rfl; exact rfl) | ((with_reducible apply hs_lenS 0); (iterate 4 exact rfl); kernel_rfl; exact rfl)))
  refine rwp_loopL 55 (INIZ u9 l v p a b c d) (l.length - p) (rowTwo (nxRow v l) (nxRow (.slice none 0 0) [])) _ [(4, mPx a b), (5, mPx c d), (1000, [.c v, .c u9])] ⟨0, .slice none 0 0, 0, Nat.zero_le _, rfl, rfl, rfl, rfl, rfl, rfl⟩ (rowTwo_le rfl rfl) rfl ⟨rfl, rfl, rfl, rfl, rfl, rfl, trivial⟩ ⟨rfl, rfl, rfl, trivial⟩ rfl ?_
  rintro n R ts ms ⟨k, u, ki, hk, rfl, hki, hu, rfl, rfl, rfl⟩ hok
  clear hok C1
  have hil := inL_len ((l.drop p).take k) a b c d
  have hil2 : ((l.drop p).take k).length ≤ k := by simp; omega
  by_cases hq : k < l.length - p
  · have q2 : ki < ((l.length - p : Nat) : Int) := by omega
    have q3 : 0 ≤ ki := by omega
    have q5 : 0 < l.length := by omega
    have hkd : k < (l.drop p).length := by rw [List.length_drop]; exact hq
    obtain ⟨x, y, w, g1⟩ : ∃ x y w, (l.drop p)[k]? = some (x, y, w) := ⟨_, _, _, List.getElem?_eq_getElem hkd⟩
    have hax : a ≤ x := hlow k _ g1
    have E1 : (p + ki.toNat) * 3 + 3 ≤ (enC l).length ∧ ((enC l).drop ((p + ki.toNat) * 3)).take 3 = [.c (.int .i64 x), .c (.int .i64 y), .c (.int .i64 w)] := by
      have hkk : ki.toNat = k := by omega
      rw [hkk]
      refine ⟨by rw [enC_len]; omega, enC_at l (p + k) (x, y, w) ?_⟩
      rw [List.getElem?_drop] at g1; exact g1
    have hstop : c < x → inL (l.drop p) a b c d = inL ((l.drop p).take k) a b c d := fun h => inL_stop hdr g1 h
    have hstep : x ≤ c → inL ((l.drop p).take (k + 1)) a b c d = inL ((l.drop p).take k) a b c d ++ if b ≤ y ∧ y ≤ d then [(x, y, w)] else [] := fun h => inL_step g1 hax h
    generalize hm : l.drop p = m at *
    clear hlow g1 hdr hax
    replace hm := Lib.hid hm
    by_cases h1 : c < x
    · rw [hstop h1]
      clear hstop hstep
      (repeat (first | ((with_reducible apply rwp_seq)) | ((with_reducible apply rthen_normal)) | ((with_reducible apply rwp_region)) | ((with_reducible apply hs_nil)) | ((with_reducible apply rwp_ret)) | ((with_reducible apply rwp_skip)) | ((with_reducible apply rwp_block)) | ((with_reducible apply rblock_same)) | ((with_reducible apply rwp_exit)) | ((with_reducible apply rthen_exit)) | ((with_reducible apply rblock_ne); exact rfl) | ((with_reducible apply rwp_cond_1); exact rfl; (first | assumption | exact decide_eq_true (by omega) | (simp only [Bool.not_eq_true', decide_eq_false_iff_not, decide_eq_true_eq, Bool.not_eq_false']; (first | done | omega)) | exact rfl)) | ((with_reducible apply hs_c); exact rfl; (repeat (first | ((with_reducible apply al_q); exact rfl))); (with_reducible apply al_nil)) | ((with_reducible apply hs_idxS 0); (iterate 5 exact rfl); (first | assumption | omega); (first | assumption | omega); (first | exact Nat.le_refl _ | assumption); kernel_rfl; exact rfl) | ((with_reducible apply hs_loadN 0); (iterate 3 exact rfl); (first | assumption | omega); assumption; exact rfl; kernel_rfl; exact rfl)))
      (first | (refine hfin_o2 rfl (resl_tmp rfl resl_nil) rfl rfl rfl rfl rfl (Nat.zero_lt_succ _) ?_))
      exact ⟨rfl, rfl, rfl, rfl⟩
    · have hs := hstep (by omega)
      clear hstop hstep
      have h1' : ¬ x > c := h1
      by_cases h2 : b ≤ y
      · by_cases h3 : y ≤ d
        · rw [if_pos ⟨h2, h3⟩] at hs
          (repeat (first | ((with_reducible apply rwp_seq)) | ((with_reducible apply rthen_normal)) | ((with_reducible apply rwp_region)) | ((with_reducible apply hs_nil)) | ((with_reducible apply rwp_skip)) | ((with_reducible apply rwp_block)) | ((with_reducible apply rwp_cond_1); exact rfl; (first | assumption | exact decide_eq_true (by omega) | (simp only [Bool.not_eq_true', decide_eq_false_iff_not, decide_eq_true_eq, Bool.not_eq_false']; (first | done | omega)) | exact rfl)) | ((with_reducible apply rwp_cond_0); exact rfl; (first | assumption | exact decide_eq_false (by omega) | (simp only [Bool.not_eq_true', decide_eq_false_iff_not, decide_eq_true_eq, Bool.not_eq_false']; (first | done | omega)) | exact rfl)) | ((with_reducible apply hs_c); exact rfl; (repeat (first | ((with_reducible apply al_q); exact rfl) | ((with_reducible apply al_bslice); (iterate 10 exact rfl)) | ((with_reducible apply al_guard_b (c := true)); exact rfl; exact rfl; (first | assumption | exact decide_eq_true (by omega) | (simp only [Bool.not_eq_true', decide_eq_false_iff_not, decide_eq_true_eq, Bool.not_eq_false']; (first | done | omega)))))); (with_reducible apply al_nil)) | ((with_reducible apply hs_idxS 0); (iterate 5 exact rfl); (first | assumption | omega); (first | assumption | omega); (first | exact Nat.le_refl _ | assumption); kernel_rfl; exact rfl) | ((with_reducible apply hs_loadN 0); (iterate 3 exact rfl); (first | assumption | omega); assumption; exact rfl; kernel_rfl; exact rfl)))
          refine hs_app0 1 rfl rfl rfl rfl ?q1 ?q2 rfl rfl (fun v' hv' => ?_)
          case q1 => exact le_maxLen (by show (inL (m.take k) a b c d).length + 1 ≤ 1000000; omega)
          case q2 => show ((inL (m.take k) a b c d).length + 1) * 24 ≤ 140737488355328; omega
          (repeat (first | ((with_reducible apply rthen_normal)) | ((with_reducible apply rwp_region)) | ((with_reducible apply hs_nil)) | ((with_reducible apply rblock_normal)) | ((with_reducible apply hs_c); exact rfl; (repeat (first | ((with_reducible apply al_q); exact rfl) | ((with_reducible apply al_add); (iterate 3 exact rfl); (first | exact i64_wrap (by omega) | assumption | rfl); exact rfl))); (with_reducible apply al_nil))))
          refine ⟨l.length - p - (k + 1), rowTwo (nxRow v l) (nxRow v' (inL (m.take (k + 1)) a b c d)), _, [(4, mPx a b), (5, mPx c d), (1000, [.c v, .c u9])], by omega, ⟨k + 1, v', ki + 1, by omega, rfl, by omega, hv', by rw [hm.out], rfl, rfl⟩, ?_, rfl, ⟨rfl, rfl, rfl, rfl, rfl, rfl, trivial⟩, ⟨rfl, rfl, rfl, trivial⟩, rfl⟩
          rw [hs, nxRow_one]
          exact rowTwo_le rfl rfl
        · rw [if_neg (fun h => h3 h.2), List.append_nil] at hs
          (repeat (first | ((with_reducible apply rwp_seq)) | ((with_reducible apply rthen_normal)) | ((with_reducible apply rwp_region)) | ((with_reducible apply hs_nil)) | ((with_reducible apply rwp_skip)) | ((with_reducible apply rwp_block)) | ((with_reducible apply rblock_normal)) | ((with_reducible apply rwp_cond_1); exact rfl; (first | assumption | exact decide_eq_true (by omega) | (simp only [Bool.not_eq_true', decide_eq_false_iff_not, decide_eq_true_eq, Bool.not_eq_false']; (first | done | omega)) | exact rfl)) | ((with_reducible apply rwp_cond_0); exact rfl; (first | assumption | exact decide_eq_false (by omega) | (simp only [Bool.not_eq_true', decide_eq_false_iff_not, decide_eq_true_eq, Bool.not_eq_false']; (first | done | omega)) | exact rfl)) | ((with_reducible apply hs_c); exact rfl; (repeat (first | ((with_reducible apply al_q); exact rfl) | ((with_reducible apply al_add); (iterate 3 exact rfl); (first | exact i64_wrap (by omega) | assumption | rfl); exact rfl) | ((with_reducible apply al_guard_b (c := true)); exact rfl; exact rfl; (first | assumption | exact decide_eq_true (by omega) | (simp only [Bool.not_eq_true', decide_eq_false_iff_not, decide_eq_true_eq, Bool.not_eq_false']; (first | done | omega)))))); (with_reducible apply al_nil)) | ((with_reducible apply hs_idxS 0); (iterate 5 exact rfl); (first | assumption | omega); (first | assumption | omega); (first | exact Nat.le_refl _ | assumption); kernel_rfl; exact rfl) | ((with_reducible apply hs_loadN 0); (iterate 3 exact rfl); (first | assumption | omega); assumption; exact rfl; kernel_rfl; exact rfl)))
          refine ⟨l.length - p - (k + 1), rowTwo (nxRow v l) (nxRow u (inL (m.take (k + 1)) a b c d)), _, [(4, mPx a b), (5, mPx c d), (1000, [.c v, .c u9])], by omega, ⟨k + 1, u, ki + 1, by omega, rfl, by omega, hu, by rw [hm.out], rfl, rfl⟩, ?_, rfl, ⟨rfl, rfl, rfl, rfl, rfl, rfl, trivial⟩, ⟨rfl, rfl, rfl, trivial⟩, rfl⟩
          rw [hs]
          exact rowTwo_le rfl rfl
      · rw [if_neg (fun h => h2 h.1), List.append_nil] at hs
        (repeat (first | ((with_reducible apply rwp_seq)) | ((with_reducible apply rthen_normal)) | ((with_reducible apply rwp_region)) | ((with_reducible apply hs_nil)) | ((with_reducible apply rwp_skip)) | ((with_reducible apply rwp_block)) | ((with_reducible apply rblock_normal)) | ((with_reducible apply rwp_cond_1); exact rfl; (first | assumption | exact decide_eq_true (by omega) | (simp only [Bool.not_eq_true', decide_eq_false_iff_not, decide_eq_true_eq, Bool.not_eq_false']; (first | done | omega)) | exact rfl)) | ((with_reducible apply rwp_cond_0); exact rfl; (first | assumption | exact decide_eq_false (by omega) | (simp only [Bool.not_eq_true', decide_eq_false_iff_not, decide_eq_true_eq, Bool.not_eq_false']; (first | done | omega)) | exact rfl)) | ((with_reducible apply hs_c); exact rfl; (repeat (first | ((with_reducible apply al_q); exact rfl) | ((with_reducible apply al_add); (iterate 3 exact rfl); (first | exact i64_wrap (by omega) | assumption | rfl); exact rfl) | ((with_reducible apply al_guard_b (c := false)); exact rfl; exact rfl; (first | assumption | exact decide_eq_false (by omega) | (simp only [Bool.not_eq_true', decide_eq_false_iff_not, decide_eq_true_eq, Bool.not_eq_false']; (first | done | omega)))))); (with_reducible apply al_nil)) | ((with_reducible apply hs_idxS 0); (iterate 5 exact rfl); (first | assumption | omega); (first | assumption | omega); (first | exact Nat.le_refl _ | assumption); kernel_rfl; exact rfl) | ((with_reducible apply hs_loadN 0); (iterate 3 exact rfl); (first | assumption | omega); assumption; exact rfl; kernel_rfl; exact rfl)))
        refine ⟨l.length - p - (k + 1), rowTwo (nxRow v l) (nxRow u (inL (m.take (k + 1)) a b c d)), _, [(4, mPx a b), (5, mPx c d), (1000, [.c v, .c u9])], by omega, ⟨k + 1, u, ki + 1, by omega, rfl, by omega, hu, by rw [hm.out], rfl, rfl⟩, ?_, rfl, ⟨rfl, rfl, rfl, rfl, rfl, rfl, trivial⟩, ⟨rfl, rfl, rfl, trivial⟩, rfl⟩
        rw [hs]
        exact rowTwo_le rfl rfl
  · have q2 : ¬ ki < ((l.length - p : Nat) : Int) := by omega
    have e0 : (l.drop p).take k = l.drop p := List.take_of_length_le (by rw [List.length_drop]; omega)
    rw [e0]
    (repeat (first | ((with_reducible apply rwp_seq)) | ((with_reducible apply rthen_normal)) | ((with_reducible apply rwp_region)) | ((with_reducible apply hs_nil)) | ((with_reducible apply rwp_ret)) | ((with_reducible apply rblock_same)) | ((with_reducible apply rwp_exit)) | ((with_reducible apply rthen_exit)) | ((with_reducible apply rwp_cond_0); exact rfl; (first | assumption | exact decide_eq_false (by omega) | (simp only [Bool.not_eq_true', decide_eq_false_iff_not, decide_eq_true_eq, Bool.not_eq_false']; (first | done | omega)) | exact rfl)) | ((with_reducible apply hs_c); exact rfl; (repeat (first | ((with_reducible apply al_q); exact rfl))); (with_reducible apply al_nil))))
    (first | (refine hfin_o2 rfl (resl_tmp rfl resl_nil) rfl rfl rfl rfl rfl (Nat.zero_lt_succ _) ?_))
    exact ⟨rfl, rfl, rfl, rfl⟩
end Go.Proofs.Ytaennpehlhgggaa

namespace Go.Proofs.Ytaennpehlhgggaa
open Go.RowKit
set_option linter.unusedVariables false
set_option linter.unusedSimpArgs false
abbrev setC (v : Value) (r : Int) : List AC := [.c v, .c (.int .i64 r)]
/-- what a set is: its block, its index' row. -/
def SetI : SIT := fun r L p S => ∃ (ρ : Nat → Nat) (v : Value) (es : List Ent), p = ptrV (ρ 1000) ∧ v.oneCell' = true ∧ IdxOf L es ∧ S = thingSP ρ (mem1 1000 (setC v r)) (row1 0 (nxRow v es)) 1000
theorem enC_plain : ∀ l, (enC l).all AC.plainB = true
  | [] => rfl
  | p :: l => by
    have := enC_plain l
    simp only [enC, List.all_cons, this]; rfl
theorem set_plain (v : Value) (r : Int) (es : List Ent) : plainM (mem1 1000 (setC v r)) (row1 0 (nxRow v es)) := by
  refine ⟨fun k cs h => ?_, fun i q h => ?_⟩
  · obtain ⟨rfl, rfl⟩ := mem1_iff h; rfl
  · obtain ⟨rfl, rfl⟩ := row1_iff h; exact ⟨Nat.zero_lt_succ _, enC_plain es⟩
theorem mem1_some (k : Nat) (cs : List AC) : ∃ ds, mem1 k cs k = some ds := ⟨cs, by unfold mem1; exact upd_same _ _ _⟩
theorem ptr_b {b c : Nat} (h : ptrV b = ptrV c) : b = c := by cases h; rfl
theorem upd_row10 {r q : HRow} : upd (row1 0 r) 0 q = row1 0 q := by
  funext i
  unfold row1
  by_cases e : i = 0
  · subst e; rw [upd_same, upd_same]
  · rw [upd_ne _ _ e, upd_ne _ _ e, upd_ne _ _ e]
set_option maxRecDepth 100000 in
set_option maxHeartbeats 4000000 in
theorem k_Room9 : CRoom9 SetI := by
  intro r L b S h hl
  obtain ⟨ρ, v, es, hp, hv, hI, rfl⟩ := h
  obtain rfl := ptr_b hp
  refine th_of (mem1_some _ _) rfl (Post := fun w m1 R1 => w = vI r ∧ m1 = mem1 1000 (setC v r) ∧ R1 = row1 0 (nxRow v es)) ?_ (fun w m1 R1 h => ?_)
  · refine hcall_of_body (f := 12) Try.func12 rfl (Nat.le_of_ble_eq_true rfl) (by first | exact big0 | exact big1 rfl) ?_
    (repeat (first | ((with_reducible apply rwp_seq)) | ((with_reducible apply rthen_normal)) | ((with_reducible apply rwp_region)) | ((with_reducible apply hs_nil)) | ((with_reducible apply rwp_ret)) | ((with_reducible apply hs_c); exact rfl; (repeat (first | ((with_reducible apply al_q); exact rfl) | ((with_reducible apply al_nilck); (iterate 3 exact rfl)))); (with_reducible apply al_nil))))
    (first | (refine hfin_g rfl (resl_tmp rfl resl_nil) rfl (RLe.refl _) rfl rfl (fun i r h => ⟨r, h⟩) ?_))
    exact ⟨rfl, rfl, rfl⟩
  · obtain ⟨rfl, rfl, rfl⟩ := h
    exact ⟨rfl, set_plain _ _ _, fun ρ1 hρ => ⟨rfl, ρ1, v, es, by rw [hρ], hv, hI, rfl⟩⟩
set_option maxRecDepth 100000 in
set_option maxHeartbeats 4000000 in
theorem k_New9 : CNew9 SetI := by
  intro n
  refine th_new (Post := fun w m1 R1 => w = .w (.one (.own 7 0)) ∧ m1 = mem1 7 (setC (.slice none 0 0) (room9 n)) ∧ R1 = row1 0 (nxRow (.slice none 0 0) [])) ?_ (fun w m1 R1 h => ?_)
  · have e : room9 n = if 1024 < if 1 > n then 1 else n then 1024 else if 1 > n then 1 else n := by unfold room9; (repeat split) <;> omega
    rw [e]
    refine hcall_of_body (f := 10) Try.func10 rfl (Nat.le_of_ble_eq_true rfl) (by first | exact big0 | exact big1 rfl) ?_
    refine rwp_nil 0 69 3 rfl ?_
    (repeat (first | ((with_reducible apply rwp_seq)) | ((with_reducible apply rthen_normal)) | ((with_reducible apply rwp_region)) | ((with_reducible apply hs_nil)) | ((with_reducible apply rwp_ret)) | ((with_reducible apply hs_c); exact rfl; (repeat (first | ((with_reducible apply al_q); exact rfl) | ((with_reducible apply al_min); (iterate 4 exact rfl)) | ((with_reducible apply al_max); (iterate 4 exact rfl)))); (with_reducible apply al_nil))))
    (first | (refine hfin_gn 7 rfl (resl_tmp rfl resl_nil) rfl (RLe.refl _) rfl rfl ?_))
    exact ⟨rfl, rfl, rfl⟩
  · obtain ⟨rfl, rfl, rfl⟩ := h
    refine ⟨7, rfl, ⟨fun k cs h => ?_, (set_plain (.slice none 0 0) 0 []).2⟩, fun ρ1 => ⟨ρ1 7, rfl, fun j => ρ1 (swp 1000 7 j), .slice none 0 0, [], rfl, rfl, .nil, ?_⟩⟩
    · obtain ⟨rfl, rfl⟩ := mem1_iff h; rfl
    · have h1 := thingSP_ren (swp_swp 1000 7) (σ := fun j => j) (τ := fun j => j) (fun _ => rfl) (fun _ => rfl) (ρ := ρ1) (m := mem1 1000 (setC (.slice none 0 0) (room9 n))) (R := row1 0 (nxRow (.slice none 0 0) [])) (k := 1000)
      rw [mem1_ren rfl] at h1
      exact h1
set_option maxRecDepth 100000 in
set_option maxHeartbeats 4000000 in
theorem k_Len9 : CLen9 SetI := by
  intro r L b S h hl
  obtain ⟨ρ, v, es, hp, hv, hI, rfl⟩ := h
  obtain rfl := ptr_b hp
  refine th_of (mem1_some _ _) rfl (Post := fun w m1 R1 => w = vI L.length ∧ m1 = mem1 1000 (setC v r) ∧ R1 = row1 0 (nxRow v es)) ?_ (fun w m1 R1 h => ?_)
  · rw [← hI.len]
    refine hcall_of_body (f := 17) Try.func17 rfl (Nat.le_of_ble_eq_true rfl) (by first | exact big0 | exact big1 rfl) ?_
    (repeat (first | ((with_reducible apply rwp_seq)) | ((with_reducible apply rthen_normal)) | ((with_reducible apply rwp_region)) | ((with_reducible apply hs_nil)) | ((with_reducible apply rwp_ret)) | ((with_reducible apply hs_c); exact rfl; (repeat (first | ((with_reducible apply al_q); exact rfl) | ((with_reducible apply al_nilck); (iterate 3 exact rfl)))); (with_reducible apply al_nil)) | ((with_reducible apply hs_len 0); (iterate 4 exact rfl); kernel_rfl; exact rfl)))
    (first | (refine hfin_g rfl (resl_tmp rfl resl_nil) rfl (RLe.refl _) rfl rfl (fun i r h => ⟨r, h⟩) ?_))
    exact ⟨rfl, rfl, rfl⟩
  · obtain ⟨rfl, rfl, rfl⟩ := h
    exact ⟨rfl, set_plain _ _ _, fun ρ1 hρ => ⟨rfl, ρ1, v, es, by rw [hρ], hv, hI, rfl⟩⟩
set_option maxRecDepth 100000 in
set_option maxHeartbeats 4000000 in
/-- Number, of a set's block and row. -/
theorem o_Num9 {r : Int} {L : List Px} {v : Value} {es : List Ent} (x y : Int) (hv : v.oneCell' = true) (hI : IdxOf L es) (hl : L.length ≤ 300) : OCall Try.prog 15 [vP x y] (setC v r) (nxRow v es) fun w cs' r' => w = .tup [.one (.c (.int .i64 (valE es x y))), .one (.c (.bool (hasE es x y)))] ∧ cs' = setC v r ∧ r' = nxRow v es := by
  have C1 := k_GetZ (.int .i64 r) es v x y hv hI.1 (by rw [hI.len]; exact hl)
  refine ocall_of rfl rfl (fun v cs' r' h => by obtain ⟨rfl, rfl, rfl⟩ := h; exact ⟨rfl, rfl⟩) ?_
  generalize valE es x y = a at *
  generalize hasE es x y = c at *
  refine hcall_of_body (f := 15) Try.func15 rfl (Nat.le_of_ble_eq_true rfl) (by first | exact big0 | exact big1 rfl) ?_
  (repeat (first | ((with_reducible apply rwp_drawH (id := 1) [0,1,2,3,4,5,6,7,8] [10]); kernel_rfl; kernel_rfl; exact rfl) | ((with_reducible apply rwp_seq)) | ((with_reducible apply rthen_normal)) | ((with_reducible apply rwp_region)) | ((with_reducible apply hs_nil)) | ((with_reducible apply hs_c); exact rfl; (repeat (first | ((with_reducible apply al_q); exact rfl) | ((with_reducible apply al_nilck); (iterate 3 exact rfl)))); (with_reducible apply al_nil))))
  refine hs_h1u 1000 0 rfl rfl rfl rfl C1 rfl (fun v cs' r' h => h.2.1) rfl rfl rfl rfl (fun rv cs' r' h => ?_)
  obtain ⟨rfl, rfl, rfl⟩ := h
  (repeat (first | ((with_reducible apply hs_nilS); kernel_rfl) | ((with_reducible apply rthen_normal)) | ((with_reducible apply rwp_ret)) | ((with_reducible apply hs_c); exact rfl; (repeat (first | ((with_reducible apply al_q); exact rfl))); (with_reducible apply al_nil))))
  (first | (refine hfin_o1 rfl (resl_tmp rfl (resl_tmp rfl resl_nil)) rfl rfl rfl rfl ?_))
  exact ⟨rfl, rfl, rfl⟩
/-- what a call on a set's block and row tells, told of the set. -/
theorem set_of {f : FuncId} {args : List AV} {r : Int} {L L' : List Px} {b : Nat} {S : SP} {post : AV → Prop} (hac : args.all AV.closedB = true) (h : SetI r L (ptrV b) S)
    (hc : ∀ v es, v.oneCell' = true → IdxOf L es → OCall Try.prog f args (setC v r) (nxRow v es) fun w cs' r' => w.closedB = true ∧ post w ∧ ∃ v' es', v'.oneCell' = true ∧ IdxOf L' es' ∧ cs' = setC v' r ∧ r' = nxRow v' es') : ThCall Try.prog f (vC (ptrV b) :: args) (ptrV b) S fun w S' => post w ∧ SetI r L' (ptrV b) S' := by
  obtain ⟨ρ, v, es, hp, hv, hI, rfl⟩ := h
  obtain rfl := ptr_b hp
  refine th_of (mem1_some _ _) hac (hc v es hv hI 1000 0) (fun w m1 R1 h => ?_)
  obtain ⟨cs', r', rfl, rfl, hw, hpo, v', es', hv', hI', rfl, rfl⟩ := h
  exact ⟨hw, set_plain _ _ _, fun ρ1 hρ => ⟨hpo, ρ1, v', es', by rw [hρ], hv', hI', rfl⟩⟩
theorem ocall_mono {P : Program} {f : FuncId} {args : List AV} {cs : List AC} {r : HRow} {post post' : AV → List AC → HRow → Prop} (h : OCall P f args cs r post) (hp : ∀ v cs' r', post v cs' r' → post' v cs' r') : OCall P f args cs r post' := by
  intro k i
  refine ⟨fun U ρ W vs hH hown hvs => ((h k i).call U ρ W vs hH hown hvs).mono ?_⟩
  rintro e W' ⟨v1, r1, m', R', ρ', U', q0, ⟨cs', r', e1, e2, e3⟩, qq⟩
  exact ⟨v1, r1, m', R', ρ', U', q0, ⟨cs', r', e1, e2, hp _ _ _ e3⟩, qq⟩
theorem k_Num9 : CNum9 SetI := by
  intro r L b S x y h hl
  have h1 := set_of (f := 15) (args := [vP x y]) (post := fun w => ∃ k : Int, w = .tup [.one (.c (.int .i64 k)), .one (.c (.bool (decide (0 ≤ numI L x y))))] ∧ (0 ≤ numI L x y → k = numI L x y)) rfl h fun v es hv hI => ocall_mono (o_Num9 x y hv hI hl) fun w cs' r' h => by
    obtain ⟨rfl, rfl, rfl⟩ := h
    have hn := hI.num x y
    exact ⟨rfl, ⟨_, by rw [hn.1], hn.2⟩, v, es, hv, hI, rfl, rfl⟩
  intro i
  refine ⟨fun U ρ W vs hH hown hvs => ((h1 i).call U ρ W vs hH hown hvs).mono ?_⟩
  rintro e W' ⟨v1, r1, m', R', ρ', U', q0, ⟨S', e1, e2, ⟨k, e3, e4⟩, e5⟩, qq⟩
  exact ⟨v1, r1, m', R', ρ', U', q0, ⟨S', e1, e2, k, e3, e4, e5⟩, qq⟩
end Go.Proofs.Ytaennpehlhgggaa

namespace Go.Proofs.Ytaennpehlhgggaa
open Go.RowKit
set_option linter.unusedVariables false
set_option linter.unusedSimpArgs false
abbrev vAdd (b : Bool) (e : Int) : AV := .tup [.one (.c (.bool b)), .one (.c (.int .i64 e))]
set_option maxRecDepth 100000 in
set_option maxHeartbeats 8000000 in
theorem k_Add9 : CAdd9 SetI := by
  intro r L b S x y h hl
  refine set_of (L' := addL r L x y) (post := fun w => w = vAdd (addB r L x y) (addE r L x y)) rfl h fun v es hv hI => ?_
  have hel := hI.len
  have hn := hI.num x y
  have C1 := o_Num9 (r := r) x y hv hI hl
  by_cases hh : 0 ≤ numI L x y
  · obtain ⟨e1, e2, e3⟩ := addL_had (r := r) hh
    rw [e1, e2, e3]
    rw [hn.1, decide_eq_true hh] at C1
    refine ocall_of rfl rfl (fun w cs' r' h => by obtain ⟨c1, _, v', es', _, _, rfl, _⟩ := h; exact ⟨c1, rfl⟩) ?_
    generalize valE es x y = a at *
    refine hcall_of_body (f := 14) Try.func14 rfl (Nat.le_of_ble_eq_true rfl) (by first | exact big0 | exact big1 rfl) ?_
    (repeat (first | ((with_reducible apply rwp_seq)) | ((with_reducible apply rthen_normal)) | ((with_reducible apply rwp_region)) | ((with_reducible apply hs_nil)) | ((with_reducible apply hs_c); exact rfl; (repeat (first | ((with_reducible apply al_q); exact rfl))); (with_reducible apply al_nil))))
    refine hs_h1 1000 0 rfl rfl rfl rfl C1 rfl rfl rfl rfl rfl rfl (fun rv cs' r' h => ?_)
    obtain ⟨rfl, rfl, rfl⟩ := h
    rw [upd_row10]
    (repeat (first | ((with_reducible apply rwp_seq)) | ((with_reducible apply rthen_normal)) | ((with_reducible apply rwp_region)) | ((with_reducible apply hs_nil)) | ((with_reducible apply rwp_ret)) | ((with_reducible apply rthen_ret)) | ((with_reducible apply rwp_cond_1); exact rfl; (first | assumption | exact decide_eq_true (by omega) | (simp only [Bool.not_eq_true', decide_eq_false_iff_not, decide_eq_true_eq, Bool.not_eq_false']; (first | done | omega)) | exact rfl)) | ((with_reducible apply hs_c); exact rfl; (repeat (first | ((with_reducible apply al_q); exact rfl))); (with_reducible apply al_nil))))
    (first | (refine hfin_o1 rfl (resl_tmp rfl (resl_tmp rfl resl_nil)) rfl rfl rfl rfl ?_))
    exact ⟨rfl, rfl, v, es, hv, hI, rfl, rfl⟩
  · have hf := hn.1
    rw [decide_eq_false hh] at hf
    rw [hf] at C1
    have C2 := k_LenZ (.int .i64 r) es v hv hI.1 (by omega)
    rw [hel] at C2
    by_cases h2 : r ≤ (L.length : Int)
    · obtain ⟨e1, e2, e3⟩ := addL_full (r := r) hh h2
      rw [e1, e2, e3]
      refine ocall_of rfl rfl (fun w cs' r' h => by obtain ⟨c1, _, v', es', _, _, rfl, _⟩ := h; exact ⟨c1, rfl⟩) ?_
      generalize valE es x y = a at *
      have h2' : (L.length : Int) ≥ r := h2
      refine hcall_of_body (f := 14) Try.func14 rfl (Nat.le_of_ble_eq_true rfl) (by first | exact big0 | exact big1 rfl) ?_
      (repeat (first | ((with_reducible apply rwp_seq)) | ((with_reducible apply rthen_normal)) | ((with_reducible apply rwp_region)) | ((with_reducible apply hs_nil)) | ((with_reducible apply hs_c); exact rfl; (repeat (first | ((with_reducible apply al_q); exact rfl))); (with_reducible apply al_nil))))
      refine hs_h1 1000 0 rfl rfl rfl rfl C1 rfl rfl rfl rfl rfl rfl (fun rv cs' r' h => ?_)
      obtain ⟨rfl, rfl, rfl⟩ := h
      rw [upd_row10]
      (repeat (first | ((with_reducible apply rwp_drawH (id := 4) [0,1,2,4,5,6,7,3,8] [18]); kernel_rfl; kernel_rfl; exact rfl) | ((with_reducible apply rwp_seq)) | ((with_reducible apply rthen_normal)) | ((with_reducible apply rwp_region)) | ((with_reducible apply hs_nil)) | ((with_reducible apply rwp_skip)) | ((with_reducible apply rwp_cond_0); exact rfl; (first | assumption | exact decide_eq_false (by omega) | (simp only [Bool.not_eq_true', decide_eq_false_iff_not, decide_eq_true_eq, Bool.not_eq_false']; (first | done | omega)) | exact rfl)) | ((with_reducible apply hs_c); exact rfl; (repeat (first | ((with_reducible apply al_q); exact rfl) | ((with_reducible apply al_nilck); (iterate 3 exact rfl)))); (with_reducible apply al_nil))))
      refine hs_h1u 1000 0 rfl rfl rfl rfl C2 rfl (fun v cs' r' h => h.2.1) rfl rfl rfl rfl (fun rv cs' r' h => ?_)
      obtain ⟨rfl, rfl, rfl⟩ := h
      rw [upd_row10]
      (repeat (first | ((with_reducible apply hs_nilS); kernel_rfl) | ((with_reducible apply rwp_seq)) | ((with_reducible apply rthen_normal)) | ((with_reducible apply rwp_region)) | ((with_reducible apply hs_nil)) | ((with_reducible apply rwp_ret)) | ((with_reducible apply rthen_ret)) | ((with_reducible apply rwp_cond_1); exact rfl; (first | assumption | exact decide_eq_true (by omega) | (simp only [Bool.not_eq_true', decide_eq_false_iff_not, decide_eq_true_eq, Bool.not_eq_false']; (first | done | omega)) | exact rfl)) | ((with_reducible apply hs_c); exact rfl; (repeat (first | ((with_reducible apply al_q); exact rfl))); (with_reducible apply al_nil))))
      (first | (refine hfin_o1 rfl (resl_tmp rfl (resl_tmp rfl resl_nil)) rfl rfl rfl rfl ?_))
      exact ⟨rfl, rfl, v, es, hv, hI, rfl, rfl⟩
    · obtain ⟨e1, e2, e3⟩ := addL_new (r := r) hh h2
      rw [e1, e2, e3]
      have hI' := hI.add hh
      have C3 := k_PutZ (.int .i64 r) es v x y L.length hv hI.1 (by omega)
      rw [hf] at C3
      refine ocall_of rfl rfl (fun w cs' r' h => by obtain ⟨c1, _, v', es', _, _, rfl, _⟩ := h; exact ⟨c1, rfl⟩) ?_
      generalize valE es x y = a at *
      generalize putL es x y L.length = es2 at *
      have h2' : ¬ (L.length : Int) ≥ r := h2
      refine hcall_of_body (f := 14) Try.func14 rfl (Nat.le_of_ble_eq_true rfl) (by first | exact big0 | exact big1 rfl) ?_
      (repeat (first | ((with_reducible apply rwp_seq)) | ((with_reducible apply rthen_normal)) | ((with_reducible apply rwp_region)) | ((with_reducible apply hs_nil)) | ((with_reducible apply hs_c); exact rfl; (repeat (first | ((with_reducible apply al_q); exact rfl))); (with_reducible apply al_nil))))
      refine hs_h1 1000 0 rfl rfl rfl rfl C1 rfl rfl rfl rfl rfl rfl (fun rv cs' r' h => ?_)
      obtain ⟨rfl, rfl, rfl⟩ := h
      rw [upd_row10]
      (repeat (first | ((with_reducible apply rwp_drawH (id := 4) [0,1,2,4,5,6,7,3,8] [18]); kernel_rfl; kernel_rfl; exact rfl) | ((with_reducible apply rwp_seq)) | ((with_reducible apply rthen_normal)) | ((with_reducible apply rwp_region)) | ((with_reducible apply hs_nil)) | ((with_reducible apply rwp_skip)) | ((with_reducible apply rwp_cond_0); exact rfl; (first | assumption | exact decide_eq_false (by omega) | (simp only [Bool.not_eq_true', decide_eq_false_iff_not, decide_eq_true_eq, Bool.not_eq_false']; (first | done | omega)) | exact rfl)) | ((with_reducible apply hs_c); exact rfl; (repeat (first | ((with_reducible apply al_q); exact rfl) | ((with_reducible apply al_nilck); (iterate 3 exact rfl)))); (with_reducible apply al_nil))))
      refine hs_h1u 1000 0 rfl rfl rfl rfl C2 rfl (fun v cs' r' h => h.2.1) rfl rfl rfl rfl (fun rv cs' r' h => ?_)
      obtain ⟨rfl, rfl, rfl⟩ := h
      rw [upd_row10]
      (repeat (first | ((with_reducible apply hs_nilS); kernel_rfl) | ((with_reducible apply rwp_drawH (id := 6) [0,1,2,3,4,5,6,7,8,9,10] [31,32,2001000]); kernel_rfl; kernel_rfl; exact rfl) | ((with_reducible apply rwp_seq)) | ((with_reducible apply rthen_normal)) | ((with_reducible apply rwp_skip)) | ((with_reducible apply rwp_cond_0); exact rfl; (first | assumption | exact decide_eq_false (by omega) | (simp only [Bool.not_eq_true', decide_eq_false_iff_not, decide_eq_true_eq, Bool.not_eq_false']; (first | done | omega)) | exact rfl)) | ((with_reducible apply hs_c); exact rfl; (repeat (first | ((with_reducible apply al_q); exact rfl) | ((with_reducible apply al_nilck); (iterate 3 exact rfl)))); (with_reducible apply al_nil))))
      refine hs_h1 1000 0 rfl rfl rfl rfl C2 rfl rfl rfl rfl rfl rfl (fun rv cs' r' h => ?_)
      obtain ⟨rfl, rfl, rfl⟩ := h
      rw [upd_row10]
      skip
      refine hs_h1 1000 0 rfl rfl rfl rfl C3 rfl rfl rfl rfl rfl rfl (fun rv cs' r' h => ?_)
      obtain ⟨rfl, v', hv', rfl, rfl⟩ := h
      rw [upd_row10]
      (repeat (first | ((with_reducible apply hs_nilS); kernel_rfl) | ((with_reducible apply rthen_normal)) | ((with_reducible apply rwp_ret)) | ((with_reducible apply hs_c); exact rfl; (repeat (first | ((with_reducible apply al_q); exact rfl))); (with_reducible apply al_nil))))
      (first | (refine hfin_o1 rfl (resl_tmp rfl (resl_tmp rfl resl_nil)) rfl rfl rfl rfl ?_))
      exact ⟨rfl, rfl, v', es2, hv', hI', rfl, rfl⟩
end Go.Proofs.Ytaennpehlhgggaa

namespace Go.Proofs.Ytaennpehlhgggaa
open Go.RowKit
set_option linter.unusedVariables false
set_option linter.unusedSimpArgs false
theorem pxRow_one (v : Value) (l : List Px) (p : Px) : pxRow v (l ++ [p]) = ⟨32, 2, v, l.length + 1, itC l ++ [.c (.int .i64 p.1), .c (.int .i64 p.2)]⟩ := by
  unfold pxRow; rw [← itC_one, List.length_append]; rfl
def PxI (l : List Ent) (n : Nat) (R : Rws) (ts : List (Nat × AV)) (ms : List (Nat × List AC)) : Prop :=
  ∃ (k : Nat) (v : Value) (ki : Int), k ≤ l.length ∧ n = l.length - k ∧ ki = k ∧ R = row1 0 (pxRow v ((l.take k).map pixE)) ∧ ms = [] ∧ ts = [(3, vC v), (6, vEn l), (7, vI l.length), (8, vI ki)]
set_option maxRecDepth 100000 in
set_option maxHeartbeats 8000000 in
theorem a_pix {l : List Ent} (hl : l.length ≤ 50000) : ACall Try.prog 33 [vEn l] fun v q => ∃ v', v = vC v' ∧ q = pxRow v' (l.map pixE) := by
  refine acall_of rfl (fun v q h => by obtain ⟨v', rfl, _⟩ := h; rfl) ?_
  refine hcall_of_body (f := 33) Try.func33 rfl (Nat.le_of_ble_eq_true rfl) (by first | exact big0 | exact big1 rfl) ?_
  refine rwp_nil 0 32 2 rfl ?_
  (repeat (first | ((with_reducible apply rwp_seq)) | ((with_reducible apply rthen_normal)) | ((with_reducible apply rwp_region)) | ((with_reducible apply hs_nil)) | ((with_reducible apply rwp_block)) | ((with_reducible apply hs_c); exact rfl; (repeat (first | ((with_reducible apply al_q); exact rfl) | ((with_reducible apply al_len); (iterate 3 exact rfl)))); (with_reducible apply al_nil))))
  refine rwp_loopL 19 (PxI l) l.length (row1 0 (pxRow (.slice none 0 0) [])) _ [] ⟨0, .slice none 0 0, 0, Nat.zero_le _, rfl, rfl, rfl, rfl, rfl⟩ (row1_le _ _ _) rfl ⟨rfl, rfl, rfl, rfl, trivial⟩ trivial rfl ?_
  rintro n R ts ms ⟨k, v, ki, hk, rfl, hki, rfl, rfl, rfl⟩ hok
  clear hok
  have htl : ((l.take k).map pixE).length ≤ k := by rw [List.length_map, List.length_take]; omega
  by_cases hq : k < l.length
  · have q2 : ki < (l.length : Int) := by omega
    have q3 : 0 ≤ ki := by omega
    obtain ⟨x, y, w, g1⟩ : ∃ x y w, l[k]? = some (x, y, w) := ⟨_, _, _, List.getElem?_eq_getElem hq⟩
    have E1 := enC_xyv hki g1
    have ht : (l.take (k + 1)).map pixE = (l.take k).map pixE ++ [(x, y)] := by
      rw [List.take_succ_eq_append_getElem hq, (List.getElem?_eq_some_iff.1 g1).2, List.map_append]; rfl
    (repeat (first | ((with_reducible apply rwp_seq)) | ((with_reducible apply rthen_normal)) | ((with_reducible apply rwp_region)) | ((with_reducible apply hs_nil)) | ((with_reducible apply rwp_skip)) | ((with_reducible apply rwp_block)) | ((with_reducible apply rwp_cond_1); exact rfl; (first | assumption | exact decide_eq_true (by omega) | (simp only [Bool.not_eq_true', decide_eq_false_iff_not, decide_eq_true_eq, Bool.not_eq_false']; (first | done | omega)) | exact rfl)) | ((with_reducible apply hs_c); exact rfl; (repeat (first | ((with_reducible apply al_q); exact rfl) | ((with_reducible apply al_loadPN); (iterate 5 exact rfl)) | ((with_reducible apply al_idxS); (iterate 3 exact rfl); (first | decide | omega); (first | decide | omega); (first | assumption | rfl); exact rfl) | ((with_reducible apply al_bslice); (iterate 10 exact rfl)))); (with_reducible apply al_nil))))
    refine hs_app0 0 rfl rfl rfl rfl ?q1 ?q2 rfl rfl (fun v' hv' => ?_)
    case q1 => exact le_maxLen (by show ((l.take k).map pixE).length + 1 ≤ 1000000; omega)
    case q2 => show (((l.take k).map pixE).length + 1) * 16 ≤ 140737488355328; omega
    (repeat (first | ((with_reducible apply rthen_normal)) | ((with_reducible apply rwp_region)) | ((with_reducible apply hs_nil)) | ((with_reducible apply rblock_normal)) | ((with_reducible apply hs_c); exact rfl; (repeat (first | ((with_reducible apply al_q); exact rfl) | ((with_reducible apply al_add); (iterate 3 exact rfl); (first | exact i64_wrap (by omega) | assumption | rfl); exact rfl))); (with_reducible apply al_nil))))
    refine ⟨l.length - (k + 1), row1 0 (pxRow v' ((l.take (k + 1)).map pixE)), _, [], by omega, ⟨k + 1, v', ki + 1, by omega, rfl, by omega, rfl, rfl, rfl⟩, ?_, rfl, ⟨rfl, rfl, rfl, rfl, trivial⟩, trivial, rfl⟩
    rw [ht, pxRow_one]; exact row1_le _ _ _
  · have q2 : ¬ ki < (l.length : Int) := by omega
    have e0 : l.take k = l := List.take_of_length_le (by omega)
    rw [e0]
    (repeat (first | ((with_reducible apply rwp_seq)) | ((with_reducible apply rthen_normal)) | ((with_reducible apply rwp_region)) | ((with_reducible apply hs_nil)) | ((with_reducible apply rwp_ret)) | ((with_reducible apply rblock_same)) | ((with_reducible apply rwp_exit)) | ((with_reducible apply rthen_exit)) | ((with_reducible apply rwp_cond_0); exact rfl; (first | assumption | exact decide_eq_false (by omega) | (simp only [Bool.not_eq_true', decide_eq_false_iff_not, decide_eq_true_eq, Bool.not_eq_false']; (first | done | omega)) | exact rfl)) | ((with_reducible apply hs_c); exact rfl; (repeat (first | ((with_reducible apply al_q); exact rfl))); (with_reducible apply al_nil))))
    (first | (refine hfin_a rfl (resl_tmp rfl resl_nil) rfl rfl (Nat.zero_lt_succ _) ?_))
    exact ⟨v, rfl, rfl⟩
/-- what a call on a set's block and row that makes a row tells, told of the set. -/
theorem set_row {f : FuncId} {args : List AV} {r : Int} {L : List Px} {b : Nat} {S : SP} {post : AV → HRow → Prop} (hac : args.all AV.closedB = true) (h : SetI r L (ptrV b) S)
    (hc : ∀ v es, v.oneCell' = true → IdxOf L es → HCall Try.prog f (.w (.one (.own 1000 0)) :: args) (mem1 1000 (setC v r)) (row1 0 (nxRow v es)) fun w m1 R1 => ∃ q, w.closedB = true ∧ m1 = mem1 1000 (setC v r) ∧ R1 = upd (row1 0 (nxRow v es)) 1 q ∧ 0 < q.sz ∧ post w q) : ThCall2 Try.prog f (vC (ptrV b) :: args) (ptrV b) S fun w S' q => post w q ∧ SetI r L (ptrV b) S' := by
  obtain ⟨ρ, v, es, hp, hv, hI, rfl⟩ := h
  obtain rfl := ptr_b hp
  refine th_row (mem1_some _ _) hac (hc v es hv hI) (fun w m1 R1 h => ?_)
  obtain ⟨q, hw, rfl, rfl, hz, hpo⟩ := h
  exact ⟨row1 0 (nxRow v es), 1, q, hw, rle1 rfl, rfl, rfl, hz, set_plain _ _ _, fun ρ1 hρ => ⟨hpo, ρ1, v, es, by rw [hρ], hv, hI, rfl⟩⟩
theorem thcall2_mono {P : Program} {f : FuncId} {args : List AV} {p : Value} {S : SP} {post post' : AV → SP → HRow → Prop} (h : ThCall2 P f args p S post) (hp : ∀ v S' q, post v S' q → post' v S' q) : ThCall2 P f args p S post' := by
  intro i j hij
  refine ⟨fun U ρ W vs hH hown hvs => ((h i j hij).call U ρ W vs hH hown hvs).mono ?_⟩
  rintro e W' ⟨v1, r1, m', R', ρ', U', q0, ⟨S', q, e1, e2, e3, e4⟩, qq⟩
  exact ⟨v1, r1, m', R', ρ', U', q0, ⟨S', q, e1, e2, e3, hp _ _ _ e4⟩, qq⟩
set_option maxRecDepth 100000 in
set_option maxHeartbeats 8000000 in
theorem k_All9 : CAll9 SetI := by
  intro r L b S h hl
  refine thcall2_mono (set_row (post := fun w q => ∃ v', w = vC v' ∧ q = pxRow v' L) rfl h fun v es hv hI => ?_) (fun v S' q h => by obtain ⟨⟨v', h1, h2⟩, h3⟩ := h; exact ⟨v', h1, h2, h3⟩)
  have C1 := k_AllZ (.int .i64 r) es v hv hI.1 (by rw [hI.len]; exact hl)
  have C2 := p_SortE es.length es (Nat.le_refl _) (by rw [hI.len]; omega)
  rw [hI.srt] at C2
  have C3 := a_pix (l := numF 0 L) (by rw [numF_len]; omega)
  rw [numF_pix] at C3
  clear hI
  generalize numF 0 L = ns at *
  refine hcall_of_body (f := 20) Try.func20 rfl (Nat.le_of_ble_eq_true rfl) (by first | exact big0 | exact big1 rfl) ?_
  (repeat (first | ((with_reducible apply rwp_seq)) | ((with_reducible apply rthen_normal)) | ((with_reducible apply rwp_region)) | ((with_reducible apply hs_nil)) | ((with_reducible apply hs_c); exact rfl; (repeat (first | ((with_reducible apply al_q); exact rfl) | ((with_reducible apply al_nilck); (iterate 3 exact rfl)))); (with_reducible apply al_nil))))
  refine hs_h2c 1000 0 1 (by decide) rfl rfl rfl rfl C1 rfl rfl rfl rfl rfl rfl (fun rv cs' r' q h => ?_)
  obtain ⟨rfl, rfl, rfl, hq⟩ := h
  refine ⟨rfl, ?_⟩
  rw [hq]
  (repeat (first | ((with_reducible apply hs_c); exact rfl; (repeat (first | (refine al_call2 rfl rfl rfl rfl (by (first | exact C2)) rfl ?_))); (with_reducible apply al_nil))))
  refine hs_a 1 rfl rfl rfl rfl C3 rfl rfl (fun rv q h => ?_)
  obtain ⟨v', rfl, rfl⟩ := h
  (repeat (first | ((with_reducible apply rthen_normal)) | ((with_reducible apply hs_nil)) | ((with_reducible apply rwp_ret)) | ((with_reducible apply hs_c); exact rfl; (repeat (first | ((with_reducible apply al_q); exact rfl))); (with_reducible apply al_nil))))
  (first | (refine hfin_g rfl (resl_tmp rfl resl_nil) rfl (rle2 (i := 0) (j := 1) rfl rfl) rfl rfl (fun i r h => by obtain ⟨rfl, rfl⟩ := row1_iff h; exact ⟨_, rfl⟩) ?_))
  exact ⟨_, rfl, rfl, rfl, Nat.zero_lt_succ _, v', rfl, rfl⟩
end Go.Proofs.Ytaennpehlhgggaa

