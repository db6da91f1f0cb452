/-
  My own texts, without what this claim does not need. My own text.
-/
import Derived.Deep.DrawnRows
import Derived.Laws.OwnMore
import Derived.Deep.LoopGhost
import Derived.Shelf.Small.Bits
import Derived.Shelf.Strconv.Itoa0
import Derived.Shelf.Bits.Mul64
import Derived.Test.YtbcecodakfejaaaGreatProg
import Derived.WalkKit
import Derived.Lib.ItoaNum
import Derived.Deep.RegionHeld3
import Derived.Deep.DeepCutAuto
import Derived.Deep.QuietTactic
import Derived.Deep.CutBlock
import Derived.RegionTactic
import Derived.Test.YtbcecodakfejaaaGreatSKeepsK7
set_option maxRecDepth 100000
set_option maxHeartbeats 64000000
set_option linter.unusedVariables false
set_option linter.unusedSimpArgs false
set_option linter.unusedSectionVars false
open Go.Proofs.Tryz renaming prog → ag
namespace Go.Proofs.YtbcecodakfejaaaGreat
open Go.RowKit
structure mU (w wr : World) (x : Bool) (A : Option Addr) (l c : Nat) (ds : List Int) (y : Bool) (B : Option Addr) (m d : Nat) (es : List Int) (os : List Int) : Prop where
 fD : c8 wr w.heap.size (.bool x) (.slice A l c)
 b1 : c8 wr (w.heap.size + 1) (.bool y) (.slice B m d)
 b2 : c8 wr (w.heap.size + 1 + 1) (.bool false) (.slice none 0 0)
 own : wr.ownsRow (w.heap.size + 1 + 1 + 1) 3 1 (.slice (some ⟨w.heap.size + 1 + 1 + 1, 0, none⟩) (l + m + 1) (l + m + 1)) (l + m + 1) (os.map (Value.int .i64))
 dg : dM os
 below : Below w.heap.size w wr
section
variable {w wr : World} {x y : Bool} {A B : Option Addr} {l c m d : Nat} {ds es os : List Int}
theorem mU.len (h : mU w wr x A l c ds y B m d es os) : os.length = l + m + 1 := by have := h.own.1; simpa using this
theorem mU.drewN (h : mU w wr x A l c ds y B m d es os) (n : Nat) : mU w (wr.drewN n) x A l c ds y B m d es os :=
 ⟨h.fD, h.b1, h.b2, h.own, h.dg, Mp h.below n⟩
theorem mU.cell (h : mU w wr x A l c ds y B m d es os) {j : Nat} (ae : j < l + m + 1) : wr.cell? ⟨w.heap.size + 1 + 1 + 1, j, none⟩ = some (.int .i64 (os.getD j 0)) ∧ wr.frozen? ⟨w.heap.size + 1 + 1 + 1, j, none⟩ = false := by
 refine ⟨?_, h.own.frozenAt j⟩;have hl := h.len;rw [h.own.cellAt j (by omega), dL, bN (by omega), gF, bN (by omega)];rfl
theorem mU.store (h : mU w wr x A l c ds y B m d es os) (j : Nat) {s : Int} (aA : 0 ≤ s) (h1 : s < 10000) : mU w (wr.setCell ⟨w.heap.size + 1 + 1 + 1, j, none⟩ (.int .i64 s)) x A l c ds y B m d es (os.set j s) := by
 refine ⟨h.fD.set _ (by omega), h.b1.set _ (by omega), h.b2.set _ (by omega), ?_, h.dg.set j aA h1, hO h.below _ _ _ (by omega)⟩;rw [List.map_set];exact (h.own.stored j _).1
end
structure vp (r4 : List Int) (i l m : Nat) (a : Int) (es : List Int) (k : Nat) (dB : Int) (os : List Int) : Prop where
 hb : 0 ≤ dB
 c1 : dB ≤ 9999
 val : tM os i k dB a es (hi r4 i + a * bQ es)
 low : os.take i = r4.take i
 top : ∀ j, i + m + 1 ≤ j → os.getD j 0 = 0
 at_ : k ≤ m → os.getD (i + m) 0 = 0
 more : 0 < dB → k ≤ m
 acs : k ≤ m + 1
structure B8 (os ds es : List Int) (i l m : Nat) : Prop where
 val : tN os ds es i
 top : ∀ j, i + m ≤ j → os.getD j 0 = 0
 ii : i ≤ l
theorem adv {os ds es : List Int} {i l m : Nat} (h : B8 os ds es i l m) (a : Int) : vp os i l m a es 0 0 os :=
 ⟨by omega, by omega, adx _ _ _ _, rfl, fun j ae => h.top j (by omega), fun _ => h.top _ (by omega), fun q => absurd q (by omega), by omega⟩
theorem adu {r4 os es : List Int} {i l m k : Nat} {a dB s : Int} (h : vp r4 i l m a es k dB os) (hlen : os.length = l + m + 1) (da : i < l) (hd : dM os) (l0 : es.length = m) (he : dM es) (aF : 0 ≤ a ∧ a < 10000)
  (jc : k < m ∨ 0 < dB) (hs : s = dB + os.getD (i + k) 0 + a * es.getD k 0) : vp r4 i l m a es (k + 1) (s / 10000) (os.set (i + k) (s % 10000)) := by
 have g1 := hd.getD (i + k);have g2 := he.getD k;have g3 := Nh aF g2;have aA := h.hb; have h1 := h.c1;have DA : k ≤ m := by rcases jc with q | q; omega; exact h.more q
 refine ⟨by omega, by omega, ady h.val (by omega) hs, by rw [TH (by omega)]; exact h.low, fun j ae => ?_, fun q => ?_, fun q => ?_, by omega⟩
 ·rw [getD_set_ne (by omega)]; exact h.top j ae
 ·rw [getD_set_ne (by omega)]; exact h.at_ DA
 ·by_cases e : k < m
  ·omega
  ·have aG : k = m := by omega
   have e2 : es.getD k 0 = 0 := by simp [gF, lJ (show es.length ≤ k by omega)]
   have z2 := h.at_ DA;rw [e2, aG, z2, Int.mul_zero] at hs;omega
theorem ads {r4 os ds es : List Int} {i l m k : Nat} {a dB : Int} (h : vp r4 i l m a es k dB os) (az : B8 r4 ds es i l m) (hlen : os.length = l + m + 1) (da : i < l) (l0 : es.length = m) (af : m ≤ k) (aj : dB ≤ 0) (aF : a = ds.getD i 0) : B8 os ds es (i + 1) l m := by
 have dh : dB = 0 := by have := h.hb; omega
 have hv := h.val;rw [dh] at hv;have he := adw hv (by omega);rw [aF] at he;exact ⟨adB az.val (by omega) h.low he, fun j ae => h.top j (by omega), by omega⟩
theorem adt {r4 os es : List Int} {i l m k : Nat} {a dB : Int} (h : vp r4 i l m a es k dB os) (da : i < l) (jc : k < m ∨ 0 < dB) : i + k < l + m + 1 := by
 have : k ≤ m := by rcases jc with q | q; omega; exact h.more q
 omega
theorem adG {w W w3 : World} {x y : Bool} {A B : Option Addr} {l c m d : Nat} {ds es : List Int} {z : Value} (aN : z = .int .i64 0) (bH : W.heap.size = w.heap.size + 1 + 1 + 1)
  (fD : c8 W w.heap.size (.bool x) (.slice A l c)) (b1 : c8 W (w.heap.size + 1) (.bool y) (.slice B m d)) (b2 : c8 W (w.heap.size + 1 + 1) (.bool false) (.slice none 0 0)) (ab : Below w.heap.size w W)
  (cy : w3.ownsRow (w.heap.size + 1 + 1 + 1) 3 1 (.slice (some ⟨W.heap.size, 0, none⟩) (l + m + 1) (l + m + 1)) (l + m + 1) (madeCells z.cells ((l + m + 1) * 1)).toList) (an : W.grownBy w3 none) :
  mU w w3 x A l c ds y B m d es (List.replicate (l + m + 1) 0) := by
 have eM : Below W.heap.size W w3 := ⟨an.os, an.tape, an.output, an.size, fun i hi => an.block i hi (by simp)⟩;refine ⟨fD.call eM, b1.call eM, b2.call eM, ?_, abJ _, e5 ab eM⟩;rw [bH] at cy;rw [aN] at cy
 have e : (madeCells (Value.int .i64 0).cells ((l + m + 1) * 1)).toList = (List.replicate (l + m + 1) (0 : Int)).map (Value.int .i64) := by
  rw [Nat.mul_one, List.map_replicate];exact toList_madeCells_one _ _
 rw [e] at cy;exact cy
end Go.Proofs.YtbcecodakfejaaaGreat
namespace Go.Proofs.YtbcecodakfejaaaGreat
open Go.RowKit
theorem ahW (x y : Bool) (a b : Int) : h6 (x != y) (a * b) = h6 x a * h6 y b := by
 cases x <;> cases y <;> simp [h6, Int.neg_mul, Int.mul_neg]
theorem eu.conv {w : World} {neg : Bool} {A : Option Addr} {l c : Nat} {n m : Int} (h : eu w neg A l c n) (e : n = m) : eu w neg A l c m := e ▸ h
theorem mU.row {w wr : World} {x y : Bool} {A B : Option Addr} {l c m d : Nat} {ds es os : List Int} (h : mU w wr x A l c ds y B m d es os) : e8 wr (some ⟨w.heap.size + 1 + 1 + 1, 0, none⟩) (l + m + 1) (l + m + 1) os := by
 obtain ⟨ea, c', e, eN⟩ := e8.own h.own;cases e;exact eN
theorem agP (x y : Bool) (A B : Option Addr) (l c m d : Nat) (n n' : Int) (w : World) (h : eu w x A l c n) (k : eu w y B m d n') (hl : l ≤ 400) (hm : m ≤ 400) :
  Calls ag 77 #[.agg #[.bool x, .slice A l c], .agg #[.bool y, .slice B m d]] w (rh (n * n') w) := by
 obtain ⟨ds, eN, hS⟩ := h;obtain ⟨es, fa, cH⟩ := k;obtain ⟨i0, nL, kM, nU, kN⟩ := info_parts Az;have p0 := Lib.hid nL;have ju := Lib.hid kM;have oe := Lib.hid nU;have oZ := Lib.hid kN;have mn := Lib.hid eN;have k0 := Lib.hid fa;have tK := Lib.hid eN.1;have so := Lib.hid fa.1;have gy := Lib.hid hS.dg;have fA := Lib.hid cH.dg;have hv : Hid (h6 (x != y) (bQ ds * bQ es) = n * n') := by unfold Hid; rw [ahW, hS.val, cH.val]
 clear nL kM nU kN eN fa hS cH
 go_enter Tryz.func77, Tryz.ntmps77
 go_wp2_with (at_make; refine wpList_make_full _ rfl _ _ 32 rfl (w.heap.size + 1 + 1 + 1) 3 i0 (.int .i64 0) 1 Tryz.underlying32 p0.out ju.out oe.out .i64 .i64 _ _ (l + m + 1) rfl rfl (by omega) (by omega) (by rw [oZ.out]; omega) (by simp only [maxLen]; omega) (by simp) ?_; intro w3 cy an; have Lf := Lib.hid (adG (w := w) (x := x) (A := A) (l := l) (c := c) (ds := ds) (y := y) (B := B) (m := m) (d := d) (es := es) rfl (by simp) (((c8.new rfl).alloc _).alloc _) ((c8.new (by simp)).alloc _) (c8.new (by simp)) (by (repeat first | with_reducible exact Below.refl _ _ | with_reducible refine dX ?_ _)) cy an); clear cy an)
 go_loopw [6] (fun i wr => ∃ (j : Nat) (os : List Int), i = .int .i64 j ∧ j ≤ l ∧ mU w wr x A l c ds y B m d es os ∧ B8 os ds es j l m) (fun i _ => l - (intOf i).toNat)
 case atStart => exact ⟨0, _, rfl, dJ _, Lf.out, ⟨adA (X3 _), fun j _ => YT _ j, dJ _⟩⟩
 case round =>
  obtain ⟨j, os, rfl, ae, dT, rI⟩ := hrel;clear Lf;obtain ⟨T1, rfl⟩ : ∃ T1 : World, T1 = wr := ⟨_, rfl⟩;obtain ⟨⟨p1, p2⟩, p3, p4⟩ := id dT.fD;obtain ⟨⟨q1, q2⟩, bB, cS⟩ := id dT.b1;obtain ⟨⟨bV, cC⟩, eY, iU⟩ := id dT.b2
  by_cases sW : j < l
  ·have Vo := Lib.hid dT;have Li := Lib.hid rI;obtain ⟨a, aF⟩ : ∃ a, a = ds.getD j 0 := ⟨_, rfl⟩;have K7 := Lib.hid aF;have pc : 0 ≤ a ∧ a < 10000 := by rw [aF]; exact gy.out.getD j
   clear dT rI aF
   go_wp2
   go_loopw [7, 8] (fun u v wr => ∃ (k : Nat) (dB : Int) (ps : List Int), u = .int .i64 dB ∧ v = .int .i64 k ∧ mU w wr x A l c ds y B m d es ps ∧ vp os j l m a es k dB ps) (fun _ v _ => m + 2 - (intOf v).toNat)
   case atStart => exact ⟨0, 0, os, rfl, rfl, Vo.out, adv Li.out _⟩
   case round =>
    obtain ⟨k, dB, ps, rfl, rfl, dT, bl⟩ := hrel;clear p1 p2 p3 p4 q1 q2 bB cS bV cC eY iU;obtain ⟨⟨p1, p2⟩, p3, p4⟩ := id dT.fD;obtain ⟨⟨q1, q2⟩, bB, cS⟩ := id dT.b1;have fD := bl.hb;have b1 := bl.c1;have b2 := bl.acs
    by_cases jc : k < m ∨ 0 < dB
    ·have gB := adt bl sW jc;obtain ⟨EI, of⟩ := dT.cell gB;obtain ⟨b4, ck, hM, aD⟩ := mn.out.call dT.below;obtain ⟨g, vL, an, jQ⟩ := aD (by omega);have ac := jQ j sW;rw [← K7.out] at ac;have K5 := Lib.hid (k0.out.call dT.below);have bD := Lib.hid (fun w h => xu B m d es k w h (by omega) (by omega));have g2 := fA.out.getD k;have g1 := dT.dg.getD (j + k);have N : Hid (∀ s, s = dB + ps.getD (j + k) 0 + a * es.getD k 0 → vp os j l m a es (k + 1) (s / 10000) (ps.set (j + k) (s % 10000))) := fun s hs => adu bl dT.len sW dT.dg so.out fA.out pc jc hs;have oY := Lib.hid dT;subst vL;clear aD jQ b4 ck hM bl dT;generalize ps.getD (j + k) 0 = o at N EI g1;generalize es.getD k 0 = b at N bD g2;have Od := Nh pc g2;have dV : (0 : Int) ≤ (j : Int) := by omega
     have s1 : (j : Int) < (l : Int) := by omega
     have s2 : IntKind.i64.wrap ((j : Int) + (k : Int)) = (j : Int) + (k : Int) := IntWalk.i64_in _ (by omega);have bJ : (0 : Int) ≤ (j : Int) + (k : Int) := by omega
     have bK : (j : Int) + (k : Int) < (l : Int) + (m : Int) + 1 := by omega
     have Kq : ((j : Int) + (k : Int)).toNat = j + k := by omega
     have ahN : IntKind.i64.wrap (dB + o) = dB + o := IntWalk.i64_in _ (by omega);have ahO : IntKind.i64.wrap (a * b) = a * b := IntWalk.i64_in _ (by omega);have ahP : IntKind.i64.wrap (dB + o + a * b) = dB + o + a * b := IntWalk.i64_in _ (by omega);have eb : k < m ∨ (m ≤ k ∧ 0 < dB) := by omega
     rcases eb with t1 | ⟨t1, t2⟩
     all_goals
      go_wp2_with fail
      go_quiet ((go_at_call 115; exact SJ (bD.out _ (K5.out.drewN _))))
      clear s2 Kq ahN ahO ahP p1 p2 p3 p4 q1 q2 bB cS ac EI of;have q9 := oY.out.drewN nq;clear an K5 oY;generalize wr.drewN nq = KZ at *;have mq := Lib.hid (N.out _ rfl);have q0 : 0 ≤ dB + o + a * b := by omega
      have alt : dB + o + a * b ≤ 1000000000 := by omega
      obtain ⟨EI, of⟩ := q9.cell gB;have w7 := Lib.hid (q9.store (j + k) (s := (dB + o + a * b) % 10000) (by omega) (by omega));clear q9 N;generalize dB + o + a * b = s at *;generalize ps.getD (j + k) 0 = bU at EI
      go_wp2_with (go_at_call 116; (with_reducible refine (Cy _).mono ?_); rintro e w' ⟨rfl, rfl⟩)
      refine ⟨⟨k + 1, _, _, rfl, by go_num, w7.out, mq.out⟩, ?_⟩;simp [intOf]; omega
    ·have t1 : m ≤ k := by omega
     have t2 : dB ≤ 0 := by omega
     have oY := Lib.hid dT;have U1 := Lib.hid (ads bl Li.out dT.len sW so.out t1 t2 K7.out);clear dT bl
     go_wp2
     refine ⟨⟨j + 1, _, by go_num, by omega, oY.out, U1.out⟩, ?_⟩;simp [intOf]; omega
  ·obtain rfl : j = l := by omega
   have oY := Lib.hid dT;have pZ := Lib.hid (adz rI.val (by rw [tK.out]; omega));clear dT rI;have ny := Lib.hid oY.out.row;have UG := Lib.hid oY.out.dg;have a8 := Lib.hid oY.out.fD;have mP := Lib.hid oY.out.b1;have sj := Lib.hid oY.out.b2;have qd := Lib.hid oY.out.below;clear oY
   go_wp2_with (go_at_call 110; ((with_reducible refine (BA _ _ _ _ os _ ny.out UG.out (by omega)).mono ?_); rintro e w1 ⟨b4, l1, rfl, h1, ab⟩; have K3 := sj.out.call ab; clear p1 p2 p3 p4 q1 q2 bB cS bV cC eY iU; obtain ⟨⟨bV, cC⟩, eY, iU⟩ := id K3))
   have h2 : eu w1 b4 (some ⟨w.heap.size + 1 + 1 + 1, 0, none⟩) l1 (j + m + 1) (n * n') := h1.conv (by rw [pZ.out]; exact hv.out)
   refine bodyPost_ret (v := .agg #[.bool b4, .slice (some ⟨w.heap.size + 1 + 1 + 1, 0, none⟩) l1 (j + m + 1)]) (by simp only [results, Tryz.results77]; go_simp) rfl ⟨_, _, _, _, rfl, ?_, ?_, fun a e => (by cases e; show w.heap.size ≤ w.heap.size + 1 + 1 + 1; omega)⟩
   ·exact h2.put (gN.of K3)
   ·exact hO (hO (e5 qd.out ab) _ _ _ (by omega)) _ _ _ (by omega)
end Go.Proofs.YtbcecodakfejaaaGreat
namespace Go.Proofs.YtbcecodakfejaaaGreat
open Go.RowKit
theorem aiL : (10000 : Int) ^ 10 = 10000000000000000000000000000000000000000 := by decide
end Go.Proofs.YtbcecodakfejaaaGreat
namespace Go.Proofs.YtbcecodakfejaaaGreat
open Go.RowKit
attribute [local go_sem ↓] Go.wp_at_zero Go.wp_at_succ
section
variable {w W w1 : World} {g : Nat} {x : Bool} {A : Option Addr} {l c : Nat} {n : Int}
end
end Go.Proofs.YtbcecodakfejaaaGreat
namespace Go.Proofs.YtbcecodakfejaaaGreat
open Go.RowKit
section
variable {w wr : World} {g : Nat} {x y z : Bool} {A B C : Option Addr} {l c m d p e : Nat} {ds alu : List Int} {b r : Int}
end
theorem abK (w : World) : eu w false none 0 0 0 := ⟨[], e8.nil (by omega), ⟨dM.nil, QX, fun h => (by cases h), rfl⟩⟩
end Go.Proofs.YtbcecodakfejaaaGreat
namespace Go.Proofs.YtbcecodakfejaaaGreat
open Go.RowKit
attribute [local go_sem ↓] Go.wp_at_zero Go.wp_at_succ
end Go.Proofs.YtbcecodakfejaaaGreat
namespace Go.Proofs
open Go.Shelf
def Tryz.acI : Go.Shelf.Ren := ⟨fun | 134 => 219 | 129 => 214 | n => n, fun | 53 => 144 | 3 => 3 | 4 => 4 | 46 => 209 | 5 => 5 | 9 => 9 | n => n, fun | n => n⟩
theorem Tryz.acH : Go.Proofs.Lays.n134 ag Tryz.acI := {
 mixed := by kernel_rfl
 f129 := Tryz.func214.trans (congrArg some (by kernel_rfl))
 f134 := Tryz.func219.trans (congrArg some (by kernel_rfl))
 t3 := Tryz.underlying3
 a3 := Tryz.isAgg3
 z3 := Tryz.sizeOf3
 v3 := Tryz.zeroValue3
 t4 := Tryz.underlying4
 a4 := Tryz.isAgg4
 z4 := Tryz.sizeOf4
 v4 := Tryz.zeroValue4
 t5 := Tryz.underlying5
 a5 := Tryz.isAgg5
 z5 := Tryz.sizeOf5
 v5 := Tryz.zeroValue5
 t9 := Tryz.underlying9
 a9 := Tryz.isAgg9
 z9 := Tryz.sizeOf9
 v9 := Tryz.zeroValue9
 t46 := Tryz.underlying209
 a46 := Tryz.isAgg209
 z46 := Tryz.sizeOf209
 v46 := Tryz.zeroValue209
 t53 := Tryz.underlying144
 a53 := Tryz.isAgg144
 z53 := Tryz.sizeOf144
 v53 := Tryz.zeroValue144 }
theorem Tryz.bits_LeadingZeros64 (x : Int) (w : World) (aA : 0 ≤ x) (h1 : x ≤ 18446744073709551615) :
  Calls ag 219 #[.int .u64 x] w fun e w' => e = .returned (.int .i64 (64 - (Lib.bitLen x.toNat : Int))) ∧ w' = w := Any.bits_LeadingZeros64 Tryz.acH x w aA h1
def Tryz.acG : Go.Shelf.Ren := ⟨fun | 129 => 214 | n => n, fun | 53 => 144 | 3 => 3 | 4 => 4 | 46 => 209 | 5 => 5 | 9 => 9 | n => n, fun | n => n⟩
theorem Tryz.acF : Go.Proofs.Lays.n129 ag Tryz.acG := {
 mixed := by kernel_rfl
 f129 := Tryz.func214.trans (congrArg some (by kernel_rfl))
 t3 := Tryz.underlying3
 a3 := Tryz.isAgg3
 z3 := Tryz.sizeOf3
 v3 := Tryz.zeroValue3
 t4 := Tryz.underlying4
 a4 := Tryz.isAgg4
 z4 := Tryz.sizeOf4
 v4 := Tryz.zeroValue4
 t5 := Tryz.underlying5
 a5 := Tryz.isAgg5
 z5 := Tryz.sizeOf5
 v5 := Tryz.zeroValue5
 t9 := Tryz.underlying9
 a9 := Tryz.isAgg9
 z9 := Tryz.sizeOf9
 v9 := Tryz.zeroValue9
 t46 := Tryz.underlying209
 a46 := Tryz.isAgg209
 z46 := Tryz.sizeOf209
 v46 := Tryz.zeroValue209
 t53 := Tryz.underlying144
 a53 := Tryz.isAgg144
 z53 := Tryz.sizeOf144
 v53 := Tryz.zeroValue144 }
theorem Tryz.bits_Len64 (x : Int) (w : World) (aA : 0 ≤ x) (h1 : x ≤ 18446744073709551615) :
  Calls ag 214 #[.int .u64 x] w fun e w' => e = .returned (.int .i64 (Lib.bitLen x.toNat)) ∧ w' = w := Any.bits_Len64 Tryz.acF x w aA h1
def Tryz.acK : Go.Shelf.Ren := ⟨fun | 264 => 179 | n => n, fun | 53 => 144 | 46 => 209 | n => n, fun | n => n⟩
theorem Tryz.acJ : Go.Proofs.Lays.n264 ag Tryz.acK := {
 mixed := by kernel_rfl
 f264 := Tryz.func179.trans (congrArg some (by kernel_rfl))
 t46 := Tryz.underlying209
 a46 := Tryz.isAgg209
 z46 := Tryz.sizeOf209
 v46 := Tryz.zeroValue209
 t53 := Tryz.underlying144
 a53 := Tryz.isAgg144
 z53 := Tryz.sizeOf144
 v53 := Tryz.zeroValue144 }
open Go.RowKit Go.Lib in
theorem Tryz.bits_Mul64 (x y : Nat) (aa : x < 18446744073709551616) (ai : y < 18446744073709551616) (w : World) :
  Calls ag 179 #[.int .u64 x, .int .u64 y] w fun e w' => e = .returned (.tuple #[.int .u64 ((x * y / 18446744073709551616 : Nat) : Int), .int .u64 ((x * y % 18446744073709551616 : Nat) : Int)]) ∧ w' = w := Any.bits_Mul64 Tryz.acJ x y aa ai w
end Go.Proofs
namespace Go.Proofs.YtbcecodakfejaaaGreat
open Go.RowKit
theorem size_pos {h l n : Int} (H : c0 h l n) (k : 0 ≤ h) : dR (IntKind.u64.wrap h) l n.natAbs := by
  obtain ⟨b1, b2, rfl⟩ := H;unfold dR;rw [IntKind.wrap_u64];omega
theorem aij {h l n a b : Int} (H : c0 h l n) (K : c0 a b (wr (0 - n))) (k : h < 0) : dR (IntKind.u64.wrap a) b n.natAbs := by
  obtain ⟨b1, b2, rfl⟩ := H;obtain ⟨ee, dO, e⟩ := K;unfold wr at e;unfold dR;rw [IntKind.wrap_u64];omega
theorem aii (h1 l1 n : Int) (w : World) (H1 : c0 h1 l1 n) :
    Calls ag 195 #[.agg #[.int .i64 h1, .int .u64 l1]] w (aT n.natAbs w) := by
  go_enter Tryz.func195, Tryz.ntmps195
  go_wp2_with (go_at_call 166; refine (AU _ _ _ _ _ _ _ x3 H1).mono ?_; rintro e w1 ⟨gG, iH, rfl, hs, ab⟩; have xl := Below.cell ab (p := ⟨w.heap.size, 0, none⟩) (by (simp; omega)); have xy := Below.frozen ab (p := ⟨w.heap.size, 0, none⟩) (by (simp; omega)); have xm := Below.cell ab (p := ⟨w.heap.size, 1, none⟩) (by (simp; omega)); have xz := Below.frozen ab (p := ⟨w.heap.size, 1, none⟩) (by (simp; omega)); have zg := Below.cell ab (p := ⟨w.heap.size + 1, 0, none⟩) (by (simp; done)); have zp := Below.frozen ab (p := ⟨w.heap.size + 1, 0, none⟩) (by (simp; done)); have zh := Below.cell ab (p := ⟨w.heap.size + 1, 1, none⟩) (by (simp; done)); have zq := Below.frozen ab (p := ⟨w.heap.size + 1, 1, none⟩) (by (simp; done)); have oC := Below.size ab; (try simp at oC); have yc : ¬ w1.heap.size = w.heap.size := (by omega); have AW : ¬ w1.heap.size = w.heap.size + 1 := (by omega))
  · refine bodyPost_ret (v := .agg #[.int .u64 (IntKind.u64.wrap gG), .int .u64 iH]) (by simp only [results, Tryz.results195]; go_simp) rfl ⟨_, _, rfl, aij H1 hs ‹_›, ?_⟩
    (repeat first | with_reducible exact Below.refl _ _ | with_reducible refine dX ?_ _ | focus ((with_reducible refine hO ?_ _ _ _ ?_); rotate_left; omega) | with_reducible refine e5 ?_ ab)
  · refine bodyPost_ret (v := .agg #[.int .u64 (IntKind.u64.wrap h1), .int .u64 l1]) (by simp only [results, Tryz.results195]; go_simp) rfl ⟨_, _, rfl, size_pos H1 ‹_›, ?_⟩
    (repeat first | with_reducible exact Below.refl _ _ | with_reducible refine dX ?_ _)
theorem aic {h l n : Int} (H : dR h l n) : c0 (wrap64 h) l (wr n) := by
  obtain ⟨b1, b2, rfl⟩ := H;unfold c0 wr wrap64;omega
theorem Ts {h l n : Int} (H : dR h l n) (k : fS h l 0 0 = true ∨ 0 ≤ wrap64 h) : fits n = true ∧ c0 (wrap64 h) l n := by
  rw [H.fS AB, cg] at k;obtain ⟨b1, b2, rfl⟩ := H;unfold fits c0 wrap64 at *;rw [cg];omega
theorem ah1 {h l n : Int} (H : dR h l n) (j : fS h l 0 0 = false) (k : wrap64 h < 0) : fits n = false := by
  rw [H.fS AB, kq] at j;obtain ⟨b1, b2, rfl⟩ := H;unfold fits wrap64 at *;rw [kq];omega
theorem Tr {h l n a b : Int} (H : dR h l n) (K : c0 a b (wr (0 - wr n))) (k : fS h l 0 0 = true ∨ a < 0) : fits (-n) = true ∧ c0 a b (-n) := by
  rw [H.fS AB, cg] at k;obtain ⟨b1, b2, rfl⟩ := H;obtain ⟨ee, dO, e⟩ := K;unfold wr at e;unfold fits c0;rw [cg];omega
theorem ahY {h l n a b : Int} (H : dR h l n) (K : c0 a b (wr (0 - wr n))) (j : fS h l 0 0 = false) (k : 0 ≤ a) : fits (-n) = false := by
  rw [H.fS AB, kq] at j;obtain ⟨b1, b2, rfl⟩ := H;obtain ⟨ee, dO, e⟩ := K;unfold wr at e;unfold fits;rw [kq];omega
theorem aie (h1 l1 n : Int) (w : World) (H1 : dR h1 l1 n) :
    Calls ag 196 #[.agg #[.int .u64 h1, .int .u64 l1], .bool false] w (p8 n w) := by
  go_enter Tryz.func196, Tryz.ntmps196
  go_wp2
  · refine bodyPost_ret (v := .tuple #[.agg #[.int .i64 0, .int .u64 0], .bool false]) (by simp only [results, Tryz.results196]; go_simp) rfl (Bm (ah1 H1 ‹_› ‹_›) ?_)
    (repeat first | with_reducible exact Below.refl _ _ | with_reducible refine dX ?_ _)
  · have ai := Ts H1 (.inr ‹_›)
    refine bodyPost_ret (v := .tuple #[.agg #[.int .i64 (wrap64 h1), .int .u64 l1], .bool true]) (by simp only [results, Tryz.results196]; go_simp) rfl (tz ai.1 ai.2 ?_);(repeat first | with_reducible exact Below.refl _ _ | with_reducible refine dX ?_ _)
  · have ai := Ts H1 (.inl ‹_›)
    refine bodyPost_ret (v := .tuple #[.agg #[.int .i64 (wrap64 h1), .int .u64 l1], .bool true]) (by simp only [results, Tryz.results196]; go_simp) rfl (tz ai.1 ai.2 ?_);(repeat first | with_reducible exact Below.refl _ _ | with_reducible refine dX ?_ _)
theorem aid (h1 l1 n : Int) (w : World) (H1 : dR h1 l1 n) :
    Calls ag 196 #[.agg #[.int .u64 h1, .int .u64 l1], .bool true] w (p8 (-n) w) := by
  go_enter Tryz.func196, Tryz.ntmps196
  go_wp2_with (go_at_call 166; refine (AU _ _ _ _ _ _ _ x3 (aic H1)).mono ?_; rintro e w1 ⟨gG, iH, rfl, hs, ab⟩; have xl := Below.cell ab (p := ⟨w.heap.size, 0, none⟩) (by (simp; omega)); have xy := Below.frozen ab (p := ⟨w.heap.size, 0, none⟩) (by (simp; omega)); have xm := Below.cell ab (p := ⟨w.heap.size, 1, none⟩) (by (simp; omega)); have xz := Below.frozen ab (p := ⟨w.heap.size, 1, none⟩) (by (simp; omega)); have zg := Below.cell ab (p := ⟨w.heap.size + 1, 0, none⟩) (by (simp; done)); have zp := Below.frozen ab (p := ⟨w.heap.size + 1, 0, none⟩) (by (simp; done)); have zh := Below.cell ab (p := ⟨w.heap.size + 1, 1, none⟩) (by (simp; done)); have zq := Below.frozen ab (p := ⟨w.heap.size + 1, 1, none⟩) (by (simp; done)); have oC := Below.size ab; (try simp at oC); have yc : ¬ w1.heap.size = w.heap.size := (by omega); have AW : ¬ w1.heap.size = w.heap.size + 1 := (by omega))
  · refine bodyPost_ret (v := .tuple #[.agg #[.int .i64 0, .int .u64 0], .bool false]) (by simp only [results, Tryz.results196]; go_simp) rfl (Bm (ahY H1 hs ‹_› (by have h := ‹(!decide (gG < 0)) = true›; simpa using h)) ?_)
    (repeat first | with_reducible exact Below.refl _ _ | with_reducible refine dX ?_ _ | focus ((with_reducible refine hO ?_ _ _ _ ?_); rotate_left; omega) | with_reducible refine e5 ?_ ab)
  · have ai := Tr H1 hs (.inr (by have h := ‹(!decide (gG < 0)) = false›; simpa using h))
    refine bodyPost_ret (v := .tuple #[.agg #[.int .i64 gG, .int .u64 iH], .bool true]) (by simp only [results, Tryz.results196]; go_simp) rfl (tz ai.1 ai.2 ?_);(repeat first | with_reducible exact Below.refl _ _ | with_reducible refine dX ?_ _ | focus ((with_reducible refine hO ?_ _ _ _ ?_); rotate_left; omega) | with_reducible refine e5 ?_ ab)
  · have ai := Tr H1 hs (.inl ‹_›)
    refine bodyPost_ret (v := .tuple #[.agg #[.int .i64 gG, .int .u64 iH], .bool true]) (by simp only [results, Tryz.results196]; go_simp) rfl (tz ai.1 ai.2 ?_);(repeat first | with_reducible exact Below.refl _ _ | with_reducible refine dX ?_ _ | focus ((with_reducible refine hO ?_ _ _ _ ?_); rotate_left; omega) | with_reducible refine e5 ?_ ab)
theorem Kz (h1 l1 n : Int) (b : Bool) (w : World) (H1 : dR h1 l1 n) :
    Calls ag 196 #[.agg #[.int .u64 h1, .int .u64 l1], .bool b] w (p8 (if b then -n else n) w) := by
  cases b
  · exact aie h1 l1 n w H1
  · exact aid h1 l1 n w H1
theorem acS (h1 l1 n h2 l2 m : Int) (w : World) (H1 : dR h1 l1 n) (dd : dR h2 l2 m) :
    Calls ag 218 #[.agg #[.int .u64 h1, .int .u64 l1], .agg #[.int .u64 h2, .int .u64 l2]] w (ll (.bool (decide (n < m))) w) := by
  go_enter Tryz.func218, Tryz.ntmps218
  go_wp2
  all_goals
    go_ret
    refine ⟨ag0 ?_, by (repeat first | with_reducible exact Below.refl _ _ | with_reducible refine dX ?_ _)⟩;obtain ⟨b1, b2, aG⟩ := H1;obtain ⟨ee, dO, aO⟩ := dd;rw [kR];simp only [cg, true_iff, n3, false_iff];omega
theorem aiB (h1 l1 h2 l2 : Int) (b1 : 0 ≤ h1 ∧ h1 < 18446744073709551616) (b2 : 0 ≤ l1 ∧ l1 < 18446744073709551616)
   (ee : 0 ≤ h2 ∧ h2 < 18446744073709551616) (dO : 0 ≤ l2 ∧ l2 < 18446744073709551616) (hle : h2 * 18446744073709551616 + l2 ≤ h1 * 18446744073709551616 + l1) :
   dR ((h1 - h2 - -((l1 - l2 - 0) / 18446744073709551616)) % 18446744073709551616) ((l1 - l2 - 0) % 18446744073709551616) ((h1 * 18446744073709551616 + l1) - (h2 * 18446744073709551616 + l2)) := by
  unfold dR;omega
theorem aiC (h1 l1 n h2 l2 m : Int) (w : World) (H1 : dR h1 l1 n) (dd : dR h2 l2 m) (hle : m ≤ n) :
    Calls ag 217 #[.agg #[.int .u64 h1, .int .u64 l1], .agg #[.int .u64 h2, .int .u64 l2]] w (aT (n - m) w) := by
  obtain ⟨b1, b2, rfl⟩ := H1;obtain ⟨ee, dO, rfl⟩ := dd;have hv := aiB h1 l1 h2 l2 b1 b2 ee dO hle;have aG := fun w => FI l1 l2 0 b2.1 b2.2 dO.1 dO.2 (by omega) (by omega) w;have aO := fun w => FI h1 h2 (-((l1 - l2 - 0) / 18446744073709551616)) b1.1 b1.2 ee.1 ee.2 (by omega) (by omega) w;generalize -((l1 - l2 - 0) / 18446744073709551616) = c at *;generalize (l1 - l2 - 0) % 18446744073709551616 = s at *;generalize (h1 - h2 - c) % 18446744073709551616 = s' at *;generalize -((h1 - h2 - c) / 18446744073709551616) = c' at *;generalize (h1 * 18446744073709551616 + l1) - (h2 * 18446744073709551616 + l2) = wC at *;clear b1 b2 ee dO hle
  go_enter Tryz.func217, Tryz.ntmps217
  go_wp2
  refine bodyPost_ret (v := .agg #[.int .u64 s', .int .u64 s]) (by simp only [results, Tryz.results217]; go_simp) rfl ⟨_, _, rfl, hv, ?_⟩;(repeat first | with_reducible exact Below.refl _ _ | with_reducible refine dX ?_ _)
end Go.Proofs.YtbcecodakfejaaaGreat
namespace Go.Proofs.YtbcecodakfejaaaGreat
def mT (n len : Nat) : Prop := (n = 0 ∧ len = 0) ∨ (1 ≤ len ∧ len ≤ 128 ∧ 2 ^ (len - 1) ≤ n ∧ n < 2 ^ len)
theorem sc : (2 : Nat) ^ 64 = 18446744073709551616 := by decide
theorem KJ : (2 : Nat) ^ 128 = 340282366920938463463374607431768211456 := by decide
theorem P5 (l : Nat) (h : l < 18446744073709551616) : mT l (Lib.bitLen l) := by
  by_cases e : l = 0
  · subst e
    exact .inl ⟨rfl, Lib.bitLenAux_zero 64⟩
  · obtain ⟨a, b, c⟩ := Lib.bitLenAux_bounds 64 l (by rw [sc]; exact h) e
    have d : Lib.bitLen l ≤ 64 := Lib.bitLen_le l 64 (dI _) (by rw [sc]; exact h);exact .inr ⟨a, by omega, b, c⟩
theorem acO (h l : Nat) (aA : h ≠ 0) (aR : h < 18446744073709551616) (hl : l < 18446744073709551616) : mT (h * 18446744073709551616 + l) (64 + Lib.bitLen h) ∧ Lib.bitLen h ≤ 64 := by
  obtain ⟨a, b, c⟩ := Lib.bitLenAux_bounds 64 h (by rw [sc]; exact aR) aA;have d : Lib.bitLen h ≤ 64 := Lib.bitLen_le h 64 (dI _) (by rw [sc]; exact aR);have e : Lib.bitLenAux 64 h = Lib.bitLen h := rfl;rw [e] at a b c;refine ⟨.inr ⟨by omega, by omega, ?_, ?_⟩, d⟩
  · rw [show 64 + Lib.bitLen h - 1 = (Lib.bitLen h - 1) + 64 by omega, Nat.pow_add, sc]
    generalize 2 ^ (Lib.bitLen h - 1) = P at *;omega
  · rw [show 64 + Lib.bitLen h = Lib.bitLen h + 64 by omega, Nat.pow_add, sc]
    generalize 2 ^ Lib.bitLen h = P at *;omega
theorem acP {n len : Nat} (h : mT n len) : len ≤ 128 := by rcases h with h | h <;> omega
theorem acQ {n len k : Nat} (h : mT n len) (aA : n ≠ 0) (af : 128 < k + len) : 340282366920938463463374607431768211456 ≤ n * 2 ^ k := by
  rcases h with h | ⟨a, b, c, d⟩
  · omega
  · have h1 := kT (2 ^ k) c
    rw [← Nat.pow_add] at h1;have h2 : 2 ^ 128 ≤ 2 ^ (len - 1 + k) := Nat.pow_le_pow_right (by decide) (by omega);rw [KJ] at h2;omega
theorem acR {n len k : Nat} (h : mT n len) (af : k + len ≤ 128) : n * 2 ^ k < 340282366920938463463374607431768211456 := by
  rcases h with ⟨rfl, rfl⟩ | ⟨a, b, c, d⟩
  · simp
  · have h1 := Nat.mul_lt_mul_of_pos_right d (Nat.two_pow_pos k)
    rw [← Nat.pow_add] at h1;have h2 : 2 ^ (len + k) ≤ 2 ^ 128 := Nat.pow_le_pow_right (by decide) (by omega);rw [KJ] at h2;omega
theorem ah6 (h l k : Nat) (hl : l < 18446744073709551616) (af : k < 64) (ab : (h * 18446744073709551616 + l) * 2 ^ k < 340282366920938463463374607431768211456) :
    h * 2 ^ k < 18446744073709551616 ∧ l / 2 ^ (64 - k) < 2 ^ k ∧ h * 2 ^ k + l / 2 ^ (64 - k) < 18446744073709551616 ∧
    (h * 18446744073709551616 + l) * 2 ^ k = (h * 2 ^ k + l / 2 ^ (64 - k)) * 18446744073709551616 + (l * 2 ^ k) % 18446744073709551616 := by
  have J3 : 2 ^ k * 2 ^ (64 - k) = 18446744073709551616 := by rw [← Nat.pow_add, show k + (64 - k) = 64 by omega, sc]
  have agt : 0 < 2 ^ k := Nat.two_pow_pos k;have SH : 0 < 2 ^ (64 - k) := Nat.two_pow_pos _;generalize 2 ^ k = p at *;generalize 2 ^ (64 - k) = q at *;have hd : l / q < p := by rw [Nat.div_lt_iff_lt_mul SH, J3]; exact hl
  have aG : l * p = 18446744073709551616 * (l / q) + p * (l % q) := by
    conv => lhs; rw [← Nat.div_add_mod l q]
    rw [kS, ← J3, Nat.mul_comm (l % q) p, Nat.mul_assoc p q, Nat.mul_comm (q * (l / q)) p]
  have aO : p * (l % q) < 18446744073709551616 := by rw [← J3]; exact Nat.mul_lt_mul_of_pos_left (Nat.mod_lt _ SH) agt
  have cl : (l * p) % 18446744073709551616 = p * (l % q) := by rw [aG, Nat.mul_add_mod, Nat.mod_eq_of_lt aO]
  have ey : (h * 18446744073709551616 + l) * p = h * p * 18446744073709551616 + l * p := by rw [kS, Nat.mul_right_comm]
  rw [ey] at ab;refine ⟨by omega, hd, by omega, ?_⟩;rw [ey, cl, kS];omega
theorem JM (h l k : Nat) (h1 : h * 2 ^ k < 18446744073709551616) (h2 : l < 2 ^ k) (h3 : h * 2 ^ k + l < 18446744073709551616) :
    bits .or .u64 ((h * 2 ^ k : Nat) : Int) (l : Int) = ((h * 2 ^ k + l : Nat) : Int) := by
  rw [bits_or_u64_nat _ _ h1 (by omega), Nat.mul_comm h, ← Nat.two_pow_add_eq_or_of_lt h2]
theorem Tt (h l k : Int) (vA : 0 ≤ h) (qd : 0 ≤ l ∧ l < 18446744073709551616) (Mq : 0 ≤ k ∧ k < 64) (ab : (h * 18446744073709551616 + l) * 2 ^ k.toNat < 340282366920938463463374607431768211456) :
    ∃ H, bits .or .u64 (IntKind.u64.wrap (h * 2 ^ k.toNat)) (l / 2 ^ (64 - k).toNat) = H ∧ (0 ≤ H ∧ H < 18446744073709551616) ∧ (h * 18446744073709551616 + l) * 2 ^ k.toNat = H * 18446744073709551616 + IntKind.u64.wrap (l * 2 ^ k.toNat) := by
  obtain ⟨a, rfl⟩ := mL vA;obtain ⟨b, rfl⟩ := mL qd.1;obtain ⟨c, rfl⟩ := mL Mq.1;have W2 : c < 64 := by omega
  rw [show (64 - (c : Int)).toNat = 64 - c by omega, ld] at *
  have cL : (a * 18446744073709551616 + b) * 2 ^ c < 340282366920938463463374607431768211456 := by
    have e : ((a : Int) * 18446744073709551616 + b) * 2 ^ c = (((a * 18446744073709551616 + b) * 2 ^ c : Nat) : Int) := by simp
    rw [e] at ab;omega
  obtain ⟨s1, s2, bJ, bK⟩ := ah6 a b c (by omega) W2 cL
  have w1 : IntKind.u64.wrap ((a : Int) * 2 ^ c) = ((a * 2 ^ c : Nat) : Int) := by
    rw [show (a : Int) * 2 ^ c = ((a * 2 ^ c : Nat) : Int) by simp, IntKind.wrap_u64];omega
  have w2 : (b : Int) / 2 ^ (64 - c) = ((b / 2 ^ (64 - c) : Nat) : Int) := by simp
  have w3 : IntKind.u64.wrap ((b : Int) * 2 ^ c) = ((b * 2 ^ c % 18446744073709551616 : Nat) : Int) := by
    rw [show (b : Int) * 2 ^ c = ((b * 2 ^ c : Nat) : Int) by simp, IntKind.wrap_u64];omega
  refine ⟨_, rfl, ?_, ?_⟩
  · rw [w1, w2, JM _ _ _ s1 s2 bJ]
    omega
  · rw [w1, w2, JM _ _ _ s1 s2 bJ, w3]
    rw [show ((a : Int) * 18446744073709551616 + b) * 2 ^ c = (((a * 18446744073709551616 + b) * 2 ^ c : Nat) : Int) by simp, bK];omega
theorem ah5 (h l k : Int) (vA : 0 ≤ h) (qd : 0 ≤ l) (Mq : 64 ≤ k) (ab : (h * 18446744073709551616 + l) * 2 ^ k.toNat < 340282366920938463463374607431768211456) :
    (0 ≤ IntKind.u64.wrap (l * 2 ^ (k - 64).toNat) ∧ IntKind.u64.wrap (l * 2 ^ (k - 64).toNat) < 18446744073709551616) ∧ (h * 18446744073709551616 + l) * 2 ^ k.toNat = IntKind.u64.wrap (l * 2 ^ (k - 64).toNat) * 18446744073709551616 + 0 := by
  obtain ⟨a, rfl⟩ := mL vA;obtain ⟨b, rfl⟩ := mL qd;obtain ⟨c, rfl⟩ : ∃ c : Nat, k = c + 64 := ⟨(k - 64).toNat, by omega⟩;rw [show ((c : Int) + 64 - 64).toNat = c by omega, show ((c : Int) + 64).toNat = c + 64 by omega] at *
  have e : ((a : Int) * 18446744073709551616 + b) * 2 ^ (c + 64) = (((a * 18446744073709551616 + b) * 2 ^ c * 18446744073709551616 : Nat) : Int) := by
    rw [Int.pow_add, ← j5];simp
  rw [e] at ab ⊢;rw [show (b : Int) * 2 ^ c = ((b * 2 ^ c : Nat) : Int) by simp, IntKind.wrap_u64];have hp : 0 < 2 ^ c := Nat.two_pow_pos c
  have aF : a = 0 := by
    rcases tq a with h | h
    · exact h
    · exfalso
      have h1 : 18446744073709551616 * 1 ≤ (a * 18446744073709551616 + b) * 2 ^ c := Nat.mul_le_mul (by omega) hp;omega
  subst aF;rw [Nat.zero_mul, j3] at *;omega
end Go.Proofs.YtbcecodakfejaaaGreat
namespace Go.Proofs.YtbcecodakfejaaaGreat
open Go.RowKit
def U8 (n : Int) (w : World) (e : Ending) (w' : World) : Prop := ∃ H L, e = .returned (.tuple #[.int .u64 H, .int .u64 L]) ∧ dR H L n ∧ w = w'
theorem adr {x y : Nat} (aa : x < 18446744073709551616) (ai : y < 18446744073709551616) : x * y < 18446744073709551616 * 18446744073709551616 := Nat.mul_lt_mul'' aa ai
theorem yb (x y : Int) (w : World) (aa : 0 ≤ x ∧ x < 18446744073709551616) (ai : 0 ≤ y ∧ y < 18446744073709551616) :
    Calls ag 179 #[.int .u64 x, .int .u64 y] w (U8 (x * y) w) := by
  obtain ⟨X, rfl⟩ := mL aa.1;obtain ⟨Y, rfl⟩ := mL ai.1;refine (Tryz.bits_Mul64 X Y (by omega) (by omega) w).mono ?_;rintro e w' ⟨rfl, rfl⟩;have hl := adr (x := X) (y := Y) (by omega) (by omega);refine ⟨_, _, rfl, ?_, rfl⟩;rw [show (X : Int) * (Y : Int) = ((X * Y : Nat) : Int) from (Int.natCast_mul X Y).symm];generalize X * Y = p at *;unfold dR;omega
def mv (n : Int) : Bool := decide (n < 340282366920938463463374607431768211456)
def xc (n : Int) (w : World) (e : Ending) (w' : World) : Prop := ∃ H L, e = .returned (.tuple #[.agg #[.int .u64 H, .int .u64 L], .bool (mv n)]) ∧ dR H L (if mv n then n else 0) ∧ Below w.heap.size w w'
theorem Tb {n H L : Int} {w w' : World} (h : mv n = true) (k : dR H L n) (b : Below w.heap.size w w') : xc n w (.returned (.tuple #[.agg #[.int .u64 H, .int .u64 L], .bool true])) w' := ⟨H, L, by rw [h], by rw [h]; exact k, b⟩
theorem Bj {n : Int} {w w' : World} (h : mv n = false) (b : Below w.heap.size w w') : xc n w (.returned (.tuple #[.agg #[.int .u64 0, .int .u64 0], .bool false])) w' := ⟨0, 0, by rw [h], by rw [h]; exact AB, b⟩
theorem W8 {h1 l1 n h2 l2 m : Int} (H1 : dR h1 l1 n) (dd : dR h2 l2 m) (ba : h1 ≠ 0) (bo : h2 ≠ 0) : mv (n * m) = false := by
  obtain ⟨b1, b2, aG⟩ := H1;obtain ⟨ee, dO, aO⟩ := dd;have aw : 18446744073709551616 ≤ n := by omega
  have hm : 18446744073709551616 ≤ m := by omega
  have h := tu aw hm (by omega) (by omega);unfold mv;rw [kq];omega
theorem adD (h1 l1 n h2 l2 m : Int) (w : World) (H1 : dR h1 l1 n) (dd : dR h2 l2 m) (ba : h1 ≠ 0) (bo : h2 ≠ 0) :
    Calls ag 194 #[.agg #[.int .u64 h1, .int .u64 l1], .agg #[.int .u64 h2, .int .u64 l2]] w (xc (n * m) w) := by
  have aw := Lib.hid (W8 H1 dd ba bo);have b1 : (h1 != 0) = true := by simpa using ba
  have b2 : (h2 != 0) = true := by simpa using bo
  clear ba bo
  go_enter Tryz.func194, Tryz.ntmps194
  go_wp2
  refine bodyPost_ret (v := .tuple #[.agg #[.int .u64 0, .int .u64 0], .bool false]) (by simp only [results, Tryz.results194]; go_simp) rfl (Bj aw.out ?_);(repeat first | with_reducible exact Below.refl _ _ | with_reducible refine dX ?_ _)
theorem PF {a b : Int} (h : dR a b 0) : a = 0 ∧ b = 0 := by
  obtain ⟨b1, b2, e⟩ := h;omega
theorem QE {o u q hi lo p N : Int} (A : dR o u q) (C : dR hi lo p) (e : N = q * 18446744073709551616 + p) :
    (¬ o = 0 → mv N = false) ∧ (o = 0 → ((hi + u) / 18446744073709551616 != 0) = true → mv N = false) ∧
    (o = 0 → ((hi + u) / 18446744073709551616 != 0) = false → mv N = true ∧ dR ((hi + u) % 18446744073709551616) lo N) := by
  obtain ⟨a1, a2, rfl⟩ := A;obtain ⟨b1, b2, rfl⟩ := C;unfold mv dR;simp only [bne_iff_ne, bne_eq_false_iff_eq, cg, kq];omega
theorem Rr (x : Int) (h : 0 ≤ x ∧ x < 18446744073709551616) : bits .or .u64 0 x = x ∧ bits .or .u64 x 0 = x := by
  obtain ⟨X, rfl⟩ := mL h.1;have h1 := bits_or_u64_nat 0 X (by omega) (by omega);have h2 := bits_or_u64_nat X 0 (by omega) (by omega);rw [Nat.zero_or] at h1;rw [Nat.or_zero] at h2;exact ⟨h1, h2⟩
theorem adE (l1 n h2 l2 m : Int) (w : World) (H1 : dR 0 l1 n) (dd : dR h2 l2 m) :
    Calls ag 194 #[.agg #[.int .u64 0, .int .u64 l1], .agg #[.int .u64 h2, .int .u64 l2]] w (xc (n * m) w) := by
  have e2 := H1.1; have z2 := H1.2.1; have z3 := dd.1; have z4 := dd.2.1
  go_enter Tryz.func194, Tryz.ntmps194
  go_wp2_with fail
  refine (yb _ _ _ e2 z4).mono ?_;rintro e w1 ⟨ad7, FN, rfl, dn, rfl⟩;rw [Int.zero_mul] at dn;obtain ⟨rfl, rfl⟩ := PF dn;clear dn
  go_wp2_with fail
  refine (yb _ _ _ z2 z3).mono ?_;rintro e w1 ⟨ad8, FO, rfl, eM, rfl⟩
  go_wp2_with fail
  refine (yb _ _ _ z2 z4).mono ?_;rintro e w1 ⟨hi, lo, rfl, hC, rfl⟩;have o1 := (Rr FO eM.2.1).1;have aG := fun w => Ck hi FO 0 hC.1.1 eM.2.1.1 (by omega) (by omega) w;rw [Int.add_zero] at aG
  have sR := QE (N := n * m) eM hC (by
    rw [H1.2.2, dd.2.2, Int.zero_mul, Int.zero_add, Int.mul_add, ← j5])
  obtain ⟨q1, q2, bB⟩ := sR;have oh := Lib.hid q1; have p5 := Lib.hid q2; have Gk := Lib.hid bB;clear q1 q2 bB e2 z2 z3 z4
  go_wp2
  · refine bodyPost_ret (v := .tuple #[.agg #[.int .u64 0, .int .u64 0], .bool false]) (by simp only [results, Tryz.results194]; go_simp) rfl (Bj (oh.out ‹_›) ?_)
    (repeat first | with_reducible exact Below.refl _ _ | with_reducible refine dX ?_ _)
  · refine bodyPost_ret (v := .tuple #[.agg #[.int .u64 0, .int .u64 0], .bool false]) (by simp only [results, Tryz.results194]; go_simp) rfl (Bj (p5.out ‹_› ‹_›) ?_)
    (repeat first | with_reducible exact Below.refl _ _ | with_reducible refine dX ?_ _)
  · have ai := Gk.out ‹_› ‹_›
    refine bodyPost_ret (v := .tuple #[.agg #[.int .u64 ((hi + FO) % 18446744073709551616), .int .u64 lo], .bool true]) (by simp only [results, Tryz.results194]; go_simp) rfl (Tb ai.1 ai.2 ?_);(repeat first | with_reducible exact Below.refl _ _ | with_reducible refine dX ?_ _)
theorem adF (h1 l1 n l2 m : Int) (w : World) (H1 : dR h1 l1 n) (dd : dR 0 l2 m) (k : h1 ≠ 0) :
    Calls ag 194 #[.agg #[.int .u64 h1, .int .u64 l1], .agg #[.int .u64 0, .int .u64 l2]] w (xc (n * m) w) := by
  have e2 := H1.1; have z2 := H1.2.1; have z3 := dd.1; have z4 := dd.2.1;have wq : (h1 != 0) = true := by simpa using k
  clear k
  go_enter Tryz.func194, Tryz.ntmps194
  go_wp2_with fail
  refine (yb _ _ _ e2 z4).mono ?_;rintro e w1 ⟨ad7, FN, rfl, dn, rfl⟩
  go_wp2_with fail
  refine (yb _ _ _ z2 z3).mono ?_;rintro e w1 ⟨ad8, FO, rfl, eM, rfl⟩;rw [Int.mul_zero] at eM;obtain ⟨rfl, rfl⟩ := PF eM;clear eM
  go_wp2_with fail
  refine (yb _ _ _ z2 z4).mono ?_;rintro e w1 ⟨hi, lo, rfl, hC, rfl⟩;have o1 := (Rr FN dn.2.1).2;have aG := fun w => Ck hi FN 0 hC.1.1 dn.2.1.1 (by omega) (by omega) w;rw [Int.add_zero] at aG
  have sR := QE (N := n * m) dn hC (by
    rw [H1.2.2, dd.2.2, Int.zero_mul, Int.zero_add, Int.add_mul, Int.mul_right_comm])
  obtain ⟨q1, q2, bB⟩ := sR;have oh := Lib.hid q1; have p5 := Lib.hid q2; have Gk := Lib.hid bB;clear q1 q2 bB e2 z2 z3 z4
  go_wp2
  · refine bodyPost_ret (v := .tuple #[.agg #[.int .u64 0, .int .u64 0], .bool false]) (by simp only [results, Tryz.results194]; go_simp) rfl (Bj (oh.out ‹_›) ?_)
    (repeat first | with_reducible exact Below.refl _ _ | with_reducible refine dX ?_ _)
  · refine bodyPost_ret (v := .tuple #[.agg #[.int .u64 0, .int .u64 0], .bool false]) (by simp only [results, Tryz.results194]; go_simp) rfl (Bj (p5.out ‹_› ‹_›) ?_)
    (repeat first | with_reducible exact Below.refl _ _ | with_reducible refine dX ?_ _)
  · have ai := Gk.out ‹_› ‹_›
    refine bodyPost_ret (v := .tuple #[.agg #[.int .u64 ((hi + FN) % 18446744073709551616), .int .u64 lo], .bool true]) (by simp only [results, Tryz.results194]; go_simp) rfl (Tb ai.1 ai.2 ?_);(repeat first | with_reducible exact Below.refl _ _ | with_reducible refine dX ?_ _)
theorem adC (h1 l1 n h2 l2 m : Int) (w : World) (H1 : dR h1 l1 n) (dd : dR h2 l2 m) :
    Calls ag 194 #[.agg #[.int .u64 h1, .int .u64 l1], .agg #[.int .u64 h2, .int .u64 l2]] w (xc (n * m) w) := by
  by_cases ba : h1 = 0
  · subst ba; exact adE l1 n h2 l2 m w H1 dd
  · by_cases bo : h2 = 0
    · subst bo; exact adF h1 l1 n l2 m w H1 dd ba
    · exact adD h1 l1 n h2 l2 m w H1 dd ba bo
def U6 (n : Int) (w : World) (e : Ending) (w' : World) : Prop := ∃ k : Nat, e = .returned (.int .i64 k) ∧ mT n.toNat k ∧ Below w.heap.size w w'
theorem W5 (h : Int) (b : 0 ≤ h ∧ h < 18446744073709551616) : Lib.bitLen h.toNat ≤ 64 := Lib.bitLen_le _ 64 (dI _) (by rw [sc]; omega)
theorem acN (h1 l1 n : Int) (w : World) (H1 : dR h1 l1 n) :
    Calls ag 205 #[.agg #[.int .u64 h1, .int .u64 l1]] w (U6 n w) := by
  obtain ⟨b1, b2, e⟩ := H1;have q1 := W5 h1 b1
  by_cases k : h1 = 0
  · subst k
    have hl : Hid (mT n.toNat (Lib.bitLen l1.toNat)) := by
      rw [e, show (0 * 18446744073709551616 + l1).toNat = l1.toNat by omega];exact P5 _ (by omega)
    clear e
    go_enter Tryz.func205, Tryz.ntmps205
    go_wp2_with (go_at_call 214; refine (Tryz.bits_Len64 _ _ (by omega) (by omega)).mono ?_; rintro e w' ⟨rfl, rfl⟩)
    go_ret
    exact ⟨_, rfl, hl.out, by (repeat first | with_reducible exact Below.refl _ _ | with_reducible refine dX ?_ _)⟩
  · have hl : Hid (mT n.toNat (64 + Lib.bitLen h1.toNat)) := by
      rw [e, show (h1 * 18446744073709551616 + l1).toNat = h1.toNat * 18446744073709551616 + l1.toNat by omega];exact (acO _ _ (by omega) (by omega) (by omega)).1
    have wq : (h1 != 0) = true := by simpa using k
    clear e k
    go_enter Tryz.func205, Tryz.ntmps205
    go_wp2_with (go_at_call 214; refine (Tryz.bits_Len64 _ _ (by omega) (by omega)).mono ?_; rintro e w' ⟨rfl, rfl⟩)
    go_ret
    exact ⟨_, by simp, hl.out, by (repeat first | with_reducible exact Below.refl _ _ | with_reducible refine dX ?_ _)⟩
theorem ah3 (h1 l1 n k : Int) (w : World) (H1 : dR h1 l1 n) (eW : 64 ≤ k) (ba : k < 128) (ab : n * 2 ^ k.toNat < 340282366920938463463374607431768211456) :
    Calls ag 206 #[.agg #[.int .u64 h1, .int .u64 l1], .int .u64 k] w (aT (n * 2 ^ k.toNat) w) := by
  obtain ⟨b1, b2, e⟩ := H1;rw [e] at ab ⊢;have pZ := Lib.hid (ah5 h1 l1 k b1.1 b2.1 eW ab);clear e ab b1 b2
  go_enter Tryz.func206, Tryz.ntmps206
  go_wp2
  refine bodyPost_ret (v := .agg #[.int .u64 (IntKind.u64.wrap (l1 * 2 ^ (k - 64).toNat)), .int .u64 0]) (by simp only [results, Tryz.results206]; go_simp) rfl ⟨_, _, rfl, ⟨pZ.out.1, by omega, pZ.out.2⟩, ?_⟩;(repeat first | with_reducible exact Below.refl _ _ | with_reducible refine dX ?_ _)
theorem ah4 (h1 l1 n k : Int) (w : World) (H1 : dR h1 l1 n) (eW : 0 ≤ k) (ba : k < 64) (ab : n * 2 ^ k.toNat < 340282366920938463463374607431768211456) :
    Calls ag 206 #[.agg #[.int .u64 h1, .int .u64 l1], .int .u64 k] w (aT (n * 2 ^ k.toNat) w) := by
  obtain ⟨b1, b2, e⟩ := H1;rw [e] at ab ⊢;obtain ⟨H, hk, lz, DQ⟩ := Tt h1 l1 k b1.1 b2 ⟨eW, ba⟩ ab;have UE := Lib.hid hk;have UF := Lib.hid DQ;clear e ab b1 b2 hk DQ
  go_enter Tryz.func206, Tryz.ntmps206
  go_wp2
  refine bodyPost_ret (v := .agg #[.int .u64 (bits BinOp.or IntKind.u64 (IntKind.u64.wrap (h1 * 2 ^ k.toNat)) (l1 / 2 ^ (64 - k).toNat)), .int .u64 (IntKind.u64.wrap (l1 * 2 ^ k.toNat))]) (by simp only [results, Tryz.results206]; go_simp) rfl ⟨_, _, rfl, ?_, ?_⟩
  · rw [UE.out]
    exact ⟨lz, wT _, UF.out⟩
  · (repeat first | with_reducible exact Below.refl _ _ | with_reducible refine dX ?_ _)
theorem ah2 (h1 l1 n k : Int) (w : World) (H1 : dR h1 l1 n) (eW : 0 ≤ k) (ba : k < 128) (ab : n * 2 ^ k.toNat < 340282366920938463463374607431768211456) :
    Calls ag 206 #[.agg #[.int .u64 h1, .int .u64 l1], .int .u64 k] w (aT (n * 2 ^ k.toNat) w) := by
  by_cases h : k < 64
  · exact ah4 h1 l1 n k w H1 eW h ab
  · exact ah3 h1 l1 n k w H1 (by omega) ba ab
end Go.Proofs.YtbcecodakfejaaaGreat
namespace Go.Proofs.YtbcecodakfejaaaGreat
open Go.RowKit
theorem sign_mul {h1 l1 n h2 l2 m : Int} (H1 : c0 h1 l1 n) (dd : c0 h2 l2 m) : (if (!decide (h1 < 0) == decide (h2 < 0)) = true then -((n.natAbs : Int) * (m.natAbs : Int)) else (n.natAbs : Int) * (m.natAbs : Int)) = n * m := by
  have ba := H1.neg; have bo := dd.neg;rcases pQ n 0 with a | a <;> rcases pQ m 0 with b | b
  · obtain ⟨x, rfl⟩ : ∃ x : Nat, n = -(x : Int) := ⟨n.natAbs, by omega⟩
    obtain ⟨y, rfl⟩ : ∃ y : Nat, m = -(y : Int) := ⟨m.natAbs, by omega⟩;simp [ba.2 a, bo.2 b, Int.neg_mul, Int.mul_neg]
  · obtain ⟨x, rfl⟩ : ∃ x : Nat, n = -(x : Int) := ⟨n.natAbs, by omega⟩
    obtain ⟨y, rfl⟩ : ∃ y : Nat, m = (y : Int) := ⟨m.natAbs, by omega⟩;have : ¬ h2 < 0 := by omega
    simp [ba.2 a, this, Int.neg_mul]
  · obtain ⟨x, rfl⟩ : ∃ x : Nat, n = (x : Int) := ⟨n.natAbs, by omega⟩
    obtain ⟨y, rfl⟩ : ∃ y : Nat, m = -(y : Int) := ⟨m.natAbs, by omega⟩;have : ¬ h1 < 0 := by omega
    simp [bo.2 b, this, Int.mul_neg]
  · obtain ⟨x, rfl⟩ : ∃ x : Nat, n = (x : Int) := ⟨n.natAbs, by omega⟩
    obtain ⟨y, rfl⟩ : ∃ y : Nat, m = (y : Int) := ⟨m.natAbs, by omega⟩;have t1 : ¬ h1 < 0 := by omega
    have t2 : ¬ h2 < 0 := by omega
    simp [t1, t2]
theorem aih {h1 l1 n h2 l2 m ph pl P : Int} (w : World) (H1 : c0 h1 l1 n) (dd : c0 h2 l2 m) (e : Hid (P = n.natAbs * m.natAbs)) (hp : dR ph pl P) :
    Calls ag 196 #[.agg #[.int .u64 ph, .int .u64 pl], .bool (!decide (h1 < 0) == decide (h2 < 0))] w (p8 (n * m) w) := by
  rw [← sign_mul H1 dd, ← e.out];exact Kz ph pl P _ w hp
end Go.Proofs.YtbcecodakfejaaaGreat
namespace Go.Proofs.YtbcecodakfejaaaGreat
open Go.RowKit
theorem aiP {n m : Int} (aA : -9223372036854775808 ≤ n) (h1 : n < 9223372036854775808) (eW : -9223372036854775808 ≤ m) (ba : m < 9223372036854775808) : fits (n * m) = true := by
  have a : n.natAbs ≤ 9223372036854775808 := by omega
  have b : m.natAbs ≤ 9223372036854775808 := by omega
  have c := Nat.mul_le_mul a b;rw [← Int.natAbs_mul] at c;unfold fits;rw [cg];omega
theorem VC (n : Int) (k : Nat) : ((n * 2 ^ k).natAbs : Int) = (n.natAbs : Int) * 2 ^ k := by
  rw [Int.natAbs_mul, Int.natAbs_pow, Int.natCast_mul];simp
theorem ah7 {n k : Int} {len : Nat} (h : mT n.natAbs len) (aA : n ≠ 0) (af : 0 ≤ k) (az : 128 - (len : Int) < k) : fits (n * 2 ^ k.toNat) = false := by
  have h1 := acQ h (by omega) (show 128 < k.toNat + len by omega);have h2 := VC n k.toNat
  rw [show (n.natAbs : Int) * 2 ^ k.toNat = ((n.natAbs * 2 ^ k.toNat : Nat) : Int) by simp] at h2;unfold fits;rw [kq];omega
theorem ah8 {n k : Int} {len : Nat} (h : mT n.natAbs len) (aA : n ≠ 0) (af : 0 ≤ k) (az : k ≤ 128 - (len : Int)) : k < 128 ∧ (n.natAbs : Int) * 2 ^ k.toNat < 340282366920938463463374607431768211456 := by
  have h1 := acR h (show k.toNat + len ≤ 128 by omega);rw [show (n.natAbs : Int) * 2 ^ k.toNat = ((n.natAbs * 2 ^ k.toNat : Nat) : Int) by simp];refine ⟨?_, by omega⟩;rcases h with h | h <;> omega
theorem aib {h1 l1 n : Int} (k : Nat) (H1 : c0 h1 l1 n) : (if decide (h1 < 0) = true then -((n.natAbs : Int) * 2 ^ k) else (n.natAbs : Int) * 2 ^ k) = n * 2 ^ k := by
  have ba := H1.neg;rcases pQ n 0 with a | a
  · obtain ⟨x, rfl⟩ : ∃ x : Nat, n = -(x : Int) := ⟨n.natAbs, by omega⟩
    rw [if_pos (cd (ba.2 a)), Int.natAbs_neg, Int.natAbs_natCast, Int.neg_mul]
  · obtain ⟨x, rfl⟩ : ∃ x : Nat, n = (x : Int) := ⟨n.natAbs, by omega⟩
    rw [if_neg (by simp; omega), Int.natAbs_natCast]
theorem aif {h1 l1 n ph pl P : Int} {k : Nat} (w : World) (H1 : c0 h1 l1 n) (e : Hid (P = (n.natAbs : Int) * 2 ^ k)) (hp : dR ph pl P) :
    Calls ag 196 #[.agg #[.int .u64 ph, .int .u64 pl], .bool (decide (h1 < 0))] w (p8 (n * 2 ^ k) w) := by
  rw [← aib k H1, ← e.out];exact Kz ph pl P _ w hp
end Go.Proofs.YtbcecodakfejaaaGreat
namespace Go.Proofs.YtbcecodakfejaaaGreat
open Go.RowKit
end Go.Proofs.YtbcecodakfejaaaGreat
namespace Go.Proofs.YtbcecodakfejaaaGreat
open Go.RowKit
def cn (n : Int) : Int := n / 18446744073709551616
def dQ (n : Int) : Int := n % 18446744073709551616
abbrev nh (n : Int) : bA := .agg [.c (.int .i64 (cn n)), .c (.int .u64 (dQ n))]
abbrev gv (n : Int) : ah := .w (nh n)
theorem l8 {n : Int} (h : fits n = true) : c0 (cn n) (dQ n) n := by
 unfold fits at h;rw [cg] at h;unfold c0 cn dQ;omega
theorem DX {H L n : Int} (h : c0 H L n) : H = cn n ∧ L = dQ n := by
 obtain ⟨a, b, rfl⟩ := h;unfold cn dQ;omega
theorem xS : cn 0 = 0 := by decide
theorem x8 : dQ 0 = 0 := by decide
@[go_sem] theorem Yu (n m : Int) : fS (cn n) (dQ n) (cn m) (dQ m) = decide (n = m) := by
 unfold fS cn dQ;rw [kR];simp;omega
@[go_sem] theorem akg (n : Int) : fS (cn n) (dQ n) 0 0 = decide (n = 0) := by
 have := Yu n 0;rwa [xS, x8] at this
theorem CY {n : Int} (aA : -9223372036854775808 ≤ n) (h1 : n < 9223372036854775808) : fits n = true := by unfold fits; rw [cg]; omega
theorem uU {n : Int} (aA : -9223372036854775808 ≤ n) (h1 : n < 9223372036854775808) : au ag 152 [ax n] (gv n) :=
 hZ [.int .i64 n] (.agg #[.int .i64 (cn n), .int .u64 (dQ n)]) rfl rfl rfl rfl rfl fun W => (Lj n W aA h1).mono fun e w' ⟨H, L, he, hw, ab⟩ => by
  obtain ⟨rfl, rfl⟩ := DX hw; exact ⟨he, ab⟩
theorem E4 {n : Int} (f : fits n = true) : au ag 168 [gv n] (ax (bR n 0)) :=
 hZ [.agg #[.int .i64 (cn n), .int .u64 (dQ n)]] (.int .i64 (bR n 0)) rfl rfl rfl rfl rfl fun W => Vc _ _ _ W (l8 f)
theorem af3 {n m : Int} (f : fits n = true) (g : fits m = true) : au ag 197 [gv n, gv m] (ax (bR n m)) :=
 hZ [.agg #[.int .i64 (cn n), .int .u64 (dQ n)], .agg #[.int .i64 (cn m), .int .u64 (dQ m)]] (.int .i64 (bR n m)) rfl rfl rfl rfl rfl fun W => K4 _ _ _ _ _ _ W (l8 f) (l8 g)
abbrev wf (z : Int) : ah := .cz [nh (if fits z then z else 0), .one (.c (.bool (fits z)))]
theorem yt {z : Int} {w w' : World} {e : Ending} (h : p8 z w e w') : e = .returned (.tuple #[.agg #[.int .i64 (cn (if fits z then z else 0)), .int .u64 (dQ (if fits z then z else 0))], .bool (fits z)]) ∧ Below w.heap.size w w' := by
 obtain ⟨H, L, he, hw, ab⟩ := h;obtain ⟨rfl, rfl⟩ := DX hw;exact ⟨he, ab⟩
theorem R2 {n : Int} (f : fits n = true) : au ag 169 [gv n] (wf (-n)) :=
 hZ [.agg #[.int .i64 (cn n), .int .u64 (dQ n)]] _ rfl rfl rfl rfl rfl fun W => (UZ _ _ _ W (l8 f)).mono fun e w' h => yt h
theorem af2 {n m : Int} (f : fits n = true) (g : fits m = true) : au ag 204 [gv n, gv m] (wf (n + m)) :=
 hZ [.agg #[.int .i64 (cn n), .int .u64 (dQ n)], .agg #[.int .i64 (cn m), .int .u64 (dQ m)]] _ rfl rfl rfl rfl rfl fun W => (T6 _ _ _ _ _ _ W (l8 f) (l8 g)).mono fun e w' h => yt h
theorem R3 {n m : Int} (f : fits n = true) (g : fits m = true) : au ag 149 [gv n, gv m] (wf (n - m)) :=
 hZ [.agg #[.int .i64 (cn n), .int .u64 (dQ n)], .agg #[.int .i64 (cn m), .int .u64 (dQ m)]] _ rfl rfl rfl rfl rfl fun W => (Vf _ _ _ _ _ _ W (l8 f) (l8 g)).mono fun e w' h => yt h
theorem eu.frame {w w' : World} {neg : Bool} {A : Option Addr} {l c : Nat} {n : Int} (h : eu w neg A l c n) (ap : ∀ a, A = some a → 0 < l → w'.heap[a.block]? = w.heap[a.block]?) : eu w' neg A l c n := by
 obtain ⟨ds, ⟨h1, h2, h3, aD⟩, hS⟩ := h;refine ⟨ds, ⟨h1, h2, h3, fun hp => ?_⟩, hS⟩;obtain ⟨g, rfl, an, aj⟩ := aD hp;have e := ap _ rfl hp;refine ⟨g, rfl, ?_, fun j ae => ?_⟩
 ·have cU : w.heap[g]? = some w.heap[g] := Array.getElem?_eq_getElem an;have fs : w'.heap[g]? = some w.heap[g] := e.trans cU;exact (j2.1 fs).1
 ·have bm : w'.heap[(⟨g, j, none⟩ : Addr).block]? = w.heap[(⟨g, j, none⟩ : Addr).block]? := e;rw [World.cell?_of_block (w := w) bm]; exact aj j ae
def jN (n : Int) : e4 where
 holds w v := ∃ A l c, v = .slice A l c ∧ eu w (decide (n < 0)) A l c n
 lu w v b := ∃ A l c a, v = .slice A l c ∧ 0 < l ∧ A = some a ∧ a.block = b
 frame w w' v := by
  rintro ⟨A, l, c, rfl, h⟩ ap;exact ⟨⟨A, l, c, rfl, h.frame fun a aF hl => ap a.block ⟨A, l, c, a, rfl, hl, aF, rfl⟩⟩, fun b ab => ab⟩
 iR w v b := by
  rintro ⟨A, l, c, rfl, ds, ⟨h1, h2, h3, aD⟩, hS⟩ ⟨ea, cm, c', a, e, hl, aF, ab⟩;cases e;obtain ⟨g, rfl, an, aj⟩ := aD hl;cases aF;subst ab;exact an
 cell w v := by rintro ⟨A, l, c, rfl, h⟩; rfl
abbrev km (n : Int) : bA := .agg [.c (.bool (decide (n < 0))), .p (jN n)]
abbrev cc (n : Int) : ah := .w (km n)
theorem Et {U : Nat → Prop} {ad : Nat → Nat} {w : World} {x : Bool} {A : Option Addr} {l c : Nat} {n : Int} (h : eu w x A l c n) (dx : ∀ a, A = some a → 0 < l → U a.block) : gh U ad w (km n) (.agg #[.bool x, .slice A l c]) := by
 obtain rfl := h.JH;refine ⟨[.bool (decide (n < 0)), .slice A l c], rfl, rfl, fun i y v ai hv => ?_⟩
 match i with
 | 0 => simp at ai hv; subst ai; subst hv; exact ⟨rfl, rfl⟩
 | 1 =>
  simp at ai hv;subst ai; subst hv;refine ⟨⟨A, l, c, rfl, h⟩, ?_⟩;rintro b ⟨ea, cm, c', a, e, hl, aF, ab⟩;cases e;subst ab;exact dx a aF hl
 | i + 2 => simp at ai
theorem JI {U : Nat → Prop} {ad : Nat → Nat} {w : World} {v : Value} {n : Int} (h : gh U ad w (km n) v) : ∃ A l c, v = .agg #[.bool (decide (n < 0)), .slice A l c] ∧ eu w (decide (n < 0)) A l c n ∧ ∀ a, A = some a → 0 < l → U a.block := by
 obtain ⟨vs, rfl, hl, hv⟩ := h
 match vs, hl with
 | [x, y], _ =>
  have aA := hv 0 _ x rfl rfl;have h1 := hv 1 _ y rfl rfl;obtain ⟨rfl, _⟩ := aA;obtain ⟨⟨A, l, c, rfl, h⟩, ap⟩ := h1;exact ⟨A, l, c, rfl, h, fun a aF hl => ap a.block ⟨A, l, c, a, rfl, hl, aF, rfl⟩⟩
def bj (k : Nat) (n : Int) : Prop := (n.natAbs : Int) < 10000 ^ k
theorem bj.len {w : World} {x : Bool} {A : Option Addr} {l c k : Nat} {n : Int} (b : bj k n) (h : eu w x A l c n) : l ≤ k := h.len b
theorem bj.up {k j : Nat} {n : Int} (b : bj k n) (h : k ≤ j) : bj j n := by
 unfold bj at *
 have : (10000 : Int) ^ k ≤ 10000 ^ j := by
  have := Nat.pow_le_pow_right (show 0 < 10000 by decide) h;have aG : ((10000 : Int) ^ k) = ((10000 ^ k : Nat) : Int) := by simp
  have aO : ((10000 : Int) ^ j) = ((10000 ^ j : Nat) : Int) := by simp
  rw [aG, aO]; omega
 omega
theorem A5 (k : Nat) : (0 : Int) < 10000 ^ k := hL (by decide)
theorem bj.uO {n : Int} (h : fits n = true) : bj 10 n := by
 unfold fits at h;rw [cg] at h;unfold bj;rw [aiL];omega
theorem bj.add {k : Nat} {n m : Int} (a : bj k n) (b : bj k m) : bj (k + 1) (n + m) := by
 unfold bj at *;rw [n5];omega
theorem bj.neg {k : Nat} {n : Int} (a : bj k n) : bj k (-n) := by unfold bj at *; rw [Int.natAbs_neg]; exact a
theorem bj.mul {k j : Nat} {n m : Int} (a : bj k n) (b : bj j m) : bj (k + j) (n * m) := by
 unfold bj at *;rw [Int.natAbs_mul, Int.pow_add, Int.natCast_mul];exact Int.mul_lt_mul' (lf a) b (by omega) (A5 k)
theorem bj.Sc (k : Nat) : bj (k + 1) (2 ^ k) := by unfold bj; exact Sd k
theorem S0 {U : Nat → Prop} {n : Int} {w w' : World} {e : Ending} (h : rh n w e w') (dx : ∀ b, w.heap.size ≤ b → U b) : ∃ v, e = .returned v ∧ de U id w' (cc n) v ∧ Below w.heap.size w w' := by
 obtain ⟨x, A, l, c, he, eO, ab, hF⟩ := h;exact ⟨_, he, Et eO fun a aF _ => dx _ (hF a aF), ab⟩
theorem J1 {f : FuncId} {n m : Int} {r : ah} (bW : r.aZ = true)
  (h : ∀ (U : Nat → Prop) (W : World) (A : Option Addr) (l c : Nat) (B : Option Addr) (cm c' : Nat), eu W (decide (n < 0)) A l c n → eu W (decide (m < 0)) B cm c' m →
   Calls ag f #[.agg #[.bool (decide (n < 0)), .slice A l c], .agg #[.bool (decide (m < 0)), .slice B cm c']] W fun e bk => ∃ v, e = .returned v ∧ de (fun b => U b ∨ W.heap.size ≤ b) id bk r v ∧ Below W.heap.size W bk) : au ag f [cc n, cc m] r := by
 refine ⟨fun x aa => ah.dC (by simp at aa; rcases aa with rfl | rfl <;> rfl), ah.dC bW, fun U W vs cW => ?_⟩
 match vs, cW with
 | [], cW => exact absurd cW.1 (by simp)
 | [_], cW => exact absurd cW.1 (by simp)
 | [v1, v2], cW =>
  obtain ⟨A, l, c, rfl, ba, _⟩ := JI (cW.2 0 _ _ rfl rfl);obtain ⟨B, cm, c', rfl, bo, _⟩ := JI (cW.2 1 _ _ rfl rfl);exact h U W A l c B cm c' ba bo
 | _ :: _ :: _ :: _, cW => exact absurd cW.1 (by simp)
theorem E0 {n m : Int} (a : bj 900 n) (b : bj 900 m) : au ag 71 [cc n, cc m] (cc (n + m)) :=
 J1 rfl fun U W A l c B cm c' h k => (SL _ _ A B l c cm c' n m W h k (a.len h) (b.len k)).mono fun e w' h => S0 h fun b ab => .inr ab
theorem qP {n m : Int} (a : bj 400 n) (b : bj 400 m) : au ag 77 [cc n, cc m] (cc (n * m)) :=
 J1 rfl fun U W A l c B cm c' h k => (agP _ _ A B l c cm c' n m W h k (a.len h) (b.len k)).mono fun e w' h => S0 h fun b ab => .inr ab
theorem wK {n m : Int} (a : bj 1000 n) (b : bj 1000 m) : au ag 76 [cc n, cc m] (ax (bR n m)) :=
 J1 rfl fun U W A l c B cm c' h k => (agO _ _ A B l c cm c' n m W h k (a.len h) (b.len k)).mono fun e w' ⟨he, ab⟩ => ⟨_, he, ⟨rfl, rfl⟩, ab⟩
theorem E2 {n : Int} (aA : -9223372036854775808 ≤ n) (h1 : n < 9223372036854775808) : au ag 66 [ax n] (cc n) :=
 J2 [.int .i64 n] rfl rfl rfl fun W => (SN n W aA h1).mono fun e w' ⟨x, A, l, c, he, eO, ab, hF⟩ => ⟨_, he, fun U dx => Et eO fun a aF _ => dx _ (hF a aF), ab⟩
theorem RV {k : Nat} (af : k ≤ 800) : au ag 108 [ax k] (cc (2 ^ k)) :=
 J2 [.int .i64 k] rfl rfl rfl fun W => (agR k W af).mono fun e w' ⟨x, A, l, c, he, eO, ab, hF⟩ => ⟨_, he, fun U dx => Et eO fun a aF _ => dx _ (hF a aF), ab⟩
theorem agb {f : FuncId} {n : Int} {r : ah} (bW : r.aZ = true)
  (h : ∀ (U : Nat → Prop) (W : World) (A : Option Addr) (l c : Nat), eu W (decide (n < 0)) A l c n → (∀ a, A = some a → 0 < l → U a.block) →
   Calls ag f #[.agg #[.bool (decide (n < 0)), .slice A l c]] W fun e bk => ∃ v, e = .returned v ∧ de (fun b => U b ∨ W.heap.size ≤ b) id bk r v ∧ Below W.heap.size W bk) : au ag f [cc n] r := by
 refine ⟨fun x aa => ah.dC (by simp at aa; subst aa; rfl), ah.dC bW, fun U W vs cW => ?_⟩
 match vs, cW with
 | [], cW => exact absurd cW.1 (by simp)
 | [v1], cW =>
  obtain ⟨A, l, c, rfl, ba, ap⟩ := JI (cW.2 0 _ _ rfl rfl);exact h U W A l c ba ap
 | _ :: _ :: _, cW => exact absurd cW.1 (by simp)
theorem E1 {n : Int} (a : bj 1000 n) : au ag 109 [cc n] (cc (-n)) :=
 agb rfl fun U W A l c h ap => (agQ _ A l c n W h (a.len h)).mono fun e w' ⟨x, cm, he, eO, hle, ab⟩ => ⟨_, he, Et eO fun a aF hl => .inl (ap a aF (by omega)), ab⟩
end Go.Proofs.YtbcecodakfejaaaGreat
namespace Go.Proofs.YtbcecodakfejaaaGreat
structure ia (u d a b : Int) : Prop where
  a0 : 2147483648 ≤ a
  a1 : a < 4294967296
  fD : 0 ≤ b
  b1 : b < 4294967296
  kY : 0 ≤ u
  bY : u < a * 4294967296 + b
  d0 : 0 ≤ d
  d1 : d < 4294967296
def jE (u d a b : Int) : Int := (u * 4294967296 + d) / (a * 4294967296 + b)
def iP (u d a b : Int) : Int := (u * 4294967296 + d) % (a * 4294967296 + b)
structure mr (u d a b q r : Int) : Prop where
  sum : q * a + r = u
  q0 : 0 ≤ q
  gW : 0 ≤ r
  le : jE u d a b ≤ q
variable {u d a b q r : Int}
theorem ia.mO (h : ia u d a b) : 0 < a * 4294967296 + b := by have := h.a0; have := h.fD; omega
theorem ia.q0 (h : ia u d a b) : 0 ≤ jE u d a b := n6 (by have := h.kY; have := h.d0; omega) (lf h.mO)
theorem ia.Fb (h : ia u d a b) : jE u d a b < 4294967296 := by
  unfold jE;refine Int.ediv_lt_of_lt_mul h.mO ?_;have h1 := h.bY; have h2 := h.d1;generalize a * 4294967296 + b = y at *;omega
theorem ia.le_iff (h : ia u d a b) (q : Int) : q ≤ jE u d a b ↔ q * (a * 4294967296 + b) ≤ u * 4294967296 + d := by
  unfold jE;exact oM h.mO
theorem JB (q a b : Int) : q * (a * 4294967296 + b) = q * a * 4294967296 + q * b := by rw [Int.mul_add, j5]
theorem ia.init (h : ia u d a b) : mr u d a b (u / a) (u - u / a * a) := by
  have aF : 0 < a := by have := h.a0; omega
  refine ⟨by omega, n6 h.kY (lf aF), ?_, ?_⟩
  · have := Int.ediv_mul_le u (show a ≠ 0 by omega)
    omega
  · have h1 := (h.le_iff _).1 (oI _)
    rw [JB] at h1;rw [oM aF];have h2 := ga h.q0 h.fD;have h3 := h.d1;omega
theorem ia.Pz (h : ia u d a b) : u - u / a * a < a ∧ u - u / a * a < 4294967296 := by
  have aF : 0 < a := by have := h.a0; omega
  have h1 := n4 u aF;rw [Int.emod_def, gq] at h1;have := h.a1;omega
theorem mr.down (h : ia u d a b) (t : mr u d a b q r) (k : 4294967296 ≤ q ∨ 4294967296 * r + d < q * b) : mr u d a b (q - 1) (r + a) ∧ 1 ≤ q := by
  have bb : jE u d a b < q := by
    rcases k with k | k
    · exact Int.lt_of_lt_of_le h.Fb k
    · rcases pQ (jE u d a b) q with l | l
      · exact l
      · have h1 := (h.le_iff q).1 l
        rw [JB] at h1;have h2 := t.sum;generalize q * a = J7 at *;generalize q * b = J8 at *;omega
  have aA := h.q0;refine ⟨⟨?_, by omega, by have := t.gW; have := h.a0; omega, by omega⟩, by omega⟩;rw [Int.sub_mul, ← t.sum];omega
theorem mr.done (h : ia u d a b) (t : mr u d a b q r) (k : q * b ≤ 4294967296 * r + d) : q = jE u d a b := by
  have h1 : q ≤ jE u d a b := by
    rw [h.le_iff, JB];have h2 := t.sum;generalize q * a = J7 at *;generalize q * b = J8 at *;omega
  have := t.le;omega
theorem mr.Fa (h : ia u d a b) (t : mr u d a b q r) : q < 8589934592 := by
  rcases pQ q 8589934592 with l | l
  · exact l
  · have h1 : 8589934592 * 2147483648 ≤ q * a := tu l h.a0 (by omega) t.q0
    have h2 := t.sum; have h3 := h.bY; have aD := h.b1; have cU := h.a1; have fs := t.gW;omega
theorem mr.small (h : ia u d a b) (t : mr u d a b q r) (k : 4294967296 ≤ r) : q < 4294967296 := by
  rcases pQ q 4294967296 with l | l
  · exact l
  · have h1 := lK l (show (0 : Int) ≤ a by have := h.a0; omega)
    have h2 := t.sum; have h3 := h.bY; have aD := h.b1;omega
theorem mr.py (h : ia u d a b) (t : mr u d a b q r) (k : q < 4294967296) : 0 ≤ q * b ∧ q * b < 18446744073709551616 := by
  refine ⟨ga t.q0 h.fD, ?_⟩;have h1 : q * b ≤ 4294967295 * 4294967295 := tu (by omega) (by have := h.b1; omega) h.fD (by omega);omega
theorem mr.out (h : ia u d a b) (t : mr u d a b q r) (k : 4294967296 ≤ r) : q = jE u d a b := by
  have h1 := t.small h k;refine t.done h ?_;have h2 := (t.py h h1).2;have h3 := h.d0;omega
theorem ia.rest (h : ia u d a b) : IntKind.u64.wrap (IntKind.u64.wrap (IntKind.u64.wrap (u * 4294967296) + d) - IntKind.u64.wrap (jE u d a b * (a * 4294967296 + b))) = iP u d a b := by
  have h1 : u * 4294967296 + d - jE u d a b * (a * 4294967296 + b) = iP u d a b := by
    unfold jE iP;rw [Int.emod_def, gq (a * 4294967296 + b)]
  have h2 : 0 ≤ iP u d a b := oL _ (by have := h.mO; omega);have h3 : iP u d a b < a * 4294967296 + b := n4 _ h.mO;have aD := h.a1; have cU := h.b1;simp only [IntKind.wrap_u64];generalize iP u d a b = k at *;generalize jE u d a b * (a * 4294967296 + b) = p at *;omega
theorem ia.next (h : ia u d a b) (e : Int) (dh : 0 ≤ e ∧ e < 4294967296) : ia (iP u d a b) e a b :=
  ⟨h.a0, h.a1, h.fD, h.b1, oL _ (by have := h.mO; omega), n4 _ h.mO, dh.1, dh.2⟩
theorem ia.two (h : ia u d a b) (e : Int) (dh : 0 ≤ e ∧ e < 4294967296) :
    jE u d a b * 4294967296 + jE (iP u d a b) e a b = (u * 18446744073709551616 + d * 4294967296 + e) / (a * 4294967296 + b) ∧ iP (iP u d a b) e a b = (u * 18446744073709551616 + d * 4294967296 + e) % (a * 4294967296 + b) := by
  have k := h.next e dh
  have mO := h.mO;have s1 : u * 4294967296 + d = (a * 4294967296 + b) * jE u d a b + iP u d a b := (qS _ _).symm;have s2 : iP u d a b * 4294967296 + e = (a * 4294967296 + b) * jE (iP u d a b) e a b + iP (iP u d a b) e a b := (qS _ _).symm;have gW : 0 ≤ iP (iP u d a b) e a b := oL _ (by omega);have bV : iP (iP u d a b) e a b < a * 4294967296 + b := n4 _ mO;generalize iP (iP u d a b) e a b = R at *;generalize jE (iP u d a b) e a b = p5 at *;generalize iP u d a b = bf at *;generalize jE u d a b = oh at *;generalize a * 4294967296 + b = y at *
  have t : u * 18446744073709551616 + d * 4294967296 + e = R + y * (oh * 4294967296 + p5) := by
    rw [Int.mul_add, ← j5];generalize y * oh = p at *;generalize y * p5 = p2 at *;omega
  rw [t]
  constructor
  · rw [Int.add_mul_ediv_left _ _ (by omega), Int.ediv_eq_zero_of_lt gW bV]
    omega
  · rw [Int.add_mul_emod_self_left, Int.emod_eq_of_lt gW bV]
structure Lz (y s : Int) : Prop where
  dV : 0 ≤ s
  s1 : s < 64
  lo : 9223372036854775808 ≤ y * 2 ^ s.toNat
  hi : y * 2 ^ s.toNat < 18446744073709551616
theorem Qe (y : Int) (aA : 0 < y) (h1 : y < 18446744073709551616) : Lz y (64 - (Lib.bitLen y.toNat : Int)) := by
  obtain ⟨n, rfl⟩ := mL (lf aA);rw [ld];rcases P5 n (by omega) with ⟨h, _⟩ | ⟨l1, _, acy, acz⟩
  · omega
  · have l2 : Lib.bitLen n ≤ 64 := Lib.bitLen_le n 64 (dI _) (by rw [sc]; omega)
    have e : (64 - (Lib.bitLen n : Int)).toNat = 64 - Lib.bitLen n := by omega
    have f : (n : Int) * 2 ^ (64 - Lib.bitLen n) = ((n * 2 ^ (64 - Lib.bitLen n) : Nat) : Int) := by simp
    have g1 : 2 ^ 63 ≤ n * 2 ^ (64 - Lib.bitLen n) := by
      have := kT (2 ^ (64 - Lib.bitLen n)) acy;rw [← Nat.pow_add, show Lib.bitLen n - 1 + (64 - Lib.bitLen n) = 63 by omega] at this;exact this
    have g2 : n * 2 ^ (64 - Lib.bitLen n) < 2 ^ 64 := by
      have := Nat.mul_lt_mul_of_pos_right acz (Nat.two_pow_pos (64 - Lib.bitLen n));rw [← Nat.pow_add, show Lib.bitLen n + (64 - Lib.bitLen n) = 64 by omega] at this;exact this
    rw [sc] at g2;rw [show (2 : Nat) ^ 63 = 9223372036854775808 by decide] at g1;exact ⟨by omega, by omega, by rw [e, f]; omega, by rw [e, f]; omega⟩
structure Nm (hi lo y s U V Y : Int) : Prop where
  y : Y = y * 2 ^ s.toNat
  n : (hi * 18446744073709551616 + lo) * 2 ^ s.toNat = U * 18446744073709551616 + V
  kY : 0 ≤ U
  bY : U < Y
  v0 : 0 ≤ V
  v1 : V < 18446744073709551616
theorem adV {hi lo y s : Int} (aA : 0 ≤ hi) (h1 : hi < y) (l : 0 ≤ lo ∧ lo < 18446744073709551616) (k : Lz y s) :
    Nm hi lo y s (bits .or .u64 (IntKind.u64.wrap (hi * 2 ^ s.toNat)) (lo / 2 ^ (64 - s).toNat)) (IntKind.u64.wrap (lo * 2 ^ s.toNat)) (IntKind.u64.wrap (y * 2 ^ s.toNat)) := by
  have mG : (0 : Int) < 2 ^ s.toNat := hL (by omega)
  have t : (hi * 18446744073709551616 + lo) * 2 ^ s.toNat < y * 2 ^ s.toNat * 18446744073709551616 := by
    rw [Int.mul_right_comm];exact Int.mul_lt_mul_of_pos_right (by omega) mG
  have pv := k.hi;obtain ⟨H, aG, aO, cl⟩ := Tt hi lo s aA l ⟨k.dV, k.s1⟩ (by omega)
  have w : IntKind.u64.wrap (y * 2 ^ s.toNat) = y * 2 ^ s.toNat := by
    have := k.lo;rw [IntKind.wrap_u64];omega
  rw [aG, w];have v : 0 ≤ IntKind.u64.wrap (lo * 2 ^ s.toNat) ∧ IntKind.u64.wrap (lo * 2 ^ s.toNat) < 18446744073709551616 := by rw [IntKind.wrap_u64]; omega
  refine ⟨rfl, cl, aO.1, ?_, v.1, v.2⟩;rw [cl] at t;omega
theorem L5 (x : Int) (h : 0 ≤ x ∧ x < 18446744073709551616) : bits .and .u64 x 4294967295 = x % 4294967296 := by
  obtain ⟨X, rfl⟩ := mL h.1;have h1 := bits_and_u64_nat X 4294967295 (by omega) (by omega);rw [show X &&& 4294967295 = X % 4294967296 from Nat.and_two_pow_sub_one_eq_mod X 32] at h1;rw [show ((4294967295 : Nat) : Int) = 4294967295 from rfl] at h1;rw [h1];omega
theorem Nm.acu {hi lo y s U V Y : Int} (h : Nm hi lo y s U V Y) (k : Lz y s) : ia U (V / 4294967296) (Y / 4294967296) (Y % 4294967296) := by
  have a := h.y; have b := h.kY; have c := h.bY; have d := h.v0; have e := h.v1; have f := k.lo; have g := k.hi
  constructor <;> omega
theorem Nm.quo {hi lo y s U V Y : Int} (h : Nm hi lo y s U V Y) (k : Lz y s) : (U * 18446744073709551616 + V / 4294967296 * 4294967296 + V % 4294967296) / (Y / 4294967296 * 4294967296 + Y % 4294967296) = (hi * 18446744073709551616 + lo) / y ∧
    (U * 18446744073709551616 + V / 4294967296 * 4294967296 + V % 4294967296) % (Y / 4294967296 * 4294967296 + Y % 4294967296) / 2 ^ s.toNat = (hi * 18446744073709551616 + lo) % y := by
  have mG : (0 : Int) < 2 ^ s.toNat := hL (by omega);rw [show U * 18446744073709551616 + V / 4294967296 * 4294967296 + V % 4294967296 = U * 18446744073709551616 + V by omega, show Y / 4294967296 * 4294967296 + Y % 4294967296 = Y by omega, ← h.n, h.y];generalize (2 : Int) ^ s.toNat = p at *
  constructor
  · exact Int.mul_ediv_mul_of_pos_left _ _ mG
  · rw [Int.emod_def, Int.mul_ediv_mul_of_pos_left _ _ mG, Int.mul_right_comm, ← Int.sub_mul, Int.mul_ediv_cancel _ (by omega), Int.emod_def]
end Go.Proofs.YtbcecodakfejaaaGreat
namespace Go.Proofs.YtbcecodakfejaaaGreat
theorem Sf (s : Int) (dV : 0 ≤ s) (s1 : s < 64) : (2 : Int) * 2 ^ (63 - s).toNat * 2 ^ s.toNat = 18446744073709551616 ∧ (0 : Int) < 2 ^ (63 - s).toNat ∧ (0 : Int) < 2 ^ s.toNat := by
  refine ⟨?_, hL (by omega), hL (by omega)⟩;rw [j5, ← Int.pow_add, show (63 - s).toNat + s.toNat = 63 by omega];decide
theorem Y6 (A b s T low : Int) (bq : 0 ≤ A) (gZ : A ≤ 170141183460469231731687303715884105728) (dV : 0 ≤ s) (s1 : s < 64) (e : b * 2 ^ s.toNat = T * 18446744073709551616 + low) (pw : 0 ≤ low) (l1 : low < 18446744073709551616) (Vh : 9223372036854775808 ≤ T) :
    A / b ≤ A / 2 / T / 2 ^ (63 - s).toNat ∧ A / 2 / T / 2 ^ (63 - s).toNat ≤ A / b + 1 ∧ A / 2 / T / 2 ^ (63 - s).toNat ≤ 9223372036854775808 := by
  obtain ⟨p1, p2, p3⟩ := Sf s dV s1;generalize (2 : Int) ^ (63 - s).toNat = c at *;generalize (2 : Int) ^ s.toNat = p at *;rw [yo (show (0 : Int) ≤ T by omega), yo (show (0 : Int) ≤ 2 by omega)]
 
  have eN : T * (2 * c) * p = T * 18446744073709551616 := by rw [j5, p1]
  have c2 : 2 ≤ 2 * c := by omega
  have sk : 18446744073709551616 ≤ T * (2 * c) := by
    have := tu Vh c2 (by omega) (by omega);omega
  have XU : T * (2 * c) ≤ b := by
    have : T * (2 * c) * p ≤ b * p := by rw [eN, e]; omega
    exact Int.le_of_mul_le_mul_right this p3
  have aj9 : b < T * (2 * c) + 2 * c := by
    have : b * p < (T * (2 * c) + 2 * c) * p := by rw [Int.add_mul, eN, p1, e]; omega
    exact Int.lt_of_mul_lt_mul_right this (lf p3)
  rw [show 2 * (T * c) = T * (2 * c) by rw [← j5, gq 2 T, j5]];generalize xF : T * (2 * c) = D at *;have Uq : 0 < D := by omega
  have W9 : 0 < b := by omega
  have g1 : A / D * D ≤ A := Int.ediv_mul_le A (by omega);have g0 : 0 ≤ A / D := n6 bq (by omega)
  have gt : A / D ≤ 9223372036854775808 := by
    rcases pQ 9223372036854775808 (A / D) with h | h
    · have := tu (show 9223372036854775809 ≤ A / D by omega) sk (by omega) g0
      omega
    · exact h
  refine ⟨?_, ?_, gt⟩
  · rw [oM Uq]
    have h1 : A / b * b ≤ A := Int.ediv_mul_le A (by omega);have h2 : A / b * D ≤ A / b * b := pO XU (n6 bq (by omega));omega
  · have : A / D - 1 ≤ A / b := by
      rw [oM W9];rcases pQ 0 (A / D) with h | h
      · have h2 : (A / D - 1) * b ≤ (A / D - 1) * (D + 2 * c) := pO (by omega) (by omega)
        have h3 : (A / D - 1) * (2 * c) ≤ T * (2 * c) := lK (by omega) (by omega);rw [Int.mul_add, Int.sub_mul (A / D) 1 D, Int.one_mul] at h2;omega
      · have h2 : (A / D - 1) * b ≤ 0 := Int.mul_nonpos_of_nonpos_of_nonneg (by omega) (by omega)
        omega
    omega
theorem aer (h l : Nat) (h1 : h * 9223372036854775808 < 18446744073709551616) (h2 : l < 9223372036854775808) (h3 : h * 9223372036854775808 + l < 18446744073709551616) :
    bits .or .u64 ((h * 9223372036854775808 : Nat) : Int) (l : Int) = ((h * 9223372036854775808 + l : Nat) : Int) := by
  have e := JM h l 63;rw [show (2 : Nat) ^ 63 = 9223372036854775808 by decide] at e;exact e h1 h2 h3
theorem Zt (h l : Int) (vA : 0 ≤ h ∧ h < 18446744073709551616) (qd : 0 ≤ l ∧ l < 18446744073709551616) :
    ∃ L, bits .or .u64 (IntKind.u64.wrap (h * 9223372036854775808)) (l / 2) = L ∧ (0 ≤ L ∧ L < 18446744073709551616) ∧ h / 2 * 18446744073709551616 + L = (h * 18446744073709551616 + l) / 2 := by
  obtain ⟨a, rfl⟩ := mL vA.1;obtain ⟨b, rfl⟩ := mL qd.1
  have w1 : IntKind.u64.wrap ((a : Int) * 9223372036854775808) = ((a % 2 * 9223372036854775808 : Nat) : Int) := by
    rw [IntKind.wrap_u64];omega
  have w2 : (b : Int) / 2 = ((b / 2 : Nat) : Int) := by omega
  refine ⟨_, rfl, ?_⟩;rw [w1, w2, aer _ _ (by omega) (by omega) (by omega)];omega
theorem ac0 {h l s : Int} (k : Lz h s) (aA : 0 ≤ h) (pw : 0 ≤ l) (l1 : l < 18446744073709551616) :
    (h * 18446744073709551616 + l) * 2 ^ s.toNat < 340282366920938463463374607431768211456 ∧ 170141183460469231731687303715884105728 ≤ (h * 18446744073709551616 + l) * 2 ^ s.toNat := by
  obtain ⟨p1, p2, p3⟩ := Sf s k.dV k.s1;have lo := k.lo; have hi := k.hi;generalize (2 : Int) ^ (63 - s).toNat = c at *;generalize (2 : Int) ^ s.toNat = p at *
  have aj : h < 2 * c := by
    rw [← p1] at hi;exact Int.lt_of_mul_lt_mul_right hi (lf p3)
  have h2 : (h + 1) * p ≤ 2 * c * p := lK (by omega) (lf p3);have h3 : l * p ≤ 18446744073709551615 * p := lK (by omega) (lf p3);have aD : 0 ≤ l * p := ga pw (lf p3);rw [Int.add_mul, Int.one_mul, p1] at h2;rw [Int.add_mul, Int.mul_right_comm];generalize h * p = hp at *;generalize l * p = alg at *;omega
end Go.Proofs.YtbcecodakfejaaaGreat
namespace Go.Proofs.YtbcecodakfejaaaGreat
open Go.RowKit
theorem W4 {w W : World} (h : Below w.heap.size w W) (n : Nat) : Below w.heap.size w (W.drewN n) := ⟨h.os, h.tape, h.output, h.size, h.block⟩
def U7 (y : Int) (w : World) (e : Ending) (w' : World) : Prop := ∃ s : Int, e = .returned (.int .i64 s) ∧ Lz y s ∧ w = w'
theorem acZ (y : Int) (w : World) (aA : 0 < y) (h1 : y < 18446744073709551616) : Calls ag 219 #[.int .u64 y] w (U7 y w) := by
  refine (Tryz.bits_LeadingZeros64 y w (by omega) (by omega)).mono ?_;rintro e w' ⟨rfl, rfl⟩;exact ⟨_, rfl, Qe y aA h1, rfl⟩
theorem ag1 {a b c d : Int} (h : a = c) (k : b = d) : Ending.returned (.tuple #[.int .u64 a, .int .u64 b]) = .returned (.tuple #[.int .u64 c, .int .u64 d]) := by rw [h, k]
def Gr (q r : Int) (w : World) (e : Ending) (w' : World) : Prop := e = .returned (.tuple #[.int .u64 q, .int .u64 r]) ∧ Below w.heap.size w w'
theorem XQ (lo y : Int) (w : World) (l : 0 ≤ lo ∧ lo < 18446744073709551616) (mO : 0 < y) (iG : y < 18446744073709551616) :
    Calls ag 215 #[.int .u64 0, .int .u64 lo, .int .u64 y] w (Gr (lo / y) (lo % y) w) := by
  have gp : (y == 0) = false := by simp; omega
  have cE : decide (y ≤ 0) = false := by simp; omega
  obtain ⟨pw, l1⟩ := l
  go_enter Tryz.func215, Tryz.ntmps215
  go_wp2
  go_quiet (fail)
  go_wp2
  go_ret2
  exact ⟨rfl, W4 (Below.refl _ _) _⟩
theorem XP (hi lo y : Int) (w : World) (aA : 0 < hi) (h1 : hi < y) (l : 0 ≤ lo ∧ lo < 18446744073709551616) (iG : y < 18446744073709551616) :
    Calls ag 215 #[.int .u64 hi, .int .u64 lo, .int .u64 y] w (Gr ((hi * 18446744073709551616 + lo) / y) ((hi * 18446744073709551616 + lo) % y) w) := by
  have gp : (y == 0) = false := by simp; omega
  have cE : decide (y ≤ hi) = false := by simp; omega
  have cP : (hi == 0) = false := by simp; omega
  go_enter Tryz.func215, Tryz.ntmps215
  go_wp2_with fail
  refine (acZ y _ (by omega) iG).mono ?_;rintro e w1 ⟨s, rfl, hs, rfl⟩;have qE := hs.dV; have ux := hs.s1;have abh : IntKind.u64.wrap s = s := by rw [IntKind.wrap_u64]; omega
  have uu := adV (lf aA) h1 l hs;generalize dx : bits .or .u64 (IntKind.u64.wrap (hi * 2 ^ s.toNat)) (lo / 2 ^ (64 - s).toNat) = U at uu;generalize nG : IntKind.u64.wrap (lo * 2 ^ s.toNat) = V at uu;generalize xG : IntKind.u64.wrap (y * 2 ^ s.toNat) = Y at uu;have kI := uu.acu hs;have IA := uu.quo hs;have Oz : 0 ≤ Y ∧ Y < 18446744073709551616 := by have := kI.a0; have := kI.a1; omega
  have akw := L5 Y Oz;have akv := L5 V ⟨uu.v0, uu.v1⟩;have two := kI.two (V % 4294967296) (by omega);rw [IA.1] at two;have OA : Y / 4294967296 * 4294967296 + Y % 4294967296 = Y := by omega
  have Fi := kI.rest;have AJ := kI.next (V % 4294967296) (by omega)
  have Bc := AJ.rest;rw [OA] at Fi Bc;have X0 : 0 ≤ V % 4294967296 ∧ V % 4294967296 < 4294967296 := by omega
  generalize hd : V / 4294967296 = d at *;generalize he : V % 4294967296 = e at *;generalize aF : Y / 4294967296 = a at *;generalize ab : Y % 4294967296 = b at *;have a0 := kI.a0; have a1 := kI.a1; have fD := kI.fD; have b1 := kI.b1; have kY := kI.kY; have d0 := kI.d0; have d1 := kI.d1;have bY : U < 18446744073709551616 := by have := kI.bY; omega
  have ajM : (a == 0) = false := by simp; omega
  have q9 := Lib.hid two; have UB := Lib.hid IA.2; have vl := Lib.hid kI; have mo := Lib.hid AJ;have als := kI.Fb; have alr := kI.q0; have SE := AJ.Fb; have SD := AJ.q0;have t1 := kI.init; have TC := kI.Pz;have i1 := t1.Fa kI;have i2 : 0 ≤ U / a := t1.q0
  have i3 : IntKind.u64.wrap (U / a * a) = U / a * a := by
    have := t1.sum; have := t1.gW; rw [IntKind.wrap_u64];have : 0 ≤ U / a * a := ga i2 (by omega);omega
  have i4 := t1.gW;have i7 : 0 ≤ U / a * a := ga i2 (by omega);obtain ⟨m1, xU⟩ : ∃ m, m = U / a * a := ⟨_, rfl⟩;rw [← xU] at i4 i7 t1 TC;have akS : IntKind.u64.wrap (U / a * a) = m1 := by rw [i3, xU]
  obtain ⟨i5, i6⟩ := TC;have vw := Lib.hid t1;generalize Ou : jE U d a b = oh at *;generalize Zo : iP U d a b = lV at *;have Ga := Lib.hid Ou;have UC := Lib.hid Fi; have UD := Lib.hid Bc;clear two IA kI AJ uu OA X0 Oz h1 aA l iG i3 xU t1 Ou Zo Fi Bc
  go_upto_block 0 with fail
  go_cut [15, 16] (fun Bp wR ve => w = ve ∧ Bp = .int .u64 oh ∧ ∃ r, wR = .int .u64 r)
  case first =>
    go_wp2_with fail
    go_loop [15, 16] (fun Bp wR => ∃ q r : Int, Bp = .int .u64 q ∧ wR = .int .u64 r ∧ mr U d a b q r ∧ r < 4294967296) (fun Bp _ => (intOf Bp).toNat)
    case atStart => exact ⟨_, _, rfl, rfl, vw.out, i6⟩
    case round =>
      obtain ⟨q, r, rfl, rfl, aB, al⟩ := hrel;have ak := aB.Fa vl.out;have sY := aB.q0;have aaQ := aB.gW
      by_cases ab : 4294967296 ≤ q
      · obtain ⟨gj, uw⟩ := aB.down vl.out (.inl ab)
        have ny := Lib.hid gj;clear gj
        by_cases aa : 4294967296 ≤ r + a
        · have jC := ny.out.out vl.out aa
          rw [Ga.out] at jC;have jt := Lib.hid jC;clear jC
          go_wp2_with fail
          go_meet
          exact ⟨rfl, congrArg _ jt.out, _, rfl⟩
        · go_wp2_with fail
          go_round
          case rel => exact ⟨_, _, rfl, rfl, ny.out, by omega⟩
          case measure => simp [intOf]; omega
      · have Ip := aB.py vl.out (by omega)
        obtain ⟨P, en⟩ : ∃ P, P = q * b := ⟨_, rfl⟩;rw [← en] at Ip;have Zk : IntKind.u64.wrap (q * b) = P := by rw [← en, IntKind.wrap_u64]; omega
        have yO := Lib.hid en;clear en
        by_cases aj : 4294967296 * r + d < P
        · obtain ⟨gj, uw⟩ := aB.down vl.out (.inr (by rw [← yO.out]; exact aj))
          have ny := Lib.hid gj;clear gj
          by_cases aa : 4294967296 ≤ r + a
          · have jC := ny.out.out vl.out aa
            rw [Ga.out] at jC;have jt := Lib.hid jC;clear jC
            go_wp2_with fail
            go_meet
            exact ⟨rfl, congrArg _ jt.out, _, rfl⟩
          · go_wp2_with fail
            go_round
            case rel => exact ⟨_, _, rfl, rfl, ny.out, by omega⟩
            case measure => simp [intOf]; omega
        · have jC := aB.done vl.out (by rw [← yO.out]; omega)
          rw [Ga.out] at jC;have jt := Lib.hid jC;clear jC
          go_wp2_with fail
          go_meet
          exact ⟨rfl, congrArg _ jt.out, _, rfl⟩
  case rest =>
    obtain ⟨rfl, rfl, bV, rfl⟩ := hcut;have Fi := UC.out;have v0 := mo.out.kY;have v1 : lV < 18446744073709551616 := by have := mo.out.bY; omega
    have dh := mo.out.d0; have aG := mo.out.d1;have t2 := mo.out.init; have TD := mo.out.Pz;have rT := t2.Fa mo.out;have DZ : 0 ≤ lV / a := t2.q0
    have PN : IntKind.u64.wrap (lV / a * a) = lV / a * a := by
      have := t2.sum; have := t2.gW; rw [IntKind.wrap_u64];have : 0 ≤ lV / a * a := ga DZ (by omega);omega
    have abR := t2.gW;have abT : 0 ≤ lV / a * a := ga DZ (by omega);obtain ⟨m2, oA⟩ : ∃ m, m = lV / a * a := ⟨_, rfl⟩;rw [← oA] at abR abT t2 TD;have ak9 : IntKind.u64.wrap (lV / a * a) = m2 := by rw [PN, oA]
    obtain ⟨ala, abS⟩ := TD;have y3 := Lib.hid t2;obtain ⟨p5, HP⟩ : ∃ Q, Q = jE lV e a b := ⟨_, rfl⟩;have yP := Lib.hid HP.symm;have SD := mo.out.q0; have SE := mo.out.Fb;rw [← HP] at SD SE;clear PN oA t2 HP
    go_upto_block 2 with fail
    go_cut [18, 16] (fun Bq wR ve => w = ve ∧ Bq = .int .u64 p5 ∧ ∃ r, wR = .int .u64 r)
    case first =>
      go_wp2_with fail
      go_loop [18, 16] (fun Bq wR => ∃ q r : Int, Bq = .int .u64 q ∧ wR = .int .u64 r ∧ mr lV e a b q r ∧ r < 4294967296) (fun Bq _ => (intOf Bq).toNat)
      case atStart => exact ⟨_, _, rfl, rfl, y3.out, abS⟩
      case round =>
        obtain ⟨q, r, rfl, rfl, aB, al⟩ := hrel;have ak := aB.Fa mo.out;have sY := aB.q0;have aaQ := aB.gW
        by_cases ab : 4294967296 ≤ q
        · obtain ⟨gj, uw⟩ := aB.down mo.out (.inl ab)
          have ny := Lib.hid gj;clear gj
          by_cases aa : 4294967296 ≤ r + a
          · have jC := ny.out.out mo.out aa
            rw [yP.out] at jC;have jt := Lib.hid jC;clear jC
            go_wp2_with fail
            go_meet
            exact ⟨rfl, congrArg _ jt.out, _, rfl⟩
          · go_wp2_with fail
            go_round
            case rel => exact ⟨_, _, rfl, rfl, ny.out, by omega⟩
            case measure => simp [intOf]; omega
        · have Ip := aB.py mo.out (by omega)
          obtain ⟨P, en⟩ : ∃ P, P = q * b := ⟨_, rfl⟩;rw [← en] at Ip;have Zk : IntKind.u64.wrap (q * b) = P := by rw [← en, IntKind.wrap_u64]; omega
          have yO := Lib.hid en;clear en
          by_cases aj : 4294967296 * r + e < P
          · obtain ⟨gj, uw⟩ := aB.down mo.out (.inr (by rw [← yO.out]; exact aj))
            have ny := Lib.hid gj;clear gj
            by_cases aa : 4294967296 ≤ r + a
            · have jC := ny.out.out mo.out aa
              rw [yP.out] at jC;have jt := Lib.hid jC;clear jC
              go_wp2_with fail
              go_meet
              exact ⟨rfl, congrArg _ jt.out, _, rfl⟩
            · go_wp2_with fail
              go_round
              case rel => exact ⟨_, _, rfl, rfl, ny.out, by omega⟩
              case measure => simp [intOf]; omega
          · have jC := aB.done mo.out (by rw [← yO.out]; omega)
            rw [yP.out] at jC;have jt := Lib.hid jC;clear jC
            go_wp2_with fail
            go_meet
            exact ⟨rfl, congrArg _ jt.out, _, rfl⟩
    case rest =>
      obtain ⟨rfl, rfl, cC, rfl⟩ := hcut;have Bc := UD.out;rw [yP.out] at Bc;have fin := q9.out;have Hl := UB.out;rw [yP.out] at fin;rw [← fin.2] at Hl;have Ux := Lib.hid fin.1;have Uy := Lib.hid Hl;generalize iP lV e a b = R at *;clear fin Hl
      go_wp2
      go_ret2
      exact ⟨ag1 Ux.out Uy.out, Below.refl _ _⟩
theorem XO (hi lo y : Int) (w : World) (aA : 0 ≤ hi) (h1 : hi < y) (l : 0 ≤ lo ∧ lo < 18446744073709551616) (iG : y < 18446744073709551616) :
    Calls ag 215 #[.int .u64 hi, .int .u64 lo, .int .u64 y] w (Gr ((hi * 18446744073709551616 + lo) / y) ((hi * 18446744073709551616 + lo) % y) w) := by
  by_cases h : hi = 0
  · subst h
    rw [Int.zero_mul, Int.zero_add];exact XQ lo y w l (by omega) iG
  · exact XP hi lo y w (by omega) h1 l iG
end Go.Proofs.YtbcecodakfejaaaGreat
namespace Go.Proofs.YtbcecodakfejaaaGreat
open Go.RowKit
theorem YC (x y : Int) (w : World) : (Instr.field 250 (.agg #[.int .u64 x, .int .u64 y]) 0).run ag w = .ok (.int .u64 x) w := by kernel_rfl
attribute [local go_sem] YC
theorem XR {h1 l1 n m : Int} (H1 : dR h1 l1 n) (m0 : 0 < m) (m1 : m < 18446744073709551616) :
    dR (h1 / m) ((h1 % m * 18446744073709551616 + l1) / m) (n / m) ∧ dR 0 ((h1 % m * 18446744073709551616 + l1) % m) (n % m) := by
  obtain ⟨b1, b2, rfl⟩ := H1;have gW := oL h1 (show m ≠ 0 by omega);have bV := n4 h1 m0
  have e : h1 * 18446744073709551616 + l1 = (h1 % m * 18446744073709551616 + l1) + m * (h1 / m * 18446744073709551616) := by
    have := qS h1 m;rw [← j5];generalize m * (h1 / m) = k at *;omega
  have q0 : 0 ≤ h1 / m := n6 b1.1 (by omega);have q1 : h1 / m ≤ h1 := Int.ediv_le_self _ b1.1;have dV := oL (h1 % m * 18446744073709551616 + l1) (show m ≠ 0 by omega);have s1 := n4 (h1 % m * 18446744073709551616 + l1) m0;have t0 : 0 ≤ (h1 % m * 18446744073709551616 + l1) / m := n6 (by omega) (by omega);have t1 : (h1 % m * 18446744073709551616 + l1) / m < 18446744073709551616 := Int.ediv_lt_of_lt_mul m0 (by omega)
  constructor
  · refine ⟨by omega, by omega, ?_⟩
    rw [e, Int.add_mul_ediv_left _ _ (by omega)];omega
  · refine ⟨by omega, by omega, ?_⟩
    rw [e, Int.add_mul_emod_self_left];omega
end Go.Proofs.YtbcecodakfejaaaGreat
namespace Go.Proofs.YtbcecodakfejaaaGreat
open Go.RowKit
theorem Y3 {n m g : Int} (gp : 0 ≤ n) (m0 : 0 < m) (cE : n < 340282366920938463463374607431768211456) (h : g ≤ n / m) (g0 : 0 ≤ g) : mv (g * m) = true ∧ g * m ≤ n := by
  have h1 : g * m ≤ n := (oM m0).1 h;unfold mv;rw [cg];exact ⟨by omega, h1⟩
theorem Y4 {n m g : Int} (m0 : 0 < m) (h : g ≤ n / m) (k : n - g * m < m) : g = n / m ∧ n - g * m = n % m := by
  have h1 : g * m ≤ n := (oM m0).1 h;have h2 : n / m < g + 1 := Int.ediv_lt_of_lt_mul m0 (by rw [Int.add_mul]; omega);have e : g = n / m := by omega
  refine ⟨e, ?_⟩;rw [Int.emod_def, e, gq]
theorem Y5 {n m g : Int} (m0 : 0 < m) (h : n / m ≤ g + 1) (k : ¬ n - g * m < m) : g + 1 = n / m ∧ n - g * m - m = n % m := by
  have h2 : g + 1 ≤ n / m := (oM m0).2 (by rw [Int.add_mul]; omega);have e : g + 1 = n / m := by omega
  refine ⟨e, ?_⟩;rw [Int.emod_def, ← e, gq m, Int.add_mul];omega
theorem agD {n m g : Int} (gp : 0 ≤ n) (aw : n ≤ 170141183460469231731687303715884105728) (m0 : 18446744073709551616 ≤ m) (h : g ≤ n / m) : g < 9223372036854775809 := by
  rcases pQ g 9223372036854775809 with k | k
  · exact k
  · have h1 : g * m ≤ n := (oM (by omega)).1 h
    have h2 : 9223372036854775809 * 18446744073709551616 ≤ g * m := tu k m0 (by omega) (by omega);omega
end Go.Proofs.YtbcecodakfejaaaGreat
namespace Go.Proofs.YtbcecodakfejaaaGreat
open Go.RowKit
theorem aj8 {n m N M : Int} (hm : 0 < m) (eO : ((n.natAbs : Nat) : Int) = N) (fT : ((m.natAbs : Nat) : Int) = M) (k : 0 ≤ n) : N / M = n / m ∧ N % M = n % m := by
 obtain rfl : M = m := by omega
 obtain rfl : N = n := by omega
 exact ⟨rfl, rfl⟩
theorem XS {n m N M : Int} (hm : 0 < m) (eO : ((n.natAbs : Nat) : Int) = N) (fT : ((m.natAbs : Nat) : Int) = M) (k : n < 0) (z : N % M = 0) : -(N / M) = n / m ∧ 0 = n % m := by
 obtain rfl : M = m := by omega
 obtain rfl : n = -N := by omega
 have h1 := qS N M;rw [z, Int.add_zero] at h1;have h2 : -N = M * (-(N / M)) := by rw [Int.mul_neg, h1]
 rw [h2]
 constructor
 ·rw [Int.mul_ediv_cancel_left _ (by omega)]
 ·rw [Int.mul_emod_right]
theorem XT {n m N M : Int} (hm : 0 < m) (eO : ((n.natAbs : Nat) : Int) = N) (fT : ((m.natAbs : Nat) : Int) = M) (k : n < 0) (z : N % M ≠ 0) : -(N / M) - 1 = n / m ∧ -(N % M) + m = n % m := by
 obtain rfl : M = m := by omega
 obtain rfl : n = -N := by omega
 have h1 := qS N M;have gW := oL N (show M ≠ 0 by omega);have bV := n4 N hm;have h2 : -N = (M - N % M) + M * (-(N / M) - 1) := by rw [Int.mul_sub, Int.mul_neg, Int.mul_one]; omega
 have q : (-N) / M = -(N / M) - 1 := by
  rw [h2, Int.add_mul_ediv_left _ _ (by omega), Int.ediv_eq_zero_of_lt (by omega) (by omega)];omega
 have r : (-N) % M = M - N % M := by
  rw [h2, Int.add_mul_emod_self_left, Int.emod_eq_of_lt (by omega) (by omega)]
 rw [q, r];omega
abbrev va (n : Int) : bA := .agg [.c (.int .u64 (cn n)), .c (.int .u64 (dQ n))]
abbrev kx (n : Int) : ah := .w (va n)
abbrev KF : bA := .one (.c (.bool true))
abbrev yD (n : Int) : ah := aQ (.int .u64 n)
theorem ng {n : Int} (aA : 0 ≤ n) (h1 : n < 340282366920938463463374607431768211456) : dR (cn n) (dQ n) n := by unfold dR cn dQ; omega
theorem AD {H L n : Int} (h : dR H L n) : H = cn n ∧ L = dQ n := by
 obtain ⟨a, b, rfl⟩ := h;unfold cn dQ; omega
theorem yz {H L n : Int} (h : dR H L n) : va n = .agg [.c (.int .u64 H), .c (.int .u64 L)] := by
 obtain ⟨rfl, rfl⟩ := AD h; rfl
theorem JW {n m : Int} (gp : 0 ≤ n) (cE : n < 340282366920938463463374607431768211456) (m0 : 0 ≤ m) (m1 : m < 340282366920938463463374607431768211456) {z : Int} {b : Bool} (ab : mv (n * m) = b) (aN : (if b then n * m else 0) = z) : au ag 194 [kx n, kx m] (.cz [va z, .one (.c (.bool b))]) :=
 hZ [.agg #[.int .u64 (cn n), .int .u64 (dQ n)], .agg #[.int .u64 (cn m), .int .u64 (dQ m)]] (.tuple #[.agg #[.int .u64 (cn z), .int .u64 (dQ z)], .bool b]) rfl rfl rfl rfl rfl fun W => (adC _ _ n _ _ m W (ng gp cE) (ng m0 m1)).mono fun e w' ⟨H, L, he, hw, cL⟩ => by
  rw [ab] at he hw;rw [aN] at hw;obtain ⟨rfl, rfl⟩ := AD hw;exact ⟨he, cL⟩
theorem RX {n k P : Int} (gp : 0 ≤ n) (cE : n < 340282366920938463463374607431768211456) (eW : 0 ≤ k) (ba : k < 128) (ab : n * 2 ^ k.toNat < 340282366920938463463374607431768211456) (en : n * 2 ^ k.toNat = P) : au ag 206 [kx n, aQ (.int .u64 k)] (kx P) :=
 hZ [.agg #[.int .u64 (cn n), .int .u64 (dQ n)], .int .u64 k] (.agg #[.int .u64 (cn P), .int .u64 (dQ P)]) rfl rfl rfl rfl rfl fun W => (ah2 _ _ n k W (ng gp cE) eW ba ab).mono fun e w' ⟨H, L, he, hw, ab⟩ => by
  rw [en] at hw; obtain ⟨rfl, rfl⟩ := AD hw; exact ⟨he, ab⟩
theorem afF {y : Int} (aA : 0 < y) (h1 : y < 18446744073709551616) : au ag 219 [yD y] (ax (64 - (Lib.bitLen y.toNat : Int))) :=
 hZ [.int .u64 y] (.int .i64 (64 - (Lib.bitLen y.toNat : Int))) rfl rfl rfl rfl rfl fun W => (Tryz.bits_LeadingZeros64 y W (by omega) (by omega)).mono fun e w' h => by
  obtain ⟨rfl, rfl⟩ := h; exact ⟨rfl, Below.refl _ _⟩
theorem JT {hi lo y q r : Int} (aA : 0 ≤ hi) (h1 : hi < y) (l : 0 ≤ lo ∧ lo < 18446744073709551616) (iG : y < 18446744073709551616) (ak : (hi * 18446744073709551616 + lo) / y = q) (al : (hi * 18446744073709551616 + lo) % y = r) : au ag 215 [yD hi, yD lo, yD y] (.cz [.one (.c (.int .u64 q)), .one (.c (.int .u64 r))]) := by
 subst ak al;exact hZ [.int .u64 hi, .int .u64 lo, .int .u64 y] (.tuple #[.int .u64 _, .int .u64 _]) rfl rfl rfl rfl rfl fun W => XO hi lo y W aA h1 l iG
theorem R1 {n m z : Int} (cE : n < 340282366920938463463374607431768211456) (m0 : 0 ≤ m) (h : m ≤ n) (aN : n - m = z) : au ag 217 [kx n, kx m] (kx z) :=
 hZ [.agg #[.int .u64 (cn n), .int .u64 (dQ n)], .agg #[.int .u64 (cn m), .int .u64 (dQ m)]] (.agg #[.int .u64 (cn z), .int .u64 (dQ z)]) rfl rfl rfl rfl rfl fun W => (aiC _ _ n _ _ m W (ng (by omega) cE) (ng m0 (by omega)) h).mono fun e w' ⟨H, L, he, hw, ab⟩ => by
  rw [aN] at hw; obtain ⟨rfl, rfl⟩ := AD hw; exact ⟨he, ab⟩
theorem RK {n m : Int} {b : Bool} (gp : 0 ≤ n) (cE : n < 340282366920938463463374607431768211456) (m0 : 0 ≤ m) (m1 : m < 340282366920938463463374607431768211456) (ab : decide (n < m) = b) : au ag 218 [kx n, kx m] (a7 b) := by
 subst ab;exact hZ [.agg #[.int .u64 (cn n), .int .u64 (dQ n)], .agg #[.int .u64 (cn m), .int .u64 (dQ m)]] (.bool (decide (n < m))) rfl rfl rfl rfl rfl fun W => acS _ _ n _ _ m W (ng gp cE) (ng m0 m1)
set_option maxRecDepth 100000
set_option maxHeartbeats 4000000
instance ak6 : BX ag 250 0 0 false 1 := ⟨by kernel_rfl⟩
theorem afu {n m : Int} (gp : 0 ≤ n) (aw : n ≤ 170141183460469231731687303715884105728) (m0 : 18446744073709551616 ≤ m) (m1 : m < 340282366920938463463374607431768211456) : ∃ g, (0 ≤ g ∧ g ≤ n / m ∧ n / m ≤ g + 1) ∧ au ag 216 [kx n, kx m] (yD g) := by
 obtain ⟨b1, b2, aG⟩ := ng gp (show n < 340282366920938463463374607431768211456 by omega);obtain ⟨ee, dO, aO⟩ := ng (show 0 ≤ m by omega) m1;have hm : 0 < cn m := by omega
 have aS := afF hm ee.2;have hs := Qe (cn m) hm ee.2;generalize 64 - (Lib.bitLen (cn m).toNat : Int) = s at *;have qE := hs.dV;have ux := hs.s1;have abh : IntKind.u64.wrap s = s := by rw [IntKind.wrap_u64]; omega
 obtain ⟨Bt, Ky⟩ := ac0 hs ee.1 dO.1 dO.2;rw [← aO] at Bt Ky;obtain ⟨M, fT⟩ : ∃ M, m * 2 ^ s.toNat = M := ⟨_, rfl⟩;have bD : au ag 206 [kx m, yD s] (.w (.agg [.c (.int .u64 (cn M)), .c (.int .u64 (dQ M))])) := RX (by omega) m1 qE (by omega) Bt fT;rw [fT] at Bt Ky;obtain ⟨Mm, qd, Nq⟩ := ng (show 0 ≤ M by omega) Bt;have Ow : 9223372036854775808 ≤ cn M := by omega
 obtain ⟨L, iq, Ol, Om⟩ := Zt (cn n) (dQ n) b1 b2;obtain ⟨zQ, zR, H7⟩ := Y6 n m s (cn M) (dQ M) gp aw qE ux (fT.trans Nq) qd.1 qd.2 Ow;have dW := JT (hi := cn n / 2) (lo := L) (y := cn M) (by omega) (by omega) Ol Mm.2 rfl rfl;rw [Om, ← aG] at dW;have sY : 0 ≤ n / 2 / cn M := n6 (by omega) (by omega);have DE : 0 ≤ n / m := n6 (by omega) (by omega);have Zd : 0 ≤ n / 2 / cn M / 2 ^ (63 - s).toNat := n6 sY (lf (hL (by decide)));generalize n / 2 % cn M = R at *;generalize n / 2 / cn M = Q at *;generalize n / m = q at *;clear Om fT Nq aG aO Bt Ky hs hm Mm qd Ow Ol b1 b2 ee dO
 have Hd : (2 : Int) ^ (63 - s).toNat = 2 ^ min (IntKind.u64.wrap (63 - s)).toNat 64 := by
  rw [show IntKind.u64.wrap (63 - s) = 63 - s by rw [IntKind.wrap_u64]; omega, pP (by omega)]
 rw [Hd] at zQ zR H7 Zd
 by_cases aN : Q / 2 ^ min (IntKind.u64.wrap (63 - s)).toNat 64 = 0
 ·refine ⟨0, by omega, ?_⟩;clear zQ zR H7 Hd;refine bd (f := 216) Tryz.func216 rfl rfl rfl rfl ?_;(refine bS ?_)
  ((refine aW rfl (aY rfl aJ) ?_))
  exact ah.aK.refl _
 ·have w2 : IntKind.u64.wrap (Q / 2 ^ min (IntKind.u64.wrap (63 - s)).toNat 64 - 1) = Q / 2 ^ min (IntKind.u64.wrap (63 - s)).toNat 64 - 1 := by rw [IntKind.wrap_u64]; omega
  refine ⟨Q / 2 ^ min (IntKind.u64.wrap (63 - s)).toNat 64 - 1, by omega, ?_⟩;clear zQ zR H7 Hd;refine bd (f := 216) Tryz.func216 rfl rfl rfl rfl ?_;(refine bS ?_)
  ((refine aW rfl (aY rfl aJ) ?_))
  exact ah.aK.refl _
theorem afm {n m : Int} (gp : 0 ≤ n) (aw : n ≤ 170141183460469231731687303715884105728) (m0 : 0 < m) (m1 : m < 340282366920938463463374607431768211456) : au ag 212 [kx n, kx m] (.cz [va (n / m), va (n % m)]) := by
 have H1 := ng gp (show n < 340282366920938463463374607431768211456 by omega)
 by_cases k : m < 18446744073709551616
 ·obtain ⟨q1, q2⟩ := XR H1 m0 k;have gW := oL (cn n) (show m ≠ 0 by omega);have bV := n4 (cn n) m0;have aS := JT (hi := 0) (lo := cn n) (y := m) (by omega) m0 H1.1 k rfl rfl;rw [Int.zero_mul, Int.zero_add] at aS;have bD := JT (hi := cn n % m) (lo := dQ n) (y := m) gW bV H1.2.1 k rfl rfl;rw [yz q1, yz q2, show kx m = .w (.agg [.c (.int .u64 0), .c (.int .u64 m)]) from congrArg ah.w (yz (by unfold dR; omega))];clear q1 q2 gW bV k H1 aw m0 m1 gp;refine bd (f := 212) Tryz.func212 rfl rfl rfl rfl ?_;(refine bS ?_)
  ((refine aW rfl (cD rfl rfl rfl (cD rfl rfl rfl aJ)) ?_))
  exact ah.aK.refl _
 ·obtain ⟨g, ⟨g0, g1, g2⟩, aS⟩ := afu gp aw (by omega) m1;obtain ⟨Hy, Hz⟩ := Y3 gp m0 (by omega) g1 g0;have Il := Y4 m0 g1;have Iq := Y5 m0 g2;have g4 : g < 9223372036854775809 := agD gp aw (by omega) g1;have e2 : ¬ cn m = 0 := by unfold cn; omega
  have bD := JW (n := g) (m := m) (b := true) g0 (by omega) (by omega) m1 Hy rfl;rw [if_pos rfl, show kx g = .w (.agg [.c (.int .u64 0), .c (.int .u64 g)]) from congrArg ah.w (yz (by unfold dR; omega))] at bD;have HA : 0 ≤ g * m := ga g0 (by omega);generalize g * m = rE at *;have dW := R1 (n := n) (m := rE) (by omega) HA Hz rfl
  by_cases hl : n - rE < m
  ·have js := RK (n := n - rE) (m := m) (by omega) (by omega) (by omega) m1 (cd hl);obtain ⟨q1, q2⟩ := Il hl;rw [← q1, ← q2, show va g = .agg [.c (.int .u64 0), .c (.int .u64 g)] from yz (by unfold dR; omega)];generalize n - rE = r at *;clear Il Iq q1 q2 hl Hy Hz g1 g2 HA H1 k aw gp m0 m1;refine bd (f := 212) Tryz.func212 rfl rfl rfl rfl ?_;(refine bS ?_)
   ((refine aW rfl (cD rfl rfl rfl (cD rfl rfl rfl aJ)) ?_))
   exact ah.aK.refl _
  ·have js := RK (n := n - rE) (m := m) (by omega) (by omega) (by omega) m1 (cA hl);have mQ := R1 (n := n - rE) (m := m) (by omega) (by omega) (by omega) rfl;obtain ⟨q1, q2⟩ := Iq hl;have w1 : IntKind.u64.wrap (g + 1) = g + 1 := by rw [IntKind.wrap_u64]; omega
   rw [← q1, ← q2, show va (g + 1) = .agg [.c (.int .u64 0), .c (.int .u64 (g + 1))] from yz (by unfold dR; omega)];generalize n - rE - m = aV at *;generalize n - rE = r at *;clear Il Iq q1 q2 hl Hy Hz g1 g2 HA H1 k aw gp m0 m1;refine bd (f := 212) Tryz.func212 rfl rfl rfl rfl ?_;(refine bS ?_)
   ((refine aW rfl (cD rfl rfl rfl (cD rfl rfl rfl aJ)) ?_))
   exact ah.aK.refl _
end Go.Proofs.YtbcecodakfejaaaGreat
namespace Go.Proofs.YtbcecodakfejaaaGreat
open Go.RowKit
theorem A4 {n : Int} (f : fits n = true) : au ag 195 [gv n] (kx n.natAbs) :=
 hZ [.agg #[.int .i64 (cn n), .int .u64 (dQ n)]] (.agg #[.int .u64 (cn n.natAbs), .int .u64 (dQ n.natAbs)]) rfl rfl rfl rfl rfl fun W => (aii _ _ n W (l8 f)).mono fun e w' ⟨H, L, he, hw, ab⟩ => by
  obtain ⟨rfl, rfl⟩ := AD hw; exact ⟨he, ab⟩
theorem E3 {n z : Int} {b : Bool} (gp : 0 ≤ n) (cE : n < 340282366920938463463374607431768211456) (aN : (if b then -n else n) = z) (f : fits z = true) : au ag 196 [kx n, a7 b] (.cz [nh z, KF]) :=
 hZ [.agg #[.int .u64 (cn n), .int .u64 (dQ n)], .bool b] (.tuple #[.agg #[.int .i64 (cn z), .int .u64 (dQ z)], .bool true]) rfl rfl rfl rfl rfl fun W => (Kz _ _ n b W (ng gp cE)).mono fun e w' h => by
  have := yt h;rw [aN, f, if_pos rfl] at this;exact this
theorem afG {n m z : Int} (f : fits n = true) (g : fits m = true) (aN : wr (n - m) = z) : au ag 166 [gv n, gv m] (gv z) :=
 hZ [.agg #[.int .i64 (cn n), .int .u64 (dQ n)], .agg #[.int .i64 (cn m), .int .u64 (dQ m)]] (.agg #[.int .i64 (cn z), .int .u64 (dQ z)]) rfl rfl rfl rfl rfl fun W => (AU _ _ _ _ n m W (l8 f) (l8 g)).mono fun e w' ⟨H, L, he, hw, ab⟩ => by
  rw [aN] at hw; obtain ⟨rfl, rfl⟩ := DX hw; exact ⟨he, ab⟩
theorem afL {n m z : Int} (f : fits n = true) (g : fits m = true) (aN : wr (n + m) = z) : au ag 213 [gv n, gv m] (gv z) :=
 hZ [.agg #[.int .i64 (cn n), .int .u64 (dQ n)], .agg #[.int .i64 (cn m), .int .u64 (dQ m)]] (.agg #[.int .i64 (cn z), .int .u64 (dQ z)]) rfl rfl rfl rfl rfl fun W => (R9 _ _ _ _ n m W (l8 f) (l8 g)).mono fun e w' ⟨H, L, he, hw, ab⟩ => by
  rw [aN] at hw; obtain ⟨rfl, rfl⟩ := DX hw; exact ⟨he, ab⟩
theorem ka {n : Int} : fits n = true ↔ -170141183460469231731687303715884105728 ≤ n ∧ n < 170141183460469231731687303715884105728 := by unfold fits; rw [cg]
theorem zT (n : Int) : cn n < 0 ↔ n < 0 := by unfold cn; omega
theorem Rv {n m : Int} (f : fits n = true) (g : fits m = true) (hm : 0 < m) : au ag 203 [gv n, gv m] (.cz [nh (n / m), nh (n % m), KF]) := by
 have aS := E4 g;have bD := A4 f;have dW := A4 g;have hs : ¬ bR m 0 ≤ 0 := by unfold bR; split <;> (try split) <;> omega
 have ov := ka.1 f;have k5 := ka.1 g;generalize bR m 0 = s at *;obtain ⟨N, eO⟩ : ∃ N : Int, (n.natAbs : Int) = N := ⟨_, rfl⟩;have fT : (m.natAbs : Int) = m := by omega
 rw [eO] at bD;rw [fT] at dW;have js := afm (n := N) (m := m) (by omega) (by omega) hm (by omega);have aG := qS N m;have q0 : 0 ≤ N / m := n6 (by omega) (by omega);have q1 : N / m ≤ N := Int.ediv_le_self _ (by omega);have gW := oL N (show m ≠ 0 by omega);have bV := n4 N hm
 by_cases aw : n < 0
 case neg =>
  obtain rfl : N = n := by omega
  have b1 : decide (cn N < 0) = false := cA (by rw [zT]; exact aw);have mQ := E3 (n := N / m) (z := N / m) (b := decide (cn N < 0)) q0 (by omega) (by rw [b1]; rfl) (ka.2 (by omega));have yJ := E3 (n := N % m) (z := N % m) (b := decide (cn N < 0)) gW (by omega) (by rw [b1]; rfl) (ka.2 (by omega));have b2 : decide (cn (N % m) < 0) = false := cA (by rw [zT]; omega);generalize N / m = q at *;generalize N % m = r at *;clear aG b1 aw eO fT ov k5 f g;refine bd (f := 203) Tryz.func203 rfl rfl rfl rfl ?_;(refine bS ?_)
  ((refine aW rfl (cD rfl rfl rfl (cD rfl rfl rfl (aY rfl aJ))) ?_))
  exact ah.aK.refl _
 have b1 : decide (cn n < 0) = true := cd ((zT n).2 aw);have mQ := E3 (n := N / m) (z := -(N / m)) (b := decide (cn n < 0)) q0 (by omega) (by rw [b1]; rfl) (ka.2 (by omega));have yJ := E3 (n := N % m) (z := -(N % m)) (b := decide (cn n < 0)) gW (by omega) (by rw [b1]; rfl) (ka.2 (by omega))
 by_cases aN : N % m = 0
 ·obtain ⟨d1, d2⟩ := XS hm eO fT aw aN;have d3 : n % m = -(N % m) := by omega
  rw [← d1, d3];have b2 : decide (cn (-(N % m)) < 0) = false := cA (by rw [zT]; omega);generalize N / m = q at *;generalize N % m = r at *;clear d1 d2 d3 aG b1 aw eO fT ov k5 f g;refine bd (f := 203) Tryz.func203 rfl rfl rfl rfl ?_;(refine bS ?_)
  ((refine aW rfl (cD rfl rfl rfl (cD rfl rfl rfl (aY rfl aJ))) ?_))
  exact ah.aK.refl _
 ·obtain ⟨d1, d2⟩ := XT hm eO fT aw aN;have b2 : decide (cn (-(N % m)) < 0) = true := cd (by rw [zT]; omega)
  have q2 : N / m < N := by
   have := lK (show 1 ≤ m by omega) q0;omega
  have Uc := uU (n := 1) (by decide) (by decide);have ajq := afG (n := -(N / m)) (m := 1) (z := n / m) (ka.2 (by omega)) (by decide) (by rw [d1]; exact K0 (ka.2 (by omega)));have ajr := afL (n := -(N % m)) (m := m) (z := n % m) (ka.2 (by omega)) g (by rw [d2]; exact K0 (ka.2 (by omega)));generalize N / m = q at *;generalize N % m = r at *;generalize n / m = cf at *;generalize n % m = aV at *;clear d1 d2 q2 aG b1 aw eO fT ov k5 f g;refine bd (f := 203) Tryz.func203 rfl rfl rfl rfl ?_;(refine bS ?_)
  ((refine aW rfl (cD rfl rfl rfl (cD rfl rfl rfl (aY rfl aJ))) ?_))
  exact ah.aK.refl _
theorem af0 {n m P : Int} (f : fits n = true) (g : fits m = true) (en : (n.natAbs : Int) * m.natAbs = P) (tO : 0 ≤ P) (j7 : P < 340282366920938463463374607431768211456) : au ag 196 [kx P, a7 (!decide (cn n < 0) == decide (cn m < 0))] (wf (n * m)) :=
 hZ [.agg #[.int .u64 (cn P), .int .u64 (dQ P)], .bool (!decide (cn n < 0) == decide (cn m < 0))] _ rfl rfl rfl rfl rfl fun W => (aih W (l8 f) (l8 g) (Lib.hid en.symm) (ng tO j7)).mono fun e w' h => yt h
theorem aeT {n m : Int} (f : fits n = true) (g : fits m = true) : au ag 167 [gv n, gv m] (wf (n * m)) := by
 have aS := A4 f;have bD := A4 g;have ov := ka.1 f;have k5 := ka.1 g;obtain ⟨P, en⟩ : ∃ P : Int, (n.natAbs : Int) * m.natAbs = P := ⟨_, rfl⟩;have tO : 0 ≤ P := by rw [← en]; exact ga (by omega) (by omega)
 cases ab : mv P with
 | true =>
  have j7 : P < 340282366920938463463374607431768211456 := by unfold mv at ab; rw [cg] at ab; omega
  have dW := JW (n := n.natAbs) (m := m.natAbs) (z := P) (b := true) (by omega) (by omega) (by omega) (by omega) (by rw [en]; exact ab) (by rw [en]; rfl);have js := af0 f g en tO j7;clear ab ov k5;refine bd (f := 167) Tryz.func167 rfl rfl rfl rfl ?_;(refine bS ?_)
  ((refine aW rfl (cD rfl rfl rfl (aY rfl aJ)) ?_))
  exact ah.aK.refl _
 | false =>
  have dW := JW (n := n.natAbs) (m := m.natAbs) (z := 0) (b := false) (by omega) (by omega) (by omega) (by omega) (by rw [en]; exact ab) rfl
  have ap : fits (n * m) = false := by
   have : ¬ P < 340282366920938463463374607431768211456 := fun h => by unfold mv at ab; rw [kq] at ab; omega
   have e : ((n * m).natAbs : Int) = P := by rw [Int.natAbs_mul, ← en]; rfl
   cases aR : fits (n * m) with
   | false => rfl
   | true => have := ka.1 aR; omega
  have ub : wf (n * m) = .cz [nh 0, .one (.c (.bool false))] := by
   show ah.cz [nh (if fits (n * m) then n * m else 0), .one (.c (.bool (fits (n * m))))] = _;rw [ap]; rfl
  rw [ub];clear ab ov k5 ap ub;refine bd (f := 167) Tryz.func167 rfl rfl rfl rfl ?_;(refine bS ?_)
  ((refine aW rfl (cD rfl rfl rfl (aY rfl aJ)) ?_))
  exact ah.aK.refl _
def tc (m : Nat) : Nat := if m = 0 then 0 else Nat.log2 m + 1
theorem P4 {m len : Nat} (h : mT m len) : len = tc m := by
 unfold tc;unfold mT at h
 by_cases hm : m = 0
 ·rw [if_pos hm];rcases h with h | h
  ·omega
  ·have := Nat.two_pow_pos (len - 1); omega
 ·rw [if_neg hm];rcases h with h | h
  ·omega
  ·have h1 : Nat.log2 m < len := (Nat.log2_lt hm).2 (by omega);have h2 : len - 1 ≤ Nat.log2 m := (Nat.le_log2 hm).2 (by omega);omega
theorem afE {n : Int} (gp : 0 ≤ n) (cE : n < 340282366920938463463374607431768211456) : au ag 205 [kx n] (ax (tc n.toNat)) :=
 hZ [.agg #[.int .u64 (cn n), .int .u64 (dQ n)]] (.int .i64 (tc n.toNat)) rfl rfl rfl rfl rfl fun W => (acN _ _ n W (ng gp cE)).mono fun e w' ⟨len, he, hl, ab⟩ => by
  rw [P4 hl] at he; exact ⟨he, ab⟩
theorem af1 {n P : Int} {k : Nat} (f : fits n = true) (en : (n.natAbs : Int) * 2 ^ k = P) (tO : 0 ≤ P) (j7 : P < 340282366920938463463374607431768211456) : au ag 196 [kx P, a7 (decide (cn n < 0))] (wf (n * 2 ^ k)) :=
 hZ [.agg #[.int .u64 (cn P), .int .u64 (dQ P)], .bool (decide (cn n < 0))] _ rfl rfl rfl rfl rfl fun W => (aif W (l8 f) (Lib.hid en.symm) (ng tO j7)).mono fun e w' h => yt h
theorem ae1 {n k : Int} (f : fits n = true) (aw : n ≠ 0) (af : 0 ≤ k) (Dz : k < 9223372036854775808) : au ag 187 [gv n, ax k] (wf (n * 2 ^ k.toNat)) := by
 have aS := A4 f;have ov := ka.1 f;obtain ⟨N, eO⟩ : ∃ N : Int, (n.natAbs : Int) = N := ⟨_, rfl⟩;rw [eO] at aS;have bD := afE (n := N) (by omega) (by omega);have aA : ¬ n = 0 := aw
 have hl : mT n.natAbs (tc N.toNat) := by
  obtain ⟨len, h⟩ : ∃ len, mT n.natAbs len := by
   refine ⟨tc n.natAbs, ?_⟩;have hm : n.natAbs ≠ 0 := by omega
   have h1 := Nat.log2_self_le hm;have h2 := Nat.lt_log2_self (n := n.natAbs);have h3 : Nat.log2 n.natAbs < 128 := (Nat.log2_lt hm).2 (by rw [KJ]; omega);unfold mT tc;rw [if_neg hm];exact .inr ⟨by omega, by omega, h1, h2⟩
  have e : len = tc n.natAbs := P4 h;rw [show N.toNat = n.natAbs by omega, ← e]; exact h
 have nN := acP hl;generalize tc N.toNat = len at *;have Np : (n.natAbs : Int) = N := eO
 by_cases az : 128 - (len : Int) < k
 ·have ap := ah7 hl aw af az
  have ub : wf (n * 2 ^ k.toNat) = .cz [nh 0, .one (.c (.bool false))] := by
   show ah.cz [nh (if fits (n * 2 ^ k.toNat) then n * 2 ^ k.toNat else 0), .one (.c (.bool (fits (n * 2 ^ k.toNat))))] = _;rw [ap]; rfl
  rw [ub];clear ap ub hl eO Np ov;refine bd (f := 187) Tryz.func187 rfl rfl rfl rfl ?_;(refine bS ?_)
  ((refine aW rfl (cD rfl rfl rfl (aY rfl aJ)) ?_))
  exact ah.aK.refl _
 ·obtain ⟨aaj, hu⟩ := ah8 hl aw af (by omega);obtain ⟨P, en⟩ : ∃ P : Int, (n.natAbs : Int) * 2 ^ k.toNat = P := ⟨_, rfl⟩;have tO : 0 ≤ P := by rw [← en]; exact ga (by omega) (lf (hL (by decide)))
  rw [en] at hu;have dW := RX (n := N) (P := P) (by omega) (by omega) af aaj (by rw [← eO, en]; exact hu) (by rw [← eO]; exact en);have js := af1 f en tO hu;have w1 : IntKind.u64.wrap k = k := by rw [IntKind.wrap_u64]; omega
  clear hu en tO hl eO Np ov;refine bd (f := 187) Tryz.func187 rfl rfl rfl rfl ?_;(refine bS ?_)
  ((refine aW rfl (cD rfl rfl rfl (aY rfl aJ)) ?_))
  exact ah.aK.refl _
theorem af4 {n k : Int} (f : fits n = true) (aA : 0 ≤ k) (h1 : k < 9223372036854775808) : au ag 187 [gv n, ax k] (wf (n * 2 ^ k.toNat)) := by
 by_cases aw : n = 0
 ·subst aw;rw [Int.zero_mul];refine bd (f := 187) Tryz.func187 rfl rfl rfl rfl ?_;(refine eF ?_)
  ((refine aW rfl (cD rfl rfl rfl (aY rfl aJ)) ?_))
  exact ah.aK.refl _
 ·exact ae1 f aw aA h1
def hN (w : World) (b : Nat) (u v x y : Value) : Prop := (w.cell? ⟨b, 0, none⟩ = some u ∧ w.cell? ⟨b, 1, none⟩ = some v ∧ w.cell? ⟨b, 2, none⟩ = some x ∧ w.cell? ⟨b, 3, none⟩ = some y) ∧ (w.frozen? ⟨b, 0, none⟩ = false ∧ w.frozen? ⟨b, 1, none⟩ = false ∧ w.frozen? ⟨b, 2, none⟩ = false ∧ w.frozen? ⟨b, 3, none⟩ = false)
section
variable {w W w1 : World} {b g : Nat} {u v x y q : Value}
theorem hN.lt (h : hN w b u v x y) : b < w.heap.size := World.block_lt_of_cell? w _ h.1.1
theorem hN.call (h : hN W b u v x y) (ab : Below W.heap.size W w1) : hN w1 b u v x y := by
 have hl := h.lt;obtain ⟨⟨h1, h2, h3, aD⟩, ba, bo, dU, hU⟩ := h;exact ⟨⟨(ab.cell (p := ⟨b, 0, none⟩) hl).trans h1, (ab.cell (p := ⟨b, 1, none⟩) hl).trans h2, (ab.cell (p := ⟨b, 2, none⟩) hl).trans h3, (ab.cell (p := ⟨b, 3, none⟩) hl).trans aD⟩, (ab.frozen (p := ⟨b, 0, none⟩) hl).trans ba, (ab.frozen (p := ⟨b, 1, none⟩) hl).trans bo, (ab.frozen (p := ⟨b, 2, none⟩) hl).trans dU, (ab.frozen (p := ⟨b, 3, none⟩) hl).trans hU⟩
theorem hN.alloc (h : hN W b u v x y) (o : Obj) : hN (W.alloc o) b u v x y := h.call ((Below.refl _ _).alloc (dI _) o)
theorem hN.drew (h : hN W b u v x y) : hN W.drew b u v x y := h.call ((Below.refl _ _).drew)
theorem hN.new {t : TypeId} (e : b = W.heap.size) : hN (W.alloc (.cells #[u, v, x, y] t)) b u v x y := by
 subst e;unfold hN
 go_simp
theorem hN.set (h : hN W b u v x y) (o : Nat) (ne : g ≠ b) : hN (W.setCell ⟨g, o, none⟩ q) b u v x y := by
 obtain ⟨⟨h1, h2, h3, aD⟩, ba, bo, dU, hU⟩ := h;have gp : ∀ i, (⟨g, o, none⟩ : Addr) ≠ ⟨b, i, none⟩ := fun i e => ne (congrArg Addr.block e);refine ⟨⟨?_, ?_, ?_, ?_⟩, ?_, ?_, ?_, ?_⟩
 ·rw [World.cell?_setCell_other _ _ _ _ (gp 0)]; exact h1
 ·rw [World.cell?_setCell_other _ _ _ _ (gp 1)]; exact h2
 ·rw [World.cell?_setCell_other _ _ _ _ (gp 2)]; exact h3
 ·rw [World.cell?_setCell_other _ _ _ _ (gp 3)]; exact aD
 ·go_simp
 ·go_simp
 ·go_simp
 ·go_simp
end
section
variable {W : World} {b : Nat} {u v x y oQ v' : Value}
end
theorem abu (d : Int) : decide (0 < bR d 0) = decide (0 < d) := by
 unfold bR;rw [kR];simp only [cg]
 repeat' split
 all_goals omega
end Go.Proofs.YtbcecodakfejaaaGreat
namespace Go.Proofs.YtbcecodakfejaaaGreat
open Go.RowKit
attribute [local go_sem ↓] Go.wp_at_zero Go.wp_at_succ
def nZ (n d : Int) : Int := if n % d < d - n % d then n / d else n / d + 1
theorem QR {n d : Int} (aw : fits n = true) (hd : 0 < d) (zL : fits d = true) : fits (d - n % d) = true ∧ (d - n % d ≤ n % d → fits (n / d + 1) = true) := by
 unfold fits at *;rw [cg] at aw zL;have aA := oL n (show d ≠ 0 by omega);have h1 := n4 n hd;have h2 := qS n d;rw [cg, cg];refine ⟨by omega, fun hle => ?_⟩;have xL : 2 ≤ d := by omega
 have q1 : n / d * 2 ≤ 170141183460469231731687303715884105727 ∧ -170141183460469231731687303715884105728 ≤ n / d := by
  refine ⟨?_, ?_⟩
  ·rcases pQ (n / d) 0 with q | q
   ·omega
   ·have : n / d * 2 ≤ n / d * d := pO xL q;rw [gq (n / d) d] at this;omega
  ·rcases pQ (n / d) 0 with q | q
   ·have : d * (n / d + 1) ≤ 1 * (n / d + 1) := Int.mul_le_mul_of_nonpos_right (by omega) (by omega);rw [Int.mul_add] at this;omega
   ·omega
 omega
end Go.Proofs.YtbcecodakfejaaaGreat
namespace Go.Proofs.YtbcecodakfejaaaGreat
open Go.RowKit
attribute [local go_sem ↓] Go.wp_at_zero Go.wp_at_succ
end Go.Proofs.YtbcecodakfejaaaGreat
namespace Go.Proofs.YtbcecodakfejaaaGreat
open Go.RowKit
attribute [local go_sem ↓] Go.wp_at_zero Go.wp_at_succ
theorem hN.cs {w : World} {b : Nat} {u v x y : Value} (h : hN w b u v x y) : w.cell? ⟨b, 0, none⟩ = some u ∧ w.cell? ⟨b, 1, none⟩ = some v ∧ w.cell? ⟨b, 2, none⟩ = some x ∧ w.cell? ⟨b, 3, none⟩ = some y := h.1
def mi (n d : Int) (k : Nat) : Int := if k = 0 then nZ n d else nZ (n / d) (2 ^ k)
theorem Sb {k : Nat} (h : k ≤ 100) : fits ((2 : Int) ^ k) = true := by
 have h1 := Nat.pow_le_pow_right (show 0 < 2 by decide) h;rw [show (2 : Nat) ^ 100 = 1267650600228229401496703205376 by decide] at h1;have h2 := (Se k).1;have e : ((2 : Int) ^ k) = ((2 ^ k : Nat) : Int) := by simp
 unfold fits;rw [e, cg];generalize (2 : Nat) ^ k = P at *;omega
end Go.Proofs.YtbcecodakfejaaaGreat
namespace Go.Proofs.YtbcecodakfejaaaGreat
open Go.RowKit
attribute [local go_sem ↓] Go.wp_at_zero Go.wp_at_succ
end Go.Proofs.YtbcecodakfejaaaGreat
namespace Go.Proofs.YtbcecodakfejaaaGreat
open Go.RowKit
attribute [local go_sem ↓] Go.wp_at_zero Go.wp_at_succ
end Go.Proofs.YtbcecodakfejaaaGreat
namespace Go.Proofs.YtbcecodakfejaaaGreat
open Go.RowKit
attribute [local go_sem ↓] Go.wp_at_zero Go.wp_at_succ
section
variable {w W w1 : World} {g jP : Nat} {a b c d s t : Int}
end
end Go.Proofs.YtbcecodakfejaaaGreat
namespace Go.Proofs.YtbcecodakfejaaaGreat
open Go.RowKit
theorem wY {z : Int} (h : fits z = true) : wf z = .cz [nh z, KF] := by
 show ah.cz [nh (if fits z then z else 0), .one (.c (.bool (fits z)))] = _;rw [h]; rfl
theorem TZ {z : Int} (h : fits z = false) : wf z = .cz [nh 0, .one (.c (.bool false))] := by
 show ah.cz [nh (if fits z then z else 0), .one (.c (.bool (fits z)))] = _;rw [h]; rfl
theorem Ps (a b : Int) : bR a b < 0 ↔ a < b := by unfold bR; split <;> (try split) <;> omega
theorem RN {n d : Int} (f : fits n = true) (g : fits d = true) (hd : 0 < d) : au ag 186 [gv n, gv d] (gv (nZ n d)) := by
 obtain ⟨cE, cP⟩ := QR f hd g;have ov := ka.1 f;have k5 := ka.1 g;have gW := oL n (show d ≠ 0 by omega);have bV := n4 n hd;have zu : fits (n % d) = true := ka.2 (by omega);have aS := Rv f g hd;have bD := R3 g zu;have dW := af3 zu cE;rw [wY cE] at bD;unfold nZ
 by_cases h : n % d < d - n % d
 ·have h3 : bR (n % d) (d - n % d) < 0 := (Ps ..).2 h;have mu : nZ n d = n / d := by unfold nZ; first | rw [if_pos h] | (split <;> omega)
  unfold nZ at mu;rw [mu];generalize bR (n % d) (d - n % d) = c at *;generalize n / d = q at *;generalize n % d = r at *;clear mu cE cP ov k5 gW bV zu f g;refine bd (f := 186) Tryz.func186 rfl rfl rfl rfl ?_;(refine bS ?_)
  ((refine aW rfl (cD rfl rfl rfl aJ) ?_))
  exact ah.aK.refl _
 ·have h3 : ¬ bR (n % d) (d - n % d) < 0 := fun aR => h ((Ps ..).1 aR);have mu : nZ n d = n / d + 1 := by unfold nZ; first | rw [if_neg h] | (split <;> omega)
  unfold nZ at mu;rw [mu];have f5 := cP (by omega)
  have N0 : fits (n / d) = true := by
   have q1 := qS n d;have cU := ka.1 f5;refine ka.2 ?_
   by_cases aw : 0 ≤ n
   ·have := n6 aw (show 0 ≤ d by omega); omega
   ·have fs : n * d ≤ n * 1 := Int.mul_le_mul_of_nonpos_left (show n ≤ 0 by omega) (show 1 ≤ d by omega);have := (oM (a := n) (b := n) hd).2 (by omega);omega
  have js := uU (n := 1) (by decide) (by decide);have mQ := af2 N0 (show fits 1 = true by decide);rw [wY f5] at mQ;generalize bR (n % d) (d - n % d) = c at *;generalize n / d = q at *;generalize n % d = r at *;clear mu cE cP ov k5 gW bV zu f g N0 f5;refine bd (f := 186) Tryz.func186 rfl rfl rfl rfl ?_;(refine bS ?_)
  ((refine aW rfl (cD rfl rfl rfl aJ) ?_))
  exact ah.aK.refl _
end Go.Proofs.YtbcecodakfejaaaGreat
