/-
  My own texts, without what this claim does not need. My own text.
-/
import Derived.Deep.DrawnRows
import Derived.Laws.OwnMore
import Derived.Deep.LoopGhost
import Derived.Shelf.Small.Bits
import Derived.Shelf.Strconv.Itoa0
import Derived.Shelf.Bits.Mul64
import Derived.Test.YtbcecodakfejaaaGreatProg
import Derived.WalkKit
import Derived.Lib.ItoaNum
import Derived.Deep.RegionHeld3
import Derived.Deep.DeepCutAuto
import Derived.Deep.QuietTactic
import Derived.Deep.CutBlock
import Derived.RegionTactic
import Derived.Test.YtbcecodakfejaaaGreatSApartK6
set_option maxRecDepth 100000
set_option maxHeartbeats 64000000
set_option linter.unusedVariables false
set_option linter.unusedSimpArgs false
set_option linter.unusedSectionVars false
open Go.Proofs.Tryz renaming prog → ag
namespace Go.Proofs.YtbcecodakfejaaaGreat
open Go.RowKit
structure lX (w wr : World) (x : Bool) (A : Option Addr) (l c : Nat) (ds : List Int) (y : Bool) (B : Option Addr) (m d : Nat) (es : List Int) (os : List Int) : Prop where
 fN : cM wr w.heap.size (.bool x) (.slice A l c)
 b1 : cM wr (w.heap.size + 1) (.bool y) (.slice B m d)
 b2 : cM wr (w.heap.size + 1 + 1) (.bool false) (.slice none 0 0)
 own : wr.ownsRow (w.heap.size + 1 + 1 + 1) 3 1 (.slice (some ⟨w.heap.size + 1 + 1 + 1, 0, none⟩) (l + m + 1) (l + m + 1)) (l + m + 1) (os.map (Value.int .i64))
 dg : dv os
 below : Below w.heap.size w wr
section
variable {w wr : World} {x y : Bool} {A B : Option Addr} {l c m d : Nat} {ds es os : List Int}
theorem lX.len (h : lX w wr x A l c ds y B m d es os) : os.length = l + m + 1 := by have := h.own.1; simpa using this
theorem lX.drewN (h : lX w wr x A l c ds y B m d es os) (n : Nat) : lX w (wr.drewN n) x A l c ds y B m d es os :=
 ⟨h.fN, h.b1, h.b2, h.own, h.dg, Kc h.below n⟩
theorem lX.cell (h : lX w wr x A l c ds y B m d es os) {j : Nat} (ae : j < l + m + 1) : wr.cell? ⟨w.heap.size + 1 + 1 + 1, j, none⟩ = some (.int .i64 (os.getD j 0)) ∧ wr.frozen? ⟨w.heap.size + 1 + 1 + 1, j, none⟩ = false := by
 refine ⟨?_, h.own.frozenAt j⟩;have hl := h.len;rw [h.own.cellAt j (by omega), ef, bQ (by omega), fZ, bQ (by omega)];rfl
theorem lX.store (h : lX w wr x A l c ds y B m d es os) (j : Nat) {s : Int} (aA : 0 ≤ s) (h1 : s < 10000) : lX w (wr.setCell ⟨w.heap.size + 1 + 1 + 1, j, none⟩ (.int .i64 s)) x A l c ds y B m d es (os.set j s) := by
 refine ⟨h.fN.set _ (by omega), h.b1.set _ (by omega), h.b2.set _ (by omega), ?_, h.dg.set j aA h1, gZ h.below _ _ _ (by omega)⟩;rw [List.map_set];exact (h.own.stored j _).1
end
structure tU (qK : List Int) (i l m : Nat) (a : Int) (es : List Int) (k : Nat) (dc : Int) (os : List Int) : Prop where
 gr : 0 ≤ dc
 c1 : dc ≤ 9999
 val : so os i k dc a es (hi qK i + a * bI es)
 low : os.take i = qK.take i
 top : ∀ j, i + m + 1 ≤ j → os.getD j 0 = 0
 at_ : k ≤ m → os.getD (i + m) 0 = 0
 more : 0 < dc → k ≤ m
 ZL : k ≤ m + 1
structure AA (os ds es : List Int) (i l m : Nat) : Prop where
 val : sq os ds es i
 top : ∀ j, i + m ≤ j → os.getD j 0 = 0
 ii : i ≤ l
theorem aaI {os ds es : List Int} {i l m : Nat} (h : AA os ds es i l m) (a : Int) : tU os i l m a es 0 0 os :=
 ⟨by omega, by omega, aaK _ _ _ _, rfl, fun j ae => h.top j (by omega), fun _ => h.top _ (by omega), fun q => absurd q (by omega), by omega⟩
theorem aaH {qK os es : List Int} {i l m k : Nat} {a dc s : Int} (h : tU qK i l m a es k dc os) (hlen : os.length = l + m + 1) (cP : i < l) (hd : dv os) (k5 : es.length = m) (he : dv es) (aH : 0 ≤ a ∧ a < 10000)
  (ik : k < m ∨ 0 < dc) (hs : s = dc + os.getD (i + k) 0 + a * es.getD k 0) : tU qK i l m a es (k + 1) (s / 10000) (os.set (i + k) (s % 10000)) := by
 have g1 := hd.getD (i + k);have g2 := he.getD k;have g3 := K2 aH g2;have aA := h.gr; have h1 := h.c1;have BW : k ≤ m := by rcases ik with q | q; omega; exact h.more q
 refine ⟨by omega, by omega, aaL h.val (by omega) hs, by rw [Rk (by omega)]; exact h.low, fun j ae => ?_, fun q => ?_, fun q => ?_, by omega⟩
 ·rw [getD_set_ne (by omega)]; exact h.top j ae
 ·rw [getD_set_ne (by omega)]; exact h.at_ BW
 ·by_cases e : k < m
  ·omega
  ·have aF : k = m := by omega
   have gU : es.getD k 0 = 0 := by simp [fZ, lQ (show es.length ≤ k by omega)]
   have z2 := h.at_ BW;rw [gU, aF, z2, Int.mul_zero] at hs;omega
theorem aaF {qK os ds es : List Int} {i l m k : Nat} {a dc : Int} (h : tU qK i l m a es k dc os) (ay : AA qK ds es i l m) (hlen : os.length = l + m + 1) (cP : i < l) (k5 : es.length = m) (af : m ≤ k) (aj : dc ≤ 0) (aH : a = ds.getD i 0) : AA os ds es (i + 1) l m := by
 have cW : dc = 0 := by have := h.gr; omega
 have hv := h.val;rw [cW] at hv;have he := aaJ hv (by omega);rw [aH] at he;exact ⟨aaO ay.val (by omega) h.low he, fun j ae => h.top j (by omega), by omega⟩
theorem aaG {qK os es : List Int} {i l m k : Nat} {a dc : Int} (h : tU qK i l m a es k dc os) (cP : i < l) (ik : k < m ∨ 0 < dc) : i + k < l + m + 1 := by
 have : k ≤ m := by rcases ik with q | q; omega; exact h.more q
 omega
theorem aaT {w W w3 : World} {x y : Bool} {A B : Option Addr} {l c m d : Nat} {ds es : List Int} {z : Value} (aI : z = .int .i64 0) (bB : W.heap.size = w.heap.size + 1 + 1 + 1)
  (fN : cM W w.heap.size (.bool x) (.slice A l c)) (b1 : cM W (w.heap.size + 1) (.bool y) (.slice B m d)) (b2 : cM W (w.heap.size + 1 + 1) (.bool false) (.slice none 0 0)) (ab : Below w.heap.size w W)
  (cB : w3.ownsRow (w.heap.size + 1 + 1 + 1) 3 1 (.slice (some ⟨W.heap.size, 0, none⟩) (l + m + 1) (l + m + 1)) (l + m + 1) (madeCells z.cells ((l + m + 1) * 1)).toList) (ao : W.grownBy w3 none) :
  lX w w3 x A l c ds y B m d es (List.replicate (l + m + 1) 0) := by
 have eG : Below W.heap.size W w3 := ⟨ao.os, ao.tape, ao.output, ao.size, fun i hi => ao.block i hi (by simp)⟩;refine ⟨fN.call eG, b1.call eG, b2.call eG, ?_, Y9 _, eR ab eG⟩;rw [bB] at cB;rw [aI] at cB
 have e : (madeCells (Value.int .i64 0).cells ((l + m + 1) * 1)).toList = (List.replicate (l + m + 1) (0 : Int)).map (Value.int .i64) := by
  rw [Nat.mul_one, List.map_replicate];exact toList_madeCells_one _ _
 rw [e] at cB;exact cB
end Go.Proofs.YtbcecodakfejaaaGreat
namespace Go.Proofs.YtbcecodakfejaaaGreat
open Go.RowKit
theorem aeT (x y : Bool) (a b : Int) : hx (x != y) (a * b) = hx x a * hx y b := by
 cases x <;> cases y <;> simp [hx, Int.neg_mul, Int.mul_neg]
theorem eh.conv {w : World} {neg : Bool} {A : Option Addr} {l c : Nat} {n m : Int} (h : eh w neg A l c n) (e : n = m) : eh w neg A l c m := e ▸ h
theorem lX.row {w wr : World} {x y : Bool} {A B : Option Addr} {l c m d : Nat} {ds es os : List Int} (h : lX w wr x A l c ds y B m d es os) : e3 wr (some ⟨w.heap.size + 1 + 1 + 1, 0, none⟩) (l + m + 1) (l + m + 1) os := by
 obtain ⟨dH, c', e, ey⟩ := e3.own h.own;cases e;exact ey
theorem adO (x y : Bool) (A B : Option Addr) (l c m d : Nat) (n n' : Int) (w : World) (h : eh w x A l c n) (k : eh w y B m d n') (hl : l ≤ 400) (hm : m ≤ 400) :
  Calls ag 77 #[.agg #[.bool x, .slice A l c], .agg #[.bool y, .slice B m d]] w (p0 (n * n') w) := by
 obtain ⟨ds, ey, hS⟩ := h;obtain ⟨es, fp, cy⟩ := k;obtain ⟨i0, mK, jW, mS, jX⟩ := info_parts y2;have oV := Lib.hid mK;have iZ := Lib.hid jW;have n0 := Lib.hid mS;have oW := Lib.hid jX;have nj := Lib.hid ey;have lr := Lib.hid fp;have SC := Lib.hid ey.1;have I4 := Lib.hid fp.1;have dP := Lib.hid hS.dg;have fc := Lib.hid cy.dg;have hv : Hid (hx (x != y) (bI ds * bI es) = n * n') := by unfold Hid; rw [aeT, hS.val, cy.val]
 clear mK jW mS jX ey fp hS cy
 go_enter Tryz.func77, Tryz.ntmps77
 go_wp2_with (at_make; refine wpList_make_full _ rfl _ _ 32 rfl (w.heap.size + 1 + 1 + 1) 3 i0 (.int .i64 0) 1 Tryz.underlying32 oV.out iZ.out n0.out .i64 .i64 _ _ (l + m + 1) rfl rfl (by omega) (by omega) (by rw [oW.out]; omega) (by simp only [maxLen]; omega) (by simp) ?_; intro w3 cB ao; have I6 := Lib.hid (aaT (w := w) (x := x) (A := A) (l := l) (c := c) (ds := ds) (y := y) (B := B) (m := m) (d := d) (es := es) rfl (by simp) (((cM.new rfl).alloc _).alloc _) ((cM.new (by simp)).alloc _) (cM.new (by simp)) (by (repeat first | with_reducible exact Below.refl _ _ | with_reducible refine dC ?_ _)) cB ao); clear cB ao)
 go_loopw [6] (fun i wr => ∃ (j : Nat) (os : List Int), i = .int .i64 j ∧ j ≤ l ∧ lX w wr x A l c ds y B m d es os ∧ AA os ds es j l m) (fun i _ => l - (intOf i).toNat)
 case atStart => exact ⟨0, _, rfl, dA _, I6.out, ⟨aaN (VI _), fun j _ => Wv _ j, dA _⟩⟩
 case round =>
  obtain ⟨j, os, rfl, ae, dJ, qk⟩ := hrel;clear I6;obtain ⟨RM, rfl⟩ : ∃ RM : World, RM = wr := ⟨_, rfl⟩;obtain ⟨⟨p1, p2⟩, p3, p4⟩ := id dJ.fN;obtain ⟨⟨q1, q2⟩, bE, c4⟩ := id dJ.b1;obtain ⟨⟨b9, cT⟩, e9, j5⟩ := id dJ.b2
  by_cases rC : j < l
  ·have S8 := Lib.hid dJ;have Ja := Lib.hid qk;obtain ⟨a, aH⟩ : ∃ a, a = ds.getD j 0 := ⟨_, rfl⟩;have IX := Lib.hid aH;have ob : 0 ≤ a ∧ a < 10000 := by rw [aH]; exact dP.out.getD j
   clear dJ qk aH
   go_wp2
   go_loopw [7, 8] (fun u v wr => ∃ (k : Nat) (dc : Int) (ps : List Int), u = .int .i64 dc ∧ v = .int .i64 k ∧ lX w wr x A l c ds y B m d es ps ∧ tU os j l m a es k dc ps) (fun _ v _ => m + 2 - (intOf v).toNat)
   case atStart => exact ⟨0, 0, os, rfl, rfl, S8.out, aaI Ja.out _⟩
   case round =>
    obtain ⟨k, dc, ps, rfl, rfl, dJ, bh⟩ := hrel;clear p1 p2 p3 p4 q1 q2 bE c4 b9 cT e9 j5;obtain ⟨⟨p1, p2⟩, p3, p4⟩ := id dJ.fN;obtain ⟨⟨q1, q2⟩, bE, c4⟩ := id dJ.b1;have fN := bh.gr;have b1 := bh.c1;have b2 := bh.ZL
    by_cases ik : k < m ∨ 0 < dc
    ·have il := aaG bh rC ik;obtain ⟨CT, of⟩ := dJ.cell il;obtain ⟨b8, cp, jM, aE⟩ := nj.out.call dJ.below;obtain ⟨g, uu, ao, jc⟩ := aE (by omega);have ac := jc j rC;rw [← IX.out] at ac;have IV := Lib.hid (lr.out.call dJ.below);have bD := Lib.hid (fun w h => vM B m d es k w h (by omega) (by omega));have g2 := fc.out.getD k;have g1 := dJ.dg.getD (j + k);have N : Hid (∀ s, s = dc + ps.getD (j + k) 0 + a * es.getD k 0 → tU os j l m a es (k + 1) (s / 10000) (ps.set (j + k) (s % 10000))) := fun s hs => aaH bh dJ.len rC dJ.dg I4.out fc.out ob ik hs;have nZ := Lib.hid dJ;subst uu;clear aE jc b8 cp jM bh dJ;generalize ps.getD (j + k) 0 = o at N CT g1;generalize es.getD k 0 = b at N bD g2;have LV := K2 ob g2;have dB : (0 : Int) ≤ (j : Int) := by omega
     have s1 : (j : Int) < (l : Int) := by omega
     have s2 : IntKind.i64.wrap ((j : Int) + (k : Int)) = (j : Int) + (k : Int) := IntWalk.i64_in _ (by omega);have bM : (0 : Int) ≤ (j : Int) + (k : Int) := by omega
     have bN : (j : Int) + (k : Int) < (l : Int) + (m : Int) + 1 := by omega
     have aeK : ((j : Int) + (k : Int)).toNat = j + k := by omega
     have aeL : IntKind.i64.wrap (dc + o) = dc + o := IntWalk.i64_in _ (by omega);have aeM : IntKind.i64.wrap (a * b) = a * b := IntWalk.i64_in _ (by omega);have aeN : IntKind.i64.wrap (dc + o + a * b) = dc + o + a * b := IntWalk.i64_in _ (by omega);have ej : k < m ∨ (m ≤ k ∧ 0 < dc) := by omega
     rcases ej with t1 | ⟨t1, t2⟩
     all_goals
      go_wp2_with fail
      go_quiet ((go_at_call 115; exact Qn (bD.out _ (IV.out.drewN _))))
      clear s2 aeK aeL aeM aeN p1 p2 p3 p4 q1 q2 bE c4 ac CT of;have pW := nZ.out.drewN nq;clear ao IV nZ;generalize wr.drewN nq = IL at *;have lu := Lib.hid (N.out _ rfl);have q0 : 0 ≤ dc + o + a * b := by omega
      have aik : dc + o + a * b ≤ 1000000000 := by omega
      obtain ⟨CT, of⟩ := pW.cell il;have vt := Lib.hid (pW.store (j + k) (s := (dc + o + a * b) % 10000) (by omega) (by omega));clear pW N;generalize dc + o + a * b = s at *;generalize ps.getD (j + k) 0 = eM at CT
      go_wp2_with (go_at_call 116; (with_reducible refine (A1 _).mono ?_); rintro e w' ⟨rfl, rfl⟩)
      refine ⟨⟨k + 1, _, _, rfl, by go_num, vt.out, lu.out⟩, ?_⟩;simp [intOf]; omega
    ·have t1 : m ≤ k := by omega
     have t2 : dc ≤ 0 := by omega
     have nZ := Lib.hid dJ;have SM := Lib.hid (aaF bh Ja.out dJ.len rC I4.out t1 t2 IX.out);clear dJ bh
     go_wp2
     refine ⟨⟨j + 1, _, by go_num, by omega, nZ.out, SM.out⟩, ?_⟩;simp [intOf]; omega
  ·obtain rfl : j = l := by omega
   have nZ := Lib.hid dJ;have oU := Lib.hid (aaM qk.val (by rw [SC.out]; omega));clear dJ qk;have mB := Lib.hid nZ.out.row;have Su := Lib.hid nZ.out.dg;have bo := Lib.hid nZ.out.fN;have nh := Lib.hid nZ.out.b1;have sf := Lib.hid nZ.out.b2;have o6 := Lib.hid nZ.out.below;clear nZ
   go_wp2_with (go_at_call 110; ((with_reducible refine (zZ _ _ _ _ os _ mB.out Su.out (by omega)).mono ?_); rintro e w1 ⟨b8, l1, rfl, h1, ab⟩; have IR := sf.out.call ab; clear p1 p2 p3 p4 q1 q2 bE c4 b9 cT e9 j5; obtain ⟨⟨b9, cT⟩, e9, j5⟩ := id IR))
   have h2 : eh w1 b8 (some ⟨w.heap.size + 1 + 1 + 1, 0, none⟩) l1 (j + m + 1) (n * n') := h1.conv (by rw [oU.out]; exact hv.out)
   refine bodyPost_ret (v := .agg #[.bool b8, .slice (some ⟨w.heap.size + 1 + 1 + 1, 0, none⟩) l1 (j + m + 1)]) (by simp only [results, Tryz.results77]; go_simp) rfl ⟨_, _, _, _, rfl, ?_, ?_, fun a e => (by cases e; show w.heap.size ≤ w.heap.size + 1 + 1 + 1; omega)⟩
   ·exact h2.put (ga.of IR)
   ·exact gZ (gZ (eR o6.out ab) _ _ _ (by omega)) _ _ _ (by omega)
end Go.Proofs.YtbcecodakfejaaaGreat
namespace Go.Proofs.YtbcecodakfejaaaGreat
open Go.RowKit
theorem afG : (10000 : Int) ^ 10 = 10000000000000000000000000000000000000000 := by decide
end Go.Proofs.YtbcecodakfejaaaGreat
namespace Go.Proofs.YtbcecodakfejaaaGreat
open Go.RowKit
attribute [local go_sem ↓] Go.wp_at_zero Go.wp_at_succ
section
variable {w W w1 : World} {g : Nat} {x : Bool} {A : Option Addr} {l c : Nat} {n : Int}
end
end Go.Proofs.YtbcecodakfejaaaGreat
namespace Go.Proofs.YtbcecodakfejaaaGreat
open Go.RowKit
section
variable {w wr : World} {g : Nat} {x y z : Bool} {A B C : Option Addr} {l c m d p e : Nat} {ds ail : List Int} {b r : Int}
end
end Go.Proofs.YtbcecodakfejaaaGreat
namespace Go.Proofs.YtbcecodakfejaaaGreat
open Go.RowKit
attribute [local go_sem ↓] Go.wp_at_zero Go.wp_at_succ
end Go.Proofs.YtbcecodakfejaaaGreat
namespace Go.Proofs
open Go.Shelf
def Tryz.ZZ : Go.Shelf.Ren := ⟨fun | 134 => 219 | 129 => 214 | n => n, fun | 53 => 144 | 3 => 3 | 4 => 4 | 46 => 209 | 5 => 5 | 9 => 9 | n => n, fun | n => n⟩
theorem Tryz.ZY : Go.Proofs.Lays.n134 ag Tryz.ZZ := {
 mixed := by kernel_rfl
 f129 := Tryz.func214.trans (congrArg some (by kernel_rfl))
 f134 := Tryz.func219.trans (congrArg some (by kernel_rfl))
 t3 := Tryz.underlying3
 a3 := Tryz.isAgg3
 z3 := Tryz.sizeOf3
 v3 := Tryz.zeroValue3
 t4 := Tryz.underlying4
 a4 := Tryz.isAgg4
 z4 := Tryz.sizeOf4
 v4 := Tryz.zeroValue4
 t5 := Tryz.underlying5
 a5 := Tryz.isAgg5
 z5 := Tryz.sizeOf5
 v5 := Tryz.zeroValue5
 t9 := Tryz.underlying9
 a9 := Tryz.isAgg9
 z9 := Tryz.sizeOf9
 v9 := Tryz.zeroValue9
 t46 := Tryz.underlying209
 a46 := Tryz.isAgg209
 z46 := Tryz.sizeOf209
 v46 := Tryz.zeroValue209
 t53 := Tryz.underlying144
 a53 := Tryz.isAgg144
 z53 := Tryz.sizeOf144
 v53 := Tryz.zeroValue144 }
theorem Tryz.bits_LeadingZeros64 (x : Int) (w : World) (aA : 0 ≤ x) (h1 : x ≤ 18446744073709551615) :
  Calls ag 219 #[.int .u64 x] w fun e w' => e = .returned (.int .i64 (64 - (Lib.bitLen x.toNat : Int))) ∧ w' = w := Any.bits_LeadingZeros64 Tryz.ZY x w aA h1
def Tryz.ZX : Go.Shelf.Ren := ⟨fun | 129 => 214 | n => n, fun | 53 => 144 | 3 => 3 | 4 => 4 | 46 => 209 | 5 => 5 | 9 => 9 | n => n, fun | n => n⟩
theorem Tryz.ZW : Go.Proofs.Lays.n129 ag Tryz.ZX := {
 mixed := by kernel_rfl
 f129 := Tryz.func214.trans (congrArg some (by kernel_rfl))
 t3 := Tryz.underlying3
 a3 := Tryz.isAgg3
 z3 := Tryz.sizeOf3
 v3 := Tryz.zeroValue3
 t4 := Tryz.underlying4
 a4 := Tryz.isAgg4
 z4 := Tryz.sizeOf4
 v4 := Tryz.zeroValue4
 t5 := Tryz.underlying5
 a5 := Tryz.isAgg5
 z5 := Tryz.sizeOf5
 v5 := Tryz.zeroValue5
 t9 := Tryz.underlying9
 a9 := Tryz.isAgg9
 z9 := Tryz.sizeOf9
 v9 := Tryz.zeroValue9
 t46 := Tryz.underlying209
 a46 := Tryz.isAgg209
 z46 := Tryz.sizeOf209
 v46 := Tryz.zeroValue209
 t53 := Tryz.underlying144
 a53 := Tryz.isAgg144
 z53 := Tryz.sizeOf144
 v53 := Tryz.zeroValue144 }
theorem Tryz.bits_Len64 (x : Int) (w : World) (aA : 0 ≤ x) (h1 : x ≤ 18446744073709551615) :
  Calls ag 214 #[.int .u64 x] w fun e w' => e = .returned (.int .i64 (Lib.bitLen x.toNat)) ∧ w' = w := Any.bits_Len64 Tryz.ZW x w aA h1
def Tryz.Z1 : Go.Shelf.Ren := ⟨fun | 264 => 179 | n => n, fun | 53 => 144 | 46 => 209 | n => n, fun | n => n⟩
theorem Tryz.Z0 : Go.Proofs.Lays.n264 ag Tryz.Z1 := {
 mixed := by kernel_rfl
 f264 := Tryz.func179.trans (congrArg some (by kernel_rfl))
 t46 := Tryz.underlying209
 a46 := Tryz.isAgg209
 z46 := Tryz.sizeOf209
 v46 := Tryz.zeroValue209
 t53 := Tryz.underlying144
 a53 := Tryz.isAgg144
 z53 := Tryz.sizeOf144
 v53 := Tryz.zeroValue144 }
open Go.RowKit Go.Lib in
theorem Tryz.bits_Mul64 (x y : Nat) (aa : x < 18446744073709551616) (ai : y < 18446744073709551616) (w : World) :
  Calls ag 179 #[.int .u64 x, .int .u64 y] w fun e w' => e = .returned (.tuple #[.int .u64 ((x * y / 18446744073709551616 : Nat) : Int), .int .u64 ((x * y % 18446744073709551616 : Nat) : Int)]) ∧ w' = w := Any.bits_Mul64 Tryz.Z0 x y aa ai w
end Go.Proofs
namespace Go.Proofs.YtbcecodakfejaaaGreat
open Go.RowKit
theorem size_pos {h l n : Int} (H : cG h l n) (k : 0 ≤ h) : dw (IntKind.u64.wrap h) l n.natAbs := by
  obtain ⟨b1, b2, rfl⟩ := H;unfold dw;rw [IntKind.wrap_u64];omega
theorem aff {h l n a b : Int} (H : cG h l n) (K : cG a b (wr (0 - n))) (k : h < 0) : dw (IntKind.u64.wrap a) b n.natAbs := by
  obtain ⟨b1, b2, rfl⟩ := H;obtain ⟨dQ, dz, e⟩ := K;unfold wr at e;unfold dw;rw [IntKind.wrap_u64];omega
theorem afe (h1 l1 n : Int) (w : World) (H1 : cG h1 l1 n) :
    Calls ag 195 #[.agg #[.int .i64 h1, .int .u64 l1]] w (aS n.natAbs w) := by
  go_enter Tryz.func195, Tryz.ntmps195
  go_wp2_with (go_at_call 166; refine (zh _ _ _ _ _ _ _ wJ H1).mono ?_; rintro e w1 ⟨fR, hO, rfl, hs, ab⟩; have vF := Below.cell ab (p := ⟨w.heap.size, 0, none⟩) (by (simp; omega)); have vR := Below.frozen ab (p := ⟨w.heap.size, 0, none⟩) (by (simp; omega)); have vG := Below.cell ab (p := ⟨w.heap.size, 1, none⟩) (by (simp; omega)); have vS := Below.frozen ab (p := ⟨w.heap.size, 1, none⟩) (by (simp; omega)); have xW := Below.cell ab (p := ⟨w.heap.size + 1, 0, none⟩) (by (simp; done)); have x9 := Below.frozen ab (p := ⟨w.heap.size + 1, 0, none⟩) (by (simp; done)); have xX := Below.cell ab (p := ⟨w.heap.size + 1, 1, none⟩) (by (simp; done)); have ya := Below.frozen ab (p := ⟨w.heap.size + 1, 1, none⟩) (by (simp; done)); have nG := Below.size ab; (try simp at nG); have wQ : ¬ w1.heap.size = w.heap.size := (by omega); have zj : ¬ w1.heap.size = w.heap.size + 1 := (by omega))
  · refine bodyPost_ret (v := .agg #[.int .u64 (IntKind.u64.wrap fR), .int .u64 hO]) (by simp only [results, Tryz.results195]; go_simp) rfl ⟨_, _, rfl, aff H1 hs ‹_›, ?_⟩
    (repeat first | with_reducible exact Below.refl _ _ | with_reducible refine dC ?_ _ | focus ((with_reducible refine gZ ?_ _ _ _ ?_); rotate_left; omega) | with_reducible refine eR ?_ ab)
  · refine bodyPost_ret (v := .agg #[.int .u64 (IntKind.u64.wrap h1), .int .u64 l1]) (by simp only [results, Tryz.results195]; go_simp) rfl ⟨_, _, rfl, size_pos H1 ‹_›, ?_⟩
    (repeat first | with_reducible exact Below.refl _ _ | with_reducible refine dC ?_ _)
theorem ae9 {h l n : Int} (H : dw h l n) : cG (wrap64 h) l (wr n) := by
  obtain ⟨b1, b2, rfl⟩ := H;unfold cG wr wrap64;omega
theorem Q5 {h l n : Int} (H : dw h l n) (k : fz h l 0 0 = true ∨ 0 ≤ wrap64 h) : fits n = true ∧ cG (wrap64 h) l n := by
  rw [H.fz y4, ca] at k;obtain ⟨b1, b2, rfl⟩ := H;unfold fits cG wrap64 at *;rw [ca];omega
theorem aeY {h l n : Int} (H : dw h l n) (j : fz h l 0 0 = false) (k : wrap64 h < 0) : fits n = false := by
  rw [H.fz y4, jF] at j;obtain ⟨b1, b2, rfl⟩ := H;unfold fits wrap64 at *;rw [jF];omega
theorem Q4 {h l n a b : Int} (H : dw h l n) (K : cG a b (wr (0 - wr n))) (k : fz h l 0 0 = true ∨ a < 0) : fits (-n) = true ∧ cG a b (-n) := by
  rw [H.fz y4, ca] at k;obtain ⟨b1, b2, rfl⟩ := H;obtain ⟨dQ, dz, e⟩ := K;unfold wr at e;unfold fits cG;rw [ca];omega
theorem aeV {h l n a b : Int} (H : dw h l n) (K : cG a b (wr (0 - wr n))) (j : fz h l 0 0 = false) (k : 0 ≤ a) : fits (-n) = false := by
  rw [H.fz y4, jF] at j;obtain ⟨b1, b2, rfl⟩ := H;obtain ⟨dQ, dz, e⟩ := K;unfold wr at e;unfold fits;rw [jF];omega
theorem afb (h1 l1 n : Int) (w : World) (H1 : dw h1 l1 n) :
    Calls ag 196 #[.agg #[.int .u64 h1, .int .u64 l1], .bool false] w (oZ n w) := by
  go_enter Tryz.func196, Tryz.ntmps196
  go_wp2
  · refine bodyPost_ret (v := .tuple #[.agg #[.int .i64 0, .int .u64 0], .bool false]) (by simp only [results, Tryz.results196]; go_simp) rfl (zM (aeY H1 ‹_› ‹_›) ?_)
    (repeat first | with_reducible exact Below.refl _ _ | with_reducible refine dC ?_ _)
  · have ai := Q5 H1 (.inr ‹_›)
    refine bodyPost_ret (v := .tuple #[.agg #[.int .i64 (wrap64 h1), .int .u64 l1], .bool true]) (by simp only [results, Tryz.results196]; go_simp) rfl (r9 ai.1 ai.2 ?_);(repeat first | with_reducible exact Below.refl _ _ | with_reducible refine dC ?_ _)
  · have ai := Q5 H1 (.inl ‹_›)
    refine bodyPost_ret (v := .tuple #[.agg #[.int .i64 (wrap64 h1), .int .u64 l1], .bool true]) (by simp only [results, Tryz.results196]; go_simp) rfl (r9 ai.1 ai.2 ?_);(repeat first | with_reducible exact Below.refl _ _ | with_reducible refine dC ?_ _)
theorem afa (h1 l1 n : Int) (w : World) (H1 : dw h1 l1 n) :
    Calls ag 196 #[.agg #[.int .u64 h1, .int .u64 l1], .bool true] w (oZ (-n) w) := by
  go_enter Tryz.func196, Tryz.ntmps196
  go_wp2_with (go_at_call 166; refine (zh _ _ _ _ _ _ _ wJ (ae9 H1)).mono ?_; rintro e w1 ⟨fR, hO, rfl, hs, ab⟩; have vF := Below.cell ab (p := ⟨w.heap.size, 0, none⟩) (by (simp; omega)); have vR := Below.frozen ab (p := ⟨w.heap.size, 0, none⟩) (by (simp; omega)); have vG := Below.cell ab (p := ⟨w.heap.size, 1, none⟩) (by (simp; omega)); have vS := Below.frozen ab (p := ⟨w.heap.size, 1, none⟩) (by (simp; omega)); have xW := Below.cell ab (p := ⟨w.heap.size + 1, 0, none⟩) (by (simp; done)); have x9 := Below.frozen ab (p := ⟨w.heap.size + 1, 0, none⟩) (by (simp; done)); have xX := Below.cell ab (p := ⟨w.heap.size + 1, 1, none⟩) (by (simp; done)); have ya := Below.frozen ab (p := ⟨w.heap.size + 1, 1, none⟩) (by (simp; done)); have nG := Below.size ab; (try simp at nG); have wQ : ¬ w1.heap.size = w.heap.size := (by omega); have zj : ¬ w1.heap.size = w.heap.size + 1 := (by omega))
  · refine bodyPost_ret (v := .tuple #[.agg #[.int .i64 0, .int .u64 0], .bool false]) (by simp only [results, Tryz.results196]; go_simp) rfl (zM (aeV H1 hs ‹_› (by have h := ‹(!decide (fR < 0)) = true›; simpa using h)) ?_)
    (repeat first | with_reducible exact Below.refl _ _ | with_reducible refine dC ?_ _ | focus ((with_reducible refine gZ ?_ _ _ _ ?_); rotate_left; omega) | with_reducible refine eR ?_ ab)
  · have ai := Q4 H1 hs (.inr (by have h := ‹(!decide (fR < 0)) = false›; simpa using h))
    refine bodyPost_ret (v := .tuple #[.agg #[.int .i64 fR, .int .u64 hO], .bool true]) (by simp only [results, Tryz.results196]; go_simp) rfl (r9 ai.1 ai.2 ?_);(repeat first | with_reducible exact Below.refl _ _ | with_reducible refine dC ?_ _ | focus ((with_reducible refine gZ ?_ _ _ _ ?_); rotate_left; omega) | with_reducible refine eR ?_ ab)
  · have ai := Q4 H1 hs (.inl ‹_›)
    refine bodyPost_ret (v := .tuple #[.agg #[.int .i64 fR, .int .u64 hO], .bool true]) (by simp only [results, Tryz.results196]; go_simp) rfl (r9 ai.1 ai.2 ?_);(repeat first | with_reducible exact Below.refl _ _ | with_reducible refine dC ?_ _ | focus ((with_reducible refine gZ ?_ _ _ _ ?_); rotate_left; omega) | with_reducible refine eR ?_ ab)
theorem Ir (h1 l1 n : Int) (b : Bool) (w : World) (H1 : dw h1 l1 n) :
    Calls ag 196 #[.agg #[.int .u64 h1, .int .u64 l1], .bool b] w (oZ (if b then -n else n) w) := by
  cases b
  · exact afb h1 l1 n w H1
  · exact afa h1 l1 n w H1
theorem Z8 (h1 l1 n h2 l2 m : Int) (w : World) (H1 : dw h1 l1 n) (cQ : dw h2 l2 m) :
    Calls ag 218 #[.agg #[.int .u64 h1, .int .u64 l1], .agg #[.int .u64 h2, .int .u64 l2]] w (kz (.bool (decide (n < m))) w) := by
  go_enter Tryz.func218, Tryz.ntmps218
  go_wp2
  all_goals
    go_ret
    refine ⟨adZ ?_, by (repeat first | with_reducible exact Below.refl _ _ | with_reducible refine dC ?_ _)⟩;obtain ⟨b1, b2, aF⟩ := H1;obtain ⟨dQ, dz, aN⟩ := cQ;rw [lN];simp only [ca, true_iff, mZ, false_iff];omega
theorem afw (h1 l1 h2 l2 : Int) (b1 : 0 ≤ h1 ∧ h1 < 18446744073709551616) (b2 : 0 ≤ l1 ∧ l1 < 18446744073709551616)
   (dQ : 0 ≤ h2 ∧ h2 < 18446744073709551616) (dz : 0 ≤ l2 ∧ l2 < 18446744073709551616) (hle : h2 * 18446744073709551616 + l2 ≤ h1 * 18446744073709551616 + l1) :
   dw ((h1 - h2 - -((l1 - l2 - 0) / 18446744073709551616)) % 18446744073709551616) ((l1 - l2 - 0) % 18446744073709551616) ((h1 * 18446744073709551616 + l1) - (h2 * 18446744073709551616 + l2)) := by
  unfold dw;omega
theorem afx (h1 l1 n h2 l2 m : Int) (w : World) (H1 : dw h1 l1 n) (cQ : dw h2 l2 m) (hle : m ≤ n) :
    Calls ag 217 #[.agg #[.int .u64 h1, .int .u64 l1], .agg #[.int .u64 h2, .int .u64 l2]] w (aS (n - m) w) := by
  obtain ⟨b1, b2, rfl⟩ := H1;obtain ⟨dQ, dz, rfl⟩ := cQ;have hv := afw h1 l1 h2 l2 b1 b2 dQ dz hle;have aF := fun w => DD l1 l2 0 b2.1 b2.2 dz.1 dz.2 (by omega) (by omega) w;have aN := fun w => DD h1 h2 (-((l1 - l2 - 0) / 18446744073709551616)) b1.1 b1.2 dQ.1 dQ.2 (by omega) (by omega) w;generalize -((l1 - l2 - 0) / 18446744073709551616) = c at *;generalize (l1 - l2 - 0) % 18446744073709551616 = s at *;generalize (h1 - h2 - c) % 18446744073709551616 = s' at *;generalize -((h1 - h2 - c) / 18446744073709551616) = c' at *;generalize (h1 * 18446744073709551616 + l1) - (h2 * 18446744073709551616 + l2) = uZ at *;clear b1 b2 dQ dz hle
  go_enter Tryz.func217, Tryz.ntmps217
  go_wp2
  refine bodyPost_ret (v := .agg #[.int .u64 s', .int .u64 s]) (by simp only [results, Tryz.results217]; go_simp) rfl ⟨_, _, rfl, hv, ?_⟩;(repeat first | with_reducible exact Below.refl _ _ | with_reducible refine dC ?_ _)
end Go.Proofs.YtbcecodakfejaaaGreat
namespace Go.Proofs.YtbcecodakfejaaaGreat
def lW (n len : Nat) : Prop := (n = 0 ∧ len = 0) ∨ (1 ≤ len ∧ len ≤ 128 ∧ 2 ^ (len - 1) ≤ n ∧ n < 2 ^ len)
theorem qT : (2 : Nat) ^ 64 = 18446744073709551616 := by decide
theorem IC : (2 : Nat) ^ 128 = 340282366920938463463374607431768211456 := by decide
theorem NK (l : Nat) (h : l < 18446744073709551616) : lW l (Lib.bitLen l) := by
  by_cases e : l = 0
  · subst e
    exact .inl ⟨rfl, Lib.bitLenAux_zero 64⟩
  · obtain ⟨a, b, c⟩ := Lib.bitLenAux_bounds 64 l (by rw [qT]; exact h) e
    have d : Lib.bitLen l ≤ 64 := Lib.bitLen_le l 64 (dl _) (by rw [qT]; exact h);exact .inr ⟨a, by omega, b, c⟩
theorem Z4 (h l : Nat) (aA : h ≠ 0) (aR : h < 18446744073709551616) (hl : l < 18446744073709551616) : lW (h * 18446744073709551616 + l) (64 + Lib.bitLen h) ∧ Lib.bitLen h ≤ 64 := by
  obtain ⟨a, b, c⟩ := Lib.bitLenAux_bounds 64 h (by rw [qT]; exact aR) aA;have d : Lib.bitLen h ≤ 64 := Lib.bitLen_le h 64 (dl _) (by rw [qT]; exact aR);have e : Lib.bitLenAux 64 h = Lib.bitLen h := rfl;rw [e] at a b c;refine ⟨.inr ⟨by omega, by omega, ?_, ?_⟩, d⟩
  · rw [show 64 + Lib.bitLen h - 1 = (Lib.bitLen h - 1) + 64 by omega, Nat.pow_add, qT]
    generalize 2 ^ (Lib.bitLen h - 1) = P at *;omega
  · rw [show 64 + Lib.bitLen h = Lib.bitLen h + 64 by omega, Nat.pow_add, qT]
    generalize 2 ^ Lib.bitLen h = P at *;omega
theorem Z5 {n len : Nat} (h : lW n len) : len ≤ 128 := by rcases h with h | h <;> omega
theorem Z6 {n len k : Nat} (h : lW n len) (aA : n ≠ 0) (af : 128 < k + len) : 340282366920938463463374607431768211456 ≤ n * 2 ^ k := by
  rcases h with h | ⟨a, b, c, d⟩
  · omega
  · have h1 := j1 (2 ^ k) c
    rw [← Nat.pow_add] at h1;have h2 : 2 ^ 128 ≤ 2 ^ (len - 1 + k) := Nat.pow_le_pow_right (by decide) (by omega);rw [IC] at h2;omega
theorem Z7 {n len k : Nat} (h : lW n len) (af : k + len ≤ 128) : n * 2 ^ k < 340282366920938463463374607431768211456 := by
  rcases h with ⟨rfl, rfl⟩ | ⟨a, b, c, d⟩
  · simp
  · have h1 := Nat.mul_lt_mul_of_pos_right d (Nat.two_pow_pos k)
    rw [← Nat.pow_add] at h1;have h2 : 2 ^ (len + k) ≤ 2 ^ 128 := Nat.pow_le_pow_right (by decide) (by omega);rw [IC] at h2;omega
theorem ae3 (h l k : Nat) (hl : l < 18446744073709551616) (af : k < 64) (ab : (h * 18446744073709551616 + l) * 2 ^ k < 340282366920938463463374607431768211456) :
    h * 2 ^ k < 18446744073709551616 ∧ l / 2 ^ (64 - k) < 2 ^ k ∧ h * 2 ^ k + l / 2 ^ (64 - k) < 18446744073709551616 ∧
    (h * 18446744073709551616 + l) * 2 ^ k = (h * 2 ^ k + l / 2 ^ (64 - k)) * 18446744073709551616 + (l * 2 ^ k) % 18446744073709551616 := by
  have HW : 2 ^ k * 2 ^ (64 - k) = 18446744073709551616 := by rw [← Nat.pow_add, show k + (64 - k) = 64 by omega, qT]
  have adA : 0 < 2 ^ k := Nat.two_pow_pos k;have Ql : 0 < 2 ^ (64 - k) := Nat.two_pow_pos _;generalize 2 ^ k = p at *;generalize 2 ^ (64 - k) = q at *;have hd : l / q < p := by rw [Nat.div_lt_iff_lt_mul Ql, HW]; exact hl
  have aF : l * p = 18446744073709551616 * (l / q) + p * (l % q) := by
    conv => lhs; rw [← Nat.div_add_mod l q]
    rw [j0, ← HW, Nat.mul_comm (l % q) p, Nat.mul_assoc p q, Nat.mul_comm (q * (l / q)) p]
  have aN : p * (l % q) < 18446744073709551616 := by rw [← HW]; exact Nat.mul_lt_mul_of_pos_left (Nat.mod_lt _ Ql) adA
  have b5 : (l * p) % 18446744073709551616 = p * (l % q) := by rw [aF, Nat.mul_add_mod, Nat.mod_eq_of_lt aN]
  have eB : (h * 18446744073709551616 + l) * p = h * p * 18446744073709551616 + l * p := by rw [j0, Nat.mul_right_comm]
  rw [eB] at ab;refine ⟨by omega, hd, by omega, ?_⟩;rw [eB, b5, j0];omega
theorem HE (h l k : Nat) (h1 : h * 2 ^ k < 18446744073709551616) (h2 : l < 2 ^ k) (h3 : h * 2 ^ k + l < 18446744073709551616) :
    bits .or .u64 ((h * 2 ^ k : Nat) : Int) (l : Int) = ((h * 2 ^ k + l : Nat) : Int) := by
  rw [bits_or_u64_nat _ _ h1 (by omega), Nat.mul_comm h, ← Nat.two_pow_add_eq_or_of_lt h2]
theorem Q6 (h l k : Int) (uf : 0 ≤ h) (o6 : 0 ≤ l ∧ l < 18446744073709551616) (Kd : 0 ≤ k ∧ k < 64) (ab : (h * 18446744073709551616 + l) * 2 ^ k.toNat < 340282366920938463463374607431768211456) :
    ∃ H, bits .or .u64 (IntKind.u64.wrap (h * 2 ^ k.toNat)) (l / 2 ^ (64 - k).toNat) = H ∧ (0 ≤ H ∧ H < 18446744073709551616) ∧ (h * 18446744073709551616 + l) * 2 ^ k.toNat = H * 18446744073709551616 + IntKind.u64.wrap (l * 2 ^ k.toNat) := by
  obtain ⟨a, rfl⟩ := lO uf;obtain ⟨b, rfl⟩ := lO o6.1;obtain ⟨c, rfl⟩ := lO Kd.1;have UK : c < 64 := by omega
  rw [show (64 - (c : Int)).toNat = 64 - c by omega, ks] at *
  have c0 : (a * 18446744073709551616 + b) * 2 ^ c < 340282366920938463463374607431768211456 := by
    have e : ((a : Int) * 18446744073709551616 + b) * 2 ^ c = (((a * 18446744073709551616 + b) * 2 ^ c : Nat) : Int) := by simp
    rw [e] at ab;omega
  obtain ⟨s1, s2, bM, bN⟩ := ae3 a b c (by omega) UK c0
  have w1 : IntKind.u64.wrap ((a : Int) * 2 ^ c) = ((a * 2 ^ c : Nat) : Int) := by
    rw [show (a : Int) * 2 ^ c = ((a * 2 ^ c : Nat) : Int) by simp, IntKind.wrap_u64];omega
  have w2 : (b : Int) / 2 ^ (64 - c) = ((b / 2 ^ (64 - c) : Nat) : Int) := by simp
  have w3 : IntKind.u64.wrap ((b : Int) * 2 ^ c) = ((b * 2 ^ c % 18446744073709551616 : Nat) : Int) := by
    rw [show (b : Int) * 2 ^ c = ((b * 2 ^ c : Nat) : Int) by simp, IntKind.wrap_u64];omega
  refine ⟨_, rfl, ?_, ?_⟩
  · rw [w1, w2, HE _ _ _ s1 s2 bM]
    omega
  · rw [w1, w2, HE _ _ _ s1 s2 bM, w3]
    rw [show ((a : Int) * 18446744073709551616 + b) * 2 ^ c = (((a * 18446744073709551616 + b) * 2 ^ c : Nat) : Int) by simp, bN];omega
theorem ae2 (h l k : Int) (uf : 0 ≤ h) (o6 : 0 ≤ l) (Kd : 64 ≤ k) (ab : (h * 18446744073709551616 + l) * 2 ^ k.toNat < 340282366920938463463374607431768211456) :
    (0 ≤ IntKind.u64.wrap (l * 2 ^ (k - 64).toNat) ∧ IntKind.u64.wrap (l * 2 ^ (k - 64).toNat) < 18446744073709551616) ∧ (h * 18446744073709551616 + l) * 2 ^ k.toNat = IntKind.u64.wrap (l * 2 ^ (k - 64).toNat) * 18446744073709551616 + 0 := by
  obtain ⟨a, rfl⟩ := lO uf;obtain ⟨b, rfl⟩ := lO o6;obtain ⟨c, rfl⟩ : ∃ c : Nat, k = c + 64 := ⟨(k - 64).toNat, by omega⟩;rw [show ((c : Int) + 64 - 64).toNat = c by omega, show ((c : Int) + 64).toNat = c + 64 by omega] at *
  have e : ((a : Int) * 18446744073709551616 + b) * 2 ^ (c + 64) = (((a * 18446744073709551616 + b) * 2 ^ c * 18446744073709551616 : Nat) : Int) := by
    rw [Int.pow_add, ← jl];simp
  rw [e] at ab ⊢;rw [show (b : Int) * 2 ^ c = ((b * 2 ^ c : Nat) : Int) by simp, IntKind.wrap_u64];have hp : 0 < 2 ^ c := Nat.two_pow_pos c
  have aH : a = 0 := by
    rcases vb a with h | h
    · exact h
    · exfalso
      have h1 : 18446744073709551616 * 1 ≤ (a * 18446744073709551616 + b) * 2 ^ c := Nat.mul_le_mul (by omega) hp;omega
  subst aH;rw [Nat.zero_mul, jj] at *;omega
end Go.Proofs.YtbcecodakfejaaaGreat
namespace Go.Proofs.YtbcecodakfejaaaGreat
open Go.RowKit
def SR (n : Int) (w : World) (e : Ending) (w' : World) : Prop := ∃ H L, e = .returned (.tuple #[.int .u64 H, .int .u64 L]) ∧ dw H L n ∧ w = w'
theorem aaE {x y : Nat} (aa : x < 18446744073709551616) (ai : y < 18446744073709551616) : x * y < 18446744073709551616 * 18446744073709551616 := Nat.mul_lt_mul'' aa ai
theorem wP (x y : Int) (w : World) (aa : 0 ≤ x ∧ x < 18446744073709551616) (ai : 0 ≤ y ∧ y < 18446744073709551616) :
    Calls ag 179 #[.int .u64 x, .int .u64 y] w (SR (x * y) w) := by
  obtain ⟨X, rfl⟩ := lO aa.1;obtain ⟨Y, rfl⟩ := lO ai.1;refine (Tryz.bits_Mul64 X Y (by omega) (by omega) w).mono ?_;rintro e w' ⟨rfl, rfl⟩;have hl := aaE (x := X) (y := Y) (by omega) (by omega);refine ⟨_, _, rfl, ?_, rfl⟩;rw [show (X : Int) * (Y : Int) = ((X * Y : Nat) : Int) from (Int.natCast_mul X Y).symm];generalize X * Y = p at *;unfold dw;omega
def lA (n : Int) : Bool := decide (n < 340282366920938463463374607431768211456)
def vx (n : Int) (w : World) (e : Ending) (w' : World) : Prop := ∃ H L, e = .returned (.tuple #[.agg #[.int .u64 H, .int .u64 L], .bool (lA n)]) ∧ dw H L (if lA n then n else 0) ∧ Below w.heap.size w w'
theorem QO {n H L : Int} {w w' : World} (h : lA n = true) (k : dw H L n) (b : Below w.heap.size w w') : vx n w (.returned (.tuple #[.agg #[.int .u64 H, .int .u64 L], .bool true])) w' := ⟨H, L, by rw [h], by rw [h]; exact k, b⟩
theorem zJ {n : Int} {w w' : World} (h : lA n = false) (b : Below w.heap.size w w') : vx n w (.returned (.tuple #[.agg #[.int .u64 0, .int .u64 0], .bool false])) w' := ⟨0, 0, by rw [h], by rw [h]; exact y4, b⟩
theorem UQ {h1 l1 n h2 l2 m : Int} (H1 : dw h1 l1 n) (cQ : dw h2 l2 m) (bd : h1 ≠ 0) (bC : h2 ≠ 0) : lA (n * m) = false := by
  obtain ⟨b1, b2, aF⟩ := H1;obtain ⟨dQ, dz, aN⟩ := cQ;have au : 18446744073709551616 ≤ n := by omega
  have hm : 18446744073709551616 ≤ m := by omega
  have h := r5 au hm (by omega) (by omega);unfold lA;rw [jF];omega
theorem aaQ (h1 l1 n h2 l2 m : Int) (w : World) (H1 : dw h1 l1 n) (cQ : dw h2 l2 m) (bd : h1 ≠ 0) (bC : h2 ≠ 0) :
    Calls ag 194 #[.agg #[.int .u64 h1, .int .u64 l1], .agg #[.int .u64 h2, .int .u64 l2]] w (vx (n * m) w) := by
  have au := Lib.hid (UQ H1 cQ bd bC);have b1 : (h1 != 0) = true := by simpa using bd
  have b2 : (h2 != 0) = true := by simpa using bC
  clear bd bC
  go_enter Tryz.func194, Tryz.ntmps194
  go_wp2
  refine bodyPost_ret (v := .tuple #[.agg #[.int .u64 0, .int .u64 0], .bool false]) (by simp only [results, Tryz.results194]; go_simp) rfl (zJ au.out ?_);(repeat first | with_reducible exact Below.refl _ _ | with_reducible refine dC ?_ _)
theorem Nj {a b : Int} (h : dw a b 0) : a = 0 ∧ b = 0 := by
  obtain ⟨b1, b2, e⟩ := h;omega
theorem Oj {o u q hi lo p N : Int} (A : dw o u q) (C : dw hi lo p) (e : N = q * 18446744073709551616 + p) :
    (¬ o = 0 → lA N = false) ∧ (o = 0 → ((hi + u) / 18446744073709551616 != 0) = true → lA N = false) ∧
    (o = 0 → ((hi + u) / 18446744073709551616 != 0) = false → lA N = true ∧ dw ((hi + u) % 18446744073709551616) lo N) := by
  obtain ⟨a1, a2, rfl⟩ := A;obtain ⟨b1, b2, rfl⟩ := C;unfold lA dw;simp only [bne_iff_ne, bne_eq_false_iff_eq, ca, jF];omega
theorem O9 (x : Int) (h : 0 ≤ x ∧ x < 18446744073709551616) : bits .or .u64 0 x = x ∧ bits .or .u64 x 0 = x := by
  obtain ⟨X, rfl⟩ := lO h.1;have h1 := bits_or_u64_nat 0 X (by omega) (by omega);have h2 := bits_or_u64_nat X 0 (by omega) (by omega);rw [Nat.zero_or] at h1;rw [Nat.or_zero] at h2;exact ⟨h1, h2⟩
theorem aaR (l1 n h2 l2 m : Int) (w : World) (H1 : dw 0 l1 n) (cQ : dw h2 l2 m) :
    Calls ag 194 #[.agg #[.int .u64 0, .int .u64 l1], .agg #[.int .u64 h2, .int .u64 l2]] w (vx (n * m) w) := by
  have gU := H1.1; have z2 := H1.2.1; have z3 := cQ.1; have z4 := cQ.2.1
  go_enter Tryz.func194, Tryz.ntmps194
  go_wp2_with fail
  refine (wP _ _ _ gU z4).mono ?_;rintro e w1 ⟨abk, DI, rfl, dR, rfl⟩;rw [Int.zero_mul] at dR;obtain ⟨rfl, rfl⟩ := Nj dR;clear dR
  go_wp2_with fail
  refine (wP _ _ _ z2 z3).mono ?_;rintro e w1 ⟨abl, DJ, rfl, eG, rfl⟩
  go_wp2_with fail
  refine (wP _ _ _ z2 z4).mono ?_;rintro e w1 ⟨hi, lo, rfl, hC, rfl⟩;have o1 := (O9 DJ eG.2.1).1;have aF := fun w => AM hi DJ 0 hC.1.1 eG.2.1.1 (by omega) (by omega) w;rw [Int.add_zero] at aF
  have ry := Oj (N := n * m) eG hC (by
    rw [H1.2.2, cQ.2.2, Int.zero_mul, Int.zero_add, Int.mul_add, ← jl])
  obtain ⟨q1, q2, bE⟩ := ry;have nm := Lib.hid q1; have oX := Lib.hid q2; have Eh := Lib.hid bE;clear q1 q2 bE gU z2 z3 z4
  go_wp2
  · refine bodyPost_ret (v := .tuple #[.agg #[.int .u64 0, .int .u64 0], .bool false]) (by simp only [results, Tryz.results194]; go_simp) rfl (zJ (nm.out ‹_›) ?_)
    (repeat first | with_reducible exact Below.refl _ _ | with_reducible refine dC ?_ _)
  · refine bodyPost_ret (v := .tuple #[.agg #[.int .u64 0, .int .u64 0], .bool false]) (by simp only [results, Tryz.results194]; go_simp) rfl (zJ (oX.out ‹_› ‹_›) ?_)
    (repeat first | with_reducible exact Below.refl _ _ | with_reducible refine dC ?_ _)
  · have ai := Eh.out ‹_› ‹_›
    refine bodyPost_ret (v := .tuple #[.agg #[.int .u64 ((hi + DJ) % 18446744073709551616), .int .u64 lo], .bool true]) (by simp only [results, Tryz.results194]; go_simp) rfl (QO ai.1 ai.2 ?_);(repeat first | with_reducible exact Below.refl _ _ | with_reducible refine dC ?_ _)
theorem aaS (h1 l1 n l2 m : Int) (w : World) (H1 : dw h1 l1 n) (cQ : dw 0 l2 m) (k : h1 ≠ 0) :
    Calls ag 194 #[.agg #[.int .u64 h1, .int .u64 l1], .agg #[.int .u64 0, .int .u64 l2]] w (vx (n * m) w) := by
  have gU := H1.1; have z2 := H1.2.1; have z3 := cQ.1; have z4 := cQ.2.1;have ZJ : (h1 != 0) = true := by simpa using k
  clear k
  go_enter Tryz.func194, Tryz.ntmps194
  go_wp2_with fail
  refine (wP _ _ _ gU z4).mono ?_;rintro e w1 ⟨abk, DI, rfl, dR, rfl⟩
  go_wp2_with fail
  refine (wP _ _ _ z2 z3).mono ?_;rintro e w1 ⟨abl, DJ, rfl, eG, rfl⟩;rw [Int.mul_zero] at eG;obtain ⟨rfl, rfl⟩ := Nj eG;clear eG
  go_wp2_with fail
  refine (wP _ _ _ z2 z4).mono ?_;rintro e w1 ⟨hi, lo, rfl, hC, rfl⟩;have o1 := (O9 DI dR.2.1).2;have aF := fun w => AM hi DI 0 hC.1.1 dR.2.1.1 (by omega) (by omega) w;rw [Int.add_zero] at aF
  have ry := Oj (N := n * m) dR hC (by
    rw [H1.2.2, cQ.2.2, Int.zero_mul, Int.zero_add, Int.add_mul, Int.mul_right_comm])
  obtain ⟨q1, q2, bE⟩ := ry;have nm := Lib.hid q1; have oX := Lib.hid q2; have Eh := Lib.hid bE;clear q1 q2 bE gU z2 z3 z4
  go_wp2
  · refine bodyPost_ret (v := .tuple #[.agg #[.int .u64 0, .int .u64 0], .bool false]) (by simp only [results, Tryz.results194]; go_simp) rfl (zJ (nm.out ‹_›) ?_)
    (repeat first | with_reducible exact Below.refl _ _ | with_reducible refine dC ?_ _)
  · refine bodyPost_ret (v := .tuple #[.agg #[.int .u64 0, .int .u64 0], .bool false]) (by simp only [results, Tryz.results194]; go_simp) rfl (zJ (oX.out ‹_› ‹_›) ?_)
    (repeat first | with_reducible exact Below.refl _ _ | with_reducible refine dC ?_ _)
  · have ai := Eh.out ‹_› ‹_›
    refine bodyPost_ret (v := .tuple #[.agg #[.int .u64 ((hi + DI) % 18446744073709551616), .int .u64 lo], .bool true]) (by simp only [results, Tryz.results194]; go_simp) rfl (QO ai.1 ai.2 ?_);(repeat first | with_reducible exact Below.refl _ _ | with_reducible refine dC ?_ _)
theorem aaP (h1 l1 n h2 l2 m : Int) (w : World) (H1 : dw h1 l1 n) (cQ : dw h2 l2 m) :
    Calls ag 194 #[.agg #[.int .u64 h1, .int .u64 l1], .agg #[.int .u64 h2, .int .u64 l2]] w (vx (n * m) w) := by
  by_cases bd : h1 = 0
  · subst bd; exact aaR l1 n h2 l2 m w H1 cQ
  · by_cases bC : h2 = 0
    · subst bC; exact aaS h1 l1 n l2 m w H1 cQ bd
    · exact aaQ h1 l1 n h2 l2 m w H1 cQ bd bC
def SP (n : Int) (w : World) (e : Ending) (w' : World) : Prop := ∃ k : Nat, e = .returned (.int .i64 k) ∧ lW n.toNat k ∧ Below w.heap.size w w'
theorem UN (h : Int) (b : 0 ≤ h ∧ h < 18446744073709551616) : Lib.bitLen h.toNat ≤ 64 := Lib.bitLen_le _ 64 (dl _) (by rw [qT]; omega)
theorem Z3 (h1 l1 n : Int) (w : World) (H1 : dw h1 l1 n) :
    Calls ag 205 #[.agg #[.int .u64 h1, .int .u64 l1]] w (SP n w) := by
  obtain ⟨b1, b2, e⟩ := H1;have q1 := UN h1 b1
  by_cases k : h1 = 0
  · subst k
    have hl : Hid (lW n.toNat (Lib.bitLen l1.toNat)) := by
      rw [e, show (0 * 18446744073709551616 + l1).toNat = l1.toNat by omega];exact NK _ (by omega)
    clear e
    go_enter Tryz.func205, Tryz.ntmps205
    go_wp2_with (go_at_call 214; refine (Tryz.bits_Len64 _ _ (by omega) (by omega)).mono ?_; rintro e w' ⟨rfl, rfl⟩)
    go_ret
    exact ⟨_, rfl, hl.out, by (repeat first | with_reducible exact Below.refl _ _ | with_reducible refine dC ?_ _)⟩
  · have hl : Hid (lW n.toNat (64 + Lib.bitLen h1.toNat)) := by
      rw [e, show (h1 * 18446744073709551616 + l1).toNat = h1.toNat * 18446744073709551616 + l1.toNat by omega];exact (Z4 _ _ (by omega) (by omega) (by omega)).1
    have ZJ : (h1 != 0) = true := by simpa using k
    clear e k
    go_enter Tryz.func205, Tryz.ntmps205
    go_wp2_with (go_at_call 214; refine (Tryz.bits_Len64 _ _ (by omega) (by omega)).mono ?_; rintro e w' ⟨rfl, rfl⟩)
    go_ret
    exact ⟨_, by simp, hl.out, by (repeat first | with_reducible exact Below.refl _ _ | with_reducible refine dC ?_ _)⟩
theorem ae0 (h1 l1 n k : Int) (w : World) (H1 : dw h1 l1 n) (fX : 64 ≤ k) (bd : k < 128) (ab : n * 2 ^ k.toNat < 340282366920938463463374607431768211456) :
    Calls ag 206 #[.agg #[.int .u64 h1, .int .u64 l1], .int .u64 k] w (aS (n * 2 ^ k.toNat) w) := by
  obtain ⟨b1, b2, e⟩ := H1;rw [e] at ab ⊢;have oU := Lib.hid (ae2 h1 l1 k b1.1 b2.1 fX ab);clear e ab b1 b2
  go_enter Tryz.func206, Tryz.ntmps206
  go_wp2
  refine bodyPost_ret (v := .agg #[.int .u64 (IntKind.u64.wrap (l1 * 2 ^ (k - 64).toNat)), .int .u64 0]) (by simp only [results, Tryz.results206]; go_simp) rfl ⟨_, _, rfl, ⟨oU.out.1, by omega, oU.out.2⟩, ?_⟩;(repeat first | with_reducible exact Below.refl _ _ | with_reducible refine dC ?_ _)
theorem ae1 (h1 l1 n k : Int) (w : World) (H1 : dw h1 l1 n) (fX : 0 ≤ k) (bd : k < 64) (ab : n * 2 ^ k.toNat < 340282366920938463463374607431768211456) :
    Calls ag 206 #[.agg #[.int .u64 h1, .int .u64 l1], .int .u64 k] w (aS (n * 2 ^ k.toNat) w) := by
  obtain ⟨b1, b2, e⟩ := H1;rw [e] at ab ⊢;obtain ⟨H, hZ, lD, B8⟩ := Q6 h1 l1 k b1.1 b2 ⟨fX, bd⟩ ab;have Ss := Lib.hid hZ;have St := Lib.hid B8;clear e ab b1 b2 hZ B8
  go_enter Tryz.func206, Tryz.ntmps206
  go_wp2
  refine bodyPost_ret (v := .agg #[.int .u64 (bits BinOp.or IntKind.u64 (IntKind.u64.wrap (h1 * 2 ^ k.toNat)) (l1 / 2 ^ (64 - k).toNat)), .int .u64 (IntKind.u64.wrap (l1 * 2 ^ k.toNat))]) (by simp only [results, Tryz.results206]; go_simp) rfl ⟨_, _, rfl, ?_, ?_⟩
  · rw [Ss.out]
    exact ⟨lD, vi _, St.out⟩
  · (repeat first | with_reducible exact Below.refl _ _ | with_reducible refine dC ?_ _)
theorem aeZ (h1 l1 n k : Int) (w : World) (H1 : dw h1 l1 n) (fX : 0 ≤ k) (bd : k < 128) (ab : n * 2 ^ k.toNat < 340282366920938463463374607431768211456) :
    Calls ag 206 #[.agg #[.int .u64 h1, .int .u64 l1], .int .u64 k] w (aS (n * 2 ^ k.toNat) w) := by
  by_cases h : k < 64
  · exact ae1 h1 l1 n k w H1 fX h ab
  · exact ae0 h1 l1 n k w H1 (by omega) bd ab
end Go.Proofs.YtbcecodakfejaaaGreat
namespace Go.Proofs.YtbcecodakfejaaaGreat
open Go.RowKit
theorem sign_mul {h1 l1 n h2 l2 m : Int} (H1 : cG h1 l1 n) (cQ : cG h2 l2 m) : (if (!decide (h1 < 0) == decide (h2 < 0)) = true then -((n.natAbs : Int) * (m.natAbs : Int)) else (n.natAbs : Int) * (m.natAbs : Int)) = n * m := by
  have bd := H1.neg; have bC := cQ.neg;rcases oK n 0 with a | a <;> rcases oK m 0 with b | b
  · obtain ⟨x, rfl⟩ : ∃ x : Nat, n = -(x : Int) := ⟨n.natAbs, by omega⟩
    obtain ⟨y, rfl⟩ : ∃ y : Nat, m = -(y : Int) := ⟨m.natAbs, by omega⟩;simp [bd.2 a, bC.2 b, Int.neg_mul, Int.mul_neg]
  · obtain ⟨x, rfl⟩ : ∃ x : Nat, n = -(x : Int) := ⟨n.natAbs, by omega⟩
    obtain ⟨y, rfl⟩ : ∃ y : Nat, m = (y : Int) := ⟨m.natAbs, by omega⟩;have : ¬ h2 < 0 := by omega
    simp [bd.2 a, this, Int.neg_mul]
  · obtain ⟨x, rfl⟩ : ∃ x : Nat, n = (x : Int) := ⟨n.natAbs, by omega⟩
    obtain ⟨y, rfl⟩ : ∃ y : Nat, m = -(y : Int) := ⟨m.natAbs, by omega⟩;have : ¬ h1 < 0 := by omega
    simp [bC.2 b, this, Int.mul_neg]
  · obtain ⟨x, rfl⟩ : ∃ x : Nat, n = (x : Int) := ⟨n.natAbs, by omega⟩
    obtain ⟨y, rfl⟩ : ∃ y : Nat, m = (y : Int) := ⟨m.natAbs, by omega⟩;have t1 : ¬ h1 < 0 := by omega
    have t2 : ¬ h2 < 0 := by omega
    simp [t1, t2]
theorem afd {h1 l1 n h2 l2 m ph pl P : Int} (w : World) (H1 : cG h1 l1 n) (cQ : cG h2 l2 m) (e : Hid (P = n.natAbs * m.natAbs)) (hp : dw ph pl P) :
    Calls ag 196 #[.agg #[.int .u64 ph, .int .u64 pl], .bool (!decide (h1 < 0) == decide (h2 < 0))] w (oZ (n * m) w) := by
  rw [← sign_mul H1 cQ, ← e.out];exact Ir ph pl P _ w hp
end Go.Proofs.YtbcecodakfejaaaGreat
namespace Go.Proofs.YtbcecodakfejaaaGreat
open Go.RowKit
theorem afK {n m : Int} (aA : -9223372036854775808 ≤ n) (h1 : n < 9223372036854775808) (fX : -9223372036854775808 ≤ m) (bd : m < 9223372036854775808) : fits (n * m) = true := by
  have a : n.natAbs ≤ 9223372036854775808 := by omega
  have b : m.natAbs ≤ 9223372036854775808 := by omega
  have c := Nat.mul_le_mul a b;rw [← Int.natAbs_mul] at c;unfold fits;rw [ca];omega
theorem Tk (n : Int) (k : Nat) : ((n * 2 ^ k).natAbs : Int) = (n.natAbs : Int) * 2 ^ k := by
  rw [Int.natAbs_mul, Int.natAbs_pow, Int.natCast_mul];simp
theorem ae4 {n k : Int} {len : Nat} (h : lW n.natAbs len) (aA : n ≠ 0) (af : 0 ≤ k) (ay : 128 - (len : Int) < k) : fits (n * 2 ^ k.toNat) = false := by
  have h1 := Z6 h (by omega) (show 128 < k.toNat + len by omega);have h2 := Tk n k.toNat
  rw [show (n.natAbs : Int) * 2 ^ k.toNat = ((n.natAbs * 2 ^ k.toNat : Nat) : Int) by simp] at h2;unfold fits;rw [jF];omega
theorem ae5 {n k : Int} {len : Nat} (h : lW n.natAbs len) (aA : n ≠ 0) (af : 0 ≤ k) (ay : k ≤ 128 - (len : Int)) : k < 128 ∧ (n.natAbs : Int) * 2 ^ k.toNat < 340282366920938463463374607431768211456 := by
  have h1 := Z7 h (show k.toNat + len ≤ 128 by omega);rw [show (n.natAbs : Int) * 2 ^ k.toNat = ((n.natAbs * 2 ^ k.toNat : Nat) : Int) by simp];refine ⟨?_, by omega⟩;rcases h with h | h <;> omega
theorem ae8 {h1 l1 n : Int} (k : Nat) (H1 : cG h1 l1 n) : (if decide (h1 < 0) = true then -((n.natAbs : Int) * 2 ^ k) else (n.natAbs : Int) * 2 ^ k) = n * 2 ^ k := by
  have bd := H1.neg;rcases oK n 0 with a | a
  · obtain ⟨x, rfl⟩ : ∃ x : Nat, n = -(x : Int) := ⟨n.natAbs, by omega⟩
    rw [if_pos (ck (bd.2 a)), Int.natAbs_neg, Int.natAbs_natCast, Int.neg_mul]
  · obtain ⟨x, rfl⟩ : ∃ x : Nat, n = (x : Int) := ⟨n.natAbs, by omega⟩
    rw [if_neg (by simp; omega), Int.natAbs_natCast]
theorem afc {h1 l1 n ph pl P : Int} {k : Nat} (w : World) (H1 : cG h1 l1 n) (e : Hid (P = (n.natAbs : Int) * 2 ^ k)) (hp : dw ph pl P) :
    Calls ag 196 #[.agg #[.int .u64 ph, .int .u64 pl], .bool (decide (h1 < 0))] w (oZ (n * 2 ^ k) w) := by
  rw [← ae8 k H1, ← e.out];exact Ir ph pl P _ w hp
end Go.Proofs.YtbcecodakfejaaaGreat
namespace Go.Proofs.YtbcecodakfejaaaGreat
open Go.RowKit
end Go.Proofs.YtbcecodakfejaaaGreat
namespace Go.Proofs.YtbcecodakfejaaaGreat
open Go.RowKit
def bY (n : Int) : Int := n / 18446744073709551616
def dq (n : Int) : Int := n % 18446744073709551616
abbrev mc (n : Int) : br := .agg [.c (.int .i64 (bY n)), .c (.int .u64 (dq n))]
abbrev fL (n : Int) : ah := .w (mc n)
theorem lb {n : Int} (h : fits n = true) : cG (bY n) (dq n) n := by
 unfold fits at h;rw [ca] at h;unfold cG bY dq;omega
theorem Cg {H L n : Int} (h : cG H L n) : H = bY n ∧ L = dq n := by
 obtain ⟨a, b, rfl⟩ := h;unfold bY dq;omega
theorem wu : bY 0 = 0 := by decide
theorem wN : dq 0 = 0 := by decide
@[go_sem] theorem V8 (n m : Int) : fz (bY n) (dq n) (bY m) (dq m) = decide (n = m) := by
 unfold fz bY dq;rw [lN];simp;omega
@[go_sem] theorem ag8 (n : Int) : fz (bY n) (dq n) 0 0 = decide (n = 0) := by
 have := V8 n 0;rwa [wu, wN] at this
theorem Bo {n : Int} (aA : -9223372036854775808 ≤ n) (h1 : n < 9223372036854775808) : fits n = true := by unfold fits; rw [ca]; omega
theorem tr {n : Int} (aA : -9223372036854775808 ≤ n) (h1 : n < 9223372036854775808) : aC ag 152 [aB n] (fL n) :=
 ho [.int .i64 n] (.agg #[.int .i64 (bY n), .int .u64 (dq n)]) rfl rfl rfl rfl rfl fun W => (Jb n W aA h1).mono fun e w' ⟨H, L, he, hw, ab⟩ => by
  obtain ⟨rfl, rfl⟩ := Cg hw; exact ⟨he, ab⟩
theorem C6 {n : Int} (f : fits n = true) : aC ag 168 [fL n] (aB (cD n 0)) :=
 ho [.agg #[.int .i64 (bY n), .int .u64 (dq n)]] (.int .i64 (cD n 0)) rfl rfl rfl rfl rfl fun W => SW _ _ _ W (lb f)
theorem ac9 {n m : Int} (f : fits n = true) (g : fits m = true) : aC ag 197 [fL n, fL m] (aB (cD n m)) :=
 ho [.agg #[.int .i64 (bY n), .int .u64 (dq n)], .agg #[.int .i64 (bY m), .int .u64 (dq m)]] (.int .i64 (cD n m)) rfl rfl rfl rfl rfl fun W => IU _ _ _ _ _ _ W (lb f) (lb g)
abbrev wf (z : Int) : ah := .cj [mc (if fits z then z else 0), .one (.c (.bool (fits z)))]
theorem w7 {z : Int} {w w' : World} {e : Ending} (h : oZ z w e w') : e = .returned (.tuple #[.agg #[.int .i64 (bY (if fits z then z else 0)), .int .u64 (dq (if fits z then z else 0))], .bool (fits z)]) ∧ Below w.heap.size w w' := by
 obtain ⟨H, L, he, hw, ab⟩ := h;obtain ⟨rfl, rfl⟩ := Cg hw;exact ⟨he, ab⟩
theorem PL {n : Int} (f : fits n = true) : aC ag 169 [fL n] (wf (-n)) :=
 ho [.agg #[.int .i64 (bY n), .int .u64 (dq n)]] _ rfl rfl rfl rfl rfl fun W => (SK _ _ _ W (lb f)).mono fun e w' h => w7 h
theorem ac8 {n m : Int} (f : fits n = true) (g : fits m = true) : aC ag 204 [fL n, fL m] (wf (n + m)) :=
 ho [.agg #[.int .i64 (bY n), .int .u64 (dq n)], .agg #[.int .i64 (bY m), .int .u64 (dq m)]] _ rfl rfl rfl rfl rfl fun W => (RQ _ _ _ _ _ _ W (lb f) (lb g)).mono fun e w' h => w7 h
theorem PM {n m : Int} (f : fits n = true) (g : fits m = true) : aC ag 149 [fL n, fL m] (wf (n - m)) :=
 ho [.agg #[.int .i64 (bY n), .int .u64 (dq n)], .agg #[.int .i64 (bY m), .int .u64 (dq m)]] _ rfl rfl rfl rfl rfl fun W => (SZ _ _ _ _ _ _ W (lb f) (lb g)).mono fun e w' h => w7 h
theorem eh.frame {w w' : World} {neg : Bool} {A : Option Addr} {l c : Nat} {n : Int} (h : eh w neg A l c n) (ap : ∀ a, A = some a → 0 < l → w'.heap[a.block]? = w.heap[a.block]?) : eh w' neg A l c n := by
 obtain ⟨ds, ⟨h1, h2, h3, aE⟩, hS⟩ := h;refine ⟨ds, ⟨h1, h2, h3, fun hp => ?_⟩, hS⟩;obtain ⟨g, rfl, ao, aj⟩ := aE hp;have e := ap _ rfl hp;refine ⟨g, rfl, ?_, fun j ae => ?_⟩
 ·have cZ : w.heap[g]? = some w.heap[g] := Array.getElem?_eq_getElem ao;have ff : w'.heap[g]? = some w.heap[g] := e.trans cZ;exact (jH.1 ff).1
 ·have bm : w'.heap[(⟨g, j, none⟩ : Addr).block]? = w.heap[(⟨g, j, none⟩ : Addr).block]? := e;rw [World.cell?_of_block (w := w) bm]; exact aj j ae
def kY (n : Int) : eQ where
 holds w v := ∃ A l c, v = .slice A l c ∧ eh w (decide (n < 0)) A l c n
 kE w v b := ∃ A l c a, v = .slice A l c ∧ 0 < l ∧ A = some a ∧ a.block = b
 frame w w' v := by
  rintro ⟨A, l, c, rfl, h⟩ ap;exact ⟨⟨A, l, c, rfl, h.frame fun a aH hl => ap a.block ⟨A, l, c, a, rfl, hl, aH, rfl⟩⟩, fun b ab => ab⟩
 h7 w v b := by
  rintro ⟨A, l, c, rfl, ds, ⟨h1, h2, h3, aE⟩, hS⟩ ⟨dH, cw, c', a, e, hl, aH, ab⟩;cases e;obtain ⟨g, rfl, ao, aj⟩ := aE hl;cases aH;subst ab;exact ao
 cell w v := by rintro ⟨A, l, c, rfl, h⟩; rfl
abbrev lH (n : Int) : br := .agg [.c (.bool (decide (n < 0))), .p (kY n)]
abbrev e8 (n : Int) : ah := .w (lH n)
theorem CJ {U : Nat → Prop} {ad : Nat → Nat} {w : World} {x : Bool} {A : Option Addr} {l c : Nat} {n : Int} (h : eh w x A l c n) (c8 : ∀ a, A = some a → 0 < l → U a.block) : fE U ad w (lH n) (.agg #[.bool x, .slice A l c]) := by
 obtain rfl := h.Hz;refine ⟨[.bool (decide (n < 0)), .slice A l c], rfl, rfl, fun i y v ai hv => ?_⟩
 match i with
 | 0 => simp at ai hv; subst ai; subst hv; exact ⟨rfl, rfl⟩
 | 1 =>
  simp at ai hv;subst ai; subst hv;refine ⟨⟨A, l, c, rfl, h⟩, ?_⟩;rintro b ⟨dH, cw, c', a, e, hl, aH, ab⟩;cases e;subst ab;exact c8 a aH hl
 | i + 2 => simp at ai
theorem HA {U : Nat → Prop} {ad : Nat → Nat} {w : World} {v : Value} {n : Int} (h : fE U ad w (lH n) v) : ∃ A l c, v = .agg #[.bool (decide (n < 0)), .slice A l c] ∧ eh w (decide (n < 0)) A l c n ∧ ∀ a, A = some a → 0 < l → U a.block := by
 obtain ⟨vs, rfl, hl, hv⟩ := h
 match vs, hl with
 | [x, y], _ =>
  have aA := hv 0 _ x rfl rfl;have h1 := hv 1 _ y rfl rfl;obtain ⟨rfl, _⟩ := aA;obtain ⟨⟨A, l, c, rfl, h⟩, ap⟩ := h1;exact ⟨A, l, c, rfl, h, fun a aH hl => ap a.block ⟨A, l, c, a, rfl, hl, aH, rfl⟩⟩
def cN (k : Nat) (n : Int) : Prop := (n.natAbs : Int) < 10000 ^ k
theorem cN.len {w : World} {x : Bool} {A : Option Addr} {l c k : Nat} {n : Int} (b : cN k n) (h : eh w x A l c n) : l ≤ k := h.len b
theorem cN.up {k j : Nat} {n : Int} (b : cN k n) (h : k ≤ j) : cN j n := by
 unfold cN at *
 have : (10000 : Int) ^ k ≤ 10000 ^ j := by
  have := Nat.pow_le_pow_right (show 0 < 10000 by decide) h;have aF : ((10000 : Int) ^ k) = ((10000 ^ k : Nat) : Int) := by simp
  have aN : ((10000 : Int) ^ j) = ((10000 ^ j : Nat) : Int) := by simp
  rw [aF, aN]; omega
 omega
theorem adx (k : Nat) : (0 : Int) < 10000 ^ k := hr (by decide)
theorem cN.zn {n : Int} (h : fits n = true) : cN 10 n := by
 unfold fits at h;rw [ca] at h;unfold cN;rw [afG];omega
theorem cN.add {k : Nat} {n m : Int} (a : cN k n) (b : cN k m) : cN (k + 1) (n + m) := by
 unfold cN at *;rw [nb];omega
theorem cN.mul {k j : Nat} {n m : Int} (a : cN k n) (b : cN j m) : cN (k + j) (n * m) := by
 unfold cN at *;rw [Int.natAbs_mul, Int.pow_add, Int.natCast_mul];exact Int.mul_lt_mul' (kt a) b (by omega) (adx k)
theorem cN.PV (k : Nat) : cN (k + 1) (2 ^ k) := by unfold cN; exact PW k
theorem QD {U : Nat → Prop} {n : Int} {w w' : World} {e : Ending} (h : p0 n w e w') (c8 : ∀ b, w.heap.size ≤ b → U b) : ∃ v, e = .returned v ∧ cR U id w' (e8 n) v ∧ Below w.heap.size w w' := by
 obtain ⟨x, A, l, c, he, eC, ab, hF⟩ := h;exact ⟨_, he, CJ eC fun a aH _ => c8 _ (hF a aH), ab⟩
theorem HT {f : FuncId} {n m : Int} {r : ah} (bV : r.aV = true)
  (h : ∀ (U : Nat → Prop) (W : World) (A : Option Addr) (l c : Nat) (B : Option Addr) (cw c' : Nat), eh W (decide (n < 0)) A l c n → eh W (decide (m < 0)) B cw c' m →
   Calls ag f #[.agg #[.bool (decide (n < 0)), .slice A l c], .agg #[.bool (decide (m < 0)), .slice B cw c']] W fun e bb => ∃ v, e = .returned v ∧ cR (fun b => U b ∨ W.heap.size ≤ b) id bb r v ∧ Below W.heap.size W bb) : aC ag f [e8 n, e8 m] r := by
 refine ⟨fun x aa => ah.dd (by simp at aa; rcases aa with rfl | rfl <;> rfl), ah.dd bV, fun U W vs cI => ?_⟩
 match vs, cI with
 | [], cI => exact absurd cI.1 (by simp)
 | [_], cI => exact absurd cI.1 (by simp)
 | [v1, v2], cI =>
  obtain ⟨A, l, c, rfl, bd, _⟩ := HA (cI.2 0 _ _ rfl rfl);obtain ⟨B, cw, c', rfl, bC, _⟩ := HA (cI.2 1 _ _ rfl rfl);exact h U W A l c B cw c' bd bC
 | _ :: _ :: _ :: _, cI => exact absurd cI.1 (by simp)
theorem PE {n m : Int} (a : cN 900 n) (b : cN 900 m) : aC ag 71 [e8 n, e8 m] (e8 (n + m)) :=
 HT rfl fun U W A l c B cw c' h k => (Qo _ _ A B l c cw c' n m W h k (a.len h) (b.len k)).mono fun e w' h => QD h fun b ab => .inr ab
theorem u5 {n m : Int} (a : cN 400 n) (b : cN 400 m) : aC ag 77 [e8 n, e8 m] (e8 (n * m)) :=
 HT rfl fun U W A l c B cw c' h k => (adO _ _ A B l c cw c' n m W h k (a.len h) (b.len k)).mono fun e w' h => QD h fun b ab => .inr ab
theorem HO {n m : Int} (a : cN 1000 n) (b : cN 1000 m) : aC ag 76 [e8 n, e8 m] (aB (cD n m)) :=
 HT rfl fun U W A l c B cw c' h k => (adN _ _ A B l c cw c' n m W h k (a.len h) (b.len k)).mono fun e w' ⟨he, ab⟩ => ⟨_, he, ⟨rfl, rfl⟩, ab⟩
theorem HP {n : Int} (aA : -9223372036854775808 ≤ n) (h1 : n < 9223372036854775808) : aC ag 66 [aB n] (e8 n) :=
 HU [.int .i64 n] rfl rfl rfl fun W => (Qr n W aA h1).mono fun e w' ⟨x, A, l, c, he, eC, ab, hF⟩ => ⟨_, he, fun U c8 => CJ eC fun a aH _ => c8 _ (hF a aH), ab⟩
theorem PF {k : Nat} (af : k ≤ 800) : aC ag 108 [aB k] (e8 (2 ^ k)) :=
 HU [.int .i64 k] rfl rfl rfl fun W => (adQ k W af).mono fun e w' ⟨x, A, l, c, he, eC, ab, hF⟩ => ⟨_, he, fun U c8 => CJ eC fun a aH _ => c8 _ (hF a aH), ab⟩
theorem adj {f : FuncId} {n : Int} {r : ah} (bV : r.aV = true)
  (h : ∀ (U : Nat → Prop) (W : World) (A : Option Addr) (l c : Nat), eh W (decide (n < 0)) A l c n → (∀ a, A = some a → 0 < l → U a.block) →
   Calls ag f #[.agg #[.bool (decide (n < 0)), .slice A l c]] W fun e bb => ∃ v, e = .returned v ∧ cR (fun b => U b ∨ W.heap.size ≤ b) id bb r v ∧ Below W.heap.size W bb) : aC ag f [e8 n] r := by
 refine ⟨fun x aa => ah.dd (by simp at aa; subst aa; rfl), ah.dd bV, fun U W vs cI => ?_⟩
 match vs, cI with
 | [], cI => exact absurd cI.1 (by simp)
 | [v1], cI =>
  obtain ⟨A, l, c, rfl, bd, ap⟩ := HA (cI.2 0 _ _ rfl rfl);exact h U W A l c bd ap
 | _ :: _ :: _, cI => exact absurd cI.1 (by simp)
theorem ac5 {n : Int} (a : cN 1000 n) : aC ag 109 [e8 n] (e8 (-n)) :=
 adj rfl fun U W A l c h ap => (adP _ A l c n W h (a.len h)).mono fun e w' ⟨x, cw, he, eC, hle, ab⟩ => ⟨_, he, CJ eC fun a aH hl => .inl (ap a aH (by omega)), ab⟩
end Go.Proofs.YtbcecodakfejaaaGreat
namespace Go.Proofs.YtbcecodakfejaaaGreat
structure hD (u d a b : Int) : Prop where
  a0 : 2147483648 ≤ a
  a1 : a < 4294967296
  fN : 0 ≤ b
  b1 : b < 4294967296
  j9 : 0 ≤ u
  cr : u < a * 4294967296 + b
  d0 : 0 ≤ d
  d1 : d < 4294967296
def iQ (u d a b : Int) : Int := (u * 4294967296 + d) / (a * 4294967296 + b)
def h4 (u d a b : Int) : Int := (u * 4294967296 + d) % (a * 4294967296 + b)
structure lv (u d a b q r : Int) : Prop where
  sum : q * a + r = u
  q0 : 0 ≤ q
  gn : 0 ≤ r
  le : iQ u d a b ≤ q
variable {u d a b q r : Int}
theorem hD.lT (h : hD u d a b) : 0 < a * 4294967296 + b := by have := h.a0; have := h.fN; omega
theorem hD.q0 (h : hD u d a b) : 0 ≤ iQ u d a b := nc (by have := h.j9; have := h.d0; omega) (kt h.lT)
theorem hD.Dc (h : hD u d a b) : iQ u d a b < 4294967296 := by
  unfold iQ;refine Int.ediv_lt_of_lt_mul h.lT ?_;have h1 := h.cr; have h2 := h.d1;generalize a * 4294967296 + b = y at *;omega
theorem hD.le_iff (h : hD u d a b) (q : Int) : q ≤ iQ u d a b ↔ q * (a * 4294967296 + b) ≤ u * 4294967296 + d := by
  unfold iQ;exact nQ h.lT
theorem Hs (q a b : Int) : q * (a * 4294967296 + b) = q * a * 4294967296 + q * b := by rw [Int.mul_add, jl]
theorem hD.init (h : hD u d a b) : lv u d a b (u / a) (u - u / a * a) := by
  have aH : 0 < a := by have := h.a0; omega
  refine ⟨by omega, nc h.j9 (kt aH), ?_, ?_⟩
  · have := Int.ediv_mul_le u (show a ≠ 0 by omega)
    omega
  · have h1 := (h.le_iff _).1 (nM _)
    rw [Hs] at h1;rw [nQ aH];have h2 := fD h.q0 h.fN;have h3 := h.d1;omega
theorem hD.Nc (h : hD u d a b) : u - u / a * a < a ∧ u - u / a * a < 4294967296 := by
  have aH : 0 < a := by have := h.a0; omega
  have h1 := na u aH;rw [Int.emod_def, gR] at h1;have := h.a1;omega
theorem lv.down (h : hD u d a b) (t : lv u d a b q r) (k : 4294967296 ≤ q ∨ 4294967296 * r + d < q * b) : lv u d a b (q - 1) (r + a) ∧ 1 ≤ q := by
  have a8 : iQ u d a b < q := by
    rcases k with k | k
    · exact Int.lt_of_lt_of_le h.Dc k
    · rcases oK (iQ u d a b) q with l | l
      · exact l
      · have h1 := (h.le_iff q).1 l
        rw [Hs] at h1;have h2 := t.sum;generalize q * a = H0 at *;generalize q * b = H2 at *;omega
  have aA := h.q0;refine ⟨⟨?_, by omega, by have := t.gn; have := h.a0; omega, by omega⟩, by omega⟩;rw [Int.sub_mul, ← t.sum];omega
theorem lv.done (h : hD u d a b) (t : lv u d a b q r) (k : q * b ≤ 4294967296 * r + d) : q = iQ u d a b := by
  have h1 : q ≤ iQ u d a b := by
    rw [h.le_iff, Hs];have h2 := t.sum;generalize q * a = H0 at *;generalize q * b = H2 at *;omega
  have := t.le;omega
theorem lv.Db (h : hD u d a b) (t : lv u d a b q r) : q < 8589934592 := by
  rcases oK q 8589934592 with l | l
  · exact l
  · have h1 : 8589934592 * 2147483648 ≤ q * a := r5 l h.a0 (by omega) t.q0
    have h2 := t.sum; have h3 := h.cr; have aE := h.b1; have cZ := h.a1; have ff := t.gn;omega
theorem lv.small (h : hD u d a b) (t : lv u d a b q r) (k : 4294967296 ≤ r) : q < 4294967296 := by
  rcases oK q 4294967296 with l | l
  · exact l
  · have h1 := lh l (show (0 : Int) ≤ a by have := h.a0; omega)
    have h2 := t.sum; have h3 := h.cr; have aE := h.b1;omega
theorem lv.ox (h : hD u d a b) (t : lv u d a b q r) (k : q < 4294967296) : 0 ≤ q * b ∧ q * b < 18446744073709551616 := by
  refine ⟨fD t.q0 h.fN, ?_⟩;have h1 : q * b ≤ 4294967295 * 4294967295 := r5 (by omega) (by have := h.b1; omega) h.fN (by omega);omega
theorem lv.out (h : hD u d a b) (t : lv u d a b q r) (k : 4294967296 ≤ r) : q = iQ u d a b := by
  have h1 := t.small h k;refine t.done h ?_;have h2 := (t.ox h h1).2;have h3 := h.d0;omega
theorem hD.rest (h : hD u d a b) : IntKind.u64.wrap (IntKind.u64.wrap (IntKind.u64.wrap (u * 4294967296) + d) - IntKind.u64.wrap (iQ u d a b * (a * 4294967296 + b))) = h4 u d a b := by
  have h1 : u * 4294967296 + d - iQ u d a b * (a * 4294967296 + b) = h4 u d a b := by
    unfold iQ h4;rw [Int.emod_def, gR (a * 4294967296 + b)]
  have h2 : 0 ≤ h4 u d a b := nP _ (by have := h.lT; omega);have h3 : h4 u d a b < a * 4294967296 + b := na _ h.lT;have aE := h.a1; have cZ := h.b1;simp only [IntKind.wrap_u64];generalize h4 u d a b = k at *;generalize iQ u d a b * (a * 4294967296 + b) = p at *;omega
theorem hD.next (h : hD u d a b) (e : Int) (cW : 0 ≤ e ∧ e < 4294967296) : hD (h4 u d a b) e a b :=
  ⟨h.a0, h.a1, h.fN, h.b1, nP _ (by have := h.lT; omega), na _ h.lT, cW.1, cW.2⟩
theorem hD.two (h : hD u d a b) (e : Int) (cW : 0 ≤ e ∧ e < 4294967296) :
    iQ u d a b * 4294967296 + iQ (h4 u d a b) e a b = (u * 18446744073709551616 + d * 4294967296 + e) / (a * 4294967296 + b) ∧ h4 (h4 u d a b) e a b = (u * 18446744073709551616 + d * 4294967296 + e) % (a * 4294967296 + b) := by
  have k := h.next e cW
  have lT := h.lT;have s1 : u * 4294967296 + d = (a * 4294967296 + b) * iQ u d a b + h4 u d a b := (pK _ _).symm;have s2 : h4 u d a b * 4294967296 + e = (a * 4294967296 + b) * iQ (h4 u d a b) e a b + h4 (h4 u d a b) e a b := (pK _ _).symm;have gn : 0 ≤ h4 (h4 u d a b) e a b := nP _ (by omega);have b9 : h4 (h4 u d a b) e a b < a * 4294967296 + b := na _ lT;generalize h4 (h4 u d a b) e a b = R at *;generalize iQ (h4 u d a b) e a b = oX at *;generalize h4 u d a b = bg at *;generalize iQ u d a b = nm at *;generalize a * 4294967296 + b = y at *
  have t : u * 18446744073709551616 + d * 4294967296 + e = R + y * (nm * 4294967296 + oX) := by
    rw [Int.mul_add, ← jl];generalize y * nm = p at *;generalize y * oX = p2 at *;omega
  rw [t]
  constructor
  · rw [Int.add_mul_ediv_left _ _ (by omega), Int.ediv_eq_zero_of_lt gn b9]
    omega
  · rw [Int.add_mul_emod_self_left, Int.emod_eq_of_lt gn b9]
structure Lz (y s : Int) : Prop where
  dB : 0 ≤ s
  s1 : s < 64
  lo : 9223372036854775808 ≤ y * 2 ^ s.toNat
  hi : y * 2 ^ s.toNat < 18446744073709551616
theorem NV (y : Int) (aA : 0 < y) (h1 : y < 18446744073709551616) : Lz y (64 - (Lib.bitLen y.toNat : Int)) := by
  obtain ⟨n, rfl⟩ := lO (kt aA);rw [ks];rcases NK n (by omega) with ⟨h, _⟩ | ⟨l1, _, ZP, ZQ⟩
  · omega
  · have l2 : Lib.bitLen n ≤ 64 := Lib.bitLen_le n 64 (dl _) (by rw [qT]; omega)
    have e : (64 - (Lib.bitLen n : Int)).toNat = 64 - Lib.bitLen n := by omega
    have f : (n : Int) * 2 ^ (64 - Lib.bitLen n) = ((n * 2 ^ (64 - Lib.bitLen n) : Nat) : Int) := by simp
    have g1 : 2 ^ 63 ≤ n * 2 ^ (64 - Lib.bitLen n) := by
      have := j1 (2 ^ (64 - Lib.bitLen n)) ZP;rw [← Nat.pow_add, show Lib.bitLen n - 1 + (64 - Lib.bitLen n) = 63 by omega] at this;exact this
    have g2 : n * 2 ^ (64 - Lib.bitLen n) < 2 ^ 64 := by
      have := Nat.mul_lt_mul_of_pos_right ZQ (Nat.two_pow_pos (64 - Lib.bitLen n));rw [← Nat.pow_add, show Lib.bitLen n + (64 - Lib.bitLen n) = 64 by omega] at this;exact this
    rw [qT] at g2;rw [show (2 : Nat) ^ 63 = 9223372036854775808 by decide] at g1;exact ⟨by omega, by omega, by rw [e, f]; omega, by rw [e, f]; omega⟩
structure Nm (hi lo y s U V Y : Int) : Prop where
  y : Y = y * 2 ^ s.toNat
  n : (hi * 18446744073709551616 + lo) * 2 ^ s.toNat = U * 18446744073709551616 + V
  j9 : 0 ≤ U
  cr : U < Y
  v0 : 0 ≤ V
  v1 : V < 18446744073709551616
theorem aa8 {hi lo y s : Int} (aA : 0 ≤ hi) (h1 : hi < y) (l : 0 ≤ lo ∧ lo < 18446744073709551616) (k : Lz y s) :
    Nm hi lo y s (bits .or .u64 (IntKind.u64.wrap (hi * 2 ^ s.toNat)) (lo / 2 ^ (64 - s).toNat)) (IntKind.u64.wrap (lo * 2 ^ s.toNat)) (IntKind.u64.wrap (y * 2 ^ s.toNat)) := by
  have lI : (0 : Int) < 2 ^ s.toNat := hr (by omega)
  have t : (hi * 18446744073709551616 + lo) * 2 ^ s.toNat < y * 2 ^ s.toNat * 18446744073709551616 := by
    rw [Int.mul_right_comm];exact Int.mul_lt_mul_of_pos_right (by omega) lI
  have ou := k.hi;obtain ⟨H, aF, aN, b5⟩ := Q6 hi lo s aA l ⟨k.dB, k.s1⟩ (by omega)
  have w : IntKind.u64.wrap (y * 2 ^ s.toNat) = y * 2 ^ s.toNat := by
    have := k.lo;rw [IntKind.wrap_u64];omega
  rw [aF, w];have v : 0 ≤ IntKind.u64.wrap (lo * 2 ^ s.toNat) ∧ IntKind.u64.wrap (lo * 2 ^ s.toNat) < 18446744073709551616 := by rw [IntKind.wrap_u64]; omega
  refine ⟨rfl, b5, aN.1, ?_, v.1, v.2⟩;rw [b5] at t;omega
theorem JS (x : Int) (h : 0 ≤ x ∧ x < 18446744073709551616) : bits .and .u64 x 4294967295 = x % 4294967296 := by
  obtain ⟨X, rfl⟩ := lO h.1;have h1 := bits_and_u64_nat X 4294967295 (by omega) (by omega);rw [show X &&& 4294967295 = X % 4294967296 from Nat.and_two_pow_sub_one_eq_mod X 32] at h1;rw [show ((4294967295 : Nat) : Int) = 4294967295 from rfl] at h1;rw [h1];omega
theorem Nm.ZM {hi lo y s U V Y : Int} (h : Nm hi lo y s U V Y) (k : Lz y s) : hD U (V / 4294967296) (Y / 4294967296) (Y % 4294967296) := by
  have a := h.y; have b := h.j9; have c := h.cr; have d := h.v0; have e := h.v1; have f := k.lo; have g := k.hi
  constructor <;> omega
theorem Nm.quo {hi lo y s U V Y : Int} (h : Nm hi lo y s U V Y) (k : Lz y s) : (U * 18446744073709551616 + V / 4294967296 * 4294967296 + V % 4294967296) / (Y / 4294967296 * 4294967296 + Y % 4294967296) = (hi * 18446744073709551616 + lo) / y ∧
    (U * 18446744073709551616 + V / 4294967296 * 4294967296 + V % 4294967296) % (Y / 4294967296 * 4294967296 + Y % 4294967296) / 2 ^ s.toNat = (hi * 18446744073709551616 + lo) % y := by
  have lI : (0 : Int) < 2 ^ s.toNat := hr (by omega);rw [show U * 18446744073709551616 + V / 4294967296 * 4294967296 + V % 4294967296 = U * 18446744073709551616 + V by omega, show Y / 4294967296 * 4294967296 + Y % 4294967296 = Y by omega, ← h.n, h.y];generalize (2 : Int) ^ s.toNat = p at *
  constructor
  · exact Int.mul_ediv_mul_of_pos_left _ _ lI
  · rw [Int.emod_def, Int.mul_ediv_mul_of_pos_left _ _ lI, Int.mul_right_comm, ← Int.sub_mul, Int.mul_ediv_cancel _ (by omega), Int.emod_def]
end Go.Proofs.YtbcecodakfejaaaGreat
namespace Go.Proofs.YtbcecodakfejaaaGreat
theorem PY (s : Int) (dB : 0 ≤ s) (s1 : s < 64) : (2 : Int) * 2 ^ (63 - s).toNat * 2 ^ s.toNat = 18446744073709551616 ∧ (0 : Int) < 2 ^ (63 - s).toNat ∧ (0 : Int) < 2 ^ s.toNat := by
  refine ⟨?_, hr (by omega), hr (by omega)⟩;rw [jl, ← Int.pow_add, show (63 - s).toNat + s.toNat = 63 by omega];decide
theorem WJ (A b s T low : Int) (bG : 0 ≤ A) (gV : A ≤ 170141183460469231731687303715884105728) (dB : 0 ≤ s) (s1 : s < 64) (e : b * 2 ^ s.toNat = T * 18446744073709551616 + low) (qw : 0 ≤ low) (l1 : low < 18446744073709551616) (S1 : 9223372036854775808 ≤ T) :
    A / b ≤ A / 2 / T / 2 ^ (63 - s).toNat ∧ A / 2 / T / 2 ^ (63 - s).toNat ≤ A / b + 1 ∧ A / 2 / T / 2 ^ (63 - s).toNat ≤ 9223372036854775808 := by
  obtain ⟨p1, p2, p3⟩ := PY s dB s1;generalize (2 : Int) ^ (63 - s).toNat = c at *;generalize (2 : Int) ^ s.toNat = p at *;rw [wZ (show (0 : Int) ≤ T by omega), wZ (show (0 : Int) ≤ 2 by omega)]
 
  have ey : T * (2 * c) * p = T * 18446744073709551616 := by rw [jl, p1]
  have c2 : 2 ≤ 2 * c := by omega
  have Sc : 18446744073709551616 ≤ T * (2 * c) := by
    have := r5 S1 c2 (by omega) (by omega);omega
  have Vy : T * (2 * c) ≤ b := by
    have : T * (2 * c) * p ≤ b * p := by rw [ey, e]; omega
    exact Int.le_of_mul_le_mul_right this p3
  have ag5 : b < T * (2 * c) + 2 * c := by
    have : b * p < (T * (2 * c) + 2 * c) * p := by rw [Int.add_mul, ey, p1, e]; omega
    exact Int.lt_of_mul_lt_mul_right this (kt p3)
  rw [show 2 * (T * c) = T * (2 * c) by rw [← jl, gR 2 T, jl]];generalize vZ : T * (2 * c) = D at *;have Se : 0 < D := by omega
  have UR : 0 < b := by omega
  have g1 : A / D * D ≤ A := Int.ediv_mul_le A (by omega);have g0 : 0 ≤ A / D := nc bG (by omega)
  have gt : A / D ≤ 9223372036854775808 := by
    rcases oK 9223372036854775808 (A / D) with h | h
    · have := r5 (show 9223372036854775809 ≤ A / D by omega) Sc (by omega) g0
      omega
    · exact h
  refine ⟨?_, ?_, gt⟩
  · rw [nQ Se]
    have h1 : A / b * b ≤ A := Int.ediv_mul_le A (by omega);have h2 : A / b * D ≤ A / b * b := pJ Vy (nc bG (by omega));omega
  · have : A / D - 1 ≤ A / b := by
      rw [nQ UR];rcases oK 0 (A / D) with h | h
      · have h2 : (A / D - 1) * b ≤ (A / D - 1) * (D + 2 * c) := pJ (by omega) (by omega)
        have h3 : (A / D - 1) * (2 * c) ≤ T * (2 * c) := lh (by omega) (by omega);rw [Int.mul_add, Int.sub_mul (A / D) 1 D, Int.one_mul] at h2;omega
      · have h2 : (A / D - 1) * b ≤ 0 := Int.mul_nonpos_of_nonpos_of_nonneg (by omega) (by omega)
        omega
    omega
theorem abC (h l : Nat) (h1 : h * 9223372036854775808 < 18446744073709551616) (h2 : l < 9223372036854775808) (h3 : h * 9223372036854775808 + l < 18446744073709551616) :
    bits .or .u64 ((h * 9223372036854775808 : Nat) : Int) (l : Int) = ((h * 9223372036854775808 + l : Nat) : Int) := by
  have e := HE h l 63;rw [show (2 : Nat) ^ 63 = 9223372036854775808 by decide] at e;exact e h1 h2 h3
theorem W8 (h l : Int) (uf : 0 ≤ h ∧ h < 18446744073709551616) (o6 : 0 ≤ l ∧ l < 18446744073709551616) :
    ∃ L, bits .or .u64 (IntKind.u64.wrap (h * 9223372036854775808)) (l / 2) = L ∧ (0 ≤ L ∧ L < 18446744073709551616) ∧ h / 2 * 18446744073709551616 + L = (h * 18446744073709551616 + l) / 2 := by
  obtain ⟨a, rfl⟩ := lO uf.1;obtain ⟨b, rfl⟩ := lO o6.1
  have w1 : IntKind.u64.wrap ((a : Int) * 9223372036854775808) = ((a % 2 * 9223372036854775808 : Nat) : Int) := by
    rw [IntKind.wrap_u64];omega
  have w2 : (b : Int) / 2 = ((b / 2 : Nat) : Int) := by omega
  refine ⟨_, rfl, ?_⟩;rw [w1, w2, abC _ _ (by omega) (by omega) (by omega)];omega
theorem aag {h l s : Int} (k : Lz h s) (aA : 0 ≤ h) (qw : 0 ≤ l) (l1 : l < 18446744073709551616) :
    (h * 18446744073709551616 + l) * 2 ^ s.toNat < 340282366920938463463374607431768211456 ∧ 170141183460469231731687303715884105728 ≤ (h * 18446744073709551616 + l) * 2 ^ s.toNat := by
  obtain ⟨p1, p2, p3⟩ := PY s k.dB k.s1;have lo := k.lo; have hi := k.hi;generalize (2 : Int) ^ (63 - s).toNat = c at *;generalize (2 : Int) ^ s.toNat = p at *
  have aj : h < 2 * c := by
    rw [← p1] at hi;exact Int.lt_of_mul_lt_mul_right hi (kt p3)
  have h2 : (h + 1) * p ≤ 2 * c * p := lh (by omega) (kt p3);have h3 : l * p ≤ 18446744073709551615 * p := lh (by omega) (kt p3);have aE : 0 ≤ l * p := fD qw (kt p3);rw [Int.add_mul, Int.one_mul, p1] at h2;rw [Int.add_mul, Int.mul_right_comm];generalize h * p = hp at *;generalize l * p = ah8 at *;omega
end Go.Proofs.YtbcecodakfejaaaGreat
namespace Go.Proofs.YtbcecodakfejaaaGreat
open Go.RowKit
theorem UM {w W : World} (h : Below w.heap.size w W) (n : Nat) : Below w.heap.size w (W.drewN n) := ⟨h.os, h.tape, h.output, h.size, h.block⟩
def SQ (y : Int) (w : World) (e : Ending) (w' : World) : Prop := ∃ s : Int, e = .returned (.int .i64 s) ∧ Lz y s ∧ w = w'
theorem aaf (y : Int) (w : World) (aA : 0 < y) (h1 : y < 18446744073709551616) : Calls ag 219 #[.int .u64 y] w (SQ y w) := by
  refine (Tryz.bits_LeadingZeros64 y w (by omega) (by omega)).mono ?_;rintro e w' ⟨rfl, rfl⟩;exact ⟨_, rfl, NV y aA h1, rfl⟩
theorem ad0 {a b c d : Int} (h : a = c) (k : b = d) : Ending.returned (.tuple #[.int .u64 a, .int .u64 b]) = .returned (.tuple #[.int .u64 c, .int .u64 d]) := by rw [h, k]
def En (q r : Int) (w : World) (e : Ending) (w' : World) : Prop := e = .returned (.tuple #[.int .u64 q, .int .u64 r]) ∧ Below w.heap.size w w'
theorem Vu (lo y : Int) (w : World) (l : 0 ≤ lo ∧ lo < 18446744073709551616) (lT : 0 < y) (jo : y < 18446744073709551616) :
    Calls ag 215 #[.int .u64 0, .int .u64 lo, .int .u64 y] w (En (lo / y) (lo % y) w) := by
  have fJ : (y == 0) = false := by simp; omega
  have dY : decide (y ≤ 0) = false := by simp; omega
  obtain ⟨qw, l1⟩ := l
  go_enter Tryz.func215, Tryz.ntmps215
  go_wp2
  go_quiet (fail)
  go_wp2
  go_ret2
  exact ⟨rfl, UM (Below.refl _ _) _⟩
theorem Vt (hi lo y : Int) (w : World) (aA : 0 < hi) (h1 : hi < y) (l : 0 ≤ lo ∧ lo < 18446744073709551616) (jo : y < 18446744073709551616) :
    Calls ag 215 #[.int .u64 hi, .int .u64 lo, .int .u64 y] w (En ((hi * 18446744073709551616 + lo) / y) ((hi * 18446744073709551616 + lo) % y) w) := by
  have fJ : (y == 0) = false := by simp; omega
  have dY : decide (y ≤ hi) = false := by simp; omega
  have et : (hi == 0) = false := by simp; omega
  go_enter Tryz.func215, Tryz.ntmps215
  go_wp2_with fail
  refine (aaf y _ (by omega) jo).mono ?_;rintro e w1 ⟨s, rfl, hs, rfl⟩;have pw := hs.dB; have s6 := hs.s1;have YI : IntKind.u64.wrap s = s := by rw [IntKind.wrap_u64]; omega
  have s3 := aa8 (kt aA) h1 l hs;generalize c8 : bits .or .u64 (IntKind.u64.wrap (hi * 2 ^ s.toNat)) (lo / 2 ^ (64 - s).toNat) = U at s3;generalize pk : IntKind.u64.wrap (lo * 2 ^ s.toNat) = V at s3;generalize v8 : IntKind.u64.wrap (y * 2 ^ s.toNat) = Y at s3;have jU := s3.ZM hs;have Gw := s3.quo hs;have Me : 0 ≤ Y ∧ Y < 18446744073709551616 := by have := jU.a0; have := jU.a1; omega
  have aho := JS Y Me;have ahn := JS V ⟨s3.v0, s3.v1⟩;have two := jU.two (V % 4294967296) (by omega);rw [Gw.1] at two;have Mf : Y / 4294967296 * 4294967296 + Y % 4294967296 = Y := by omega
  have Dh := jU.rest;have y9 := jU.next (V % 4294967296) (by omega)
  have zD := y9.rest;rw [Mf] at Dh zD;have VF : 0 ≤ V % 4294967296 ∧ V % 4294967296 < 4294967296 := by omega
  generalize hd : V / 4294967296 = d at *;generalize he : V % 4294967296 = e at *;generalize aH : Y / 4294967296 = a at *;generalize ab : Y % 4294967296 = b at *;have a0 := jU.a0; have a1 := jU.a1; have fN := jU.fN; have b1 := jU.b1; have j9 := jU.j9; have d0 := jU.d0; have d1 := jU.d1;have cr : U < 18446744073709551616 := by have := jU.cr; omega
  have agH : (a == 0) = false := by simp; omega
  have pW := Lib.hid two; have Sp := Lib.hid Gw.2; have tR := Lib.hid jU; have ls := Lib.hid y9;have aij := jU.Dc; have aii := jU.q0; have Qi := y9.Dc; have Qh := y9.q0;have t1 := jU.init; have Rf := jU.Nc;have i1 := t1.Db jU;have i2 : 0 ≤ U / a := t1.q0
  have i3 : IntKind.u64.wrap (U / a * a) = U / a * a := by
    have := t1.sum; have := t1.gn; rw [IntKind.wrap_u64];have : 0 ≤ U / a * a := fD i2 (by omega);omega
  have i4 := t1.gn;have i7 : 0 ≤ U / a * a := fD i2 (by omega);obtain ⟨m1, wx⟩ : ∃ m, m = U / a * a := ⟨_, rfl⟩;rw [← wx] at i4 i7 t1 Rf;have ahM : IntKind.u64.wrap (U / a * a) = m1 := by rw [i3, wx]
  obtain ⟨i5, i6⟩ := Rf;have sv := Lib.hid t1;generalize Ma : iQ U d a b = nm at *;generalize W3 : h4 U d a b = k0 at *;have D6 := Lib.hid Ma;have Sq := Lib.hid Dh; have Sr := Lib.hid zD;clear two Gw jU y9 s3 Mf VF Me h1 aA l jo i3 wx t1 Ma W3 Dh zD
  go_upto_block 0 with fail
  go_cut [15, 16] (fun zP vf tJ => w = tJ ∧ zP = .int .u64 nm ∧ ∃ r, vf = .int .u64 r)
  case first =>
    go_wp2_with fail
    go_loop [15, 16] (fun zP vf => ∃ q r : Int, zP = .int .u64 q ∧ vf = .int .u64 r ∧ lv U d a b q r ∧ r < 4294967296) (fun zP _ => (intOf zP).toNat)
    case atStart => exact ⟨_, _, rfl, rfl, sv.out, i6⟩
    case round =>
      obtain ⟨q, r, rfl, rfl, ax, al⟩ := hrel;have ak := ax.Db tR.out;have rE := ax.q0;have Yk := ax.gn
      by_cases ab : 4294967296 ≤ q
      · obtain ⟨fG, s5⟩ := ax.down tR.out (.inl ab)
        have mB := Lib.hid fG;clear fG
        by_cases aa : 4294967296 ≤ r + a
        · have iN := mB.out.out tR.out aa
          rw [D6.out] at iN;have iC := Lib.hid iN;clear iN
          go_wp2_with fail
          go_meet
          exact ⟨rfl, congrArg _ iC.out, _, rfl⟩
        · go_wp2_with fail
          go_round
          case rel => exact ⟨_, _, rfl, rfl, mB.out, by omega⟩
          case measure => simp [intOf]; omega
      · have Gj := ax.ox tR.out (by omega)
        obtain ⟨P, dV⟩ : ∃ P, P = q * b := ⟨_, rfl⟩;rw [← dV] at Gj;have WZ : IntKind.u64.wrap (q * b) = P := by rw [← dV, IntKind.wrap_u64]; omega
        have xr := Lib.hid dV;clear dV
        by_cases aj : 4294967296 * r + d < P
        · obtain ⟨fG, s5⟩ := ax.down tR.out (.inr (by rw [← xr.out]; exact aj))
          have mB := Lib.hid fG;clear fG
          by_cases aa : 4294967296 ≤ r + a
          · have iN := mB.out.out tR.out aa
            rw [D6.out] at iN;have iC := Lib.hid iN;clear iN
            go_wp2_with fail
            go_meet
            exact ⟨rfl, congrArg _ iC.out, _, rfl⟩
          · go_wp2_with fail
            go_round
            case rel => exact ⟨_, _, rfl, rfl, mB.out, by omega⟩
            case measure => simp [intOf]; omega
        · have iN := ax.done tR.out (by rw [← xr.out]; omega)
          rw [D6.out] at iN;have iC := Lib.hid iN;clear iN
          go_wp2_with fail
          go_meet
          exact ⟨rfl, congrArg _ iC.out, _, rfl⟩
  case rest =>
    obtain ⟨rfl, rfl, b9, rfl⟩ := hcut;have Dh := Sq.out;have v0 := ls.out.j9;have v1 : k0 < 18446744073709551616 := by have := ls.out.cr; omega
    have cW := ls.out.d0; have aF := ls.out.d1;have t2 := ls.out.init; have Rg := ls.out.Nc;have qu := t2.Db ls.out;have Ci : 0 ≤ k0 / a := t2.q0
    have Nt : IntKind.u64.wrap (k0 / a * a) = k0 / a * a := by
      have := t2.sum; have := t2.gn; rw [IntKind.wrap_u64];have : 0 ≤ k0 / a * a := fD Ci (by omega);omega
    have Zf := t2.gn;have Zh : 0 ≤ k0 / a * a := fD Ci (by omega);obtain ⟨m2, nC⟩ : ∃ m, m = k0 / a * a := ⟨_, rfl⟩;rw [← nC] at Zf Zh t2 Rg;have ah1 : IntKind.u64.wrap (k0 / a * a) = m2 := by rw [Nt, nC]
    obtain ⟨ah2, Zg⟩ := Rg;have xI := Lib.hid t2;obtain ⟨oX, FN⟩ : ∃ Q, Q = iQ k0 e a b := ⟨_, rfl⟩;have xt := Lib.hid FN.symm;have Qh := ls.out.q0; have Qi := ls.out.Dc;rw [← FN] at Qh Qi;clear Nt nC t2 FN
    go_upto_block 2 with fail
    go_cut [18, 16] (fun zQ vf tJ => w = tJ ∧ zQ = .int .u64 oX ∧ ∃ r, vf = .int .u64 r)
    case first =>
      go_wp2_with fail
      go_loop [18, 16] (fun zQ vf => ∃ q r : Int, zQ = .int .u64 q ∧ vf = .int .u64 r ∧ lv k0 e a b q r ∧ r < 4294967296) (fun zQ _ => (intOf zQ).toNat)
      case atStart => exact ⟨_, _, rfl, rfl, xI.out, Zg⟩
      case round =>
        obtain ⟨q, r, rfl, rfl, ax, al⟩ := hrel;have ak := ax.Db ls.out;have rE := ax.q0;have Yk := ax.gn
        by_cases ab : 4294967296 ≤ q
        · obtain ⟨fG, s5⟩ := ax.down ls.out (.inl ab)
          have mB := Lib.hid fG;clear fG
          by_cases aa : 4294967296 ≤ r + a
          · have iN := mB.out.out ls.out aa
            rw [xt.out] at iN;have iC := Lib.hid iN;clear iN
            go_wp2_with fail
            go_meet
            exact ⟨rfl, congrArg _ iC.out, _, rfl⟩
          · go_wp2_with fail
            go_round
            case rel => exact ⟨_, _, rfl, rfl, mB.out, by omega⟩
            case measure => simp [intOf]; omega
        · have Gj := ax.ox ls.out (by omega)
          obtain ⟨P, dV⟩ : ∃ P, P = q * b := ⟨_, rfl⟩;rw [← dV] at Gj;have WZ : IntKind.u64.wrap (q * b) = P := by rw [← dV, IntKind.wrap_u64]; omega
          have xr := Lib.hid dV;clear dV
          by_cases aj : 4294967296 * r + e < P
          · obtain ⟨fG, s5⟩ := ax.down ls.out (.inr (by rw [← xr.out]; exact aj))
            have mB := Lib.hid fG;clear fG
            by_cases aa : 4294967296 ≤ r + a
            · have iN := mB.out.out ls.out aa
              rw [xt.out] at iN;have iC := Lib.hid iN;clear iN
              go_wp2_with fail
              go_meet
              exact ⟨rfl, congrArg _ iC.out, _, rfl⟩
            · go_wp2_with fail
              go_round
              case rel => exact ⟨_, _, rfl, rfl, mB.out, by omega⟩
              case measure => simp [intOf]; omega
          · have iN := ax.done ls.out (by rw [← xr.out]; omega)
            rw [xt.out] at iN;have iC := Lib.hid iN;clear iN
            go_wp2_with fail
            go_meet
            exact ⟨rfl, congrArg _ iC.out, _, rfl⟩
    case rest =>
      obtain ⟨rfl, rfl, cT, rfl⟩ := hcut;have zD := Sr.out;rw [xt.out] at zD;have fin := pW.out;have Ff := Sp.out;rw [xt.out] at fin;rw [← fin.2] at Ff;have Sl := Lib.hid fin.1;have Sm := Lib.hid Ff;generalize h4 k0 e a b = R at *;clear fin Ff
      go_wp2
      go_ret2
      exact ⟨ad0 Sl.out Sm.out, Below.refl _ _⟩
theorem Vs (hi lo y : Int) (w : World) (aA : 0 ≤ hi) (h1 : hi < y) (l : 0 ≤ lo ∧ lo < 18446744073709551616) (jo : y < 18446744073709551616) :
    Calls ag 215 #[.int .u64 hi, .int .u64 lo, .int .u64 y] w (En ((hi * 18446744073709551616 + lo) / y) ((hi * 18446744073709551616 + lo) % y) w) := by
  by_cases h : hi = 0
  · subst h
    rw [Int.zero_mul, Int.zero_add];exact Vu lo y w l (by omega) jo
  · exact Vt hi lo y w (by omega) h1 l jo
end Go.Proofs.YtbcecodakfejaaaGreat
namespace Go.Proofs.YtbcecodakfejaaaGreat
open Go.RowKit
theorem Wg (x y : Int) (w : World) : (Instr.field 250 (.agg #[.int .u64 x, .int .u64 y]) 0).run ag w = .ok (.int .u64 x) w := by kernel_rfl
attribute [local go_sem] Wg
theorem Vv {h1 l1 n m : Int} (H1 : dw h1 l1 n) (m0 : 0 < m) (m1 : m < 18446744073709551616) :
    dw (h1 / m) ((h1 % m * 18446744073709551616 + l1) / m) (n / m) ∧ dw 0 ((h1 % m * 18446744073709551616 + l1) % m) (n % m) := by
  obtain ⟨b1, b2, rfl⟩ := H1;have gn := nP h1 (show m ≠ 0 by omega);have b9 := na h1 m0
  have e : h1 * 18446744073709551616 + l1 = (h1 % m * 18446744073709551616 + l1) + m * (h1 / m * 18446744073709551616) := by
    have := pK h1 m;rw [← jl];generalize m * (h1 / m) = k at *;omega
  have q0 : 0 ≤ h1 / m := nc b1.1 (by omega);have q1 : h1 / m ≤ h1 := Int.ediv_le_self _ b1.1;have dB := nP (h1 % m * 18446744073709551616 + l1) (show m ≠ 0 by omega);have s1 := na (h1 % m * 18446744073709551616 + l1) m0;have t0 : 0 ≤ (h1 % m * 18446744073709551616 + l1) / m := nc (by omega) (by omega);have t1 : (h1 % m * 18446744073709551616 + l1) / m < 18446744073709551616 := Int.ediv_lt_of_lt_mul m0 (by omega)
  constructor
  · refine ⟨by omega, by omega, ?_⟩
    rw [e, Int.add_mul_ediv_left _ _ (by omega)];omega
  · refine ⟨by omega, by omega, ?_⟩
    rw [e, Int.add_mul_emod_self_left];omega
end Go.Proofs.YtbcecodakfejaaaGreat
namespace Go.Proofs.YtbcecodakfejaaaGreat
open Go.RowKit
theorem WG {n m g : Int} (fJ : 0 ≤ n) (m0 : 0 < m) (dY : n < 340282366920938463463374607431768211456) (h : g ≤ n / m) (g0 : 0 ≤ g) : lA (g * m) = true ∧ g * m ≤ n := by
  have h1 : g * m ≤ n := (nQ m0).1 h;unfold lA;rw [ca];exact ⟨by omega, h1⟩
theorem WH {n m g : Int} (m0 : 0 < m) (h : g ≤ n / m) (k : n - g * m < m) : g = n / m ∧ n - g * m = n % m := by
  have h1 : g * m ≤ n := (nQ m0).1 h;have h2 : n / m < g + 1 := Int.ediv_lt_of_lt_mul m0 (by rw [Int.add_mul]; omega);have e : g = n / m := by omega
  refine ⟨e, ?_⟩;rw [Int.emod_def, e, gR]
theorem WI {n m g : Int} (m0 : 0 < m) (h : n / m ≤ g + 1) (k : ¬ n - g * m < m) : g + 1 = n / m ∧ n - g * m - m = n % m := by
  have h2 : g + 1 ≤ n / m := (nQ m0).2 (by rw [Int.add_mul]; omega);have e : g + 1 = n / m := by omega
  refine ⟨e, ?_⟩;rw [Int.emod_def, ← e, gR m, Int.add_mul];omega
theorem adH {n m g : Int} (fJ : 0 ≤ n) (au : n ≤ 170141183460469231731687303715884105728) (m0 : 18446744073709551616 ≤ m) (h : g ≤ n / m) : g < 9223372036854775809 := by
  rcases oK g 9223372036854775809 with k | k
  · exact k
  · have h1 : g * m ≤ n := (nQ (by omega)).1 h
    have h2 : 9223372036854775809 * 18446744073709551616 ≤ g * m := r5 k m0 (by omega) (by omega);omega
end Go.Proofs.YtbcecodakfejaaaGreat
namespace Go.Proofs.YtbcecodakfejaaaGreat
open Go.RowKit
theorem ag4 {n m N M : Int} (hm : 0 < m) (eC : ((n.natAbs : Nat) : Int) = N) (fV : ((m.natAbs : Nat) : Int) = M) (k : 0 ≤ n) : N / M = n / m ∧ N % M = n % m := by
 obtain rfl : M = m := by omega
 obtain rfl : N = n := by omega
 exact ⟨rfl, rfl⟩
theorem Vw {n m N M : Int} (hm : 0 < m) (eC : ((n.natAbs : Nat) : Int) = N) (fV : ((m.natAbs : Nat) : Int) = M) (k : n < 0) (z : N % M = 0) : -(N / M) = n / m ∧ 0 = n % m := by
 obtain rfl : M = m := by omega
 obtain rfl : n = -N := by omega
 have h1 := pK N M;rw [z, Int.add_zero] at h1;have h2 : -N = M * (-(N / M)) := by rw [Int.mul_neg, h1]
 rw [h2]
 constructor
 ·rw [Int.mul_ediv_cancel_left _ (by omega)]
 ·rw [Int.mul_emod_right]
theorem Vx {n m N M : Int} (hm : 0 < m) (eC : ((n.natAbs : Nat) : Int) = N) (fV : ((m.natAbs : Nat) : Int) = M) (k : n < 0) (z : N % M ≠ 0) : -(N / M) - 1 = n / m ∧ -(N % M) + m = n % m := by
 obtain rfl : M = m := by omega
 obtain rfl : n = -N := by omega
 have h1 := pK N M;have gn := nP N (show M ≠ 0 by omega);have b9 := na N hm;have h2 : -N = (M - N % M) + M * (-(N / M) - 1) := by rw [Int.mul_sub, Int.mul_neg, Int.mul_one]; omega
 have q : (-N) / M = -(N / M) - 1 := by
  rw [h2, Int.add_mul_ediv_left _ _ (by omega), Int.ediv_eq_zero_of_lt (by omega) (by omega)];omega
 have r : (-N) % M = M - N % M := by
  rw [h2, Int.add_mul_emod_self_left, Int.emod_eq_of_lt (by omega) (by omega)]
 rw [q, r];omega
abbrev vh (n : Int) : br := .agg [.c (.int .u64 (bY n)), .c (.int .u64 (dq n))]
abbrev jJ (n : Int) : ah := .w (vh n)
abbrev Iy : br := .one (.c (.bool true))
abbrev xi (n : Int) : ah := aM (.int .u64 n)
theorem mb {n : Int} (aA : 0 ≤ n) (h1 : n < 340282366920938463463374607431768211456) : dw (bY n) (dq n) n := by unfold dw bY dq; omega
theorem y5 {H L n : Int} (h : dw H L n) : H = bY n ∧ L = dq n := by
 obtain ⟨a, b, rfl⟩ := h;unfold bY dq; omega
theorem xe {H L n : Int} (h : dw H L n) : vh n = .agg [.c (.int .u64 H), .c (.int .u64 L)] := by
 obtain ⟨rfl, rfl⟩ := y5 h; rfl
theorem HM {n m : Int} (fJ : 0 ≤ n) (dY : n < 340282366920938463463374607431768211456) (m0 : 0 ≤ m) (m1 : m < 340282366920938463463374607431768211456) {z : Int} {b : Bool} (ab : lA (n * m) = b) (aI : (if b then n * m else 0) = z) : aC ag 194 [jJ n, jJ m] (.cj [vh z, .one (.c (.bool b))]) :=
 ho [.agg #[.int .u64 (bY n), .int .u64 (dq n)], .agg #[.int .u64 (bY m), .int .u64 (dq m)]] (.tuple #[.agg #[.int .u64 (bY z), .int .u64 (dq z)], .bool b]) rfl rfl rfl rfl rfl fun W => (aaP _ _ n _ _ m W (mb fJ dY) (mb m0 m1)).mono fun e w' ⟨H, L, he, hw, c0⟩ => by
  rw [ab] at he hw;rw [aI] at hw;obtain ⟨rfl, rfl⟩ := y5 hw;exact ⟨he, c0⟩
theorem PH {n k P : Int} (fJ : 0 ≤ n) (dY : n < 340282366920938463463374607431768211456) (fX : 0 ≤ k) (bd : k < 128) (ab : n * 2 ^ k.toNat < 340282366920938463463374607431768211456) (dV : n * 2 ^ k.toNat = P) : aC ag 206 [jJ n, aM (.int .u64 k)] (jJ P) :=
 ho [.agg #[.int .u64 (bY n), .int .u64 (dq n)], .int .u64 k] (.agg #[.int .u64 (bY P), .int .u64 (dq P)]) rfl rfl rfl rfl rfl fun W => (aeZ _ _ n k W (mb fJ dY) fX bd ab).mono fun e w' ⟨H, L, he, hw, ab⟩ => by
  rw [dV] at hw; obtain ⟨rfl, rfl⟩ := y5 hw; exact ⟨he, ab⟩
theorem acT {y : Int} (aA : 0 < y) (h1 : y < 18446744073709551616) : aC ag 219 [xi y] (aB (64 - (Lib.bitLen y.toNat : Int))) :=
 ho [.int .u64 y] (.int .i64 (64 - (Lib.bitLen y.toNat : Int))) rfl rfl rfl rfl rfl fun W => (Tryz.bits_LeadingZeros64 y W (by omega) (by omega)).mono fun e w' h => by
  obtain ⟨rfl, rfl⟩ := h; exact ⟨rfl, Below.refl _ _⟩
theorem HJ {hi lo y q r : Int} (aA : 0 ≤ hi) (h1 : hi < y) (l : 0 ≤ lo ∧ lo < 18446744073709551616) (jo : y < 18446744073709551616) (ak : (hi * 18446744073709551616 + lo) / y = q) (al : (hi * 18446744073709551616 + lo) % y = r) : aC ag 215 [xi hi, xi lo, xi y] (.cj [.one (.c (.int .u64 q)), .one (.c (.int .u64 r))]) := by
 subst ak al;exact ho [.int .u64 hi, .int .u64 lo, .int .u64 y] (.tuple #[.int .u64 _, .int .u64 _]) rfl rfl rfl rfl rfl fun W => Vs hi lo y W aA h1 l jo
theorem PK {n m z : Int} (dY : n < 340282366920938463463374607431768211456) (m0 : 0 ≤ m) (h : m ≤ n) (aI : n - m = z) : aC ag 217 [jJ n, jJ m] (jJ z) :=
 ho [.agg #[.int .u64 (bY n), .int .u64 (dq n)], .agg #[.int .u64 (bY m), .int .u64 (dq m)]] (.agg #[.int .u64 (bY z), .int .u64 (dq z)]) rfl rfl rfl rfl rfl fun W => (afx _ _ n _ _ m W (mb (by omega) dY) (mb m0 (by omega)) h).mono fun e w' ⟨H, L, he, hw, ab⟩ => by
  rw [aI] at hw; obtain ⟨rfl, rfl⟩ := y5 hw; exact ⟨he, ab⟩
theorem Pv {n m : Int} {b : Bool} (fJ : 0 ≤ n) (dY : n < 340282366920938463463374607431768211456) (m0 : 0 ≤ m) (m1 : m < 340282366920938463463374607431768211456) (ab : decide (n < m) = b) : aC ag 218 [jJ n, jJ m] (bf b) := by
 subst ab;exact ho [.agg #[.int .u64 (bY n), .int .u64 (dq n)], .agg #[.int .u64 (bY m), .int .u64 (dq m)]] (.bool (decide (n < m))) rfl rfl rfl rfl rfl fun W => Z8 _ _ n _ _ m W (mb fJ dY) (mb m0 m1)
set_option maxRecDepth 100000
set_option maxHeartbeats 4000000
instance ahY : D1 ag 250 0 0 false 1 := ⟨by kernel_rfl⟩
theorem acI {n m : Int} (fJ : 0 ≤ n) (au : n ≤ 170141183460469231731687303715884105728) (m0 : 18446744073709551616 ≤ m) (m1 : m < 340282366920938463463374607431768211456) : ∃ g, (0 ≤ g ∧ g ≤ n / m ∧ n / m ≤ g + 1) ∧ aC ag 216 [jJ n, jJ m] (xi g) := by
 obtain ⟨b1, b2, aF⟩ := mb fJ (show n < 340282366920938463463374607431768211456 by omega);obtain ⟨dQ, dz, aN⟩ := mb (show 0 ≤ m by omega) m1;have hm : 0 < bY m := by omega
 have aU := acT hm dQ.2;have hs := NV (bY m) hm dQ.2;generalize 64 - (Lib.bitLen (bY m).toNat : Int) = s at *;have pw := hs.dB;have s6 := hs.s1;have YI : IntKind.u64.wrap s = s := by rw [IntKind.wrap_u64]; omega
 obtain ⟨zT, Iq⟩ := aag hs dQ.1 dz.1 dz.2;rw [← aN] at zT Iq;obtain ⟨M, fV⟩ : ∃ M, m * 2 ^ s.toNat = M := ⟨_, rfl⟩;have bD : aC ag 206 [jJ m, xi s] (.w (.agg [.c (.int .u64 (bY M)), .c (.int .u64 (dq M))])) := PH (by omega) m1 pw (by omega) zT fV;rw [fV] at zT Iq;obtain ⟨J9, o6, K9⟩ := mb (show 0 ≤ M by omega) zT;have Mc : 9223372036854775808 ≤ bY M := by omega
 obtain ⟨L, iK, L4, L5⟩ := W8 (bY n) (dq n) b1 b2;obtain ⟨F3, F4, F5⟩ := WJ n m s (bY M) (dq M) fJ au pw s6 (fV.trans K9) o6.1 o6.2 Mc;have eg := HJ (hi := bY n / 2) (lo := L) (y := bY M) (by omega) (by omega) L4 J9.2 rfl rfl;rw [L5, ← aF] at eg;have rE : 0 ≤ n / 2 / bY M := nc (by omega) (by omega);have ahy : 0 ≤ n / m := nc (by omega) (by omega);have WT : 0 ≤ n / 2 / bY M / 2 ^ (63 - s).toNat := nc rE (kt (hr (by decide)));generalize n / 2 % bY M = R at *;generalize n / 2 / bY M = Q at *;generalize n / m = q at *;clear L5 fV K9 aF aN zT Iq hs hm J9 o6 Mc L4 b1 b2 dQ dz
 have E6 : (2 : Int) ^ (63 - s).toNat = 2 ^ min (IntKind.u64.wrap (63 - s)).toNat 64 := by
  rw [show IntKind.u64.wrap (63 - s) = 63 - s by rw [IntKind.wrap_u64]; omega, oJ (by omega)]
 rw [E6] at F3 F4 F5 WT
 by_cases aI : Q / 2 ^ min (IntKind.u64.wrap (63 - s)).toNat 64 = 0
 ·refine ⟨0, by omega, ?_⟩;clear F3 F4 F5 E6;refine bi (f := 216) Tryz.func216 rfl rfl rfl rfl ?_;(refine bZ ?_)
  ((refine ba rfl (a6 rfl aK) ?_))
  exact ah.aQ.refl _
 ·have w2 : IntKind.u64.wrap (Q / 2 ^ min (IntKind.u64.wrap (63 - s)).toNat 64 - 1) = Q / 2 ^ min (IntKind.u64.wrap (63 - s)).toNat 64 - 1 := by rw [IntKind.wrap_u64]; omega
  refine ⟨Q / 2 ^ min (IntKind.u64.wrap (63 - s)).toNat 64 - 1, by omega, ?_⟩;clear F3 F4 F5 E6;refine bi (f := 216) Tryz.func216 rfl rfl rfl rfl ?_;(refine bZ ?_)
  ((refine ba rfl (a6 rfl aK) ?_))
  exact ah.aQ.refl _
theorem acA {n m : Int} (fJ : 0 ≤ n) (au : n ≤ 170141183460469231731687303715884105728) (m0 : 0 < m) (m1 : m < 340282366920938463463374607431768211456) : aC ag 212 [jJ n, jJ m] (.cj [vh (n / m), vh (n % m)]) := by
 have H1 := mb fJ (show n < 340282366920938463463374607431768211456 by omega)
 by_cases k : m < 18446744073709551616
 ·obtain ⟨q1, q2⟩ := Vv H1 m0 k;have gn := nP (bY n) (show m ≠ 0 by omega);have b9 := na (bY n) m0;have aU := HJ (hi := 0) (lo := bY n) (y := m) (by omega) m0 H1.1 k rfl rfl;rw [Int.zero_mul, Int.zero_add] at aU;have bD := HJ (hi := bY n % m) (lo := dq n) (y := m) gn b9 H1.2.1 k rfl rfl;rw [xe q1, xe q2, show jJ m = .w (.agg [.c (.int .u64 0), .c (.int .u64 m)]) from congrArg ah.w (xe (by unfold dw; omega))];clear q1 q2 gn b9 k H1 au m0 m1 fJ;refine bi (f := 212) Tryz.func212 rfl rfl rfl rfl ?_;(refine bZ ?_)
  ((refine ba rfl (cL rfl rfl rfl (cL rfl rfl rfl aK)) ?_))
  exact ah.aQ.refl _
 ·obtain ⟨g, ⟨g0, g1, g2⟩, aU⟩ := acI fJ au (by omega) m1;obtain ⟨Ft, Fu⟩ := WG fJ m0 (by omega) g1 g0;have Gh := WH m0 g1;have Gk := WI m0 g2;have g4 : g < 9223372036854775809 := adH fJ au (by omega) g1;have gU : ¬ bY m = 0 := by unfold bY; omega
  have bD := HM (n := g) (m := m) (b := true) g0 (by omega) (by omega) m1 Ft rfl;rw [if_pos rfl, show jJ g = .w (.agg [.c (.int .u64 0), .c (.int .u64 g)]) from congrArg ah.w (xe (by unfold dw; omega))] at bD;have Fv : 0 ≤ g * m := fD g0 (by omega);generalize g * m = sQ at *;have eg := PK (n := n) (m := sQ) (by omega) Fv Fu rfl
  by_cases hl : n - sQ < m
  ·have kb := Pv (n := n - sQ) (m := m) (by omega) (by omega) (by omega) m1 (ck hl);obtain ⟨q1, q2⟩ := Gh hl;rw [← q1, ← q2, show vh g = .agg [.c (.int .u64 0), .c (.int .u64 g)] from xe (by unfold dw; omega)];generalize n - sQ = r at *;clear Gh Gk q1 q2 hl Ft Fu g1 g2 Fv H1 k au fJ m0 m1;refine bi (f := 212) Tryz.func212 rfl rfl rfl rfl ?_;(refine bZ ?_)
   ((refine ba rfl (cL rfl rfl rfl (cL rfl rfl rfl aK)) ?_))
   exact ah.aQ.refl _
  ·have kb := Pv (n := n - sQ) (m := m) (by omega) (by omega) (by omega) m1 (cC hl);have my := PK (n := n - sQ) (m := m) (by omega) (by omega) (by omega) rfl;obtain ⟨q1, q2⟩ := Gk hl;have w1 : IntKind.u64.wrap (g + 1) = g + 1 := by rw [IntKind.wrap_u64]; omega
   rw [← q1, ← q2, show vh (g + 1) = .agg [.c (.int .u64 0), .c (.int .u64 (g + 1))] from xe (by unfold dw; omega)];generalize n - sQ - m = aT at *;generalize n - sQ = r at *;clear Gh Gk q1 q2 hl Ft Fu g1 g2 Fv H1 k au fJ m0 m1;refine bi (f := 212) Tryz.func212 rfl rfl rfl rfl ?_;(refine bZ ?_)
   ((refine ba rfl (cL rfl rfl rfl (cL rfl rfl rfl aK)) ?_))
   exact ah.aQ.refl _
end Go.Proofs.YtbcecodakfejaaaGreat
namespace Go.Proofs.YtbcecodakfejaaaGreat
open Go.RowKit
theorem zu {n : Int} (f : fits n = true) : aC ag 195 [fL n] (jJ n.natAbs) :=
 ho [.agg #[.int .i64 (bY n), .int .u64 (dq n)]] (.agg #[.int .u64 (bY n.natAbs), .int .u64 (dq n.natAbs)]) rfl rfl rfl rfl rfl fun W => (afe _ _ n W (lb f)).mono fun e w' ⟨H, L, he, hw, ab⟩ => by
  obtain ⟨rfl, rfl⟩ := y5 hw; exact ⟨he, ab⟩
theorem C5 {n z : Int} {b : Bool} (fJ : 0 ≤ n) (dY : n < 340282366920938463463374607431768211456) (aI : (if b then -n else n) = z) (f : fits z = true) : aC ag 196 [jJ n, bf b] (.cj [mc z, Iy]) :=
 ho [.agg #[.int .u64 (bY n), .int .u64 (dq n)], .bool b] (.tuple #[.agg #[.int .i64 (bY z), .int .u64 (dq z)], .bool true]) rfl rfl rfl rfl rfl fun W => (Ir _ _ n b W (mb fJ dY)).mono fun e w' h => by
  have := w7 h;rw [aI, f, if_pos rfl] at this;exact this
theorem acU {n m z : Int} (f : fits n = true) (g : fits m = true) (aI : wr (n - m) = z) : aC ag 166 [fL n, fL m] (fL z) :=
 ho [.agg #[.int .i64 (bY n), .int .u64 (dq n)], .agg #[.int .i64 (bY m), .int .u64 (dq m)]] (.agg #[.int .i64 (bY z), .int .u64 (dq z)]) rfl rfl rfl rfl rfl fun W => (zh _ _ _ _ n m W (lb f) (lb g)).mono fun e w' ⟨H, L, he, hw, ab⟩ => by
  rw [aI] at hw; obtain ⟨rfl, rfl⟩ := Cg hw; exact ⟨he, ab⟩
theorem acZ {n m z : Int} (f : fits n = true) (g : fits m = true) (aI : wr (n + m) = z) : aC ag 213 [fL n, fL m] (fL z) :=
 ho [.agg #[.int .i64 (bY n), .int .u64 (dq n)], .agg #[.int .i64 (bY m), .int .u64 (dq m)]] (.agg #[.int .i64 (bY z), .int .u64 (dq z)]) rfl rfl rfl rfl rfl fun W => (PS _ _ _ _ n m W (lb f) (lb g)).mono fun e w' ⟨H, L, he, hw, ab⟩ => by
  rw [aI] at hw; obtain ⟨rfl, rfl⟩ := Cg hw; exact ⟨he, ab⟩
theorem jr {n : Int} : fits n = true ↔ -170141183460469231731687303715884105728 ≤ n ∧ n < 170141183460469231731687303715884105728 := by unfold fits; rw [ca]
theorem yw (n : Int) : bY n < 0 ↔ n < 0 := by unfold bY; omega
theorem Pf {n m : Int} (f : fits n = true) (g : fits m = true) (hm : 0 < m) : aC ag 203 [fL n, fL m] (.cj [mc (n / m), mc (n % m), Iy]) := by
 have aU := C6 g;have bD := zu f;have eg := zu g;have hs : ¬ cD m 0 ≤ 0 := by unfold cD; split <;> (try split) <;> omega
 have nw := jr.1 f;have kh := jr.1 g;generalize cD m 0 = s at *;obtain ⟨N, eC⟩ : ∃ N : Int, (n.natAbs : Int) = N := ⟨_, rfl⟩;have fV : (m.natAbs : Int) = m := by omega
 rw [eC] at bD;rw [fV] at eg;have kb := acA (n := N) (m := m) (by omega) (by omega) hm (by omega);have aF := pK N m;have q0 : 0 ≤ N / m := nc (by omega) (by omega);have q1 : N / m ≤ N := Int.ediv_le_self _ (by omega);have gn := nP N (show m ≠ 0 by omega);have b9 := na N hm
 by_cases au : n < 0
 case neg =>
  obtain rfl : N = n := by omega
  have b1 : decide (bY N < 0) = false := cC (by rw [yw]; exact au);have my := C5 (n := N / m) (z := N / m) (b := decide (bY N < 0)) q0 (by omega) (by rw [b1]; rfl) (jr.2 (by omega));have An := C5 (n := N % m) (z := N % m) (b := decide (bY N < 0)) gn (by omega) (by rw [b1]; rfl) (jr.2 (by omega));have b2 : decide (bY (N % m) < 0) = false := cC (by rw [yw]; omega);generalize N / m = q at *;generalize N % m = r at *;clear aF b1 au eC fV nw kh f g;refine bi (f := 203) Tryz.func203 rfl rfl rfl rfl ?_;(refine bZ ?_)
  ((refine ba rfl (cL rfl rfl rfl (cL rfl rfl rfl (a6 rfl aK))) ?_))
  exact ah.aQ.refl _
 have b1 : decide (bY n < 0) = true := ck ((yw n).2 au);have my := C5 (n := N / m) (z := -(N / m)) (b := decide (bY n < 0)) q0 (by omega) (by rw [b1]; rfl) (jr.2 (by omega));have An := C5 (n := N % m) (z := -(N % m)) (b := decide (bY n < 0)) gn (by omega) (by rw [b1]; rfl) (jr.2 (by omega))
 by_cases aI : N % m = 0
 ·obtain ⟨d1, d2⟩ := Vw hm eC fV au aI;have d3 : n % m = -(N % m) := by omega
  rw [← d1, d3];have b2 : decide (bY (-(N % m)) < 0) = false := cC (by rw [yw]; omega);generalize N / m = q at *;generalize N % m = r at *;clear d1 d2 d3 aF b1 au eC fV nw kh f g;refine bi (f := 203) Tryz.func203 rfl rfl rfl rfl ?_;(refine bZ ?_)
  ((refine ba rfl (cL rfl rfl rfl (cL rfl rfl rfl (a6 rfl aK))) ?_))
  exact ah.aQ.refl _
 ·obtain ⟨d1, d2⟩ := Vx hm eC fV au aI;have b2 : decide (bY (-(N % m)) < 0) = true := ck (by rw [yw]; omega)
  have q2 : N / m < N := by
   have := lh (show 1 ≤ m by omega) q0;omega
  have agj := tr (n := 1) (by decide) (by decide);have agk := acU (n := -(N / m)) (m := 1) (z := n / m) (jr.2 (by omega)) (by decide) (by rw [d1]; exact IM (jr.2 (by omega)));have agl := acZ (n := -(N % m)) (m := m) (z := n % m) (jr.2 (by omega)) g (by rw [d2]; exact IM (jr.2 (by omega)));generalize N / m = q at *;generalize N % m = r at *;generalize n / m = cd at *;generalize n % m = aT at *;clear d1 d2 q2 aF b1 au eC fV nw kh f g;refine bi (f := 203) Tryz.func203 rfl rfl rfl rfl ?_;(refine bZ ?_)
  ((refine ba rfl (cL rfl rfl rfl (cL rfl rfl rfl (a6 rfl aK))) ?_))
  exact ah.aQ.refl _
theorem ac6 {n m P : Int} (f : fits n = true) (g : fits m = true) (dV : (n.natAbs : Int) * m.natAbs = P) (sr : 0 ≤ P) (kd : P < 340282366920938463463374607431768211456) : aC ag 196 [jJ P, bf (!decide (bY n < 0) == decide (bY m < 0))] (wf (n * m)) :=
 ho [.agg #[.int .u64 (bY P), .int .u64 (dq P)], .bool (!decide (bY n < 0) == decide (bY m < 0))] _ rfl rfl rfl rfl rfl fun W => (afd W (lb f) (lb g) (Lib.hid dV.symm) (mb sr kd)).mono fun e w' h => w7 h
theorem ab4 {n m : Int} (f : fits n = true) (g : fits m = true) : aC ag 167 [fL n, fL m] (wf (n * m)) := by
 have aU := zu f;have bD := zu g;have nw := jr.1 f;have kh := jr.1 g;obtain ⟨P, dV⟩ : ∃ P : Int, (n.natAbs : Int) * m.natAbs = P := ⟨_, rfl⟩;have sr : 0 ≤ P := by rw [← dV]; exact fD (by omega) (by omega)
 cases ab : lA P with
 | true =>
  have kd : P < 340282366920938463463374607431768211456 := by unfold lA at ab; rw [ca] at ab; omega
  have eg := HM (n := n.natAbs) (m := m.natAbs) (z := P) (b := true) (by omega) (by omega) (by omega) (by omega) (by rw [dV]; exact ab) (by rw [dV]; rfl);have kb := ac6 f g dV sr kd;clear ab nw kh;refine bi (f := 167) Tryz.func167 rfl rfl rfl rfl ?_;(refine bZ ?_)
  ((refine ba rfl (cL rfl rfl rfl (a6 rfl aK)) ?_))
  exact ah.aQ.refl _
 | false =>
  have eg := HM (n := n.natAbs) (m := m.natAbs) (z := 0) (b := false) (by omega) (by omega) (by omega) (by omega) (by rw [dV]; exact ab) rfl
  have ap : fits (n * m) = false := by
   have : ¬ P < 340282366920938463463374607431768211456 := fun h => by unfold lA at ab; rw [jF] at ab; omega
   have e : ((n * m).natAbs : Int) = P := by rw [Int.natAbs_mul, ← dV]; rfl
   cases aR : fits (n * m) with
   | false => rfl
   | true => have := jr.1 aR; omega
  have x7 : wf (n * m) = .cj [mc 0, .one (.c (.bool false))] := by
   show ah.cj [mc (if fits (n * m) then n * m else 0), .one (.c (.bool (fits (n * m))))] = _;rw [ap]; rfl
  rw [x7];clear ab nw kh ap x7;refine bi (f := 167) Tryz.func167 rfl rfl rfl rfl ?_;(refine bZ ?_)
  ((refine ba rfl (cL rfl rfl rfl (a6 rfl aK)) ?_))
  exact ah.aQ.refl _
def rQ (m : Nat) : Nat := if m = 0 then 0 else Nat.log2 m + 1
theorem NJ {m len : Nat} (h : lW m len) : len = rQ m := by
 unfold rQ;unfold lW at h
 by_cases hm : m = 0
 ·rw [if_pos hm];rcases h with h | h
  ·omega
  ·have := Nat.two_pow_pos (len - 1); omega
 ·rw [if_neg hm];rcases h with h | h
  ·omega
  ·have h1 : Nat.log2 m < len := (Nat.log2_lt hm).2 (by omega);have h2 : len - 1 ≤ Nat.log2 m := (Nat.le_log2 hm).2 (by omega);omega
theorem acS {n : Int} (fJ : 0 ≤ n) (dY : n < 340282366920938463463374607431768211456) : aC ag 205 [jJ n] (aB (rQ n.toNat)) :=
 ho [.agg #[.int .u64 (bY n), .int .u64 (dq n)]] (.int .i64 (rQ n.toNat)) rfl rfl rfl rfl rfl fun W => (Z3 _ _ n W (mb fJ dY)).mono fun e w' ⟨len, he, hl, ab⟩ => by
  rw [NJ hl] at he; exact ⟨he, ab⟩
theorem ac7 {n P : Int} {k : Nat} (f : fits n = true) (dV : (n.natAbs : Int) * 2 ^ k = P) (sr : 0 ≤ P) (kd : P < 340282366920938463463374607431768211456) : aC ag 196 [jJ P, bf (decide (bY n < 0))] (wf (n * 2 ^ k)) :=
 ho [.agg #[.int .u64 (bY P), .int .u64 (dq P)], .bool (decide (bY n < 0))] _ rfl rfl rfl rfl rfl fun W => (afc W (lb f) (Lib.hid dV.symm) (mb sr kd)).mono fun e w' h => w7 h
theorem acd {n k : Int} (f : fits n = true) (au : n ≠ 0) (af : 0 ≤ k) (BV : k < 9223372036854775808) : aC ag 187 [fL n, aB k] (wf (n * 2 ^ k.toNat)) := by
 have aU := zu f;have nw := jr.1 f;obtain ⟨N, eC⟩ : ∃ N : Int, (n.natAbs : Int) = N := ⟨_, rfl⟩;rw [eC] at aU;have bD := acS (n := N) (by omega) (by omega);have aA : ¬ n = 0 := au
 have hl : lW n.natAbs (rQ N.toNat) := by
  obtain ⟨len, h⟩ : ∃ len, lW n.natAbs len := by
   refine ⟨rQ n.natAbs, ?_⟩;have hm : n.natAbs ≠ 0 := by omega
   have h1 := Nat.log2_self_le hm;have h2 := Nat.lt_log2_self (n := n.natAbs);have h3 : Nat.log2 n.natAbs < 128 := (Nat.log2_lt hm).2 (by rw [IC]; omega);unfold lW rQ;rw [if_neg hm];exact .inr ⟨by omega, by omega, h1, h2⟩
  have e : len = rQ n.natAbs := NJ h;rw [show N.toNat = n.natAbs by omega, ← e]; exact h
 have mM := Z5 hl;generalize rQ N.toNat = len at *;have K8 : (n.natAbs : Int) = N := eC
 by_cases ay : 128 - (len : Int) < k
 ·have ap := ae4 hl au af ay
  have x7 : wf (n * 2 ^ k.toNat) = .cj [mc 0, .one (.c (.bool false))] := by
   show ah.cj [mc (if fits (n * 2 ^ k.toNat) then n * 2 ^ k.toNat else 0), .one (.c (.bool (fits (n * 2 ^ k.toNat))))] = _;rw [ap]; rfl
  rw [x7];clear ap x7 hl eC K8 nw;refine bi (f := 187) Tryz.func187 rfl rfl rfl rfl ?_;(refine bZ ?_)
  ((refine ba rfl (cL rfl rfl rfl (a6 rfl aK)) ?_))
  exact ah.aQ.refl _
 ·obtain ⟨XT, hu⟩ := ae5 hl au af (by omega);obtain ⟨P, dV⟩ : ∃ P : Int, (n.natAbs : Int) * 2 ^ k.toNat = P := ⟨_, rfl⟩;have sr : 0 ≤ P := by rw [← dV]; exact fD (by omega) (kt (hr (by decide)))
  rw [dV] at hu;have eg := PH (n := N) (P := P) (by omega) (by omega) af XT (by rw [← eC, dV]; exact hu) (by rw [← eC]; exact dV);have kb := ac7 f dV sr hu;have w1 : IntKind.u64.wrap k = k := by rw [IntKind.wrap_u64]; omega
  clear hu dV sr hl eC K8 nw;refine bi (f := 187) Tryz.func187 rfl rfl rfl rfl ?_;(refine bZ ?_)
  ((refine ba rfl (cL rfl rfl rfl (a6 rfl aK)) ?_))
  exact ah.aQ.refl _
theorem ada {n k : Int} (f : fits n = true) (aA : 0 ≤ k) (h1 : k < 9223372036854775808) : aC ag 187 [fL n, aB k] (wf (n * 2 ^ k.toNat)) := by
 by_cases au : n = 0
 ·subst au;rw [Int.zero_mul];refine bi (f := 187) Tryz.func187 rfl rfl rfl rfl ?_;(refine fl ?_)
  ((refine ba rfl (cL rfl rfl rfl (a6 rfl aK)) ?_))
  exact ah.aQ.refl _
 ·exact acd f au aA h1
def gW (w : World) (b : Nat) (u v x y : Value) : Prop := (w.cell? ⟨b, 0, none⟩ = some u ∧ w.cell? ⟨b, 1, none⟩ = some v ∧ w.cell? ⟨b, 2, none⟩ = some x ∧ w.cell? ⟨b, 3, none⟩ = some y) ∧ (w.frozen? ⟨b, 0, none⟩ = false ∧ w.frozen? ⟨b, 1, none⟩ = false ∧ w.frozen? ⟨b, 2, none⟩ = false ∧ w.frozen? ⟨b, 3, none⟩ = false)
section
variable {w W w1 : World} {b g : Nat} {u v x y q : Value}
theorem gW.lt (h : gW w b u v x y) : b < w.heap.size := World.block_lt_of_cell? w _ h.1.1
theorem gW.call (h : gW W b u v x y) (ab : Below W.heap.size W w1) : gW w1 b u v x y := by
 have hl := h.lt;obtain ⟨⟨h1, h2, h3, aE⟩, bd, bC, ez, jz⟩ := h;exact ⟨⟨(ab.cell (p := ⟨b, 0, none⟩) hl).trans h1, (ab.cell (p := ⟨b, 1, none⟩) hl).trans h2, (ab.cell (p := ⟨b, 2, none⟩) hl).trans h3, (ab.cell (p := ⟨b, 3, none⟩) hl).trans aE⟩, (ab.frozen (p := ⟨b, 0, none⟩) hl).trans bd, (ab.frozen (p := ⟨b, 1, none⟩) hl).trans bC, (ab.frozen (p := ⟨b, 2, none⟩) hl).trans ez, (ab.frozen (p := ⟨b, 3, none⟩) hl).trans jz⟩
theorem gW.alloc (h : gW W b u v x y) (o : Obj) : gW (W.alloc o) b u v x y := h.call ((Below.refl _ _).alloc (dl _) o)
theorem gW.drew (h : gW W b u v x y) : gW W.drew b u v x y := h.call ((Below.refl _ _).drew)
theorem gW.new {t : TypeId} (e : b = W.heap.size) : gW (W.alloc (.cells #[u, v, x, y] t)) b u v x y := by
 subst e;unfold gW
 go_simp
theorem gW.set (h : gW W b u v x y) (o : Nat) (ne : g ≠ b) : gW (W.setCell ⟨g, o, none⟩ q) b u v x y := by
 obtain ⟨⟨h1, h2, h3, aE⟩, bd, bC, ez, jz⟩ := h;have fJ : ∀ i, (⟨g, o, none⟩ : Addr) ≠ ⟨b, i, none⟩ := fun i e => ne (congrArg Addr.block e);refine ⟨⟨?_, ?_, ?_, ?_⟩, ?_, ?_, ?_, ?_⟩
 ·rw [World.cell?_setCell_other _ _ _ _ (fJ 0)]; exact h1
 ·rw [World.cell?_setCell_other _ _ _ _ (fJ 1)]; exact h2
 ·rw [World.cell?_setCell_other _ _ _ _ (fJ 2)]; exact h3
 ·rw [World.cell?_setCell_other _ _ _ _ (fJ 3)]; exact aE
 ·go_simp
 ·go_simp
 ·go_simp
 ·go_simp
end
section
variable {W : World} {b : Nat} {u v x y nU v' : Value}
end
theorem YV (d : Int) : decide (0 < cD d 0) = decide (0 < d) := by
 unfold cD;rw [lN];simp only [ca]
 repeat' split
 all_goals omega
end Go.Proofs.YtbcecodakfejaaaGreat
namespace Go.Proofs.YtbcecodakfejaaaGreat
open Go.RowKit
attribute [local go_sem ↓] Go.wp_at_zero Go.wp_at_succ
def mW (n d : Int) : Int := if n % d < d - n % d then n / d else n / d + 1
theorem Oy {n d : Int} (au : fits n = true) (hd : 0 < d) (yq : fits d = true) : fits (d - n % d) = true ∧ (d - n % d ≤ n % d → fits (n / d + 1) = true) := by
 unfold fits at *;rw [ca] at au yq;have aA := nP n (show d ≠ 0 by omega);have h1 := na n hd;have h2 := pK n d;rw [ca, ca];refine ⟨by omega, fun hle => ?_⟩;have wh : 2 ≤ d := by omega
 have q1 : n / d * 2 ≤ 170141183460469231731687303715884105727 ∧ -170141183460469231731687303715884105728 ≤ n / d := by
  refine ⟨?_, ?_⟩
  ·rcases oK (n / d) 0 with q | q
   ·omega
   ·have : n / d * 2 ≤ n / d * d := pJ wh q;rw [gR (n / d) d] at this;omega
  ·rcases oK (n / d) 0 with q | q
   ·have : d * (n / d + 1) ≤ 1 * (n / d + 1) := Int.mul_le_mul_of_nonpos_right (by omega) (by omega);rw [Int.mul_add] at this;omega
   ·omega
 omega
end Go.Proofs.YtbcecodakfejaaaGreat
namespace Go.Proofs.YtbcecodakfejaaaGreat
open Go.RowKit
attribute [local go_sem ↓] Go.wp_at_zero Go.wp_at_succ
end Go.Proofs.YtbcecodakfejaaaGreat
namespace Go.Proofs.YtbcecodakfejaaaGreat
open Go.RowKit
attribute [local go_sem ↓] Go.wp_at_zero Go.wp_at_succ
theorem gW.cs {w : World} {b : Nat} {u v x y : Value} (h : gW w b u v x y) : w.cell? ⟨b, 0, none⟩ = some u ∧ w.cell? ⟨b, 1, none⟩ = some v ∧ w.cell? ⟨b, 2, none⟩ = some x ∧ w.cell? ⟨b, 3, none⟩ = some y := h.1
def lm (n d : Int) (k : Nat) : Int := if k = 0 then mW n d else mW (n / d) (2 ^ k)
theorem PU {k : Nat} (h : k ≤ 100) : fits ((2 : Int) ^ k) = true := by
 have h1 := Nat.pow_le_pow_right (show 0 < 2 by decide) h;rw [show (2 : Nat) ^ 100 = 1267650600228229401496703205376 by decide] at h1;have h2 := (PX k).1;have e : ((2 : Int) ^ k) = ((2 ^ k : Nat) : Int) := by simp
 unfold fits;rw [e, ca];generalize (2 : Nat) ^ k = P at *;omega
end Go.Proofs.YtbcecodakfejaaaGreat
namespace Go.Proofs.YtbcecodakfejaaaGreat
open Go.RowKit
attribute [local go_sem ↓] Go.wp_at_zero Go.wp_at_succ
end Go.Proofs.YtbcecodakfejaaaGreat
namespace Go.Proofs.YtbcecodakfejaaaGreat
open Go.RowKit
attribute [local go_sem ↓] Go.wp_at_zero Go.wp_at_succ
end Go.Proofs.YtbcecodakfejaaaGreat
namespace Go.Proofs.YtbcecodakfejaaaGreat
open Go.RowKit
attribute [local go_sem ↓] Go.wp_at_zero Go.wp_at_succ
section
variable {w W w1 : World} {g jb : Nat} {a b c d s t : Int}
end
end Go.Proofs.YtbcecodakfejaaaGreat
namespace Go.Proofs.YtbcecodakfejaaaGreat
open Go.RowKit
theorem vm {z : Int} (h : fits z = true) : wf z = .cj [mc z, Iy] := by
 show ah.cj [mc (if fits z then z else 0), .one (.c (.bool (fits z)))] = _;rw [h]; rfl
theorem RK {z : Int} (h : fits z = false) : wf z = .cj [mc 0, .one (.c (.bool false))] := by
 show ah.cj [mc (if fits z then z else 0), .one (.c (.bool (fits z)))] = _;rw [h]; rfl
theorem M6 (a b : Int) : cD a b < 0 ↔ a < b := by unfold cD; split <;> (try split) <;> omega
theorem Py {n d : Int} (f : fits n = true) (g : fits d = true) (hd : 0 < d) : aC ag 186 [fL n, fL d] (fL (mW n d)) := by
 obtain ⟨dY, et⟩ := Oy f hd g;have nw := jr.1 f;have kh := jr.1 g;have gn := nP n (show d ≠ 0 by omega);have b9 := na n hd;have yd : fits (n % d) = true := jr.2 (by omega);have aU := Pf f g hd;have bD := PM g yd;have eg := ac9 yd dY;rw [vm dY] at bD;unfold mW
 by_cases h : n % d < d - n % d
 ·have h3 : cD (n % d) (d - n % d) < 0 := (M6 ..).2 h;have lz : mW n d = n / d := by unfold mW; first | rw [if_pos h] | (split <;> omega)
  unfold mW at lz;rw [lz];generalize cD (n % d) (d - n % d) = c at *;generalize n / d = q at *;generalize n % d = r at *;clear lz dY et nw kh gn b9 yd f g;refine bi (f := 186) Tryz.func186 rfl rfl rfl rfl ?_;(refine bZ ?_)
  ((refine ba rfl (cL rfl rfl rfl aK) ?_))
  exact ah.aQ.refl _
 ·have h3 : ¬ cD (n % d) (d - n % d) < 0 := fun aR => h ((M6 ..).1 aR);have lz : mW n d = n / d + 1 := by unfold mW; first | rw [if_neg h] | (split <;> omega)
  unfold mW at lz;rw [lz];have f5 := et (by omega)
  have LM : fits (n / d) = true := by
   have q1 := pK n d;have cZ := jr.1 f5;refine jr.2 ?_
   by_cases au : 0 ≤ n
   ·have := nc au (show 0 ≤ d by omega); omega
   ·have ff : n * d ≤ n * 1 := Int.mul_le_mul_of_nonpos_left (show n ≤ 0 by omega) (show 1 ≤ d by omega);have := (nQ (a := n) (b := n) hd).2 (by omega);omega
  have kb := tr (n := 1) (by decide) (by decide);have my := ac8 LM (show fits 1 = true by decide);rw [vm f5] at my;generalize cD (n % d) (d - n % d) = c at *;generalize n / d = q at *;generalize n % d = r at *;clear lz dY et nw kh gn b9 yd f g LM f5;refine bi (f := 186) Tryz.func186 rfl rfl rfl rfl ?_;(refine bZ ?_)
  ((refine ba rfl (cL rfl rfl rfl aK) ?_))
  exact ah.aQ.refl _
end Go.Proofs.YtbcecodakfejaaaGreat
