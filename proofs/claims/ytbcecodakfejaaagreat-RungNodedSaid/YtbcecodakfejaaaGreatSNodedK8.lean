/-
  My own texts, without what this claim does not need. My own text.
-/
import Derived.Deep.DrawnRows
import Derived.Laws.OwnMore
import Derived.Deep.LoopGhost
import Derived.Shelf.Small.Bits
import Derived.Shelf.Strconv.Itoa0
import Derived.Shelf.Bits.Mul64
import Derived.Test.YtbcecodakfejaaaGreatProg
import Derived.WalkKit
import Derived.Lib.ItoaNum
import Derived.Deep.RegionHeld3
import Derived.Deep.DeepCutAuto
import Derived.Deep.QuietTactic
import Derived.Deep.CutBlock
import Derived.RegionTactic
import Derived.Test.YtbcecodakfejaaaGreatSNodedK7
set_option maxRecDepth 100000
set_option maxHeartbeats 64000000
set_option linter.unusedVariables false
set_option linter.unusedSimpArgs false
set_option linter.unusedSectionVars false
open Go.Proofs.Tryz renaming prog → ag
namespace Go.Proofs.YtbcecodakfejaaaGreat
open Go.RowKit
structure mq (w wr : World) (x : Bool) (A : Option Addr) (l c : Nat) (ds : List Int) (y : Bool) (B : Option Addr) (m d : Nat) (es : List Int) (os : List Int) : Prop where
 fw : dd wr w.heap.size (.bool x) (.slice A l c)
 b1 : dd wr (w.heap.size + 1) (.bool y) (.slice B m d)
 b2 : dd wr (w.heap.size + 1 + 1) (.bool false) (.slice none 0 0)
 own : wr.ownsRow (w.heap.size + 1 + 1 + 1) 3 1 (.slice (some ⟨w.heap.size + 1 + 1 + 1, 0, none⟩) (l + m + 1) (l + m + 1)) (l + m + 1) (os.map (Value.int .i64))
 dg : dD os
 below : Below w.heap.size w wr
section
variable {w wr : World} {x y : Bool} {A B : Option Addr} {l c m d : Nat} {ds es os : List Int}
theorem mq.len (h : mq w wr x A l c ds y B m d es os) : os.length = l + m + 1 := by have := h.own.1; simpa using this
theorem mq.drewN (h : mq w wr x A l c ds y B m d es os) (n : Nat) : mq w (wr.drewN n) x A l c ds y B m d es os :=
 ⟨h.fw, h.b1, h.b2, h.own, h.dg, KB h.below n⟩
theorem mq.cell (h : mq w wr x A l c ds y B m d es os) {j : Nat} (ae : j < l + m + 1) : wr.cell? ⟨w.heap.size + 1 + 1 + 1, j, none⟩ = some (.int .i64 (os.getD j 0)) ∧ wr.frozen? ⟨w.heap.size + 1 + 1 + 1, j, none⟩ = false := by
 refine ⟨?_, h.own.frozenAt j⟩;have ak := h.len;rw [h.own.cellAt j (by omega), eg, bN (by omega), gy, bN (by omega)];rfl
theorem mq.store (h : mq w wr x A l c ds y B m d es os) (j : Nat) {s : Int} (aD : 0 ≤ s) (h1 : s < 10000) : mq w (wr.setCell ⟨w.heap.size + 1 + 1 + 1, j, none⟩ (.int .i64 s)) x A l c ds y B m d es (os.set j s) := by
 refine ⟨h.fw.set _ (by omega), h.b1.set _ (by omega), h.b2.set _ (by omega), ?_, h.dg.set j aD h1, iR h.below _ _ _ (by omega)⟩;rw [List.map_set];exact (h.own.stored j _).1
end
structure uA (q3 : List Int) (i l m : Nat) (a : Int) (es : List Int) (k : Nat) (dt : Int) (os : List Int) : Prop where
 gT : 0 ≤ dt
 c1 : dt ≤ 9999
 val : sV os i k dt a es (hi q3 i + a * bQ es)
 low : os.take i = q3.take i
 top : ∀ j, i + m + 1 ≤ j → os.getD j 0 = 0
 at_ : k ≤ m → os.getD (i + m) 0 = 0
 more : 0 < dt → k ≤ m
 aai : k ≤ m + 1
structure Ba (os ds es : List Int) (i l m : Nat) : Prop where
 val : sW os ds es i
 top : ∀ j, i + m ≤ j → os.getD j 0 = 0
 ii : i ≤ l
theorem abl {os ds es : List Int} {i l m : Nat} (h : Ba os ds es i l m) (a : Int) : uA os i l m a es 0 0 os :=
 ⟨by omega, by omega, abn _ _ _ _, rfl, fun j ae => h.top j (by omega), fun _ => h.top _ (by omega), fun q => absurd q (by omega), by omega⟩
theorem abk {q3 os es : List Int} {i l m k : Nat} {a dt s : Int} (h : uA q3 i l m a es k dt os) (hlen : os.length = l + m + 1) (c8 : i < l) (hd : dD os) (lr : es.length = m) (he : dD es) (aJ : 0 ≤ a ∧ a < 10000)
  (iB : k < m ∨ 0 < dt) (hs : s = dt + os.getD (i + k) 0 + a * es.getD k 0) : uA q3 i l m a es (k + 1) (s / 10000) (os.set (i + k) (s % 10000)) := by
 have g1 := hd.getD (i + k);have g2 := he.getD k;have g3 := Lq aJ g2;have aD := h.gT; have h1 := h.c1;have Cq : k ≤ m := by rcases iB with q | q; omega; exact h.more q
 refine ⟨by omega, by omega, abo h.val (by omega) hs, by rw [RI (by omega)]; exact h.low, fun j ae => ?_, fun q => ?_, fun q => ?_, by omega⟩
 ·rw [getD_set_ne (by omega)]; exact h.top j ae
 ·rw [getD_set_ne (by omega)]; exact h.at_ Cq
 ·by_cases e : k < m
  ·omega
  ·have aF : k = m := by omega
   have eW : es.getD k 0 = 0 := by simp [gy, k7 (show es.length ≤ k by omega)]
   have z2 := h.at_ Cq;rw [eW, aF, z2, Int.mul_zero] at hs;omega
theorem abi {q3 os ds es : List Int} {i l m k : Nat} {a dt : Int} (h : uA q3 i l m a es k dt os) (az : Ba q3 ds es i l m) (hlen : os.length = l + m + 1) (c8 : i < l) (lr : es.length = m) (af : m ≤ k) (aj : dt ≤ 0) (aJ : a = ds.getD i 0) : Ba os ds es (i + 1) l m := by
 have cX : dt = 0 := by have := h.gT; omega
 have hv := h.val;rw [cX] at hv;have he := abm hv (by omega);rw [aJ] at he;exact ⟨abr az.val (by omega) h.low he, fun j ae => h.top j (by omega), by omega⟩
theorem abj {q3 os es : List Int} {i l m k : Nat} {a dt : Int} (h : uA q3 i l m a es k dt os) (c8 : i < l) (iB : k < m ∨ 0 < dt) : i + k < l + m + 1 := by
 have : k ≤ m := by rcases iB with q | q; omega; exact h.more q
 omega
theorem abx {w W w3 : World} {x y : Bool} {A B : Option Addr} {l c m d : Nat} {ds es : List Int} {z : Value} (aP : z = .int .i64 0) (bI : W.heap.size = w.heap.size + 1 + 1 + 1)
  (fw : dd W w.heap.size (.bool x) (.slice A l c)) (b1 : dd W (w.heap.size + 1) (.bool y) (.slice B m d)) (b2 : dd W (w.heap.size + 1 + 1) (.bool false) (.slice none 0 0)) (ab : Below w.heap.size w W)
  (cp : w3.ownsRow (w.heap.size + 1 + 1 + 1) 3 1 (.slice (some ⟨W.heap.size, 0, none⟩) (l + m + 1) (l + m + 1)) (l + m + 1) (madeCells z.cells ((l + m + 1) * 1)).toList) (aq : W.grownBy w3 none) :
  mq w w3 x A l c ds y B m d es (List.replicate (l + m + 1) 0) := by
 have eJ : Below W.heap.size W w3 := ⟨aq.os, aq.tape, aq.output, aq.size, fun i hi => aq.block i hi (by simp)⟩;refine ⟨fw.call eJ, b1.call eJ, b2.call eJ, ?_, ZF _, fa ab eJ⟩;rw [bI] at cp;rw [aP] at cp
 have e : (madeCells (Value.int .i64 0).cells ((l + m + 1) * 1)).toList = (List.replicate (l + m + 1) (0 : Int)).map (Value.int .i64) := by
  rw [Nat.mul_one, List.map_replicate];exact toList_madeCells_one _ _
 rw [e] at cp;exact cp
end Go.Proofs.YtbcecodakfejaaaGreat
namespace Go.Proofs.YtbcecodakfejaaaGreat
open Go.RowKit
theorem afQ (x y : Bool) (a b : Int) : hP (x != y) (a * b) = hP x a * hP y b := by
 cases x <;> cases y <;> simp [hP, Int.neg_mul, Int.mul_neg]
theorem eR.conv {w : World} {neg : Bool} {A : Option Addr} {l c : Nat} {n m : Int} (h : eR w neg A l c n) (e : n = m) : eR w neg A l c m := e ▸ h
theorem mq.row {w wr : World} {x y : Bool} {A B : Option Addr} {l c m d : Nat} {ds es os : List Int} (h : mq w wr x A l c ds y B m d es os) : e2 wr (some ⟨w.heap.size + 1 + 1 + 1, 0, none⟩) (l + m + 1) (l + m + 1) os := by
 obtain ⟨dR, c', e, eK⟩ := e2.own h.own;cases e;exact eK
theorem aeI (x y : Bool) (A B : Option Addr) (l c m d : Nat) (n n' : Int) (w : World) (h : eR w x A l c n) (k : eR w y B m d n') (ak : l ≤ 400) (hm : m ≤ 400) :
  Calls ag 77 #[.agg #[.bool x, .slice A l c], .agg #[.bool y, .slice B m d]] w (rz (n * n') w) := by
 obtain ⟨ds, eK, hS⟩ := h;obtain ⟨es, fF, cK⟩ := k;obtain ⟨i0, nj, km, nu, kn⟩ := info_parts zA;have pi := Lib.hid nj;have mY := Lib.hid km;have oo := Lib.hid nu;have oq := Lib.hid kn;have lM := Lib.hid eK;have kN := Lib.hid fF;have rr := Lib.hid eK.1;have rs := Lib.hid fF.1;have ew := Lib.hid hS.dg;have fM := Lib.hid cK.dg;have hv : Hid (hP (x != y) (bQ ds * bQ es) = n * n') := by unfold Hid; rw [afQ, hS.val, cK.val]
 clear nj km nu kn eK fF hS cK
 go_enter Tryz.func77, Tryz.ntmps77
 go_wp2_with (at_make; refine wpList_make_full _ rfl _ _ 32 rfl (w.heap.size + 1 + 1 + 1) 3 i0 (.int .i64 0) 1 Tryz.underlying32 pi.out mY.out oo.out .i64 .i64 _ _ (l + m + 1) rfl rfl (by omega) (by omega) (by rw [oq.out]; omega) (by simp only [maxLen]; omega) (by simp) ?_; intro w3 cp aq; have Jv := Lib.hid (abx (w := w) (x := x) (A := A) (l := l) (c := c) (ds := ds) (y := y) (B := B) (m := m) (d := d) (es := es) rfl (by simp) (((dd.new rfl).alloc _).alloc _) ((dd.new (by simp)).alloc _) (dd.new (by simp)) (by (repeat first | with_reducible exact Below.refl _ _ | with_reducible refine dV ?_ _)) cp aq); clear cp aq)
 go_loopw [6] (fun i wr => ∃ (j : Nat) (os : List Int), i = .int .i64 j ∧ j ≤ l ∧ mq w wr x A l c ds y B m d es os ∧ Ba os ds es j l m) (fun i _ => l - (intOf i).toNat)
 case atStart => exact ⟨0, _, rfl, dC _, Jv.out, ⟨abq (V2 _), fun j _ => WT _ j, dC _⟩⟩
 case round =>
  obtain ⟨j, os, rfl, ae, dS, qB⟩ := hrel;clear Jv;obtain ⟨R5, rfl⟩ : ∃ R5 : World, R5 = wr := ⟨_, rfl⟩;obtain ⟨⟨p1, p2⟩, p3, p4⟩ := id dS.fw;obtain ⟨⟨q1, q2⟩, bO, dj⟩ := id dS.b1;obtain ⟨⟨b6, cD⟩, fp, kx⟩ := id dS.b2
  by_cases r2 : j < l
  ·have Tr := Lib.hid dS;have Jy := Lib.hid qB;obtain ⟨a, aJ⟩ : ∃ a, a = ds.getD j 0 := ⟨_, rfl⟩;have Jo := Lib.hid aJ;have oC : 0 ≤ a ∧ a < 10000 := by rw [aJ]; exact ew.out.getD j
   clear dS qB aJ
   go_wp2
   go_loopw [7, 8] (fun u v wr => ∃ (k : Nat) (dt : Int) (ps : List Int), u = .int .i64 dt ∧ v = .int .i64 k ∧ mq w wr x A l c ds y B m d es ps ∧ uA os j l m a es k dt ps) (fun _ v _ => m + 2 - (intOf v).toNat)
   case atStart => exact ⟨0, 0, os, rfl, rfl, Tr.out, abl Jy.out _⟩
   case round =>
    obtain ⟨k, dt, ps, rfl, rfl, dS, bj⟩ := hrel;clear p1 p2 p3 p4 q1 q2 bO dj b6 cD fp kx;obtain ⟨⟨p1, p2⟩, p3, p4⟩ := id dS.fw;obtain ⟨⟨q1, q2⟩, bO, dj⟩ := id dS.b1;have fw := bj.gT;have b1 := bj.c1;have b2 := bj.aai
    by_cases iB : k < m ∨ 0 < dt
    ·have kh := abj bj r2 iB;obtain ⟨tO, of⟩ := dS.cell kh;obtain ⟨ct, cz, h4, aE⟩ := lM.out.call dS.below;obtain ⟨g, uZ, aq, jn⟩ := aE (by omega);have ac := jn j r2;rw [← Jo.out] at ac;have Jm := Lib.hid (kN.out.call dS.below);have bH := Lib.hid (fun w h => wH B m d es k w h (by omega) (by omega));have g2 := fM.out.getD k;have g1 := dS.dg.getD (j + k);have N : Hid (∀ s, s = dt + ps.getD (j + k) 0 + a * es.getD k 0 → uA os j l m a es (k + 1) (s / 10000) (ps.set (j + k) (s % 10000))) := fun s hs => abk bj dS.len r2 dS.dg rs.out fM.out oC iB hs;have om := Lib.hid dS;subst uZ;clear aE jn ct cz h4 bj dS;generalize ps.getD (j + k) 0 = o at N tO g1;generalize es.getD k 0 = b at N bH g2;have ah8 := Lq oC g2;have er : (0 : Int) ≤ (j : Int) := by omega
     have s1 : (j : Int) < (l : Int) := by omega
     have s2 : IntKind.i64.wrap ((j : Int) + (k : Int)) = (j : Int) + (k : Int) := IntWalk.i64_in _ (by omega);have bC : (0 : Int) ≤ (j : Int) + (k : Int) := by omega
     have bE : (j : Int) + (k : Int) < (l : Int) + (m : Int) + 1 := by omega
     have IG : ((j : Int) + (k : Int)).toNat = j + k := by omega
     have afI : IntKind.i64.wrap (dt + o) = dt + o := IntWalk.i64_in _ (by omega);have afJ : IntKind.i64.wrap (a * b) = a * b := IntWalk.i64_in _ (by omega);have afK : IntKind.i64.wrap (dt + o + a * b) = dt + o + a * b := IntWalk.i64_in _ (by omega);have dT : k < m ∨ (m ≤ k ∧ 0 < dt) := by omega
     rcases dT with t1 | ⟨t1, t2⟩
     all_goals
      go_wp2_with fail
      go_quiet ((go_at_call 115; exact QO (bH.out _ (Jm.out.drewN _))))
      clear s2 IG afI afJ afK p1 p2 p3 p4 q1 q2 bO dj ac tO of;have qi := om.out.drewN nq;clear aq Jm om;generalize wr.drewN nq = Jg at *;have lP := Lib.hid (N.out _ rfl);have di : 0 ≤ dt + o + a * b := by omega
      have ajb : dt + o + a * b ≤ 1000000000 := by omega
      obtain ⟨tO, of⟩ := qi.cell kh;have wb := Lib.hid (qi.store (j + k) (s := (dt + o + a * b) % 10000) (by omega) (by omega));clear qi N;generalize dt + o + a * b = s at *;generalize ps.getD (j + k) 0 = eV at tO
      go_wp2_with (go_at_call 116; (with_reducible refine (Bv _).mono ?_); rintro e w' ⟨rfl, rfl⟩)
      refine ⟨⟨k + 1, _, _, rfl, by go_num, wb.out, lP.out⟩, ?_⟩;simp [intOf]; omega
    ·have t1 : m ≤ k := by omega
     have t2 : dt ≤ 0 := by omega
     have om := Lib.hid dS;have S5 := Lib.hid (abi bj Jy.out dS.len r2 rs.out t1 t2 Jo.out);clear dS bj
     go_wp2
     refine ⟨⟨j + 1, _, by go_num, by omega, om.out, S5.out⟩, ?_⟩;simp [intOf]; omega
  ·obtain rfl : j = l := by omega
   have om := Lib.hid dS;have pg := Lib.hid (abp qB.val (by rw [rr.out]; omega));clear dS qB;have mW := Lib.hid om.out.row;have SL := Lib.hid om.out.dg;have a8 := Lib.hid om.out.fw;have mm := Lib.hid om.out.b1;have rl := Lib.hid om.out.b2;have pu := Lib.hid om.out.below;clear om
   go_wp2_with (go_at_call 110; ((with_reducible refine (AA _ _ _ _ os _ mW.out SL.out (by omega)).mono ?_); rintro e w1 ⟨ct, l1, rfl, h1, ab⟩; have Jk := rl.out.call ab; clear p1 p2 p3 p4 q1 q2 bO dj b6 cD fp kx; obtain ⟨⟨b6, cD⟩, fp, kx⟩ := id Jk))
   have h2 : eR w1 ct (some ⟨w.heap.size + 1 + 1 + 1, 0, none⟩) l1 (j + m + 1) (n * n') := h1.conv (by rw [pg.out]; exact hv.out)
   refine bodyPost_ret (v := .agg #[.bool ct, .slice (some ⟨w.heap.size + 1 + 1 + 1, 0, none⟩) l1 (j + m + 1)]) (by simp only [results, Tryz.results77]; go_simp) rfl ⟨_, _, _, _, rfl, ?_, ?_, fun a e => (by cases e; show w.heap.size ≤ w.heap.size + 1 + 1 + 1; omega)⟩
   ·exact h2.put (hg.of Jk)
   ·exact iR (iR (fa pu.out ab) _ _ _ (by omega)) _ _ _ (by omega)
end Go.Proofs.YtbcecodakfejaaaGreat
namespace Go.Proofs.YtbcecodakfejaaaGreat
open Go.RowKit
theorem agE : (10000 : Int) ^ 10 = 10000000000000000000000000000000000000000 := by decide
end Go.Proofs.YtbcecodakfejaaaGreat
namespace Go.Proofs.YtbcecodakfejaaaGreat
open Go.RowKit
attribute [local go_sem ↓] Go.wp_at_zero Go.wp_at_succ
section
variable {w W w1 : World} {g : Nat} {x : Bool} {A : Option Addr} {l c : Nat} {n : Int}
end
end Go.Proofs.YtbcecodakfejaaaGreat
namespace Go.Proofs.YtbcecodakfejaaaGreat
open Go.RowKit
section
variable {w wr : World} {g : Nat} {x y z : Bool} {A B C : Option Addr} {l c m d p e : Nat} {ds ajc : List Int} {b r : Int}
end
theorem ZG (w : World) : eR w false none 0 0 0 := ⟨[], e2.nil (by omega), ⟨dD.nil, O3, fun h => (by cases h), rfl⟩⟩
end Go.Proofs.YtbcecodakfejaaaGreat
namespace Go.Proofs.YtbcecodakfejaaaGreat
open Go.RowKit
attribute [local go_sem ↓] Go.wp_at_zero Go.wp_at_succ
end Go.Proofs.YtbcecodakfejaaaGreat
namespace Go.Proofs
open Go.Shelf
def Tryz.aaw : Go.Shelf.Ren := ⟨fun | 134 => 219 | 129 => 214 | n => n, fun | 53 => 144 | 3 => 3 | 4 => 4 | 46 => 209 | 5 => 5 | 9 => 9 | n => n, fun | n => n⟩
theorem Tryz.aav : Go.Proofs.Lays.n134 ag Tryz.aaw := {
 mixed := by kernel_rfl
 f129 := Tryz.func214.trans (congrArg some (by kernel_rfl))
 f134 := Tryz.func219.trans (congrArg some (by kernel_rfl))
 t3 := Tryz.underlying3
 a3 := Tryz.isAgg3
 z3 := Tryz.sizeOf3
 v3 := Tryz.zeroValue3
 t4 := Tryz.underlying4
 a4 := Tryz.isAgg4
 z4 := Tryz.sizeOf4
 v4 := Tryz.zeroValue4
 t5 := Tryz.underlying5
 a5 := Tryz.isAgg5
 z5 := Tryz.sizeOf5
 v5 := Tryz.zeroValue5
 t9 := Tryz.underlying9
 a9 := Tryz.isAgg9
 z9 := Tryz.sizeOf9
 v9 := Tryz.zeroValue9
 t46 := Tryz.underlying209
 a46 := Tryz.isAgg209
 z46 := Tryz.sizeOf209
 v46 := Tryz.zeroValue209
 t53 := Tryz.underlying144
 a53 := Tryz.isAgg144
 z53 := Tryz.sizeOf144
 v53 := Tryz.zeroValue144 }
theorem Tryz.bits_LeadingZeros64 (x : Int) (w : World) (aD : 0 ≤ x) (h1 : x ≤ 18446744073709551615) :
  Calls ag 219 #[.int .u64 x] w fun e w' => e = .returned (.int .i64 (64 - (Lib.bitLen x.toNat : Int))) ∧ w' = w := Any.bits_LeadingZeros64 Tryz.aav x w aD h1
def Tryz.aau : Go.Shelf.Ren := ⟨fun | 129 => 214 | n => n, fun | 53 => 144 | 3 => 3 | 4 => 4 | 46 => 209 | 5 => 5 | 9 => 9 | n => n, fun | n => n⟩
theorem Tryz.aat : Go.Proofs.Lays.n129 ag Tryz.aau := {
 mixed := by kernel_rfl
 f129 := Tryz.func214.trans (congrArg some (by kernel_rfl))
 t3 := Tryz.underlying3
 a3 := Tryz.isAgg3
 z3 := Tryz.sizeOf3
 v3 := Tryz.zeroValue3
 t4 := Tryz.underlying4
 a4 := Tryz.isAgg4
 z4 := Tryz.sizeOf4
 v4 := Tryz.zeroValue4
 t5 := Tryz.underlying5
 a5 := Tryz.isAgg5
 z5 := Tryz.sizeOf5
 v5 := Tryz.zeroValue5
 t9 := Tryz.underlying9
 a9 := Tryz.isAgg9
 z9 := Tryz.sizeOf9
 v9 := Tryz.zeroValue9
 t46 := Tryz.underlying209
 a46 := Tryz.isAgg209
 z46 := Tryz.sizeOf209
 v46 := Tryz.zeroValue209
 t53 := Tryz.underlying144
 a53 := Tryz.isAgg144
 z53 := Tryz.sizeOf144
 v53 := Tryz.zeroValue144 }
theorem Tryz.bits_Len64 (x : Int) (w : World) (aD : 0 ≤ x) (h1 : x ≤ 18446744073709551615) :
  Calls ag 214 #[.int .u64 x] w fun e w' => e = .returned (.int .i64 (Lib.bitLen x.toNat)) ∧ w' = w := Any.bits_Len64 Tryz.aat x w aD h1
def Tryz.aay : Go.Shelf.Ren := ⟨fun | 264 => 179 | n => n, fun | 53 => 144 | 46 => 209 | n => n, fun | n => n⟩
theorem Tryz.aax : Go.Proofs.Lays.n264 ag Tryz.aay := {
 mixed := by kernel_rfl
 f264 := Tryz.func179.trans (congrArg some (by kernel_rfl))
 t46 := Tryz.underlying209
 a46 := Tryz.isAgg209
 z46 := Tryz.sizeOf209
 v46 := Tryz.zeroValue209
 t53 := Tryz.underlying144
 a53 := Tryz.isAgg144
 z53 := Tryz.sizeOf144
 v53 := Tryz.zeroValue144 }
open Go.RowKit Go.Lib in
theorem Tryz.bits_Mul64 (x y : Nat) (aa : x < 18446744073709551616) (ai : y < 18446744073709551616) (w : World) :
  Calls ag 179 #[.int .u64 x, .int .u64 y] w fun e w' => e = .returned (.tuple #[.int .u64 ((x * y / 18446744073709551616 : Nat) : Int), .int .u64 ((x * y % 18446744073709551616 : Nat) : Int)]) ∧ w' = w := Any.bits_Mul64 Tryz.aax x y aa ai w
end Go.Proofs
namespace Go.Proofs.YtbcecodakfejaaaGreat
open Go.RowKit
theorem size_pos {h l n : Int} (H : cP h l n) (k : 0 ≤ h) : dI (IntKind.u64.wrap h) l n.natAbs := by
  obtain ⟨b1, b2, rfl⟩ := H;unfold dI;rw [IntKind.wrap_u64];omega
theorem agc {h l n a b : Int} (H : cP h l n) (K : cP a b (wr (0 - n))) (k : h < 0) : dI (IntKind.u64.wrap a) b n.natAbs := by
  obtain ⟨b1, b2, rfl⟩ := H;obtain ⟨ed, dM, e⟩ := K;unfold wr at e;unfold dI;rw [IntKind.wrap_u64];omega
theorem agb (h1 l1 n : Int) (w : World) (H1 : cP h1 l1 n) :
    Calls ag 195 #[.agg #[.int .i64 h1, .int .u64 l1]] w (aV n.natAbs w) := by
  go_enter Tryz.func195, Tryz.ntmps195
  go_wp2_with (go_at_call 166; refine (zR _ _ _ _ _ _ _ xj H1).mono ?_; rintro e w1 ⟨gp, h6, rfl, hs, ab⟩; have wC := Below.cell ab (p := ⟨w.heap.size, 0, none⟩) (by (simp; omega)); have wM := Below.frozen ab (p := ⟨w.heap.size, 0, none⟩) (by (simp; omega)); have wD := Below.cell ab (p := ⟨w.heap.size, 1, none⟩) (by (simp; omega)); have wN := Below.frozen ab (p := ⟨w.heap.size, 1, none⟩) (by (simp; omega)); have ys := Below.cell ab (p := ⟨w.heap.size + 1, 0, none⟩) (by (simp; done)); have yD := Below.frozen ab (p := ⟨w.heap.size + 1, 0, none⟩) (by (simp; done)); have yt := Below.cell ab (p := ⟨w.heap.size + 1, 1, none⟩) (by (simp; done)); have yE := Below.frozen ab (p := ⟨w.heap.size + 1, 1, none⟩) (by (simp; done)); have n1 := Below.size ab; (try simp at n1); have xr : ¬ w1.heap.size = w.heap.size := (by omega); have zT : ¬ w1.heap.size = w.heap.size + 1 := (by omega))
  · refine bodyPost_ret (v := .agg #[.int .u64 (IntKind.u64.wrap gp), .int .u64 h6]) (by simp only [results, Tryz.results195]; go_simp) rfl ⟨_, _, rfl, agc H1 hs ‹_›, ?_⟩
    (repeat first | with_reducible exact Below.refl _ _ | with_reducible refine dV ?_ _ | focus ((with_reducible refine iR ?_ _ _ _ ?_); rotate_left; omega) | with_reducible refine fa ?_ ab)
  · refine bodyPost_ret (v := .agg #[.int .u64 (IntKind.u64.wrap h1), .int .u64 l1]) (by simp only [results, Tryz.results195]; go_simp) rfl ⟨_, _, rfl, size_pos H1 ‹_›, ?_⟩
    (repeat first | with_reducible exact Below.refl _ _ | with_reducible refine dV ?_ _)
theorem af6 {h l n : Int} (H : dI h l n) : cP (wrap64 h) l (wr n) := by
  obtain ⟨b1, b2, rfl⟩ := H;unfold cP wr wrap64;omega
theorem Rs {h l n : Int} (H : dI h l n) (k : fO h l 0 0 = true ∨ 0 ≤ wrap64 h) : fits n = true ∧ cP (wrap64 h) l n := by
  rw [H.fO zC, cq] at k;obtain ⟨b1, b2, rfl⟩ := H;unfold fits cP wrap64 at *;rw [cq];omega
theorem afV {h l n : Int} (H : dI h l n) (j : fO h l 0 0 = false) (k : wrap64 h < 0) : fits n = false := by
  rw [H.fO zC, k5] at j;obtain ⟨b1, b2, rfl⟩ := H;unfold fits wrap64 at *;rw [k5];omega
theorem Rr {h l n a b : Int} (H : dI h l n) (K : cP a b (wr (0 - wr n))) (k : fO h l 0 0 = true ∨ a < 0) : fits (-n) = true ∧ cP a b (-n) := by
  rw [H.fO zC, cq] at k;obtain ⟨b1, b2, rfl⟩ := H;obtain ⟨ed, dM, e⟩ := K;unfold wr at e;unfold fits cP;rw [cq];omega
theorem afS {h l n a b : Int} (H : dI h l n) (K : cP a b (wr (0 - wr n))) (j : fO h l 0 0 = false) (k : 0 ≤ a) : fits (-n) = false := by
  rw [H.fO zC, k5] at j;obtain ⟨b1, b2, rfl⟩ := H;obtain ⟨ed, dM, e⟩ := K;unfold wr at e;unfold fits;rw [k5];omega
theorem af8 (h1 l1 n : Int) (w : World) (H1 : dI h1 l1 n) :
    Calls ag 196 #[.agg #[.int .u64 h1, .int .u64 l1], .bool false] w (pn n w) := by
  go_enter Tryz.func196, Tryz.ntmps196
  go_wp2
  · refine bodyPost_ret (v := .tuple #[.agg #[.int .i64 0, .int .u64 0], .bool false]) (by simp only [results, Tryz.results196]; go_simp) rfl (An (afV H1 ‹_› ‹_›) ?_)
    (repeat first | with_reducible exact Below.refl _ _ | with_reducible refine dV ?_ _)
  · have ai := Rs H1 (.inr ‹_›)
    refine bodyPost_ret (v := .tuple #[.agg #[.int .i64 (wrap64 h1), .int .u64 l1], .bool true]) (by simp only [results, Tryz.results196]; go_simp) rfl (sI ai.1 ai.2 ?_);(repeat first | with_reducible exact Below.refl _ _ | with_reducible refine dV ?_ _)
  · have ai := Rs H1 (.inl ‹_›)
    refine bodyPost_ret (v := .tuple #[.agg #[.int .i64 (wrap64 h1), .int .u64 l1], .bool true]) (by simp only [results, Tryz.results196]; go_simp) rfl (sI ai.1 ai.2 ?_);(repeat first | with_reducible exact Below.refl _ _ | with_reducible refine dV ?_ _)
theorem af7 (h1 l1 n : Int) (w : World) (H1 : dI h1 l1 n) :
    Calls ag 196 #[.agg #[.int .u64 h1, .int .u64 l1], .bool true] w (pn (-n) w) := by
  go_enter Tryz.func196, Tryz.ntmps196
  go_wp2_with (go_at_call 166; refine (zR _ _ _ _ _ _ _ xj (af6 H1)).mono ?_; rintro e w1 ⟨gp, h6, rfl, hs, ab⟩; have wC := Below.cell ab (p := ⟨w.heap.size, 0, none⟩) (by (simp; omega)); have wM := Below.frozen ab (p := ⟨w.heap.size, 0, none⟩) (by (simp; omega)); have wD := Below.cell ab (p := ⟨w.heap.size, 1, none⟩) (by (simp; omega)); have wN := Below.frozen ab (p := ⟨w.heap.size, 1, none⟩) (by (simp; omega)); have ys := Below.cell ab (p := ⟨w.heap.size + 1, 0, none⟩) (by (simp; done)); have yD := Below.frozen ab (p := ⟨w.heap.size + 1, 0, none⟩) (by (simp; done)); have yt := Below.cell ab (p := ⟨w.heap.size + 1, 1, none⟩) (by (simp; done)); have yE := Below.frozen ab (p := ⟨w.heap.size + 1, 1, none⟩) (by (simp; done)); have n1 := Below.size ab; (try simp at n1); have xr : ¬ w1.heap.size = w.heap.size := (by omega); have zT : ¬ w1.heap.size = w.heap.size + 1 := (by omega))
  · refine bodyPost_ret (v := .tuple #[.agg #[.int .i64 0, .int .u64 0], .bool false]) (by simp only [results, Tryz.results196]; go_simp) rfl (An (afS H1 hs ‹_› (by have h := ‹(!decide (gp < 0)) = true›; simpa using h)) ?_)
    (repeat first | with_reducible exact Below.refl _ _ | with_reducible refine dV ?_ _ | focus ((with_reducible refine iR ?_ _ _ _ ?_); rotate_left; omega) | with_reducible refine fa ?_ ab)
  · have ai := Rr H1 hs (.inr (by have h := ‹(!decide (gp < 0)) = false›; simpa using h))
    refine bodyPost_ret (v := .tuple #[.agg #[.int .i64 gp, .int .u64 h6], .bool true]) (by simp only [results, Tryz.results196]; go_simp) rfl (sI ai.1 ai.2 ?_);(repeat first | with_reducible exact Below.refl _ _ | with_reducible refine dV ?_ _ | focus ((with_reducible refine iR ?_ _ _ _ ?_); rotate_left; omega) | with_reducible refine fa ?_ ab)
  · have ai := Rr H1 hs (.inl ‹_›)
    refine bodyPost_ret (v := .tuple #[.agg #[.int .i64 gp, .int .u64 h6], .bool true]) (by simp only [results, Tryz.results196]; go_simp) rfl (sI ai.1 ai.2 ?_);(repeat first | with_reducible exact Below.refl _ _ | with_reducible refine dV ?_ _ | focus ((with_reducible refine iR ?_ _ _ _ ?_); rotate_left; omega) | with_reducible refine fa ?_ ab)
theorem IP (h1 l1 n : Int) (b : Bool) (w : World) (H1 : dI h1 l1 n) :
    Calls ag 196 #[.agg #[.int .u64 h1, .int .u64 l1], .bool b] w (pn (if b then -n else n) w) := by
  cases b
  · exact af8 h1 l1 n w H1
  · exact af7 h1 l1 n w H1
theorem aaG (h1 l1 n h2 l2 m : Int) (w : World) (H1 : dI h1 l1 n) (c9 : dI h2 l2 m) :
    Calls ag 218 #[.agg #[.int .u64 h1, .int .u64 l1], .agg #[.int .u64 h2, .int .u64 l2]] w (kQ (.bool (decide (n < m))) w) := by
  go_enter Tryz.func218, Tryz.ntmps218
  go_wp2
  all_goals
    go_ret
    refine ⟨aeT ?_, by (repeat first | with_reducible exact Below.refl _ _ | with_reducible refine dV ?_ _)⟩;obtain ⟨b1, b2, aF⟩ := H1;obtain ⟨ed, dM, aM⟩ := c9;rw [lD];simp only [cq, true_iff, nD, false_iff];omega
theorem agu (h1 l1 h2 l2 : Int) (b1 : 0 ≤ h1 ∧ h1 < 18446744073709551616) (b2 : 0 ≤ l1 ∧ l1 < 18446744073709551616)
   (ed : 0 ≤ h2 ∧ h2 < 18446744073709551616) (dM : 0 ≤ l2 ∧ l2 < 18446744073709551616) (hle : h2 * 18446744073709551616 + l2 ≤ h1 * 18446744073709551616 + l1) :
   dI ((h1 - h2 - -((l1 - l2 - 0) / 18446744073709551616)) % 18446744073709551616) ((l1 - l2 - 0) % 18446744073709551616) ((h1 * 18446744073709551616 + l1) - (h2 * 18446744073709551616 + l2)) := by
  unfold dI;omega
theorem agv (h1 l1 n h2 l2 m : Int) (w : World) (H1 : dI h1 l1 n) (c9 : dI h2 l2 m) (hle : m ≤ n) :
    Calls ag 217 #[.agg #[.int .u64 h1, .int .u64 l1], .agg #[.int .u64 h2, .int .u64 l2]] w (aV (n - m) w) := by
  obtain ⟨b1, b2, rfl⟩ := H1;obtain ⟨ed, dM, rfl⟩ := c9;have hv := agu h1 l1 h2 l2 b1 b2 ed dM hle;have aF := fun w => Eh l1 l2 0 b2.1 b2.2 dM.1 dM.2 (by omega) (by omega) w;have aM := fun w => Eh h1 h2 (-((l1 - l2 - 0) / 18446744073709551616)) b1.1 b1.2 ed.1 ed.2 (by omega) (by omega) w;generalize -((l1 - l2 - 0) / 18446744073709551616) = c at *;generalize (l1 - l2 - 0) % 18446744073709551616 = s at *;generalize (h1 - h2 - c) % 18446744073709551616 = s' at *;generalize -((h1 - h2 - c) / 18446744073709551616) = c' at *;generalize (h1 * 18446744073709551616 + l1) - (h2 * 18446744073709551616 + l2) = vC at *;clear b1 b2 ed dM hle
  go_enter Tryz.func217, Tryz.ntmps217
  go_wp2
  refine bodyPost_ret (v := .agg #[.int .u64 s', .int .u64 s]) (by simp only [results, Tryz.results217]; go_simp) rfl ⟨_, _, rfl, hv, ?_⟩;(repeat first | with_reducible exact Below.refl _ _ | with_reducible refine dV ?_ _)
end Go.Proofs.YtbcecodakfejaaaGreat
namespace Go.Proofs.YtbcecodakfejaaaGreat
def mo (n len : Nat) : Prop := (n = 0 ∧ len = 0) ∨ (1 ≤ len ∧ len ≤ 128 ∧ 2 ^ (len - 1) ≤ n ∧ n < 2 ^ len)
theorem rc : (2 : Nat) ^ 64 = 18446744073709551616 := by decide
theorem I1 : (2 : Nat) ^ 128 = 340282366920938463463374607431768211456 := by decide
theorem Oa (l : Nat) (h : l < 18446744073709551616) : mo l (Lib.bitLen l) := by
  by_cases e : l = 0
  · subst e
    exact .inl ⟨rfl, Lib.bitLenAux_zero 64⟩
  · obtain ⟨a, b, c⟩ := Lib.bitLenAux_bounds 64 l (by rw [rc]; exact h) e
    have d : Lib.bitLen l ≤ 64 := Lib.bitLen_le l 64 (dJ _) (by rw [rc]; exact h);exact .inr ⟨a, by omega, b, c⟩
theorem aaC (h l : Nat) (aD : h ≠ 0) (aU : h < 18446744073709551616) (ak : l < 18446744073709551616) : mo (h * 18446744073709551616 + l) (64 + Lib.bitLen h) ∧ Lib.bitLen h ≤ 64 := by
  obtain ⟨a, b, c⟩ := Lib.bitLenAux_bounds 64 h (by rw [rc]; exact aU) aD;have d : Lib.bitLen h ≤ 64 := Lib.bitLen_le h 64 (dJ _) (by rw [rc]; exact aU);have e : Lib.bitLenAux 64 h = Lib.bitLen h := rfl;rw [e] at a b c;refine ⟨.inr ⟨by omega, by omega, ?_, ?_⟩, d⟩
  · rw [show 64 + Lib.bitLen h - 1 = (Lib.bitLen h - 1) + 64 by omega, Nat.pow_add, rc]
    generalize 2 ^ (Lib.bitLen h - 1) = P at *;omega
  · rw [show 64 + Lib.bitLen h = Lib.bitLen h + 64 by omega, Nat.pow_add, rc]
    generalize 2 ^ Lib.bitLen h = P at *;omega
theorem aaD {n len : Nat} (h : mo n len) : len ≤ 128 := by rcases h with h | h <;> omega
theorem aaE {n len k : Nat} (h : mo n len) (aD : n ≠ 0) (af : 128 < k + len) : 340282366920938463463374607431768211456 ≤ n * 2 ^ k := by
  rcases h with h | ⟨a, b, c, d⟩
  · omega
  · have h1 := ju (2 ^ k) c
    rw [← Nat.pow_add] at h1;have h2 : 2 ^ 128 ≤ 2 ^ (len - 1 + k) := Nat.pow_le_pow_right (by decide) (by omega);rw [I1] at h2;omega
theorem aaF {n len k : Nat} (h : mo n len) (af : k + len ≤ 128) : n * 2 ^ k < 340282366920938463463374607431768211456 := by
  rcases h with ⟨rfl, rfl⟩ | ⟨a, b, c, d⟩
  · simp
  · have h1 := Nat.mul_lt_mul_of_pos_right d (Nat.two_pow_pos k)
    rw [← Nat.pow_add] at h1;have h2 : 2 ^ (len + k) ≤ 2 ^ 128 := Nat.pow_le_pow_right (by decide) (by omega);rw [I1] at h2;omega
theorem af0 (h l k : Nat) (ak : l < 18446744073709551616) (af : k < 64) (ab : (h * 18446744073709551616 + l) * 2 ^ k < 340282366920938463463374607431768211456) :
    h * 2 ^ k < 18446744073709551616 ∧ l / 2 ^ (64 - k) < 2 ^ k ∧ h * 2 ^ k + l / 2 ^ (64 - k) < 18446744073709551616 ∧
    (h * 18446744073709551616 + l) * 2 ^ k = (h * 2 ^ k + l / 2 ^ (64 - k)) * 18446744073709551616 + (l * 2 ^ k) % 18446744073709551616 := by
  have Ik : 2 ^ k * 2 ^ (64 - k) = 18446744073709551616 := by rw [← Nat.pow_add, show k + (64 - k) = 64 by omega, rc]
  have ael : 0 < 2 ^ k := Nat.two_pow_pos k;have QM : 0 < 2 ^ (64 - k) := Nat.two_pow_pos _;generalize 2 ^ k = p at *;generalize 2 ^ (64 - k) = q at *;have hd : l / q < p := by rw [Nat.div_lt_iff_lt_mul QM, Ik]; exact ak
  have aF : l * p = 18446744073709551616 * (l / q) + p * (l % q) := by
    conv => lhs; rw [← Nat.div_add_mod l q]
    rw [kq, ← Ik, Nat.mul_comm (l % q) p, Nat.mul_assoc p q, Nat.mul_comm (q * (l / q)) p]
  have aM : p * (l % q) < 18446744073709551616 := by rw [← Ik]; exact Nat.mul_lt_mul_of_pos_left (Nat.mod_lt _ QM) ael
  have cg : (l * p) % 18446744073709551616 = p * (l % q) := by rw [aF, Nat.mul_add_mod, Nat.mod_eq_of_lt aM]
  have dZ : (h * 18446744073709551616 + l) * p = h * p * 18446744073709551616 + l * p := by rw [kq, Nat.mul_right_comm]
  rw [dZ] at ab;refine ⟨by omega, hd, by omega, ?_⟩;rw [dZ, cg, kq];omega
theorem H0 (h l k : Nat) (h1 : h * 2 ^ k < 18446744073709551616) (h2 : l < 2 ^ k) (an : h * 2 ^ k + l < 18446744073709551616) :
    bits .or .u64 ((h * 2 ^ k : Nat) : Int) (l : Int) = ((h * 2 ^ k + l : Nat) : Int) := by
  rw [bits_or_u64_nat _ _ h1 (by omega), Nat.mul_comm h, ← Nat.two_pow_add_eq_or_of_lt h2]
theorem Rt (h l k : Int) (uN : 0 ≤ h) (pu : 0 ≤ l ∧ l < 18446744073709551616) (KC : 0 ≤ k ∧ k < 64) (ab : (h * 18446744073709551616 + l) * 2 ^ k.toNat < 340282366920938463463374607431768211456) :
    ∃ H, bits .or .u64 (IntKind.u64.wrap (h * 2 ^ k.toNat)) (l / 2 ^ (64 - k).toNat) = H ∧ (0 ≤ H ∧ H < 18446744073709551616) ∧ (h * 18446744073709551616 + l) * 2 ^ k.toNat = H * 18446744073709551616 + IntKind.u64.wrap (l * 2 ^ k.toNat) := by
  obtain ⟨a, rfl⟩ := mf uN;obtain ⟨b, rfl⟩ := mf pu.1;obtain ⟨c, rfl⟩ := mf KC.1;have U3 : c < 64 := by omega
  rw [show (64 - (c : Int)).toNat = 64 - c by omega, kK] at *
  have c4 : (a * 18446744073709551616 + b) * 2 ^ c < 340282366920938463463374607431768211456 := by
    have e : ((a : Int) * 18446744073709551616 + b) * 2 ^ c = (((a * 18446744073709551616 + b) * 2 ^ c : Nat) : Int) := by simp
    rw [e] at ab;omega
  obtain ⟨s1, s2, bC, bE⟩ := af0 a b c (by omega) U3 c4
  have w1 : IntKind.u64.wrap ((a : Int) * 2 ^ c) = ((a * 2 ^ c : Nat) : Int) := by
    rw [show (a : Int) * 2 ^ c = ((a * 2 ^ c : Nat) : Int) by simp, IntKind.wrap_u64];omega
  have w2 : (b : Int) / 2 ^ (64 - c) = ((b / 2 ^ (64 - c) : Nat) : Int) := by simp
  have w3 : IntKind.u64.wrap ((b : Int) * 2 ^ c) = ((b * 2 ^ c % 18446744073709551616 : Nat) : Int) := by
    rw [show (b : Int) * 2 ^ c = ((b * 2 ^ c : Nat) : Int) by simp, IntKind.wrap_u64];omega
  refine ⟨_, rfl, ?_, ?_⟩
  · rw [w1, w2, H0 _ _ _ s1 s2 bC]
    omega
  · rw [w1, w2, H0 _ _ _ s1 s2 bC, w3]
    rw [show ((a : Int) * 18446744073709551616 + b) * 2 ^ c = (((a * 18446744073709551616 + b) * 2 ^ c : Nat) : Int) by simp, bE];omega
theorem afZ (h l k : Int) (uN : 0 ≤ h) (pu : 0 ≤ l) (KC : 64 ≤ k) (ab : (h * 18446744073709551616 + l) * 2 ^ k.toNat < 340282366920938463463374607431768211456) :
    (0 ≤ IntKind.u64.wrap (l * 2 ^ (k - 64).toNat) ∧ IntKind.u64.wrap (l * 2 ^ (k - 64).toNat) < 18446744073709551616) ∧ (h * 18446744073709551616 + l) * 2 ^ k.toNat = IntKind.u64.wrap (l * 2 ^ (k - 64).toNat) * 18446744073709551616 + 0 := by
  obtain ⟨a, rfl⟩ := mf uN;obtain ⟨b, rfl⟩ := mf pu;obtain ⟨c, rfl⟩ : ∃ c : Nat, k = c + 64 := ⟨(k - 64).toNat, by omega⟩;rw [show ((c : Int) + 64 - 64).toNat = c by omega, show ((c : Int) + 64).toNat = c + 64 by omega] at *
  have e : ((a : Int) * 18446744073709551616 + b) * 2 ^ (c + 64) = (((a * 18446744073709551616 + b) * 2 ^ c * 18446744073709551616 : Nat) : Int) := by
    rw [Int.pow_add, ← kv];simp
  rw [e] at ab ⊢;rw [show (b : Int) * 2 ^ c = ((b * 2 ^ c : Nat) : Int) by simp, IntKind.wrap_u64];have hp : 0 < 2 ^ c := Nat.two_pow_pos c
  have aJ : a = 0 := by
    rcases ue a with h | h
    · exact h
    · exfalso
      have h1 : 18446744073709551616 * 1 ≤ (a * 18446744073709551616 + b) * 2 ^ c := Nat.mul_le_mul (by omega) hp;omega
  subst aJ;rw [Nat.zero_mul, jd] at *;omega
end Go.Proofs.YtbcecodakfejaaaGreat
namespace Go.Proofs.YtbcecodakfejaaaGreat
open Go.RowKit
def Td (n : Int) (w : World) (e : Ending) (w' : World) : Prop := ∃ H L, e = .returned (.tuple #[.int .u64 H, .int .u64 L]) ∧ dI H L n ∧ w = w'
theorem abh {x y : Nat} (aa : x < 18446744073709551616) (ai : y < 18446744073709551616) : x * y < 18446744073709551616 * 18446744073709551616 := Nat.mul_lt_mul'' aa ai
theorem xq (x y : Int) (w : World) (aa : 0 ≤ x ∧ x < 18446744073709551616) (ai : 0 ≤ y ∧ y < 18446744073709551616) :
    Calls ag 179 #[.int .u64 x, .int .u64 y] w (Td (x * y) w) := by
  obtain ⟨X, rfl⟩ := mf aa.1;obtain ⟨Y, rfl⟩ := mf ai.1;refine (Tryz.bits_Mul64 X Y (by omega) (by omega) w).mono ?_;rintro e w' ⟨rfl, rfl⟩;have ak := abh (x := X) (y := Y) (by omega) (by omega);refine ⟨_, _, rfl, ?_, rfl⟩;rw [show (X : Int) * (Y : Int) = ((X * Y : Nat) : Int) from (Int.natCast_mul X Y).symm];generalize X * Y = p at *;unfold dI;omega
def lU (n : Int) : Bool := decide (n < 340282366920938463463374607431768211456)
def wm (n : Int) (w : World) (e : Ending) (w' : World) : Prop := ∃ H L, e = .returned (.tuple #[.agg #[.int .u64 H, .int .u64 L], .bool (lU n)]) ∧ dI H L (if lU n then n else 0) ∧ Below w.heap.size w w'
theorem Rh {n H L : Int} {w w' : World} (h : lU n = true) (k : dI H L n) (b : Below w.heap.size w w') : wm n w (.returned (.tuple #[.agg #[.int .u64 H, .int .u64 L], .bool true])) w' := ⟨H, L, by rw [h], by rw [h]; exact k, b⟩
theorem Ak {n : Int} {w w' : World} (h : lU n = false) (b : Below w.heap.size w w') : wm n w (.returned (.tuple #[.agg #[.int .u64 0, .int .u64 0], .bool false])) w' := ⟨0, 0, by rw [h], by rw [h]; exact zC, b⟩
theorem U8 {h1 l1 n h2 l2 m : Int} (H1 : dI h1 l1 n) (c9 : dI h2 l2 m) (bl : h1 ≠ 0) (bJ : h2 ≠ 0) : lU (n * m) = false := by
  obtain ⟨b1, b2, aF⟩ := H1;obtain ⟨ed, dM, aM⟩ := c9;have ax : 18446744073709551616 ≤ n := by omega
  have hm : 18446744073709551616 ≤ m := by omega
  have h := sE ax hm (by omega) (by omega);unfold lU;rw [k5];omega
theorem abu (h1 l1 n h2 l2 m : Int) (w : World) (H1 : dI h1 l1 n) (c9 : dI h2 l2 m) (bl : h1 ≠ 0) (bJ : h2 ≠ 0) :
    Calls ag 194 #[.agg #[.int .u64 h1, .int .u64 l1], .agg #[.int .u64 h2, .int .u64 l2]] w (wm (n * m) w) := by
  have ax := Lib.hid (U8 H1 c9 bl bJ);have b1 : (h1 != 0) = true := by simpa using bl
  have b2 : (h2 != 0) = true := by simpa using bJ
  clear bl bJ
  go_enter Tryz.func194, Tryz.ntmps194
  go_wp2
  refine bodyPost_ret (v := .tuple #[.agg #[.int .u64 0, .int .u64 0], .bool false]) (by simp only [results, Tryz.results194]; go_simp) rfl (Ak ax.out ?_);(repeat first | with_reducible exact Below.refl _ _ | with_reducible refine dV ?_ _)
theorem NK {a b : Int} (h : dI a b 0) : a = 0 ∧ b = 0 := by
  obtain ⟨b1, b2, e⟩ := h;omega
theorem OK {o u q hi lo p N : Int} (A : dI o u q) (C : dI hi lo p) (e : N = q * 18446744073709551616 + p) :
    (¬ o = 0 → lU N = false) ∧ (o = 0 → ((hi + u) / 18446744073709551616 != 0) = true → lU N = false) ∧
    (o = 0 → ((hi + u) / 18446744073709551616 != 0) = false → lU N = true ∧ dI ((hi + u) % 18446744073709551616) lo N) := by
  obtain ⟨a1, a2, rfl⟩ := A;obtain ⟨b1, b2, rfl⟩ := C;unfold lU dI;simp only [bne_iff_ne, bne_eq_false_iff_eq, cq, k5];omega
theorem PB (x : Int) (h : 0 ≤ x ∧ x < 18446744073709551616) : bits .or .u64 0 x = x ∧ bits .or .u64 x 0 = x := by
  obtain ⟨X, rfl⟩ := mf h.1;have h1 := bits_or_u64_nat 0 X (by omega) (by omega);have h2 := bits_or_u64_nat X 0 (by omega) (by omega);rw [Nat.zero_or] at h1;rw [Nat.or_zero] at h2;exact ⟨h1, h2⟩
theorem abv (l1 n h2 l2 m : Int) (w : World) (H1 : dI 0 l1 n) (c9 : dI h2 l2 m) :
    Calls ag 194 #[.agg #[.int .u64 0, .int .u64 l1], .agg #[.int .u64 h2, .int .u64 l2]] w (wm (n * m) w) := by
  have eW := H1.1; have z2 := H1.2.1; have z3 := c9.1; have z4 := c9.2.1
  go_enter Tryz.func194, Tryz.ntmps194
  go_wp2_with fail
  refine (xq _ _ _ eW z4).mono ?_;rintro e w1 ⟨abZ, Em, rfl, de, rfl⟩;rw [Int.zero_mul] at de;obtain ⟨rfl, rfl⟩ := NK de;clear de
  go_wp2_with fail
  refine (xq _ _ _ z2 z3).mono ?_;rintro e w1 ⟨ab0, En, rfl, eJ, rfl⟩
  go_wp2_with fail
  refine (xq _ _ _ z2 z4).mono ?_;rintro e w1 ⟨hi, lo, rfl, hC, rfl⟩;have o1 := (PB En eJ.2.1).1;have aF := fun w => Bm hi En 0 hC.1.1 eJ.2.1.1 (by omega) (by omega) w;rw [Int.add_zero] at aF
  have rX := OK (N := n * m) eJ hC (by
    rw [H1.2.2, c9.2.2, Int.zero_mul, Int.zero_add, Int.mul_add, ← kv])
  obtain ⟨q1, q2, bO⟩ := rX;have h7 := Lib.hid q1; have iP := Lib.hid q2; have EO := Lib.hid bO;clear q1 q2 bO eW z2 z3 z4
  go_wp2
  · refine bodyPost_ret (v := .tuple #[.agg #[.int .u64 0, .int .u64 0], .bool false]) (by simp only [results, Tryz.results194]; go_simp) rfl (Ak (h7.out ‹_›) ?_)
    (repeat first | with_reducible exact Below.refl _ _ | with_reducible refine dV ?_ _)
  · refine bodyPost_ret (v := .tuple #[.agg #[.int .u64 0, .int .u64 0], .bool false]) (by simp only [results, Tryz.results194]; go_simp) rfl (Ak (iP.out ‹_› ‹_›) ?_)
    (repeat first | with_reducible exact Below.refl _ _ | with_reducible refine dV ?_ _)
  · have ai := EO.out ‹_› ‹_›
    refine bodyPost_ret (v := .tuple #[.agg #[.int .u64 ((hi + En) % 18446744073709551616), .int .u64 lo], .bool true]) (by simp only [results, Tryz.results194]; go_simp) rfl (Rh ai.1 ai.2 ?_);(repeat first | with_reducible exact Below.refl _ _ | with_reducible refine dV ?_ _)
theorem abw (h1 l1 n l2 m : Int) (w : World) (H1 : dI h1 l1 n) (c9 : dI 0 l2 m) (k : h1 ≠ 0) :
    Calls ag 194 #[.agg #[.int .u64 h1, .int .u64 l1], .agg #[.int .u64 0, .int .u64 l2]] w (wm (n * m) w) := by
  have eW := H1.1; have z2 := H1.2.1; have z3 := c9.1; have z4 := c9.2.1;have vr : (h1 != 0) = true := by simpa using k
  clear k
  go_enter Tryz.func194, Tryz.ntmps194
  go_wp2_with fail
  refine (xq _ _ _ eW z4).mono ?_;rintro e w1 ⟨abZ, Em, rfl, de, rfl⟩
  go_wp2_with fail
  refine (xq _ _ _ z2 z3).mono ?_;rintro e w1 ⟨ab0, En, rfl, eJ, rfl⟩;rw [Int.mul_zero] at eJ;obtain ⟨rfl, rfl⟩ := NK eJ;clear eJ
  go_wp2_with fail
  refine (xq _ _ _ z2 z4).mono ?_;rintro e w1 ⟨hi, lo, rfl, hC, rfl⟩;have o1 := (PB Em de.2.1).2;have aF := fun w => Bm hi Em 0 hC.1.1 de.2.1.1 (by omega) (by omega) w;rw [Int.add_zero] at aF
  have rX := OK (N := n * m) de hC (by
    rw [H1.2.2, c9.2.2, Int.zero_mul, Int.zero_add, Int.add_mul, Int.mul_right_comm])
  obtain ⟨q1, q2, bO⟩ := rX;have h7 := Lib.hid q1; have iP := Lib.hid q2; have EO := Lib.hid bO;clear q1 q2 bO eW z2 z3 z4
  go_wp2
  · refine bodyPost_ret (v := .tuple #[.agg #[.int .u64 0, .int .u64 0], .bool false]) (by simp only [results, Tryz.results194]; go_simp) rfl (Ak (h7.out ‹_›) ?_)
    (repeat first | with_reducible exact Below.refl _ _ | with_reducible refine dV ?_ _)
  · refine bodyPost_ret (v := .tuple #[.agg #[.int .u64 0, .int .u64 0], .bool false]) (by simp only [results, Tryz.results194]; go_simp) rfl (Ak (iP.out ‹_› ‹_›) ?_)
    (repeat first | with_reducible exact Below.refl _ _ | with_reducible refine dV ?_ _)
  · have ai := EO.out ‹_› ‹_›
    refine bodyPost_ret (v := .tuple #[.agg #[.int .u64 ((hi + Em) % 18446744073709551616), .int .u64 lo], .bool true]) (by simp only [results, Tryz.results194]; go_simp) rfl (Rh ai.1 ai.2 ?_);(repeat first | with_reducible exact Below.refl _ _ | with_reducible refine dV ?_ _)
theorem abt (h1 l1 n h2 l2 m : Int) (w : World) (H1 : dI h1 l1 n) (c9 : dI h2 l2 m) :
    Calls ag 194 #[.agg #[.int .u64 h1, .int .u64 l1], .agg #[.int .u64 h2, .int .u64 l2]] w (wm (n * m) w) := by
  by_cases bl : h1 = 0
  · subst bl; exact abv l1 n h2 l2 m w H1 c9
  · by_cases bJ : h2 = 0
    · subst bJ; exact abw h1 l1 n l2 m w H1 c9 bl
    · exact abu h1 l1 n h2 l2 m w H1 c9 bl bJ
def Tb (n : Int) (w : World) (e : Ending) (w' : World) : Prop := ∃ k : Nat, e = .returned (.int .i64 k) ∧ mo n.toNat k ∧ Below w.heap.size w w'
theorem U6 (h : Int) (b : 0 ≤ h ∧ h < 18446744073709551616) : Lib.bitLen h.toNat ≤ 64 := Lib.bitLen_le _ 64 (dJ _) (by rw [rc]; omega)
theorem aaB (h1 l1 n : Int) (w : World) (H1 : dI h1 l1 n) :
    Calls ag 205 #[.agg #[.int .u64 h1, .int .u64 l1]] w (Tb n w) := by
  obtain ⟨b1, b2, e⟩ := H1;have q1 := U6 h1 b1
  by_cases k : h1 = 0
  · subst k
    have ak : Hid (mo n.toNat (Lib.bitLen l1.toNat)) := by
      rw [e, show (0 * 18446744073709551616 + l1).toNat = l1.toNat by omega];exact Oa _ (by omega)
    clear e
    go_enter Tryz.func205, Tryz.ntmps205
    go_wp2_with (go_at_call 214; refine (Tryz.bits_Len64 _ _ (by omega) (by omega)).mono ?_; rintro e w' ⟨rfl, rfl⟩)
    go_ret
    exact ⟨_, rfl, ak.out, by (repeat first | with_reducible exact Below.refl _ _ | with_reducible refine dV ?_ _)⟩
  · have ak : Hid (mo n.toNat (64 + Lib.bitLen h1.toNat)) := by
      rw [e, show (h1 * 18446744073709551616 + l1).toNat = h1.toNat * 18446744073709551616 + l1.toNat by omega];exact (aaC _ _ (by omega) (by omega) (by omega)).1
    have vr : (h1 != 0) = true := by simpa using k
    clear e k
    go_enter Tryz.func205, Tryz.ntmps205
    go_wp2_with (go_at_call 214; refine (Tryz.bits_Len64 _ _ (by omega) (by omega)).mono ?_; rintro e w' ⟨rfl, rfl⟩)
    go_ret
    exact ⟨_, by simp, ak.out, by (repeat first | with_reducible exact Below.refl _ _ | with_reducible refine dV ?_ _)⟩
theorem afX (h1 l1 n k : Int) (w : World) (H1 : dI h1 l1 n) (e5 : 64 ≤ k) (bl : k < 128) (ab : n * 2 ^ k.toNat < 340282366920938463463374607431768211456) :
    Calls ag 206 #[.agg #[.int .u64 h1, .int .u64 l1], .int .u64 k] w (aV (n * 2 ^ k.toNat) w) := by
  obtain ⟨b1, b2, e⟩ := H1;rw [e] at ab ⊢;have pg := Lib.hid (afZ h1 l1 k b1.1 b2.1 e5 ab);clear e ab b1 b2
  go_enter Tryz.func206, Tryz.ntmps206
  go_wp2
  refine bodyPost_ret (v := .agg #[.int .u64 (IntKind.u64.wrap (l1 * 2 ^ (k - 64).toNat)), .int .u64 0]) (by simp only [results, Tryz.results206]; go_simp) rfl ⟨_, _, rfl, ⟨pg.out.1, by omega, pg.out.2⟩, ?_⟩;(repeat first | with_reducible exact Below.refl _ _ | with_reducible refine dV ?_ _)
theorem afY (h1 l1 n k : Int) (w : World) (H1 : dI h1 l1 n) (e5 : 0 ≤ k) (bl : k < 64) (ab : n * 2 ^ k.toNat < 340282366920938463463374607431768211456) :
    Calls ag 206 #[.agg #[.int .u64 h1, .int .u64 l1], .int .u64 k] w (aV (n * 2 ^ k.toNat) w) := by
  obtain ⟨b1, b2, e⟩ := H1;rw [e] at ab ⊢;obtain ⟨H, hI, lZ, Nr⟩ := Rt h1 l1 k b1.1 b2 ⟨e5, bl⟩ ab;have SJ := Lib.hid hI;have SK := Lib.hid Nr;clear e ab b1 b2 hI Nr
  go_enter Tryz.func206, Tryz.ntmps206
  go_wp2
  refine bodyPost_ret (v := .agg #[.int .u64 (bits BinOp.or IntKind.u64 (IntKind.u64.wrap (h1 * 2 ^ k.toNat)) (l1 / 2 ^ (64 - k).toNat)), .int .u64 (IntKind.u64.wrap (l1 * 2 ^ k.toNat))]) (by simp only [results, Tryz.results206]; go_simp) rfl ⟨_, _, rfl, ?_, ?_⟩
  · rw [SJ.out]
    exact ⟨lZ, vR _, SK.out⟩
  · (repeat first | with_reducible exact Below.refl _ _ | with_reducible refine dV ?_ _)
theorem afW (h1 l1 n k : Int) (w : World) (H1 : dI h1 l1 n) (e5 : 0 ≤ k) (bl : k < 128) (ab : n * 2 ^ k.toNat < 340282366920938463463374607431768211456) :
    Calls ag 206 #[.agg #[.int .u64 h1, .int .u64 l1], .int .u64 k] w (aV (n * 2 ^ k.toNat) w) := by
  by_cases h : k < 64
  · exact afY h1 l1 n k w H1 e5 h ab
  · exact afX h1 l1 n k w H1 (by omega) bl ab
end Go.Proofs.YtbcecodakfejaaaGreat
namespace Go.Proofs.YtbcecodakfejaaaGreat
open Go.RowKit
theorem sign_mul {h1 l1 n h2 l2 m : Int} (H1 : cP h1 l1 n) (c9 : cP h2 l2 m) : (if (!decide (h1 < 0) == decide (h2 < 0)) = true then -((n.natAbs : Int) * (m.natAbs : Int)) else (n.natAbs : Int) * (m.natAbs : Int)) = n * m := by
  have bl := H1.neg; have bJ := c9.neg;rcases o9 n 0 with a | a <;> rcases o9 m 0 with b | b
  · obtain ⟨x, rfl⟩ : ∃ x : Nat, n = -(x : Int) := ⟨n.natAbs, by omega⟩
    obtain ⟨y, rfl⟩ : ∃ y : Nat, m = -(y : Int) := ⟨m.natAbs, by omega⟩;simp [bl.2 a, bJ.2 b, Int.neg_mul, Int.mul_neg]
  · obtain ⟨x, rfl⟩ : ∃ x : Nat, n = -(x : Int) := ⟨n.natAbs, by omega⟩
    obtain ⟨y, rfl⟩ : ∃ y : Nat, m = (y : Int) := ⟨m.natAbs, by omega⟩;have : ¬ h2 < 0 := by omega
    simp [bl.2 a, this, Int.neg_mul]
  · obtain ⟨x, rfl⟩ : ∃ x : Nat, n = (x : Int) := ⟨n.natAbs, by omega⟩
    obtain ⟨y, rfl⟩ : ∃ y : Nat, m = -(y : Int) := ⟨m.natAbs, by omega⟩;have : ¬ h1 < 0 := by omega
    simp [bJ.2 b, this, Int.mul_neg]
  · obtain ⟨x, rfl⟩ : ∃ x : Nat, n = (x : Int) := ⟨n.natAbs, by omega⟩
    obtain ⟨y, rfl⟩ : ∃ y : Nat, m = (y : Int) := ⟨m.natAbs, by omega⟩;have t1 : ¬ h1 < 0 := by omega
    have t2 : ¬ h2 < 0 := by omega
    simp [t1, t2]
theorem aga {h1 l1 n h2 l2 m ph pl P : Int} (w : World) (H1 : cP h1 l1 n) (c9 : cP h2 l2 m) (e : Hid (P = n.natAbs * m.natAbs)) (hp : dI ph pl P) :
    Calls ag 196 #[.agg #[.int .u64 ph, .int .u64 pl], .bool (!decide (h1 < 0) == decide (h2 < 0))] w (pn (n * m) w) := by
  rw [← sign_mul H1 c9, ← e.out];exact IP ph pl P _ w hp
end Go.Proofs.YtbcecodakfejaaaGreat
namespace Go.Proofs.YtbcecodakfejaaaGreat
open Go.RowKit
theorem agI {n m : Int} (aD : -9223372036854775808 ≤ n) (h1 : n < 9223372036854775808) (e5 : -9223372036854775808 ≤ m) (bl : m < 9223372036854775808) : fits (n * m) = true := by
  have a : n.natAbs ≤ 9223372036854775808 := by omega
  have b : m.natAbs ≤ 9223372036854775808 := by omega
  have c := Nat.mul_le_mul a b;rw [← Int.natAbs_mul] at c;unfold fits;rw [cq];omega
theorem TF (n : Int) (k : Nat) : ((n * 2 ^ k).natAbs : Int) = (n.natAbs : Int) * 2 ^ k := by
  rw [Int.natAbs_mul, Int.natAbs_pow, Int.natCast_mul];simp
theorem af1 {n k : Int} {len : Nat} (h : mo n.natAbs len) (aD : n ≠ 0) (af : 0 ≤ k) (az : 128 - (len : Int) < k) : fits (n * 2 ^ k.toNat) = false := by
  have h1 := aaE h (by omega) (show 128 < k.toNat + len by omega);have h2 := TF n k.toNat
  rw [show (n.natAbs : Int) * 2 ^ k.toNat = ((n.natAbs * 2 ^ k.toNat : Nat) : Int) by simp] at h2;unfold fits;rw [k5];omega
theorem af2 {n k : Int} {len : Nat} (h : mo n.natAbs len) (aD : n ≠ 0) (af : 0 ≤ k) (az : k ≤ 128 - (len : Int)) : k < 128 ∧ (n.natAbs : Int) * 2 ^ k.toNat < 340282366920938463463374607431768211456 := by
  have h1 := aaF h (show k.toNat + len ≤ 128 by omega);rw [show (n.natAbs : Int) * 2 ^ k.toNat = ((n.natAbs * 2 ^ k.toNat : Nat) : Int) by simp];refine ⟨?_, by omega⟩;rcases h with h | h <;> omega
theorem af5 {h1 l1 n : Int} (k : Nat) (H1 : cP h1 l1 n) : (if decide (h1 < 0) = true then -((n.natAbs : Int) * 2 ^ k) else (n.natAbs : Int) * 2 ^ k) = n * 2 ^ k := by
  have bl := H1.neg;rcases o9 n 0 with a | a
  · obtain ⟨x, rfl⟩ : ∃ x : Nat, n = -(x : Int) := ⟨n.natAbs, by omega⟩
    rw [if_pos (cw (bl.2 a)), Int.natAbs_neg, Int.natAbs_natCast, Int.neg_mul]
  · obtain ⟨x, rfl⟩ : ∃ x : Nat, n = (x : Int) := ⟨n.natAbs, by omega⟩
    rw [if_neg (by simp; omega), Int.natAbs_natCast]
theorem af9 {h1 l1 n ph pl P : Int} {k : Nat} (w : World) (H1 : cP h1 l1 n) (e : Hid (P = (n.natAbs : Int) * 2 ^ k)) (hp : dI ph pl P) :
    Calls ag 196 #[.agg #[.int .u64 ph, .int .u64 pl], .bool (decide (h1 < 0))] w (pn (n * 2 ^ k) w) := by
  rw [← af5 k H1, ← e.out];exact IP ph pl P _ w hp
end Go.Proofs.YtbcecodakfejaaaGreat
namespace Go.Proofs.YtbcecodakfejaaaGreat
open Go.RowKit
end Go.Proofs.YtbcecodakfejaaaGreat
namespace Go.Proofs.YtbcecodakfejaaaGreat
open Go.RowKit
def cd (n : Int) : Int := n / 18446744073709551616
def dH (n : Int) : Int := n % 18446744073709551616
abbrev mH (n : Int) : bz := .agg [.c (.int .i64 (cd n)), .c (.int .u64 (dH n))]
abbrev gf (n : Int) : ah := .w (mH n)
theorem ly {n : Int} (h : fits n = true) : cP (cd n) (dH n) n := by
 unfold fits at h;rw [cq] at h;unfold cP cd dH;omega
theorem CO {H L n : Int} (h : cP H L n) : H = cd n ∧ L = dH n := by
 obtain ⟨a, b, rfl⟩ := h;unfold cd dH;omega
theorem w7 : cd 0 = 0 := by decide
theorem xl : dH 0 = 0 := by decide
@[go_sem] theorem Wt (n m : Int) : fO (cd n) (dH n) (cd m) (dH m) = decide (n = m) := by
 unfold fO cd dH;rw [lD];simp;omega
@[go_sem] theorem ahY (n : Int) : fO (cd n) (dH n) 0 0 = decide (n = 0) := by
 have := Wt n 0;rwa [w7, xl] at this
theorem L7 {n : Int} (aD : -9223372036854775808 ≤ n) (h1 : n < 9223372036854775808) : fits n = true := by unfold fits; rw [cq]; omega
theorem tX {n : Int} (aD : -9223372036854775808 ≤ n) (h1 : n < 9223372036854775808) : aC ag 152 [aH n] (gf n) :=
 hN [.int .i64 n] (.agg #[.int .i64 (cd n), .int .u64 (dH n)]) rfl rfl rfl rfl rfl fun W => (Jz n W aD h1).mono fun e w' ⟨H, L, he, hw, ab⟩ => by
  obtain ⟨rfl, rfl⟩ := CO hw; exact ⟨he, ab⟩
theorem DI {n : Int} (f : fits n = true) : aC ag 168 [gf n] (aH (b9 n 0)) :=
 hN [.agg #[.int .i64 (cd n), .int .u64 (dH n)]] (.int .i64 (b9 n 0)) rfl rfl rfl rfl rfl fun W => Th _ _ _ W (ly f)
theorem adW {n m : Int} (f : fits n = true) (g : fits m = true) : aC ag 197 [gf n, gf m] (aH (b9 n m)) :=
 hN [.agg #[.int .i64 (cd n), .int .u64 (dH n)], .agg #[.int .i64 (cd m), .int .u64 (dH m)]] (.int .i64 (b9 n m)) rfl rfl rfl rfl rfl fun W => Jl _ _ _ _ _ _ W (ly f) (ly g)
abbrev wf (z : Int) : ah := .cr [mH (if fits z then z else 0), .one (.c (.bool (fits z)))]
theorem xM {z : Int} {w w' : World} {e : Ending} (h : pn z w e w') : e = .returned (.tuple #[.agg #[.int .i64 (cd (if fits z then z else 0)), .int .u64 (dH (if fits z then z else 0))], .bool (fits z)]) ∧ Below w.heap.size w w' := by
 obtain ⟨H, L, he, hw, ab⟩ := h;obtain ⟨rfl, rfl⟩ := CO hw;exact ⟨he, ab⟩
theorem Qa {n : Int} (f : fits n = true) : aC ag 169 [gf n] (wf (-n)) :=
 hN [.agg #[.int .i64 (cd n), .int .u64 (dH n)]] _ rfl rfl rfl rfl rfl fun W => (SZ _ _ _ W (ly f)).mono fun e w' h => xM h
theorem adV {n m : Int} (f : fits n = true) (g : fits m = true) : aC ag 204 [gf n, gf m] (wf (n + m)) :=
 hN [.agg #[.int .i64 (cd n), .int .u64 (dH n)], .agg #[.int .i64 (cd m), .int .u64 (dH m)]] _ rfl rfl rfl rfl rfl fun W => (Sb _ _ _ _ _ _ W (ly f) (ly g)).mono fun e w' h => xM h
theorem Qb {n m : Int} (f : fits n = true) (g : fits m = true) : aC ag 149 [gf n, gf m] (wf (n - m)) :=
 hN [.agg #[.int .i64 (cd n), .int .u64 (dH n)], .agg #[.int .i64 (cd m), .int .u64 (dH m)]] _ rfl rfl rfl rfl rfl fun W => (Tk _ _ _ _ _ _ W (ly f) (ly g)).mono fun e w' h => xM h
theorem eR.frame {w w' : World} {neg : Bool} {A : Option Addr} {l c : Nat} {n : Int} (h : eR w neg A l c n) (ar : ∀ a, A = some a → 0 < l → w'.heap[a.block]? = w.heap[a.block]?) : eR w' neg A l c n := by
 obtain ⟨ds, ⟨h1, h2, an, aE⟩, hS⟩ := h;refine ⟨ds, ⟨h1, h2, an, fun hp => ?_⟩, hS⟩;obtain ⟨g, rfl, aq, aj⟩ := aE hp;have e := ar _ rfl hp;refine ⟨g, rfl, ?_, fun j ae => ?_⟩
 ·have cY : w.heap[g]? = some w.heap[g] := Array.getElem?_eq_getElem aq;have fh : w'.heap[g]? = some w.heap[g] := e.trans cY;exact (jv.1 fh).1
 ·have bq : w'.heap[(⟨g, j, none⟩ : Addr).block]? = w.heap[(⟨g, j, none⟩ : Addr).block]? := e;rw [World.cell?_of_block (w := w) bq]; exact aj j ae
def sX (n : Int) : e0 where
 holds w v := ∃ A l c, v = .slice A l c ∧ eR w (decide (n < 0)) A l c n
 kX w v b := ∃ A l c a, v = .slice A l c ∧ 0 < l ∧ A = some a ∧ a.block = b
 frame w w' v := by
  rintro ⟨A, l, c, rfl, h⟩ ar;exact ⟨⟨A, l, c, rfl, h.frame fun a aJ ak => ar a.block ⟨A, l, c, a, rfl, ak, aJ, rfl⟩⟩, fun b ab => ab⟩
 ir w v b := by
  rintro ⟨A, l, c, rfl, ds, ⟨h1, h2, an, aE⟩, hS⟩ ⟨dR, cb, c', a, e, ak, aJ, ab⟩;cases e;obtain ⟨g, rfl, aq, aj⟩ := aE ak;cases aJ;subst ab;exact aq
 cell w v := by rintro ⟨A, l, c, rfl, h⟩; rfl
abbrev jY (n : Int) : bz := .agg [.c (.bool (decide (n < 0))), .p (sX n)]
abbrev cO (n : Int) : ah := .w (jY n)
theorem HR {U : Nat → Prop} {ad : Nat → Nat} {w : World} {x : Bool} {A : Option Addr} {l c : Nat} {n : Int} (h : eR w x A l c n) (dx : ∀ a, A = some a → 0 < l → U a.block) : fX U ad w (jY n) (.agg #[.bool x, .slice A l c]) := by
 obtain rfl := h.HP;refine ⟨[.bool (decide (n < 0)), .slice A l c], rfl, rfl, fun i y v ai hv => ?_⟩
 match i with
 | 0 => simp at ai hv; subst ai; subst hv; exact ⟨rfl, rfl⟩
 | 1 =>
  simp at ai hv;subst ai; subst hv;refine ⟨⟨A, l, c, rfl, h⟩, ?_⟩;rintro b ⟨dR, cb, c', a, e, ak, aJ, ab⟩;cases e;subst ab;exact dx a aJ ak
 | i + 2 => simp at ai
theorem HQ {U : Nat → Prop} {ad : Nat → Nat} {w : World} {v : Value} {n : Int} (h : fX U ad w (jY n) v) : ∃ A l c, v = .agg #[.bool (decide (n < 0)), .slice A l c] ∧ eR w (decide (n < 0)) A l c n ∧ ∀ a, A = some a → 0 < l → U a.block := by
 obtain ⟨vs, rfl, ak, hv⟩ := h
 match vs, ak with
 | [x, y], _ =>
  have aD := hv 0 _ x rfl rfl;have h1 := hv 1 _ y rfl rfl;obtain ⟨rfl, _⟩ := aD;obtain ⟨⟨A, l, c, rfl, h⟩, ar⟩ := h1;exact ⟨A, l, c, rfl, h, fun a aJ ak => ar a.block ⟨A, l, c, a, rfl, ak, aJ, rfl⟩⟩
def bD (k : Nat) (n : Int) : Prop := (n.natAbs : Int) < 10000 ^ k
theorem bD.len {w : World} {x : Bool} {A : Option Addr} {l c k : Nat} {n : Int} (b : bD k n) (h : eR w x A l c n) : l ≤ k := h.len b
theorem bD.up {k j : Nat} {n : Int} (b : bD k n) (h : k ≤ j) : bD j n := by
 unfold bD at *
 have : (10000 : Int) ^ k ≤ 10000 ^ j := by
  have := Nat.pow_le_pow_right (show 0 < 10000 by decide) h;have aF : ((10000 : Int) ^ k) = ((10000 ^ k : Nat) : Int) := by simp
  have aM : ((10000 : Int) ^ j) = ((10000 ^ j : Nat) : Int) := by simp
  rw [aF, aM]; omega
 omega
theorem z7 (k : Nat) : (0 : Int) < 10000 ^ k := hO (by decide)
theorem bD.HW {n : Int} (h : fits n = true) : bD 10 n := by
 unfold fits at h;rw [cq] at h;unfold bD;rw [agE];omega
theorem bD.add {k : Nat} {n m : Int} (a : bD k n) (b : bD k m) : bD (k + 1) (n + m) := by
 unfold bD at *;rw [oa];omega
theorem bD.neg {k : Nat} {n : Int} (a : bD k n) : bD k (-n) := by unfold bD at *; rw [Int.natAbs_neg]; exact a
theorem bD.mul {k j : Nat} {n m : Int} (a : bD k n) (b : bD j m) : bD (k + j) (n * m) := by
 unfold bD at *;rw [Int.natAbs_mul, Int.pow_add, Int.natCast_mul];exact Int.mul_lt_mul' (mQ a) b (by omega) (z7 k)
theorem Q5 {U : Nat → Prop} {n : Int} {w w' : World} {e : Ending} (h : rz n w e w') (dx : ∀ b, w.heap.size ≤ b → U b) : ∃ v, e = .returned v ∧ da U id w' (cO n) v ∧ Below w.heap.size w w' := by
 obtain ⟨x, A, l, c, he, fi, ab, hF⟩ := h;exact ⟨_, he, HR fi fun a aJ _ => dx _ (hF a aJ), ab⟩
theorem Ii {f : FuncId} {n m : Int} {r : ah} (bW : r.aZ = true)
  (h : ∀ (U : Nat → Prop) (W : World) (A : Option Addr) (l c : Nat) (B : Option Addr) (cb c' : Nat), eR W (decide (n < 0)) A l c n → eR W (decide (m < 0)) B cb c' m →
   Calls ag f #[.agg #[.bool (decide (n < 0)), .slice A l c], .agg #[.bool (decide (m < 0)), .slice B cb c']] W fun e bh => ∃ v, e = .returned v ∧ da (fun b => U b ∨ W.heap.size ≤ b) id bh r v ∧ Below W.heap.size W bh) : aC ag f [cO n, cO m] r := by
 refine ⟨fun x aa => ah.du (by simp at aa; rcases aa with rfl | rfl <;> rfl), ah.du bW, fun U W vs cL => ?_⟩
 match vs, cL with
 | [], cL => exact absurd cL.1 (by simp)
 | [_], cL => exact absurd cL.1 (by simp)
 | [v1, v2], cL =>
  obtain ⟨A, l, c, rfl, bl, _⟩ := HQ (cL.2 0 _ _ rfl rfl);obtain ⟨B, cb, c', rfl, bJ, _⟩ := HQ (cL.2 1 _ _ rfl rfl);exact h U W A l c B cb c' bl bJ
 | _ :: _ :: _ :: _, cL => exact absurd cL.1 (by simp)
theorem P4 {n m : Int} (a : bD 900 n) (b : bD 900 m) : aC ag 71 [cO n, cO m] (cO (n + m)) :=
 Ii rfl fun U W A l c B cb c' h k => (aeE _ _ A B l c cb c' n m W h k (a.len h) (b.len k)).mono fun e w' h => Q5 h fun b ab => .inr ab
theorem xA {n m : Int} (a : bD 400 n) (b : bD 400 m) : aC ag 77 [cO n, cO m] (cO (n * m)) :=
 Ii rfl fun U W A l c B cb c' h k => (aeI _ _ A B l c cb c' n m W h k (a.len h) (b.len k)).mono fun e w' h => Q5 h fun b ab => .inr ab
theorem z1 {n m : Int} (a : bD 1000 n) (b : bD 1000 m) : aC ag 76 [cO n, cO m] (aH (b9 n m)) :=
 Ii rfl fun U W A l c B cb c' h k => (aeH _ _ A B l c cb c' n m W h k (a.len h) (b.len k)).mono fun e w' ⟨he, ab⟩ => ⟨_, he, ⟨rfl, rfl⟩, ab⟩
theorem adS {n : Int} (aD : -9223372036854775808 ≤ n) (h1 : n < 9223372036854775808) : aC ag 66 [aH n] (cO n) :=
 Qg [.int .i64 n] rfl rfl rfl fun W => (aeK n W aD h1).mono fun e w' ⟨x, A, l, c, he, fi, ab, hF⟩ => ⟨_, he, fun U dx => HR fi fun a aJ _ => dx _ (hF a aJ), ab⟩
theorem ad4 {f : FuncId} {n : Int} {r : ah} (bW : r.aZ = true)
  (h : ∀ (U : Nat → Prop) (W : World) (A : Option Addr) (l c : Nat), eR W (decide (n < 0)) A l c n → (∀ a, A = some a → 0 < l → U a.block) →
   Calls ag f #[.agg #[.bool (decide (n < 0)), .slice A l c]] W fun e bh => ∃ v, e = .returned v ∧ da (fun b => U b ∨ W.heap.size ≤ b) id bh r v ∧ Below W.heap.size W bh) : aC ag f [cO n] r := by
 refine ⟨fun x aa => ah.du (by simp at aa; subst aa; rfl), ah.du bW, fun U W vs cL => ?_⟩
 match vs, cL with
 | [], cL => exact absurd cL.1 (by simp)
 | [v1], cL =>
  obtain ⟨A, l, c, rfl, bl, ar⟩ := HQ (cL.2 0 _ _ rfl rfl);exact h U W A l c bl ar
 | _ :: _ :: _, cL => exact absurd cL.1 (by simp)
theorem Ic {n : Int} (a : bD 1000 n) : aC ag 109 [cO n] (cO (-n)) :=
 ad4 rfl fun U W A l c h ar => (aeJ _ A l c n W h (a.len h)).mono fun e w' ⟨x, cb, he, fi, hle, ab⟩ => ⟨_, he, HR fi fun a aJ ak => .inl (ar a aJ (by omega)), ab⟩
end Go.Proofs.YtbcecodakfejaaaGreat
namespace Go.Proofs.YtbcecodakfejaaaGreat
structure hT (u d a b : Int) : Prop where
  a0 : 2147483648 ≤ a
  a1 : a < 4294967296
  fw : 0 ≤ b
  b1 : b < 4294967296
  kz : 0 ≤ u
  b3 : u < a * 4294967296 + b
  d0 : 0 ≤ d
  d1 : d < 4294967296
def iX (u d a b : Int) : Int := (u * 4294967296 + d) / (a * 4294967296 + b)
def iq (u d a b : Int) : Int := (u * 4294967296 + d) % (a * 4294967296 + b)
structure lQ (u d a b q r : Int) : Prop where
  sum : q * a + r = u
  di : 0 ≤ q
  gN : 0 ≤ r
  le : iX u d a b ≤ q
variable {u d a b q r : Int}
theorem hT.oj (h : hT u d a b) : 0 < a * 4294967296 + b := by have := h.a0; have := h.fw; omega
theorem hT.di (h : hT u d a b) : 0 ≤ iX u d a b := nG (by have := h.kz; have := h.d0; omega) (mQ h.oj)
theorem hT.DP (h : hT u d a b) : iX u d a b < 4294967296 := by
  unfold iX;refine Int.ediv_lt_of_lt_mul h.oj ?_;have h1 := h.b3; have h2 := h.d1;generalize a * 4294967296 + b = y at *;omega
theorem hT.le_iff (h : hT u d a b) (q : Int) : q ≤ iX u d a b ↔ q * (a * 4294967296 + b) ≤ u * 4294967296 + d := by
  unfold iX;exact ob h.oj
theorem HL (q a b : Int) : q * (a * 4294967296 + b) = q * a * 4294967296 + q * b := by rw [Int.mul_add, kv]
theorem hT.init (h : hT u d a b) : lQ u d a b (u / a) (u - u / a * a) := by
  have aJ : 0 < a := by have := h.a0; omega
  refine ⟨by omega, nG h.kz (mQ aJ), ?_, ?_⟩
  · have := Int.ediv_mul_le u (show a ≠ 0 by omega)
    omega
  · have h1 := (h.le_iff _).1 (n7 _)
    rw [HL] at h1;rw [ob aJ];have h2 := gM h.di h.fw;have an := h.d1;omega
theorem hT.NF (h : hT u d a b) : u - u / a * a < a ∧ u - u / a * a < 4294967296 := by
  have aJ : 0 < a := by have := h.a0; omega
  have h1 := nF u aJ;rw [Int.emod_def, hA] at h1;have := h.a1;omega
theorem lQ.down (h : hT u d a b) (t : lQ u d a b q r) (k : 4294967296 ≤ q ∨ 4294967296 * r + d < q * b) : lQ u d a b (q - 1) (r + a) ∧ 1 ≤ q := by
  have bg : iX u d a b < q := by
    rcases k with k | k
    · exact Int.lt_of_lt_of_le h.DP k
    · rcases o9 (iX u d a b) q with l | l
      · exact l
      · have h1 := (h.le_iff q).1 l
        rw [HL] at h1;have h2 := t.sum;generalize q * a = Ip at *;generalize q * b = Iq at *;omega
  have aD := h.di;refine ⟨⟨?_, by omega, by have := t.gN; have := h.a0; omega, by omega⟩, by omega⟩;rw [Int.sub_mul, ← t.sum];omega
theorem lQ.done (h : hT u d a b) (t : lQ u d a b q r) (k : q * b ≤ 4294967296 * r + d) : q = iX u d a b := by
  have h1 : q ≤ iX u d a b := by
    rw [h.le_iff, HL];have h2 := t.sum;generalize q * a = Ip at *;generalize q * b = Iq at *;omega
  have := t.le;omega
theorem lQ.DO (h : hT u d a b) (t : lQ u d a b q r) : q < 8589934592 := by
  rcases o9 q 8589934592 with l | l
  · exact l
  · have h1 : 8589934592 * 2147483648 ≤ q * a := sE l h.a0 (by omega) t.di
    have h2 := t.sum; have an := h.b3; have aE := h.b1; have cY := h.a1; have fh := t.gN;omega
theorem lQ.small (h : hT u d a b) (t : lQ u d a b q r) (k : 4294967296 ≤ r) : q < 4294967296 := by
  rcases o9 q 4294967296 with l | l
  · exact l
  · have h1 := n8 l (show (0 : Int) ≤ a by have := h.a0; omega)
    have h2 := t.sum; have an := h.b3; have aE := h.b1;omega
theorem lQ.oT (h : hT u d a b) (t : lQ u d a b q r) (k : q < 4294967296) : 0 ≤ q * b ∧ q * b < 18446744073709551616 := by
  refine ⟨gM t.di h.fw, ?_⟩;have h1 : q * b ≤ 4294967295 * 4294967295 := sE (by omega) (by have := h.b1; omega) h.fw (by omega);omega
theorem lQ.out (h : hT u d a b) (t : lQ u d a b q r) (k : 4294967296 ≤ r) : q = iX u d a b := by
  have h1 := t.small h k;refine t.done h ?_;have h2 := (t.oT h h1).2;have an := h.d0;omega
theorem hT.rest (h : hT u d a b) : IntKind.u64.wrap (IntKind.u64.wrap (IntKind.u64.wrap (u * 4294967296) + d) - IntKind.u64.wrap (iX u d a b * (a * 4294967296 + b))) = iq u d a b := by
  have h1 : u * 4294967296 + d - iX u d a b * (a * 4294967296 + b) = iq u d a b := by
    unfold iX iq;rw [Int.emod_def, hA (a * 4294967296 + b)]
  have h2 : 0 ≤ iq u d a b := n9 _ (by have := h.oj; omega);have an : iq u d a b < a * 4294967296 + b := nF _ h.oj;have aE := h.a1; have cY := h.b1;simp only [IntKind.wrap_u64];generalize iq u d a b = k at *;generalize iX u d a b * (a * 4294967296 + b) = p at *;omega
theorem hT.next (h : hT u d a b) (e : Int) (cX : 0 ≤ e ∧ e < 4294967296) : hT (iq u d a b) e a b :=
  ⟨h.a0, h.a1, h.fw, h.b1, n9 _ (by have := h.oj; omega), nF _ h.oj, cX.1, cX.2⟩
theorem hT.two (h : hT u d a b) (e : Int) (cX : 0 ≤ e ∧ e < 4294967296) :
    iX u d a b * 4294967296 + iX (iq u d a b) e a b = (u * 18446744073709551616 + d * 4294967296 + e) / (a * 4294967296 + b) ∧ iq (iq u d a b) e a b = (u * 18446744073709551616 + d * 4294967296 + e) % (a * 4294967296 + b) := by
  have k := h.next e cX
  have oj := h.oj;have s1 : u * 4294967296 + d = (a * 4294967296 + b) * iX u d a b + iq u d a b := (pZ _ _).symm;have s2 : iq u d a b * 4294967296 + e = (a * 4294967296 + b) * iX (iq u d a b) e a b + iq (iq u d a b) e a b := (pZ _ _).symm;have gN : 0 ≤ iq (iq u d a b) e a b := n9 _ (by omega);have b6 : iq (iq u d a b) e a b < a * 4294967296 + b := nF _ oj;generalize iq (iq u d a b) e a b = R at *;generalize iX (iq u d a b) e a b = iP at *;generalize iq u d a b = ba at *;generalize iX u d a b = h7 at *;generalize a * 4294967296 + b = y at *
  have t : u * 18446744073709551616 + d * 4294967296 + e = R + y * (h7 * 4294967296 + iP) := by
    rw [Int.mul_add, ← kv];generalize y * h7 = p at *;generalize y * iP = p2 at *;omega
  rw [t]
  constructor
  · rw [Int.add_mul_ediv_left _ _ (by omega), Int.ediv_eq_zero_of_lt gN b6]
    omega
  · rw [Int.add_mul_emod_self_left, Int.emod_eq_of_lt gN b6]
structure Lz (y s : Int) : Prop where
  er : 0 ≤ s
  s1 : s < 64
  lo : 9223372036854775808 ≤ y * 2 ^ s.toNat
  hi : y * 2 ^ s.toNat < 18446744073709551616
theorem Oj (y : Int) (aD : 0 < y) (h1 : y < 18446744073709551616) : Lz y (64 - (Lib.bitLen y.toNat : Int)) := by
  obtain ⟨n, rfl⟩ := mf (mQ aD);rw [kK];rcases Oa n (by omega) with ⟨h, _⟩ | ⟨l1, _, aam, aan⟩
  · omega
  · have l2 : Lib.bitLen n ≤ 64 := Lib.bitLen_le n 64 (dJ _) (by rw [rc]; omega)
    have e : (64 - (Lib.bitLen n : Int)).toNat = 64 - Lib.bitLen n := by omega
    have f : (n : Int) * 2 ^ (64 - Lib.bitLen n) = ((n * 2 ^ (64 - Lib.bitLen n) : Nat) : Int) := by simp
    have g1 : 2 ^ 63 ≤ n * 2 ^ (64 - Lib.bitLen n) := by
      have := ju (2 ^ (64 - Lib.bitLen n)) aam;rw [← Nat.pow_add, show Lib.bitLen n - 1 + (64 - Lib.bitLen n) = 63 by omega] at this;exact this
    have g2 : n * 2 ^ (64 - Lib.bitLen n) < 2 ^ 64 := by
      have := Nat.mul_lt_mul_of_pos_right aan (Nat.two_pow_pos (64 - Lib.bitLen n));rw [← Nat.pow_add, show Lib.bitLen n + (64 - Lib.bitLen n) = 64 by omega] at this;exact this
    rw [rc] at g2;rw [show (2 : Nat) ^ 63 = 9223372036854775808 by decide] at g1;exact ⟨by omega, by omega, by rw [e, f]; omega, by rw [e, f]; omega⟩
structure Nm (hi lo y s U V Y : Int) : Prop where
  y : Y = y * 2 ^ s.toNat
  n : (hi * 18446744073709551616 + lo) * 2 ^ s.toNat = U * 18446744073709551616 + V
  kz : 0 ≤ U
  b3 : U < Y
  v0 : 0 ≤ V
  v1 : V < 18446744073709551616
theorem abK {hi lo y s : Int} (aD : 0 ≤ hi) (h1 : hi < y) (l : 0 ≤ lo ∧ lo < 18446744073709551616) (k : Lz y s) :
    Nm hi lo y s (bits .or .u64 (IntKind.u64.wrap (hi * 2 ^ s.toNat)) (lo / 2 ^ (64 - s).toNat)) (IntKind.u64.wrap (lo * 2 ^ s.toNat)) (IntKind.u64.wrap (y * 2 ^ s.toNat)) := by
  have l7 : (0 : Int) < 2 ^ s.toNat := hO (by omega)
  have t : (hi * 18446744073709551616 + lo) * 2 ^ s.toNat < y * 2 ^ s.toNat * 18446744073709551616 := by
    rw [Int.mul_right_comm];exact Int.mul_lt_mul_of_pos_right (by omega) l7
  have oP := k.hi;obtain ⟨H, aF, aM, cg⟩ := Rt hi lo s aD l ⟨k.er, k.s1⟩ (by omega)
  have w : IntKind.u64.wrap (y * 2 ^ s.toNat) = y * 2 ^ s.toNat := by
    have := k.lo;rw [IntKind.wrap_u64];omega
  rw [aF, w];have v : 0 ≤ IntKind.u64.wrap (lo * 2 ^ s.toNat) ∧ IntKind.u64.wrap (lo * 2 ^ s.toNat) < 18446744073709551616 := by rw [IntKind.wrap_u64]; omega
  refine ⟨rfl, cg, aM.1, ?_, v.1, v.2⟩;rw [cg] at t;omega
theorem Kh (x : Int) (h : 0 ≤ x ∧ x < 18446744073709551616) : bits .and .u64 x 4294967295 = x % 4294967296 := by
  obtain ⟨X, rfl⟩ := mf h.1;have h1 := bits_and_u64_nat X 4294967295 (by omega) (by omega);rw [show X &&& 4294967295 = X % 4294967296 from Nat.and_two_pow_sub_one_eq_mod X 32] at h1;rw [show ((4294967295 : Nat) : Int) = 4294967295 from rfl] at h1;rw [h1];omega
theorem Nm.aaj {hi lo y s U V Y : Int} (h : Nm hi lo y s U V Y) (k : Lz y s) : hT U (V / 4294967296) (Y / 4294967296) (Y % 4294967296) := by
  have a := h.y; have b := h.kz; have c := h.b3; have d := h.v0; have e := h.v1; have f := k.lo; have g := k.hi
  constructor <;> omega
theorem Nm.quo {hi lo y s U V Y : Int} (h : Nm hi lo y s U V Y) (k : Lz y s) : (U * 18446744073709551616 + V / 4294967296 * 4294967296 + V % 4294967296) / (Y / 4294967296 * 4294967296 + Y % 4294967296) = (hi * 18446744073709551616 + lo) / y ∧
    (U * 18446744073709551616 + V / 4294967296 * 4294967296 + V % 4294967296) % (Y / 4294967296 * 4294967296 + Y % 4294967296) / 2 ^ s.toNat = (hi * 18446744073709551616 + lo) % y := by
  have l7 : (0 : Int) < 2 ^ s.toNat := hO (by omega);rw [show U * 18446744073709551616 + V / 4294967296 * 4294967296 + V % 4294967296 = U * 18446744073709551616 + V by omega, show Y / 4294967296 * 4294967296 + Y % 4294967296 = Y by omega, ← h.n, h.y];generalize (2 : Int) ^ s.toNat = p at *
  constructor
  · exact Int.mul_ediv_mul_of_pos_left _ _ l7
  · rw [Int.emod_def, Int.mul_ediv_mul_of_pos_left _ _ l7, Int.mul_right_comm, ← Int.sub_mul, Int.mul_ediv_cancel _ (by omega), Int.emod_def]
end Go.Proofs.YtbcecodakfejaaaGreat
namespace Go.Proofs.YtbcecodakfejaaaGreat
theorem Ql (s : Int) (er : 0 ≤ s) (s1 : s < 64) : (2 : Int) * 2 ^ (63 - s).toNat * 2 ^ s.toNat = 18446744073709551616 ∧ (0 : Int) < 2 ^ (63 - s).toNat ∧ (0 : Int) < 2 ^ s.toNat := by
  refine ⟨?_, hO (by omega), hO (by omega)⟩;rw [kv, ← Int.pow_add, show (63 - s).toNat + s.toNat = 63 by omega];decide
theorem W4 (A b s T low : Int) (bp : 0 ≤ A) (hQ : A ≤ 170141183460469231731687303715884105728) (er : 0 ≤ s) (s1 : s < 64) (e : b * 2 ^ s.toNat = T * 18446744073709551616 + low) (oQ : 0 ≤ low) (l1 : low < 18446744073709551616) (Tm : 9223372036854775808 ≤ T) :
    A / b ≤ A / 2 / T / 2 ^ (63 - s).toNat ∧ A / 2 / T / 2 ^ (63 - s).toNat ≤ A / b + 1 ∧ A / 2 / T / 2 ^ (63 - s).toNat ≤ 9223372036854775808 := by
  obtain ⟨p1, p2, p3⟩ := Ql s er s1;generalize (2 : Int) ^ (63 - s).toNat = c at *;generalize (2 : Int) ^ s.toNat = p at *;rw [xG (show (0 : Int) ≤ T by omega), xG (show (0 : Int) ≤ 2 by omega)]
 
  have eK : T * (2 * c) * p = T * 18446744073709551616 := by rw [kv, p1]
  have c2 : 2 ≤ 2 * c := by omega
  have rp : 18446744073709551616 ≤ T * (2 * c) := by
    have := sE Tm c2 (by omega) (by omega);omega
  have VS : T * (2 * c) ≤ b := by
    have : T * (2 * c) * p ≤ b * p := by rw [eK, e]; omega
    exact Int.le_of_mul_le_mul_right this p3
  have ahU : b < T * (2 * c) + 2 * c := by
    have : b * p < (T * (2 * c) + 2 * c) * p := by rw [Int.add_mul, eK, p1, e]; omega
    exact Int.lt_of_mul_lt_mul_right this (mQ p3)
  rw [show 2 * (T * c) = T * (2 * c) by rw [← kv, hA 2 T, kv]];generalize wT : T * (2 * c) = D at *;have Sv : 0 < D := by omega
  have U9 : 0 < b := by omega
  have g1 : A / D * D ≤ A := Int.ediv_mul_le A (by omega);have g0 : 0 ≤ A / D := nG bp (by omega)
  have gt : A / D ≤ 9223372036854775808 := by
    rcases o9 9223372036854775808 (A / D) with h | h
    · have := sE (show 9223372036854775809 ≤ A / D by omega) rp (by omega) g0
      omega
    · exact h
  refine ⟨?_, ?_, gt⟩
  · rw [ob Sv]
    have h1 : A / b * b ≤ A := Int.ediv_mul_le A (by omega);have h2 : A / b * D ≤ A / b * b := pY VS (nG bp (by omega));omega
  · have : A / D - 1 ≤ A / b := by
      rw [ob U9];rcases o9 0 (A / D) with h | h
      · have h2 : (A / D - 1) * b ≤ (A / D - 1) * (D + 2 * c) := pY (by omega) (by omega)
        have an : (A / D - 1) * (2 * c) ≤ T * (2 * c) := n8 (by omega) (by omega);rw [Int.mul_add, Int.sub_mul (A / D) 1 D, Int.one_mul] at h2;omega
      · have h2 : (A / D - 1) * b ≤ 0 := Int.mul_nonpos_of_nonpos_of_nonneg (by omega) (by omega)
        omega
    omega
theorem acj (h l : Nat) (h1 : h * 9223372036854775808 < 18446744073709551616) (h2 : l < 9223372036854775808) (an : h * 9223372036854775808 + l < 18446744073709551616) :
    bits .or .u64 ((h * 9223372036854775808 : Nat) : Int) (l : Int) = ((h * 9223372036854775808 + l : Nat) : Int) := by
  have e := H0 h l 63;rw [show (2 : Nat) ^ 63 = 9223372036854775808 by decide] at e;exact e h1 h2 an
theorem Xq (h l : Int) (uN : 0 ≤ h ∧ h < 18446744073709551616) (pu : 0 ≤ l ∧ l < 18446744073709551616) :
    ∃ L, bits .or .u64 (IntKind.u64.wrap (h * 9223372036854775808)) (l / 2) = L ∧ (0 ≤ L ∧ L < 18446744073709551616) ∧ h / 2 * 18446744073709551616 + L = (h * 18446744073709551616 + l) / 2 := by
  obtain ⟨a, rfl⟩ := mf uN.1;obtain ⟨b, rfl⟩ := mf pu.1
  have w1 : IntKind.u64.wrap ((a : Int) * 9223372036854775808) = ((a % 2 * 9223372036854775808 : Nat) : Int) := by
    rw [IntKind.wrap_u64];omega
  have w2 : (b : Int) / 2 = ((b / 2 : Nat) : Int) := by omega
  refine ⟨_, rfl, ?_⟩;rw [w1, w2, acj _ _ (by omega) (by omega) (by omega)];omega
theorem aaQ {h l s : Int} (k : Lz h s) (aD : 0 ≤ h) (oQ : 0 ≤ l) (l1 : l < 18446744073709551616) :
    (h * 18446744073709551616 + l) * 2 ^ s.toNat < 340282366920938463463374607431768211456 ∧ 170141183460469231731687303715884105728 ≤ (h * 18446744073709551616 + l) * 2 ^ s.toNat := by
  obtain ⟨p1, p2, p3⟩ := Ql s k.er k.s1;have lo := k.lo; have hi := k.hi;generalize (2 : Int) ^ (63 - s).toNat = c at *;generalize (2 : Int) ^ s.toNat = p at *
  have aj : h < 2 * c := by
    rw [← p1] at hi;exact Int.lt_of_mul_lt_mul_right hi (mQ p3)
  have h2 : (h + 1) * p ≤ 2 * c * p := n8 (by omega) (mQ p3);have an : l * p ≤ 18446744073709551615 * p := n8 (by omega) (mQ p3);have aE : 0 ≤ l * p := gM oQ (mQ p3);rw [Int.add_mul, Int.one_mul, p1] at h2;rw [Int.add_mul, Int.mul_right_comm];generalize h * p = hp at *;generalize l * p = aiZ at *;omega
end Go.Proofs.YtbcecodakfejaaaGreat
namespace Go.Proofs.YtbcecodakfejaaaGreat
open Go.RowKit
theorem U5 {w W : World} (h : Below w.heap.size w W) (n : Nat) : Below w.heap.size w (W.drewN n) := ⟨h.os, h.tape, h.output, h.size, h.block⟩
def Tc (y : Int) (w : World) (e : Ending) (w' : World) : Prop := ∃ s : Int, e = .returned (.int .i64 s) ∧ Lz y s ∧ w = w'
theorem aaP (y : Int) (w : World) (aD : 0 < y) (h1 : y < 18446744073709551616) : Calls ag 219 #[.int .u64 y] w (Tc y w) := by
  refine (Tryz.bits_LeadingZeros64 y w (by omega) (by omega)).mono ?_;rintro e w' ⟨rfl, rfl⟩;exact ⟨_, rfl, Oj y aD h1, rfl⟩
theorem aeU {a b c d : Int} (h : a = c) (k : b = d) : Ending.returned (.tuple #[.int .u64 a, .int .u64 b]) = .returned (.tuple #[.int .u64 c, .int .u64 d]) := by rw [h, k]
def EU (q r : Int) (w : World) (e : Ending) (w' : World) : Prop := e = .returned (.tuple #[.int .u64 q, .int .u64 r]) ∧ Below w.heap.size w w'
theorem VO (lo y : Int) (w : World) (l : 0 ≤ lo ∧ lo < 18446744073709551616) (oj : 0 < y) (kL : y < 18446744073709551616) :
    Calls ag 215 #[.int .u64 0, .int .u64 lo, .int .u64 y] w (EU (lo / y) (lo % y) w) := by
  have gb : (y == 0) = false := by simp; omega
  have dp : decide (y ≤ 0) = false := by simp; omega
  obtain ⟨oQ, l1⟩ := l
  go_enter Tryz.func215, Tryz.ntmps215
  go_wp2
  go_quiet (fail)
  go_wp2
  go_ret2
  exact ⟨rfl, U5 (Below.refl _ _) _⟩
theorem VN (hi lo y : Int) (w : World) (aD : 0 < hi) (h1 : hi < y) (l : 0 ≤ lo ∧ lo < 18446744073709551616) (kL : y < 18446744073709551616) :
    Calls ag 215 #[.int .u64 hi, .int .u64 lo, .int .u64 y] w (EU ((hi * 18446744073709551616 + lo) / y) ((hi * 18446744073709551616 + lo) % y) w) := by
  have gb : (y == 0) = false := by simp; omega
  have dp : decide (y ≤ hi) = false := by simp; omega
  have dX : (hi == 0) = false := by simp; omega
  go_enter Tryz.func215, Tryz.ntmps215
  go_wp2_with fail
  refine (aaP y _ (by omega) kL).mono ?_;rintro e w1 ⟨s, rfl, hs, rfl⟩;have pO := hs.er; have tC := hs.s1;have Zb : IntKind.u64.wrap s = s := by rw [IntKind.wrap_u64]; omega
  have tz := abK (mQ aD) h1 l hs;generalize dx : bits .or .u64 (IntKind.u64.wrap (hi * 2 ^ s.toNat)) (lo / 2 ^ (64 - s).toNat) = U at tz;generalize nf : IntKind.u64.wrap (lo * 2 ^ s.toNat) = V at tz;generalize wU : IntKind.u64.wrap (y * 2 ^ s.toNat) = Y at tz;have ki := tz.aaj hs;have GV := tz.quo hs;have MD : 0 ≤ Y ∧ Y < 18446744073709551616 := by have := ki.a0; have := ki.a1; omega
  have aih := Kh Y MD;have aif := Kh V ⟨tz.v0, tz.v1⟩;have two := ki.two (V % 4294967296) (by omega);rw [GV.1] at two;have ME : Y / 4294967296 * 4294967296 + Y % 4294967296 = Y := by omega
  have DU := ki.rest;have zI := ki.next (V % 4294967296) (by omega)
  have Af := zI.rest;rw [ME] at DU Af;have VZ : 0 ≤ V % 4294967296 ∧ V % 4294967296 < 4294967296 := by omega
  generalize hd : V / 4294967296 = d at *;generalize he : V % 4294967296 = e at *;generalize aJ : Y / 4294967296 = a at *;generalize ab : Y % 4294967296 = b at *;have a0 := ki.a0; have a1 := ki.a1; have fw := ki.fw; have b1 := ki.b1; have kz := ki.kz; have d0 := ki.d0; have d1 := ki.d1;have b3 : U < 18446744073709551616 := by have := ki.b3; omega
  have ahC : (a == 0) = false := by simp; omega
  have qi := Lib.hid two; have SG := Lib.hid GV.2; have uy := Lib.hid ki; have lO := Lib.hid zI;have aja := ki.DP; have ai9 := ki.di; have QJ := zI.DP; have QI := zI.di;have t1 := ki.init; have RD := ki.NF;have i1 := t1.DO ki;have i2 : 0 ≤ U / a := t1.di
  have i3 : IntKind.u64.wrap (U / a * a) = U / a * a := by
    have := t1.sum; have := t1.gN; rw [IntKind.wrap_u64];have : 0 ≤ U / a * a := gM i2 (by omega);omega
  have i4 := t1.gN;have i7 : 0 ≤ U / a * a := gM i2 (by omega);obtain ⟨m1, w9⟩ : ∃ m, m = U / a * a := ⟨_, rfl⟩;rw [← w9] at i4 i7 t1 RD;have aiC : IntKind.u64.wrap (U / a * a) = m1 := by rw [i3, w9]
  obtain ⟨i5, i6⟩ := RD;have s0 := Lib.hid t1;generalize My : iX U d a b = h7 at *;generalize Xm : iq U d a b = li at *;have EE := Lib.hid My;have SH := Lib.hid DU; have SI := Lib.hid Af;clear two GV ki zI tz ME VZ MD h1 aD l kL i3 w9 t1 My Xm DU Af
  go_upto_block 0 with fail
  go_cut [15, 16] (fun Ap vO uo => w = uo ∧ Ap = .int .u64 h7 ∧ ∃ r, vO = .int .u64 r)
  case first =>
    go_wp2_with fail
    go_loop [15, 16] (fun Ap vO => ∃ q r : Int, Ap = .int .u64 q ∧ vO = .int .u64 r ∧ lQ U d a b q r ∧ r < 4294967296) (fun Ap _ => (intOf Ap).toNat)
    case atStart => exact ⟨_, _, rfl, rfl, s0.out, i6⟩
    case round =>
      obtain ⟨q, r, rfl, rfl, aB, ap⟩ := hrel;have al := aB.DO uy.out;have r4 := aB.di;have YM := aB.gN
      by_cases ab : 4294967296 ≤ q
      · obtain ⟨fY, tB⟩ := aB.down uy.out (.inl ab)
        have mW := Lib.hid fY;clear fY
        by_cases aa : 4294967296 ≤ r + a
        · have iU := mW.out.out uy.out aa
          rw [EE.out] at iU;have iO := Lib.hid iU;clear iU
          go_wp2_with fail
          go_meet
          exact ⟨rfl, congrArg _ iO.out, _, rfl⟩
        · go_wp2_with fail
          go_round
          case rel => exact ⟨_, _, rfl, rfl, mW.out, by omega⟩
          case measure => simp [intOf]; omega
      · have GH := aB.oT uy.out (by omega)
        obtain ⟨P, ej⟩ : ∃ P, P = q * b := ⟨_, rfl⟩;rw [← ej] at GH;have Xi : IntKind.u64.wrap (q * b) = P := by rw [← ej, IntKind.wrap_u64]; omega
        have x5 := Lib.hid ej;clear ej
        by_cases aj : 4294967296 * r + d < P
        · obtain ⟨fY, tB⟩ := aB.down uy.out (.inr (by rw [← x5.out]; exact aj))
          have mW := Lib.hid fY;clear fY
          by_cases aa : 4294967296 ≤ r + a
          · have iU := mW.out.out uy.out aa
            rw [EE.out] at iU;have iO := Lib.hid iU;clear iU
            go_wp2_with fail
            go_meet
            exact ⟨rfl, congrArg _ iO.out, _, rfl⟩
          · go_wp2_with fail
            go_round
            case rel => exact ⟨_, _, rfl, rfl, mW.out, by omega⟩
            case measure => simp [intOf]; omega
        · have iU := aB.done uy.out (by rw [← x5.out]; omega)
          rw [EE.out] at iU;have iO := Lib.hid iU;clear iU
          go_wp2_with fail
          go_meet
          exact ⟨rfl, congrArg _ iO.out, _, rfl⟩
  case rest =>
    obtain ⟨rfl, rfl, b6, rfl⟩ := hcut;have DU := SH.out;have v0 := lO.out.kz;have v1 : li < 18446744073709551616 := by have := lO.out.b3; omega
    have cX := lO.out.d0; have aF := lO.out.d1;have t2 := lO.out.init; have RE := lO.out.NF;have qN := t2.DO lO.out;have CQ : 0 ≤ li / a := t2.di
    have NS : IntKind.u64.wrap (li / a * a) = li / a * a := by
      have := t2.sum; have := t2.gN; rw [IntKind.wrap_u64];have : 0 ≤ li / a * a := gM CQ (by omega);omega
    have ZN := t2.gN;have ZP : 0 ≤ li / a * a := gM CQ (by omega);obtain ⟨m2, nW⟩ : ∃ m, m = li / a * a := ⟨_, rfl⟩;rw [← nW] at ZN ZP t2 RE;have aiU : IntKind.u64.wrap (li / a * a) = m2 := by rw [NS, nW]
    obtain ⟨aiV, ZO⟩ := RE;have yh := Lib.hid t2;obtain ⟨iP, Ga⟩ : ∃ Q, Q = iX li e a b := ⟨_, rfl⟩;have x6 := Lib.hid Ga.symm;have QI := lO.out.di; have QJ := lO.out.DP;rw [← Ga] at QI QJ;clear NS nW t2 Ga
    go_upto_block 2 with fail
    go_cut [18, 16] (fun Aq vO uo => w = uo ∧ Aq = .int .u64 iP ∧ ∃ r, vO = .int .u64 r)
    case first =>
      go_wp2_with fail
      go_loop [18, 16] (fun Aq vO => ∃ q r : Int, Aq = .int .u64 q ∧ vO = .int .u64 r ∧ lQ li e a b q r ∧ r < 4294967296) (fun Aq _ => (intOf Aq).toNat)
      case atStart => exact ⟨_, _, rfl, rfl, yh.out, ZO⟩
      case round =>
        obtain ⟨q, r, rfl, rfl, aB, ap⟩ := hrel;have al := aB.DO lO.out;have r4 := aB.di;have YM := aB.gN
        by_cases ab : 4294967296 ≤ q
        · obtain ⟨fY, tB⟩ := aB.down lO.out (.inl ab)
          have mW := Lib.hid fY;clear fY
          by_cases aa : 4294967296 ≤ r + a
          · have iU := mW.out.out lO.out aa
            rw [x6.out] at iU;have iO := Lib.hid iU;clear iU
            go_wp2_with fail
            go_meet
            exact ⟨rfl, congrArg _ iO.out, _, rfl⟩
          · go_wp2_with fail
            go_round
            case rel => exact ⟨_, _, rfl, rfl, mW.out, by omega⟩
            case measure => simp [intOf]; omega
        · have GH := aB.oT lO.out (by omega)
          obtain ⟨P, ej⟩ : ∃ P, P = q * b := ⟨_, rfl⟩;rw [← ej] at GH;have Xi : IntKind.u64.wrap (q * b) = P := by rw [← ej, IntKind.wrap_u64]; omega
          have x5 := Lib.hid ej;clear ej
          by_cases aj : 4294967296 * r + e < P
          · obtain ⟨fY, tB⟩ := aB.down lO.out (.inr (by rw [← x5.out]; exact aj))
            have mW := Lib.hid fY;clear fY
            by_cases aa : 4294967296 ≤ r + a
            · have iU := mW.out.out lO.out aa
              rw [x6.out] at iU;have iO := Lib.hid iU;clear iU
              go_wp2_with fail
              go_meet
              exact ⟨rfl, congrArg _ iO.out, _, rfl⟩
            · go_wp2_with fail
              go_round
              case rel => exact ⟨_, _, rfl, rfl, mW.out, by omega⟩
              case measure => simp [intOf]; omega
          · have iU := aB.done lO.out (by rw [← x5.out]; omega)
            rw [x6.out] at iU;have iO := Lib.hid iU;clear iU
            go_wp2_with fail
            go_meet
            exact ⟨rfl, congrArg _ iO.out, _, rfl⟩
    case rest =>
      obtain ⟨rfl, rfl, cD, rfl⟩ := hcut;have Af := SI.out;rw [x6.out] at Af;have fin := qi.out;have FI := SG.out;rw [x6.out] at fin;rw [← fin.2] at FI;have SC := Lib.hid fin.1;have SD := Lib.hid FI;generalize iq li e a b = R at *;clear fin FI
      go_wp2
      go_ret2
      exact ⟨aeU SC.out SD.out, Below.refl _ _⟩
theorem VM (hi lo y : Int) (w : World) (aD : 0 ≤ hi) (h1 : hi < y) (l : 0 ≤ lo ∧ lo < 18446744073709551616) (kL : y < 18446744073709551616) :
    Calls ag 215 #[.int .u64 hi, .int .u64 lo, .int .u64 y] w (EU ((hi * 18446744073709551616 + lo) / y) ((hi * 18446744073709551616 + lo) % y) w) := by
  by_cases h : hi = 0
  · subst h
    rw [Int.zero_mul, Int.zero_add];exact VO lo y w l (by omega) kL
  · exact VN hi lo y w (by omega) h1 l kL
end Go.Proofs.YtbcecodakfejaaaGreat
namespace Go.Proofs.YtbcecodakfejaaaGreat
open Go.RowKit
theorem WB (x y : Int) (w : World) : (Instr.field 250 (.agg #[.int .u64 x, .int .u64 y]) 0).run ag w = .ok (.int .u64 x) w := by kernel_rfl
attribute [local go_sem] WB
theorem VP {h1 l1 n m : Int} (H1 : dI h1 l1 n) (m0 : 0 < m) (m1 : m < 18446744073709551616) :
    dI (h1 / m) ((h1 % m * 18446744073709551616 + l1) / m) (n / m) ∧ dI 0 ((h1 % m * 18446744073709551616 + l1) % m) (n % m) := by
  obtain ⟨b1, b2, rfl⟩ := H1;have gN := n9 h1 (show m ≠ 0 by omega);have b6 := nF h1 m0
  have e : h1 * 18446744073709551616 + l1 = (h1 % m * 18446744073709551616 + l1) + m * (h1 / m * 18446744073709551616) := by
    have := pZ h1 m;rw [← kv];generalize m * (h1 / m) = k at *;omega
  have di : 0 ≤ h1 / m := nG b1.1 (by omega);have q1 : h1 / m ≤ h1 := Int.ediv_le_self _ b1.1;have er := n9 (h1 % m * 18446744073709551616 + l1) (show m ≠ 0 by omega);have s1 := nF (h1 % m * 18446744073709551616 + l1) m0;have t0 : 0 ≤ (h1 % m * 18446744073709551616 + l1) / m := nG (by omega) (by omega);have t1 : (h1 % m * 18446744073709551616 + l1) / m < 18446744073709551616 := Int.ediv_lt_of_lt_mul m0 (by omega)
  constructor
  · refine ⟨by omega, by omega, ?_⟩
    rw [e, Int.add_mul_ediv_left _ _ (by omega)];omega
  · refine ⟨by omega, by omega, ?_⟩
    rw [e, Int.add_mul_emod_self_left];omega
end Go.Proofs.YtbcecodakfejaaaGreat
namespace Go.Proofs.YtbcecodakfejaaaGreat
open Go.RowKit
theorem W1 {n m g : Int} (gb : 0 ≤ n) (m0 : 0 < m) (dp : n < 340282366920938463463374607431768211456) (h : g ≤ n / m) (g0 : 0 ≤ g) : lU (g * m) = true ∧ g * m ≤ n := by
  have h1 : g * m ≤ n := (ob m0).1 h;unfold lU;rw [cq];exact ⟨by omega, h1⟩
theorem W2 {n m g : Int} (m0 : 0 < m) (h : g ≤ n / m) (k : n - g * m < m) : g = n / m ∧ n - g * m = n % m := by
  have h1 : g * m ≤ n := (ob m0).1 h;have h2 : n / m < g + 1 := Int.ediv_lt_of_lt_mul m0 (by rw [Int.add_mul]; omega);have e : g = n / m := by omega
  refine ⟨e, ?_⟩;rw [Int.emod_def, e, hA]
theorem W3 {n m g : Int} (m0 : 0 < m) (h : n / m ≤ g + 1) (k : ¬ n - g * m < m) : g + 1 = n / m ∧ n - g * m - m = n % m := by
  have h2 : g + 1 ≤ n / m := (ob m0).2 (by rw [Int.add_mul]; omega);have e : g + 1 = n / m := by omega
  refine ⟨e, ?_⟩;rw [Int.emod_def, ← e, hA m, Int.add_mul];omega
theorem aev {n m g : Int} (gb : 0 ≤ n) (ax : n ≤ 170141183460469231731687303715884105728) (m0 : 18446744073709551616 ≤ m) (h : g ≤ n / m) : g < 9223372036854775809 := by
  rcases o9 g 9223372036854775809 with k | k
  · exact k
  · have h1 : g * m ≤ n := (ob (by omega)).1 h
    have h2 : 9223372036854775809 * 18446744073709551616 ≤ g * m := sE k m0 (by omega) (by omega);omega
end Go.Proofs.YtbcecodakfejaaaGreat
namespace Go.Proofs.YtbcecodakfejaaaGreat
open Go.RowKit
theorem ahT {n m N M : Int} (hm : 0 < m) (fi : ((n.natAbs : Nat) : Int) = N) (fP : ((m.natAbs : Nat) : Int) = M) (k : 0 ≤ n) : N / M = n / m ∧ N % M = n % m := by
 obtain rfl : M = m := by omega
 obtain rfl : N = n := by omega
 exact ⟨rfl, rfl⟩
theorem VQ {n m N M : Int} (hm : 0 < m) (fi : ((n.natAbs : Nat) : Int) = N) (fP : ((m.natAbs : Nat) : Int) = M) (k : n < 0) (z : N % M = 0) : -(N / M) = n / m ∧ 0 = n % m := by
 obtain rfl : M = m := by omega
 obtain rfl : n = -N := by omega
 have h1 := pZ N M;rw [z, Int.add_zero] at h1;have h2 : -N = M * (-(N / M)) := by rw [Int.mul_neg, h1]
 rw [h2]
 constructor
 ·rw [Int.mul_ediv_cancel_left _ (by omega)]
 ·rw [Int.mul_emod_right]
theorem VR {n m N M : Int} (hm : 0 < m) (fi : ((n.natAbs : Nat) : Int) = N) (fP : ((m.natAbs : Nat) : Int) = M) (k : n < 0) (z : N % M ≠ 0) : -(N / M) - 1 = n / m ∧ -(N % M) + m = n % m := by
 obtain rfl : M = m := by omega
 obtain rfl : n = -N := by omega
 have h1 := pZ N M;have gN := n9 N (show M ≠ 0 by omega);have b6 := nF N hm;have h2 : -N = (M - N % M) + M * (-(N / M) - 1) := by rw [Int.mul_sub, Int.mul_neg, Int.mul_one]; omega
 have q : (-N) / M = -(N / M) - 1 := by
  rw [h2, Int.add_mul_ediv_left _ _ (by omega), Int.ediv_eq_zero_of_lt (by omega) (by omega)];omega
 have r : (-N) % M = M - N % M := by
  rw [h2, Int.add_mul_emod_self_left, Int.emod_eq_of_lt (by omega) (by omega)]
 rw [q, r];omega
abbrev vQ (n : Int) : bz := .agg [.c (.int .u64 (cd n)), .c (.int .u64 (dH n))]
abbrev j5 (n : Int) : ah := .w (vQ n)
abbrev IX : bz := .one (.c (.bool true))
abbrev xT (n : Int) : ah := aR (.int .u64 n)
theorem mG {n : Int} (aD : 0 ≤ n) (h1 : n < 340282366920938463463374607431768211456) : dI (cd n) (dH n) n := by unfold dI cd dH; omega
theorem zD {H L n : Int} (h : dI H L n) : H = cd n ∧ L = dH n := by
 obtain ⟨a, b, rfl⟩ := h;unfold cd dH; omega
theorem xS {H L n : Int} (h : dI H L n) : vQ n = .agg [.c (.int .u64 H), .c (.int .u64 L)] := by
 obtain ⟨rfl, rfl⟩ := zD h; rfl
theorem Ia {n m : Int} (gb : 0 ≤ n) (dp : n < 340282366920938463463374607431768211456) (m0 : 0 ≤ m) (m1 : m < 340282366920938463463374607431768211456) {z : Int} {b : Bool} (ab : lU (n * m) = b) (aP : (if b then n * m else 0) = z) : aC ag 194 [j5 n, j5 m] (.cr [vQ z, .one (.c (.bool b))]) :=
 hN [.agg #[.int .u64 (cd n), .int .u64 (dH n)], .agg #[.int .u64 (cd m), .int .u64 (dH m)]] (.tuple #[.agg #[.int .u64 (cd z), .int .u64 (dH z)], .bool b]) rfl rfl rfl rfl rfl fun W => (abt _ _ n _ _ m W (mG gb dp) (mG m0 m1)).mono fun e w' ⟨H, L, he, hw, c4⟩ => by
  rw [ab] at he hw;rw [aP] at hw;obtain ⟨rfl, rfl⟩ := zD hw;exact ⟨he, c4⟩
theorem P6 {n k P : Int} (gb : 0 ≤ n) (dp : n < 340282366920938463463374607431768211456) (e5 : 0 ≤ k) (bl : k < 128) (ab : n * 2 ^ k.toNat < 340282366920938463463374607431768211456) (ej : n * 2 ^ k.toNat = P) : aC ag 206 [j5 n, aR (.int .u64 k)] (j5 P) :=
 hN [.agg #[.int .u64 (cd n), .int .u64 (dH n)], .int .u64 k] (.agg #[.int .u64 (cd P), .int .u64 (dH P)]) rfl rfl rfl rfl rfl fun W => (afW _ _ n k W (mG gb dp) e5 bl ab).mono fun e w' ⟨H, L, he, hw, ab⟩ => by
  rw [ej] at hw; obtain ⟨rfl, rfl⟩ := zD hw; exact ⟨he, ab⟩
theorem adC {y : Int} (aD : 0 < y) (h1 : y < 18446744073709551616) : aC ag 219 [xT y] (aH (64 - (Lib.bitLen y.toNat : Int))) :=
 hN [.int .u64 y] (.int .i64 (64 - (Lib.bitLen y.toNat : Int))) rfl rfl rfl rfl rfl fun W => (Tryz.bits_LeadingZeros64 y W (by omega) (by omega)).mono fun e w' h => by
  obtain ⟨rfl, rfl⟩ := h; exact ⟨rfl, Below.refl _ _⟩
theorem H7 {hi lo y q r : Int} (aD : 0 ≤ hi) (h1 : hi < y) (l : 0 ≤ lo ∧ lo < 18446744073709551616) (kL : y < 18446744073709551616) (al : (hi * 18446744073709551616 + lo) / y = q) (ap : (hi * 18446744073709551616 + lo) % y = r) : aC ag 215 [xT hi, xT lo, xT y] (.cr [.one (.c (.int .u64 q)), .one (.c (.int .u64 r))]) := by
 subst al ap;exact hN [.int .u64 hi, .int .u64 lo, .int .u64 y] (.tuple #[.int .u64 _, .int .u64 _]) rfl rfl rfl rfl rfl fun W => VM hi lo y W aD h1 l kL
theorem P9 {n m z : Int} (dp : n < 340282366920938463463374607431768211456) (m0 : 0 ≤ m) (h : m ≤ n) (aP : n - m = z) : aC ag 217 [j5 n, j5 m] (j5 z) :=
 hN [.agg #[.int .u64 (cd n), .int .u64 (dH n)], .agg #[.int .u64 (cd m), .int .u64 (dH m)]] (.agg #[.int .u64 (cd z), .int .u64 (dH z)]) rfl rfl rfl rfl rfl fun W => (agv _ _ n _ _ m W (mG (by omega) dp) (mG m0 (by omega)) h).mono fun e w' ⟨H, L, he, hw, ab⟩ => by
  rw [aP] at hw; obtain ⟨rfl, rfl⟩ := zD hw; exact ⟨he, ab⟩
theorem PX {n m : Int} {b : Bool} (gb : 0 ≤ n) (dp : n < 340282366920938463463374607431768211456) (m0 : 0 ≤ m) (m1 : m < 340282366920938463463374607431768211456) (ab : decide (n < m) = b) : aC ag 218 [j5 n, j5 m] (bk b) := by
 subst ab;exact hN [.agg #[.int .u64 (cd n), .int .u64 (dH n)], .agg #[.int .u64 (cd m), .int .u64 (dH m)]] (.bool (decide (n < m))) rfl rfl rfl rfl rfl fun W => aaG _ _ n _ _ m W (mG gb dp) (mG m0 m1)
set_option maxRecDepth 100000
set_option maxHeartbeats 4000000
instance aiR : Ez ag 250 0 0 false 1 := ⟨by kernel_rfl⟩
theorem adr {n m : Int} (gb : 0 ≤ n) (ax : n ≤ 170141183460469231731687303715884105728) (m0 : 18446744073709551616 ≤ m) (m1 : m < 340282366920938463463374607431768211456) : ∃ g, (0 ≤ g ∧ g ≤ n / m ∧ n / m ≤ g + 1) ∧ aC ag 216 [j5 n, j5 m] (xT g) := by
 obtain ⟨b1, b2, aF⟩ := mG gb (show n < 340282366920938463463374607431768211456 by omega);obtain ⟨ed, dM, aM⟩ := mG (show 0 ≤ m by omega) m1;have hm : 0 < cd m := by omega
 have aT := adC hm ed.2;have hs := Oj (cd m) hm ed.2;generalize 64 - (Lib.bitLen (cd m).toNat : Int) = s at *;have pO := hs.er;have tC := hs.s1;have Zb : IntKind.u64.wrap s = s := by rw [IntKind.wrap_u64]; omega
 obtain ⟨At, IM⟩ := aaQ hs ed.1 dM.1 dM.2;rw [← aM] at At IM;obtain ⟨M, fP⟩ : ∃ M, m * 2 ^ s.toNat = M := ⟨_, rfl⟩;have bH : aC ag 206 [j5 m, xT s] (.w (.agg [.c (.int .u64 (cd M)), .c (.int .u64 (dH M))])) := P6 (by omega) m1 pO (by omega) At fP;rw [fP] at At IM;obtain ⟨Ky, pu, Lx⟩ := mG (show 0 ≤ M by omega) At;have MA : 9223372036854775808 ≤ cd M := by omega
 obtain ⟨L, hV, Ms, Mt⟩ := Xq (cd n) (dH n) b1 b2;obtain ⟨y2, y3, Gq⟩ := W4 n m s (cd M) (dH M) gb ax pO tC (fP.trans Lx) pu.1 pu.2 MA;have et := H7 (hi := cd n / 2) (lo := L) (y := cd M) (by omega) (by omega) Ms Ky.2 rfl rfl;rw [Mt, ← aF] at et;have r4 : 0 ≤ n / 2 / cd M := nG (by omega) (by omega);have Cu : 0 ≤ n / m := nG (by omega) (by omega);have Xb : 0 ≤ n / 2 / cd M / 2 ^ (63 - s).toNat := nG r4 (mQ (hO (by decide)));generalize n / 2 % cd M = R at *;generalize n / 2 / cd M = Q at *;generalize n / m = q at *;clear Mt fP Lx aF aM At IM hs hm Ky pu MA Ms b1 b2 ed dM
 have FB : (2 : Int) ^ (63 - s).toNat = 2 ^ min (IntKind.u64.wrap (63 - s)).toNat 64 := by
  rw [show IntKind.u64.wrap (63 - s) = 63 - s by rw [IntKind.wrap_u64]; omega, o8 (by omega)]
 rw [FB] at y2 y3 Gq Xb
 by_cases aP : Q / 2 ^ min (IntKind.u64.wrap (63 - s)).toNat 64 = 0
 ·refine ⟨0, by omega, ?_⟩;clear y2 y3 Gq FB;refine bm (f := 216) Tryz.func216 rfl rfl rfl rfl ?_;(refine bY ?_)
  ((refine bc rfl (bf rfl aN) ?_))
  exact ah.aQ.refl _
 ·have w2 : IntKind.u64.wrap (Q / 2 ^ min (IntKind.u64.wrap (63 - s)).toNat 64 - 1) = Q / 2 ^ min (IntKind.u64.wrap (63 - s)).toNat 64 - 1 := by rw [IntKind.wrap_u64]; omega
  refine ⟨Q / 2 ^ min (IntKind.u64.wrap (63 - s)).toNat 64 - 1, by omega, ?_⟩;clear y2 y3 Gq FB;refine bm (f := 216) Tryz.func216 rfl rfl rfl rfl ?_;(refine bY ?_)
  ((refine bc rfl (bf rfl aN) ?_))
  exact ah.aQ.refl _
theorem adj {n m : Int} (gb : 0 ≤ n) (ax : n ≤ 170141183460469231731687303715884105728) (m0 : 0 < m) (m1 : m < 340282366920938463463374607431768211456) : aC ag 212 [j5 n, j5 m] (.cr [vQ (n / m), vQ (n % m)]) := by
 have H1 := mG gb (show n < 340282366920938463463374607431768211456 by omega)
 by_cases k : m < 18446744073709551616
 ·obtain ⟨q1, q2⟩ := VP H1 m0 k;have gN := n9 (cd n) (show m ≠ 0 by omega);have b6 := nF (cd n) m0;have aT := H7 (hi := 0) (lo := cd n) (y := m) (by omega) m0 H1.1 k rfl rfl;rw [Int.zero_mul, Int.zero_add] at aT;have bH := H7 (hi := cd n % m) (lo := dH n) (y := m) gN b6 H1.2.1 k rfl rfl;rw [xS q1, xS q2, show j5 m = .w (.agg [.c (.int .u64 0), .c (.int .u64 m)]) from congrArg ah.w (xS (by unfold dI; omega))];clear q1 q2 gN b6 k H1 ax m0 m1 gb;refine bm (f := 212) Tryz.func212 rfl rfl rfl rfl ?_;(refine bY ?_)
  ((refine bc rfl (cu rfl rfl rfl (cu rfl rfl rfl aN)) ?_))
  exact ah.aQ.refl _
 ·obtain ⟨g, ⟨g0, g1, g2⟩, aT⟩ := adr gb ax (by omega) m1;obtain ⟨FV, FW⟩ := W1 gb m0 (by omega) g1 g0;have GC := W2 m0 g1;have GI := W3 m0 g2;have g4 : g < 9223372036854775809 := aev gb ax (by omega) g1;have eW : ¬ cd m = 0 := by unfold cd; omega
  have bH := Ia (n := g) (m := m) (b := true) g0 (by omega) (by omega) m1 FV rfl;rw [if_pos rfl, show j5 g = .w (.agg [.c (.int .u64 0), .c (.int .u64 g)]) from congrArg ah.w (xS (by unfold dI; omega))] at bH;have FX : 0 ≤ g * m := gM g0 (by omega);generalize g * m = qz at *;have et := P9 (n := n) (m := qz) (by omega) FX FW rfl
  by_cases ak : n - qz < m
  ·have ld := PX (n := n - qz) (m := m) (by omega) (by omega) (by omega) m1 (cw ak);obtain ⟨q1, q2⟩ := GC ak;rw [← q1, ← q2, show vQ g = .agg [.c (.int .u64 0), .c (.int .u64 g)] from xS (by unfold dI; omega)];generalize n - qz = r at *;clear GC GI q1 q2 ak FV FW g1 g2 FX H1 k ax gb m0 m1;refine bm (f := 212) Tryz.func212 rfl rfl rfl rfl ?_;(refine bY ?_)
   ((refine bc rfl (cu rfl rfl rfl (cu rfl rfl rfl aN)) ?_))
   exact ah.aQ.refl _
  ·have ld := PX (n := n - qz) (m := m) (by omega) (by omega) (by omega) m1 (c3 ak);have qh := P9 (n := n - qz) (m := m) (by omega) (by omega) (by omega) rfl;obtain ⟨q1, q2⟩ := GI ak;have w1 : IntKind.u64.wrap (g + 1) = g + 1 := by rw [IntKind.wrap_u64]; omega
   rw [← q1, ← q2, show vQ (g + 1) = .agg [.c (.int .u64 0), .c (.int .u64 (g + 1))] from xS (by unfold dI; omega)];generalize n - qz - m = aX at *;generalize n - qz = r at *;clear GC GI q1 q2 ak FV FW g1 g2 FX H1 k ax gb m0 m1;refine bm (f := 212) Tryz.func212 rfl rfl rfl rfl ?_;(refine bY ?_)
   ((refine bc rfl (cu rfl rfl rfl (cu rfl rfl rfl aN)) ?_))
   exact ah.aQ.refl _
end Go.Proofs.YtbcecodakfejaaaGreat
namespace Go.Proofs.YtbcecodakfejaaaGreat
open Go.RowKit
theorem z6 {n : Int} (f : fits n = true) : aC ag 195 [gf n] (j5 n.natAbs) :=
 hN [.agg #[.int .i64 (cd n), .int .u64 (dH n)]] (.agg #[.int .u64 (cd n.natAbs), .int .u64 (dH n.natAbs)]) rfl rfl rfl rfl rfl fun W => (agb _ _ n W (ly f)).mono fun e w' ⟨H, L, he, hw, ab⟩ => by
  obtain ⟨rfl, rfl⟩ := zD hw; exact ⟨he, ab⟩
theorem DH {n z : Int} {b : Bool} (gb : 0 ≤ n) (dp : n < 340282366920938463463374607431768211456) (aP : (if b then -n else n) = z) (f : fits z = true) : aC ag 196 [j5 n, bk b] (.cr [mH z, IX]) :=
 hN [.agg #[.int .u64 (cd n), .int .u64 (dH n)], .bool b] (.tuple #[.agg #[.int .i64 (cd z), .int .u64 (dH z)], .bool true]) rfl rfl rfl rfl rfl fun W => (IP _ _ n b W (mG gb dp)).mono fun e w' h => by
  have := xM h;rw [aP, f, if_pos rfl] at this;exact this
theorem adD {n m z : Int} (f : fits n = true) (g : fits m = true) (aP : wr (n - m) = z) : aC ag 166 [gf n, gf m] (gf z) :=
 hN [.agg #[.int .i64 (cd n), .int .u64 (dH n)], .agg #[.int .i64 (cd m), .int .u64 (dH m)]] (.agg #[.int .i64 (cd z), .int .u64 (dH z)]) rfl rfl rfl rfl rfl fun W => (zR _ _ _ _ n m W (ly f) (ly g)).mono fun e w' ⟨H, L, he, hw, ab⟩ => by
  rw [aP] at hw; obtain ⟨rfl, rfl⟩ := CO hw; exact ⟨he, ab⟩
theorem adI {n m z : Int} (f : fits n = true) (g : fits m = true) (aP : wr (n + m) = z) : aC ag 213 [gf n, gf m] (gf z) :=
 hN [.agg #[.int .i64 (cd n), .int .u64 (dH n)], .agg #[.int .i64 (cd m), .int .u64 (dH m)]] (.agg #[.int .i64 (cd z), .int .u64 (dH z)]) rfl rfl rfl rfl rfl fun W => (Qi _ _ _ _ n m W (ly f) (ly g)).mono fun e w' ⟨H, L, he, hw, ab⟩ => by
  rw [aP] at hw; obtain ⟨rfl, rfl⟩ := CO hw; exact ⟨he, ab⟩
theorem jL {n : Int} : fits n = true ↔ -170141183460469231731687303715884105728 ≤ n ∧ n < 170141183460469231731687303715884105728 := by unfold fits; rw [cq]
theorem y4 (n : Int) : cd n < 0 ↔ n < 0 := by unfold cd; omega
theorem PG {n m : Int} (f : fits n = true) (g : fits m = true) (hm : 0 < m) : aC ag 203 [gf n, gf m] (.cr [mH (n / m), mH (n % m), IX]) := by
 have aT := DI g;have bH := z6 f;have et := z6 g;have hs : ¬ b9 m 0 ≤ 0 := by unfold b9; split <;> (try split) <;> omega
 have nS := jL.1 f;have kA := jL.1 g;generalize b9 m 0 = s at *;obtain ⟨N, fi⟩ : ∃ N : Int, (n.natAbs : Int) = N := ⟨_, rfl⟩;have fP : (m.natAbs : Int) = m := by omega
 rw [fi] at bH;rw [fP] at et;have ld := adj (n := N) (m := m) (by omega) (by omega) hm (by omega);have aF := pZ N m;have di : 0 ≤ N / m := nG (by omega) (by omega);have q1 : N / m ≤ N := Int.ediv_le_self _ (by omega);have gN := n9 N (show m ≠ 0 by omega);have b6 := nF N hm
 by_cases ax : n < 0
 case neg =>
  obtain rfl : N = n := by omega
  have b1 : decide (cd N < 0) = false := c3 (by rw [y4]; exact ax);have qh := DH (n := N / m) (z := N / m) (b := decide (cd N < 0)) di (by omega) (by rw [b1]; rfl) (jL.2 (by omega));have AV := DH (n := N % m) (z := N % m) (b := decide (cd N < 0)) gN (by omega) (by rw [b1]; rfl) (jL.2 (by omega));have b2 : decide (cd (N % m) < 0) = false := c3 (by rw [y4]; omega);generalize N / m = q at *;generalize N % m = r at *;clear aF b1 ax fi fP nS kA f g;refine bm (f := 203) Tryz.func203 rfl rfl rfl rfl ?_;(refine bY ?_)
  ((refine bc rfl (cu rfl rfl rfl (cu rfl rfl rfl (bf rfl aN))) ?_))
  exact ah.aQ.refl _
 have b1 : decide (cd n < 0) = true := cw ((y4 n).2 ax);have qh := DH (n := N / m) (z := -(N / m)) (b := decide (cd n < 0)) di (by omega) (by rw [b1]; rfl) (jL.2 (by omega));have AV := DH (n := N % m) (z := -(N % m)) (b := decide (cd n < 0)) gN (by omega) (by rw [b1]; rfl) (jL.2 (by omega))
 by_cases aP : N % m = 0
 ·obtain ⟨d1, d2⟩ := VQ hm fi fP ax aP;have d3 : n % m = -(N % m) := by omega
  rw [← d1, d3];have b2 : decide (cd (-(N % m)) < 0) = false := c3 (by rw [y4]; omega);generalize N / m = q at *;generalize N % m = r at *;clear d1 d2 d3 aF b1 ax fi fP nS kA f g;refine bm (f := 203) Tryz.func203 rfl rfl rfl rfl ?_;(refine bY ?_)
  ((refine bc rfl (cu rfl rfl rfl (cu rfl rfl rfl (bf rfl aN))) ?_))
  exact ah.aQ.refl _
 ·obtain ⟨d1, d2⟩ := VR hm fi fP ax aP;have b2 : decide (cd (-(N % m)) < 0) = true := cw (by rw [y4]; omega)
  have q2 : N / m < N := by
   have := n8 (show 1 ≤ m by omega) di;omega
  have Sh := tX (n := 1) (by decide) (by decide);have ahi := adD (n := -(N / m)) (m := 1) (z := n / m) (jL.2 (by omega)) (by decide) (by rw [d1]; exact Jh (jL.2 (by omega)));have ahj := adI (n := -(N % m)) (m := m) (z := n % m) (jL.2 (by omega)) g (by rw [d2]; exact Jh (jL.2 (by omega)));generalize N / m = q at *;generalize N % m = r at *;generalize n / m = bX at *;generalize n % m = aX at *;clear d1 d2 q2 aF b1 ax fi fP nS kA f g;refine bm (f := 203) Tryz.func203 rfl rfl rfl rfl ?_;(refine bY ?_)
  ((refine bc rfl (cu rfl rfl rfl (cu rfl rfl rfl (bf rfl aN))) ?_))
  exact ah.aQ.refl _
theorem adT {n m P : Int} (f : fits n = true) (g : fits m = true) (ej : (n.natAbs : Int) * m.natAbs = P) (sY : 0 ≤ P) (gq : P < 340282366920938463463374607431768211456) : aC ag 196 [j5 P, bk (!decide (cd n < 0) == decide (cd m < 0))] (wf (n * m)) :=
 hN [.agg #[.int .u64 (cd P), .int .u64 (dH P)], .bool (!decide (cd n < 0) == decide (cd m < 0))] _ rfl rfl rfl rfl rfl fun W => (aga W (ly f) (ly g) (Lib.hid ej.symm) (mG sY gq)).mono fun e w' h => xM h
theorem acL {n m : Int} (f : fits n = true) (g : fits m = true) : aC ag 167 [gf n, gf m] (wf (n * m)) := by
 have aT := z6 f;have bH := z6 g;have nS := jL.1 f;have kA := jL.1 g;obtain ⟨P, ej⟩ : ∃ P : Int, (n.natAbs : Int) * m.natAbs = P := ⟨_, rfl⟩;have sY : 0 ≤ P := by rw [← ej]; exact gM (by omega) (by omega)
 cases ab : lU P with
 | true =>
  have gq : P < 340282366920938463463374607431768211456 := by unfold lU at ab; rw [cq] at ab; omega
  have et := Ia (n := n.natAbs) (m := m.natAbs) (z := P) (b := true) (by omega) (by omega) (by omega) (by omega) (by rw [ej]; exact ab) (by rw [ej]; rfl);have ld := adT f g ej sY gq;clear ab nS kA;refine bm (f := 167) Tryz.func167 rfl rfl rfl rfl ?_;(refine bY ?_)
  ((refine bc rfl (cu rfl rfl rfl (bf rfl aN)) ?_))
  exact ah.aQ.refl _
 | false =>
  have et := Ia (n := n.natAbs) (m := m.natAbs) (z := 0) (b := false) (by omega) (by omega) (by omega) (by omega) (by rw [ej]; exact ab) rfl
  have ar : fits (n * m) = false := by
   have : ¬ P < 340282366920938463463374607431768211456 := fun h => by unfold lU at ab; rw [k5] at ab; omega
   have e : ((n * m).natAbs : Int) = P := by rw [Int.natAbs_mul, ← ej]; rfl
   cases aU : fits (n * m) with
   | false => rfl
   | true => have := jL.1 aU; omega
  have yB : wf (n * m) = .cr [mH 0, .one (.c (.bool false))] := by
   show ah.cr [mH (if fits (n * m) then n * m else 0), .one (.c (.bool (fits (n * m))))] = _;rw [ar]; rfl
  rw [yB];clear ab nS kA ar yB;refine bm (f := 167) Tryz.func167 rfl rfl rfl rfl ?_;(refine bY ?_)
  ((refine bc rfl (cu rfl rfl rfl (bf rfl aN)) ?_))
  exact ah.aQ.refl _
def se (m : Nat) : Nat := if m = 0 then 0 else Nat.log2 m + 1
theorem N9 {m len : Nat} (h : mo m len) : len = se m := by
 unfold se;unfold mo at h
 by_cases hm : m = 0
 ·rw [if_pos hm];rcases h with h | h
  ·omega
  ·have := Nat.two_pow_pos (len - 1); omega
 ·rw [if_neg hm];rcases h with h | h
  ·omega
  ·have h1 : Nat.log2 m < len := (Nat.log2_lt hm).2 (by omega);have h2 : len - 1 ≤ Nat.log2 m := (Nat.le_log2 hm).2 (by omega);omega
theorem adB {n : Int} (gb : 0 ≤ n) (dp : n < 340282366920938463463374607431768211456) : aC ag 205 [j5 n] (aH (se n.toNat)) :=
 hN [.agg #[.int .u64 (cd n), .int .u64 (dH n)]] (.int .i64 (se n.toNat)) rfl rfl rfl rfl rfl fun W => (aaB _ _ n W (mG gb dp)).mono fun e w' ⟨len, he, ak, ab⟩ => by
  rw [N9 ak] at he; exact ⟨he, ab⟩
theorem adU {n P : Int} {k : Nat} (f : fits n = true) (ej : (n.natAbs : Int) * 2 ^ k = P) (sY : 0 ≤ P) (gq : P < 340282366920938463463374607431768211456) : aC ag 196 [j5 P, bk (decide (cd n < 0))] (wf (n * 2 ^ k)) :=
 hN [.agg #[.int .u64 (cd P), .int .u64 (dH P)], .bool (decide (cd n < 0))] _ rfl rfl rfl rfl rfl fun W => (af9 W (ly f) (Lib.hid ej.symm) (mG sY gq)).mono fun e w' h => xM h
theorem acW {n k : Int} (f : fits n = true) (ax : n ≠ 0) (af : 0 ≤ k) (Cp : k < 9223372036854775808) : aC ag 187 [gf n, aH k] (wf (n * 2 ^ k.toNat)) := by
 have aT := z6 f;have nS := jL.1 f;obtain ⟨N, fi⟩ : ∃ N : Int, (n.natAbs : Int) = N := ⟨_, rfl⟩;rw [fi] at aT;have bH := adB (n := N) (by omega) (by omega);have aD : ¬ n = 0 := ax
 have ak : mo n.natAbs (se N.toNat) := by
  obtain ⟨len, h⟩ : ∃ len, mo n.natAbs len := by
   refine ⟨se n.natAbs, ?_⟩;have hm : n.natAbs ≠ 0 := by omega
   have h1 := Nat.log2_self_le hm;have h2 := Nat.lt_log2_self (n := n.natAbs);have an : Nat.log2 n.natAbs < 128 := (Nat.log2_lt hm).2 (by rw [I1]; omega);unfold mo se;rw [if_neg hm];exact .inr ⟨by omega, by omega, h1, h2⟩
  have e : len = se n.natAbs := N9 h;rw [show N.toNat = n.natAbs by omega, ← e]; exact h
 have nm := aaD ak;generalize se N.toNat = len at *;have Lw : (n.natAbs : Int) = N := fi
 by_cases az : 128 - (len : Int) < k
 ·have ar := af1 ak ax af az
  have yB : wf (n * 2 ^ k.toNat) = .cr [mH 0, .one (.c (.bool false))] := by
   show ah.cr [mH (if fits (n * 2 ^ k.toNat) then n * 2 ^ k.toNat else 0), .one (.c (.bool (fits (n * 2 ^ k.toNat))))] = _;rw [ar]; rfl
  rw [yB];clear ar yB ak fi Lw nS;refine bm (f := 187) Tryz.func187 rfl rfl rfl rfl ?_;(refine bY ?_)
  ((refine bc rfl (cu rfl rfl rfl (bf rfl aN)) ?_))
  exact ah.aQ.refl _
 ·obtain ⟨Yg, hu⟩ := af2 ak ax af (by omega);obtain ⟨P, ej⟩ : ∃ P : Int, (n.natAbs : Int) * 2 ^ k.toNat = P := ⟨_, rfl⟩;have sY : 0 ≤ P := by rw [← ej]; exact gM (by omega) (mQ (hO (by decide)))
  rw [ej] at hu;have et := P6 (n := N) (P := P) (by omega) (by omega) af Yg (by rw [← fi, ej]; exact hu) (by rw [← fi]; exact ej);have ld := adU f ej sY hu;have w1 : IntKind.u64.wrap k = k := by rw [IntKind.wrap_u64]; omega
  clear hu ej sY ak fi Lw nS;refine bm (f := 187) Tryz.func187 rfl rfl rfl rfl ?_;(refine bY ?_)
  ((refine bc rfl (cu rfl rfl rfl (bf rfl aN)) ?_))
  exact ah.aQ.refl _
theorem adX {n k : Int} (f : fits n = true) (aD : 0 ≤ k) (h1 : k < 9223372036854775808) : aC ag 187 [gf n, aH k] (wf (n * 2 ^ k.toNat)) := by
 by_cases ax : n = 0
 ·subst ax;rw [Int.zero_mul];refine bm (f := 187) Tryz.func187 rfl rfl rfl rfl ?_;(refine eF ?_)
  ((refine bc rfl (cu rfl rfl rfl (bf rfl aN)) ?_))
  exact ah.aQ.refl _
 ·exact acW f ax aD h1
def hE (w : World) (b : Nat) (u v x y : Value) : Prop := (w.cell? ⟨b, 0, none⟩ = some u ∧ w.cell? ⟨b, 1, none⟩ = some v ∧ w.cell? ⟨b, 2, none⟩ = some x ∧ w.cell? ⟨b, 3, none⟩ = some y) ∧ (w.frozen? ⟨b, 0, none⟩ = false ∧ w.frozen? ⟨b, 1, none⟩ = false ∧ w.frozen? ⟨b, 2, none⟩ = false ∧ w.frozen? ⟨b, 3, none⟩ = false)
section
variable {w W w1 : World} {b g : Nat} {u v x y q : Value}
theorem hE.lt (h : hE w b u v x y) : b < w.heap.size := World.block_lt_of_cell? w _ h.1.1
theorem hE.call (h : hE W b u v x y) (ab : Below W.heap.size W w1) : hE w1 b u v x y := by
 have ak := h.lt;obtain ⟨⟨h1, h2, an, aE⟩, bl, bJ, e6, gH⟩ := h;exact ⟨⟨(ab.cell (p := ⟨b, 0, none⟩) ak).trans h1, (ab.cell (p := ⟨b, 1, none⟩) ak).trans h2, (ab.cell (p := ⟨b, 2, none⟩) ak).trans an, (ab.cell (p := ⟨b, 3, none⟩) ak).trans aE⟩, (ab.frozen (p := ⟨b, 0, none⟩) ak).trans bl, (ab.frozen (p := ⟨b, 1, none⟩) ak).trans bJ, (ab.frozen (p := ⟨b, 2, none⟩) ak).trans e6, (ab.frozen (p := ⟨b, 3, none⟩) ak).trans gH⟩
theorem hE.alloc (h : hE W b u v x y) (o : Obj) : hE (W.alloc o) b u v x y := h.call ((Below.refl _ _).alloc (dJ _) o)
theorem hE.drew (h : hE W b u v x y) : hE W.drew b u v x y := h.call ((Below.refl _ _).drew)
theorem hE.new {t : TypeId} (e : b = W.heap.size) : hE (W.alloc (.cells #[u, v, x, y] t)) b u v x y := by
 subst e;unfold hE
 go_simp
theorem hE.set (h : hE W b u v x y) (o : Nat) (ne : g ≠ b) : hE (W.setCell ⟨g, o, none⟩ q) b u v x y := by
 obtain ⟨⟨h1, h2, an, aE⟩, bl, bJ, e6, gH⟩ := h;have gb : ∀ i, (⟨g, o, none⟩ : Addr) ≠ ⟨b, i, none⟩ := fun i e => ne (congrArg Addr.block e);refine ⟨⟨?_, ?_, ?_, ?_⟩, ?_, ?_, ?_, ?_⟩
 ·rw [World.cell?_setCell_other _ _ _ _ (gb 0)]; exact h1
 ·rw [World.cell?_setCell_other _ _ _ _ (gb 1)]; exact h2
 ·rw [World.cell?_setCell_other _ _ _ _ (gb 2)]; exact an
 ·rw [World.cell?_setCell_other _ _ _ _ (gb 3)]; exact aE
 ·go_simp
 ·go_simp
 ·go_simp
 ·go_simp
end
section
variable {W : World} {b : Nat} {u v x y oe v' : Value}
end
theorem Zq (d : Int) : decide (0 < b9 d 0) = decide (0 < d) := by
 unfold b9;rw [lD];simp only [cq]
 repeat' split
 all_goals omega
end Go.Proofs.YtbcecodakfejaaaGreat
namespace Go.Proofs.YtbcecodakfejaaaGreat
open Go.RowKit
attribute [local go_sem ↓] Go.wp_at_zero Go.wp_at_succ
def ny (n d : Int) : Int := if n % d < d - n % d then n / d else n / d + 1
theorem OX {n d : Int} (ax : fits n = true) (hd : 0 < d) (yX : fits d = true) : fits (d - n % d) = true ∧ (d - n % d ≤ n % d → fits (n / d + 1) = true) := by
 unfold fits at *;rw [cq] at ax yX;have aD := n9 n (show d ≠ 0 by omega);have h1 := nF n hd;have h2 := pZ n d;rw [cq, cq];refine ⟨by omega, fun hle => ?_⟩;have wY : 2 ≤ d := by omega
 have q1 : n / d * 2 ≤ 170141183460469231731687303715884105727 ∧ -170141183460469231731687303715884105728 ≤ n / d := by
  refine ⟨?_, ?_⟩
  ·rcases o9 (n / d) 0 with q | q
   ·omega
   ·have : n / d * 2 ≤ n / d * d := pY wY q;rw [hA (n / d) d] at this;omega
  ·rcases o9 (n / d) 0 with q | q
   ·have : d * (n / d + 1) ≤ 1 * (n / d + 1) := Int.mul_le_mul_of_nonpos_right (by omega) (by omega);rw [Int.mul_add] at this;omega
   ·omega
 omega
end Go.Proofs.YtbcecodakfejaaaGreat
namespace Go.Proofs.YtbcecodakfejaaaGreat
open Go.RowKit
attribute [local go_sem ↓] Go.wp_at_zero Go.wp_at_succ
end Go.Proofs.YtbcecodakfejaaaGreat
namespace Go.Proofs.YtbcecodakfejaaaGreat
open Go.RowKit
attribute [local go_sem ↓] Go.wp_at_zero Go.wp_at_succ
theorem hE.cs {w : World} {b : Nat} {u v x y : Value} (h : hE w b u v x y) : w.cell? ⟨b, 0, none⟩ = some u ∧ w.cell? ⟨b, 1, none⟩ = some v ∧ w.cell? ⟨b, 2, none⟩ = some x ∧ w.cell? ⟨b, 3, none⟩ = some y := h.1
def lI (n d : Int) (k : Nat) : Int := if k = 0 then ny n d else ny (n / d) (2 ^ k)
theorem Qk {k : Nat} (h : k ≤ 100) : fits ((2 : Int) ^ k) = true := by
 have h1 := Nat.pow_le_pow_right (show 0 < 2 by decide) h;rw [show (2 : Nat) ^ 100 = 1267650600228229401496703205376 by decide] at h1;have h2 := (aek k).1;have e : ((2 : Int) ^ k) = ((2 ^ k : Nat) : Int) := by simp
 unfold fits;rw [e, cq];generalize (2 : Nat) ^ k = P at *;omega
end Go.Proofs.YtbcecodakfejaaaGreat
namespace Go.Proofs.YtbcecodakfejaaaGreat
open Go.RowKit
attribute [local go_sem ↓] Go.wp_at_zero Go.wp_at_succ
end Go.Proofs.YtbcecodakfejaaaGreat
namespace Go.Proofs.YtbcecodakfejaaaGreat
open Go.RowKit
attribute [local go_sem ↓] Go.wp_at_zero Go.wp_at_succ
end Go.Proofs.YtbcecodakfejaaaGreat
namespace Go.Proofs.YtbcecodakfejaaaGreat
open Go.RowKit
attribute [local go_sem ↓] Go.wp_at_zero Go.wp_at_succ
section
variable {w W w1 : World} {g jk : Nat} {a b c d s t : Int}
end
end Go.Proofs.YtbcecodakfejaaaGreat
namespace Go.Proofs.YtbcecodakfejaaaGreat
open Go.RowKit
theorem vX {z : Int} (h : fits z = true) : wf z = .cr [mH z, IX] := by
 show ah.cr [mH (if fits z then z else 0), .one (.c (.bool (fits z)))] = _;rw [h]; rfl
theorem R3 {z : Int} (h : fits z = false) : wf z = .cr [mH 0, .one (.c (.bool false))] := by
 show ah.cr [mH (if fits z then z else 0), .one (.c (.bool (fits z)))] = _;rw [h]; rfl
theorem Ny (a b : Int) : b9 a b < 0 ↔ a < b := by unfold b9; split <;> (try split) <;> omega
theorem PZ {n d : Int} (f : fits n = true) (g : fits d = true) (hd : 0 < d) : aC ag 186 [gf n, gf d] (gf (ny n d)) := by
 obtain ⟨dp, dX⟩ := OX f hd g;have nS := jL.1 f;have kA := jL.1 g;have gN := n9 n (show d ≠ 0 by omega);have b6 := nF n hd;have yI : fits (n % d) = true := jL.2 (by omega);have aT := PG f g hd;have bH := Qb g yI;have et := adW yI dp;rw [vX dp] at bH;unfold ny
 by_cases h : n % d < d - n % d
 ·have an : b9 (n % d) (d - n % d) < 0 := (Ny ..).2 h;have lT : ny n d = n / d := by unfold ny; first | rw [if_pos h] | (split <;> omega)
  unfold ny at lT;rw [lT];generalize b9 (n % d) (d - n % d) = c at *;generalize n / d = q at *;generalize n % d = r at *;clear lT dp dX nS kA gN b6 yI f g;refine bm (f := 186) Tryz.func186 rfl rfl rfl rfl ?_;(refine bY ?_)
  ((refine bc rfl (cu rfl rfl rfl aN) ?_))
  exact ah.aQ.refl _
 ·have an : ¬ b9 (n % d) (d - n % d) < 0 := fun aU => h ((Ny ..).1 aU);have lT : ny n d = n / d + 1 := by unfold ny; first | rw [if_neg h] | (split <;> omega)
  unfold ny at lT;rw [lT];have f5 := dX (by omega)
  have Mf : fits (n / d) = true := by
   have q1 := pZ n d;have cY := jL.1 f5;refine jL.2 ?_
   by_cases ax : 0 ≤ n
   ·have := nG ax (show 0 ≤ d by omega); omega
   ·have fh : n * d ≤ n * 1 := Int.mul_le_mul_of_nonpos_left (show n ≤ 0 by omega) (show 1 ≤ d by omega);have := (ob (a := n) (b := n) hd).2 (by omega);omega
  have ld := tX (n := 1) (by decide) (by decide);have qh := adV Mf (show fits 1 = true by decide);rw [vX f5] at qh;generalize b9 (n % d) (d - n % d) = c at *;generalize n / d = q at *;generalize n % d = r at *;clear lT dp dX nS kA gN b6 yI f g Mf f5;refine bm (f := 186) Tryz.func186 rfl rfl rfl rfl ?_;(refine bY ?_)
  ((refine bc rfl (cu rfl rfl rfl aN) ?_))
  exact ah.aQ.refl _
end Go.Proofs.YtbcecodakfejaaaGreat
