/-
  My own texts, without what this claim does not need. My own text.
-/
import Derived.Deep.DrawnRows
import Derived.Laws.OwnMore
import Derived.Deep.LoopGhost
import Derived.Shelf.Small.Bits
import Derived.Shelf.Strconv.Itoa0
import Derived.Shelf.Bits.Mul64
import Derived.Test.YtbcecodakfejaaaGreatProg
import Derived.WalkKit
import Derived.Lib.ItoaNum
import Derived.Deep.RegionHeld3
import Derived.Deep.DeepCutAuto
import Derived.Deep.QuietTactic
import Derived.Deep.CutBlock
import Derived.RegionTactic
import Derived.Test.YtbcecodakfejaaaGreatSChainsK6
set_option maxRecDepth 100000
set_option maxHeartbeats 64000000
set_option linter.unusedVariables false
set_option linter.unusedSimpArgs false
set_option linter.unusedSectionVars false
open Go.Proofs.Tryz renaming prog → ag
namespace Go.Proofs.YtbcecodakfejaaaGreat
open Go.RowKit
structure mi (w wr : World) (x : Bool) (A : Option Addr) (l c : Nat) (ds : List Int) (y : Bool) (B : Option Addr) (m d : Nat) (es : List Int) (os : List Int) : Prop where
 fA : cO wr w.heap.size (.bool x) (.slice A l c)
 b1 : cO wr (w.heap.size + 1) (.bool y) (.slice B m d)
 b2 : cO wr (w.heap.size + 1 + 1) (.bool false) (.slice none 0 0)
 own : wr.ownsRow (w.heap.size + 1 + 1 + 1) 3 1 (.slice (some ⟨w.heap.size + 1 + 1 + 1, 0, none⟩) (l + m + 1) (l + m + 1)) (l + m + 1) (os.map (Value.int .i64))
 dg : dG os
 below : Below w.heap.size w wr
section
variable {w wr : World} {x y : Bool} {A B : Option Addr} {l c m d : Nat} {ds es os : List Int}
theorem mi.len (h : mi w wr x A l c ds y B m d es os) : os.length = l + m + 1 := by have := h.own.1; simpa using this
theorem mi.drewN (h : mi w wr x A l c ds y B m d es os) (n : Nat) : mi w (wr.drewN n) x A l c ds y B m d es os :=
 ⟨h.fA, h.b1, h.b2, h.own, h.dg, K3 h.below n⟩
theorem mi.cell (h : mi w wr x A l c ds y B m d es os) {j : Nat} (ae : j < l + m + 1) : wr.cell? ⟨w.heap.size + 1 + 1 + 1, j, none⟩ = some (.int .i64 (os.getD j 0)) ∧ wr.frozen? ⟨w.heap.size + 1 + 1 + 1, j, none⟩ = false := by
 refine ⟨?_, h.own.frozenAt j⟩;have ak := h.len;rw [h.own.cellAt j (by omega), eh, bJ (by omega), fX, bJ (by omega)];rfl
theorem mi.store (h : mi w wr x A l c ds y B m d es os) (j : Nat) {s : Int} (az : 0 ≤ s) (h1 : s < 10000) : mi w (wr.setCell ⟨w.heap.size + 1 + 1 + 1, j, none⟩ (.int .i64 s)) x A l c ds y B m d es (os.set j s) := by
 refine ⟨h.fA.set _ (by omega), h.b1.set _ (by omega), h.b2.set _ (by omega), ?_, h.dg.set j az h1, hx h.below _ _ _ (by omega)⟩;rw [List.map_set];exact (h.own.stored j _).1
end
structure uw (q8 : List Int) (i l m : Nat) (a : Int) (es : List Int) (k : Nat) (dp : Int) (os : List Int) : Prop where
 gQ : 0 ≤ dp
 c1 : dp ≤ 9999
 val : sN os i k dp a es (hi q8 i + a * bM es)
 low : os.take i = q8.take i
 top : ∀ j, i + m + 1 ≤ j → os.getD j 0 = 0
 at_ : k ≤ m → os.getD (i + m) 0 = 0
 more : 0 < dp → k ≤ m
 aaI : k ≤ m + 1
structure AZ (os ds es : List Int) (i l m : Nat) : Prop where
 val : sO os ds es i
 top : ∀ j, i + m ≤ j → os.getD j 0 = 0
 ii : i ≤ l
theorem abH {os ds es : List Int} {i l m : Nat} (h : AZ os ds es i l m) (a : Int) : uw os i l m a es 0 0 os :=
 ⟨by omega, by omega, abJ _ _ _ _, rfl, fun j ae => h.top j (by omega), fun _ => h.top _ (by omega), fun q => absurd q (by omega), by omega⟩
theorem abG {q8 os es : List Int} {i l m k : Nat} {a dp s : Int} (h : uw q8 i l m a es k dp os) (hlen : os.length = l + m + 1) (c4 : i < l) (hd : dG os) (lm : es.length = m) (he : dG es) (aJ : 0 ≤ a ∧ a < 10000)
  (ix : k < m ∨ 0 < dp) (hs : s = dp + os.getD (i + k) 0 + a * es.getD k 0) : uw q8 i l m a es (k + 1) (s / 10000) (os.set (i + k) (s % 10000)) := by
 have g1 := hd.getD (i + k);have g2 := he.getD k;have g3 := LX aJ g2;have az := h.gQ; have h1 := h.c1;have Cn : k ≤ m := by rcases ix with q | q; omega; exact h.more q
 refine ⟨by omega, by omega, abK h.val (by omega) hs, by rw [Si (by omega)]; exact h.low, fun j ae => ?_, fun q => ?_, fun q => ?_, by omega⟩
 ·rw [getD_set_ne (by omega)]; exact h.top j ae
 ·rw [getD_set_ne (by omega)]; exact h.at_ Cn
 ·by_cases e : k < m
  ·omega
  ·have aF : k = m := by omega
   have h3 : es.getD k 0 = 0 := by simp [fX, l7 (show es.length ≤ k by omega)]
   have z2 := h.at_ Cn;rw [h3, aF, z2, Int.mul_zero] at hs;omega
theorem abE {q8 os ds es : List Int} {i l m k : Nat} {a dp : Int} (h : uw q8 i l m a es k dp os) (aA : AZ q8 ds es i l m) (hlen : os.length = l + m + 1) (c4 : i < l) (lm : es.length = m) (af : m ≤ k) (al : dp ≤ 0) (aJ : a = ds.getD i 0) : AZ os ds es (i + 1) l m := by
 have cq : dp = 0 := by have := h.gQ; omega
 have hv := h.val;rw [cq] at hv;have he := abI hv (by omega);rw [aJ] at he;exact ⟨abN aA.val (by omega) h.low he, fun j ae => h.top j (by omega), by omega⟩
theorem abF {q8 os es : List Int} {i l m k : Nat} {a dp : Int} (h : uw q8 i l m a es k dp os) (c4 : i < l) (ix : k < m ∨ 0 < dp) : i + k < l + m + 1 := by
 have : k ≤ m := by rcases ix with q | q; omega; exact h.more q
 omega
theorem abS {w W w3 : World} {x y : Bool} {A B : Option Addr} {l c m d : Nat} {ds es : List Int} {z : Value} (aN : z = .int .i64 0) (bF : W.heap.size = w.heap.size + 1 + 1 + 1)
  (fA : cO W w.heap.size (.bool x) (.slice A l c)) (b1 : cO W (w.heap.size + 1) (.bool y) (.slice B m d)) (b2 : cO W (w.heap.size + 1 + 1) (.bool false) (.slice none 0 0)) (ab : Below w.heap.size w W)
  (cD : w3.ownsRow (w.heap.size + 1 + 1 + 1) 3 1 (.slice (some ⟨W.heap.size, 0, none⟩) (l + m + 1) (l + m + 1)) (l + m + 1) (madeCells z.cells ((l + m + 1) * 1)).toList) (aq : W.grownBy w3 none) :
  mi w w3 x A l c ds y B m d es (List.replicate (l + m + 1) 0) := by
 have eM : Below W.heap.size W w3 := ⟨aq.os, aq.tape, aq.output, aq.size, fun i hi => aq.block i hi (by simp)⟩;refine ⟨fA.call eM, b1.call eM, b2.call eM, ?_, Z5 _, e1 ab eM⟩;rw [bF] at cD;rw [aN] at cD
 have e : (madeCells (Value.int .i64 0).cells ((l + m + 1) * 1)).toList = (List.replicate (l + m + 1) (0 : Int)).map (Value.int .i64) := by
  rw [Nat.mul_one, List.map_replicate];exact toList_madeCells_one _ _
 rw [e] at cD;exact cD
end Go.Proofs.YtbcecodakfejaaaGreat
namespace Go.Proofs.YtbcecodakfejaaaGreat
open Go.RowKit
theorem afX (x y : Bool) (a b : Int) : hL (x != y) (a * b) = hL x a * hL y b := by
 cases x <;> cases y <;> simp [hL, Int.neg_mul, Int.mul_neg]
theorem er.conv {w : World} {neg : Bool} {A : Option Addr} {l c : Nat} {n m : Int} (h : er w neg A l c n) (e : n = m) : er w neg A l c m := e ▸ h
theorem mi.row {w wr : World} {x y : Bool} {A B : Option Addr} {l c m d : Nat} {ds es os : List Int} (h : mi w wr x A l c ds y B m d es os) : fc wr (some ⟨w.heap.size + 1 + 1 + 1, 0, none⟩) (l + m + 1) (l + m + 1) os := by
 obtain ⟨dU, c', e, eG⟩ := fc.own h.own;cases e;exact eG
theorem aeV (x y : Bool) (A B : Option Addr) (l c m d : Nat) (n n' : Int) (w : World) (h : er w x A l c n) (k : er w y B m d n') (ak : l ≤ 400) (hm : m ≤ 400) :
  Calls ag 77 #[.agg #[.bool x, .slice A l c], .agg #[.bool y, .slice B m d]] w (qo (n * n') w) := by
 obtain ⟨ds, eG, hS⟩ := h;obtain ⟨es, e7, cB⟩ := k;obtain ⟨i0, na, kc, nm, kd⟩ := info_parts zq;have pj := Lib.hid na;have lc := Lib.hid kc;have pk := Lib.hid nm;have pn := Lib.hid kd;have kn := Lib.hid eG;have lb := Lib.hid e7;have Tz := Lib.hid eG.1;have JO := Lib.hid e7.1;have dM := Lib.hid hS.dg;have fK := Lib.hid cB.dg;have hv : Hid (hL (x != y) (bM ds * bM es) = n * n') := by unfold Hid; rw [afX, hS.val, cB.val]
 clear na kc nm kd eG e7 hS cB
 go_enter Tryz.func77, Tryz.ntmps77
 go_wp2_with (at_make; refine wpList_make_full _ rfl _ _ 32 rfl (w.heap.size + 1 + 1 + 1) 3 i0 (.int .i64 0) 1 Tryz.underlying32 pj.out lc.out pk.out .i64 .i64 _ _ (l + m + 1) rfl rfl (by omega) (by omega) (by rw [pn.out]; omega) (by simp only [maxLen]; omega) (by simp) ?_; intro w3 cD aq; have JQ := Lib.hid (abS (w := w) (x := x) (A := A) (l := l) (c := c) (ds := ds) (y := y) (B := B) (m := m) (d := d) (es := es) rfl (by simp) (((cO.new rfl).alloc _).alloc _) ((cO.new (by simp)).alloc _) (cO.new (by simp)) (by (repeat first | with_reducible exact Below.refl _ _ | with_reducible refine dP ?_ _)) cD aq); clear cD aq)
 go_loopw [6] (fun i wr => ∃ (j : Nat) (os : List Int), i = .int .i64 j ∧ j ≤ l ∧ mi w wr x A l c ds y B m d es os ∧ AZ os ds es j l m) (fun i _ => l - (intOf i).toNat)
 case atStart => exact ⟨0, _, rfl, dx _, JQ.out, ⟨abM (WC _), fun j _ => Xr _ j, dx _⟩⟩
 case round =>
  obtain ⟨j, os, rfl, ae, dV, qG⟩ := hrel;clear JQ;obtain ⟨SJ, rfl⟩ : ∃ SJ : World, SJ = wr := ⟨_, rfl⟩;obtain ⟨⟨p1, p2⟩, p3, p4⟩ := id dV.fA;obtain ⟨⟨q1, q2⟩, bR, dD⟩ := id dV.b1;obtain ⟨⟨cx, dF⟩, gA, ma⟩ := id dV.b2
  by_cases rU : j < l
  ·have T3 := Lib.hid dV;have JX := Lib.hid qG;obtain ⟨a, aJ⟩ : ∃ a, a = ds.getD j 0 := ⟨_, rfl⟩;have JH := Lib.hid aJ;have oD : 0 ≤ a ∧ a < 10000 := by rw [aJ]; exact dM.out.getD j
   clear dV qG aJ
   go_wp2
   go_loopw [7, 8] (fun u v wr => ∃ (k : Nat) (dp : Int) (ps : List Int), u = .int .i64 dp ∧ v = .int .i64 k ∧ mi w wr x A l c ds y B m d es ps ∧ uw os j l m a es k dp ps) (fun _ v _ => m + 2 - (intOf v).toNat)
   case atStart => exact ⟨0, 0, os, rfl, rfl, T3.out, abH JX.out _⟩
   case round =>
    obtain ⟨k, dp, ps, rfl, rfl, dV, bj⟩ := hrel;clear p1 p2 p3 p4 q1 q2 bR dD cx dF gA ma;obtain ⟨⟨p1, p2⟩, p3, p4⟩ := id dV.fA;obtain ⟨⟨q1, q2⟩, bR, dD⟩ := id dV.b1;have fA := bj.gQ;have b1 := bj.c1;have b2 := bj.aaI
    by_cases ix : k < m ∨ 0 < dp
    ·have fD := abF bj rU ix;obtain ⟨Dw, of⟩ := dV.cell fD;obtain ⟨cA, cR, j0, aD⟩ := kn.out.call dV.below;obtain ⟨g, uR, aq, jq⟩ := aD (by omega);have ac := jq j rU;rw [← JH.out] at ac;have JD := Lib.hid (lb.out.call dV.below);have bH := Lib.hid (fun w h => wq B m d es k w h (by omega) (by omega));have g2 := fK.out.getD k;have g1 := dV.dg.getD (j + k);have N : Hid (∀ s, s = dp + ps.getD (j + k) 0 + a * es.getD k 0 → uw os j l m a es (k + 1) (s / 10000) (ps.set (j + k) (s % 10000))) := fun s hs => abG bj dV.len rU dV.dg JO.out fK.out oD ix hs;have ot := Lib.hid dV;subst uR;clear aD jq cA cR j0 bj dV;generalize ps.getD (j + k) 0 = o at N Dw g1;generalize es.getD k 0 = b at N bH g2;have ais := LX oD g2;have dJ : (0 : Int) ≤ (j : Int) := by omega
     have s1 : (j : Int) < (l : Int) := by omega
     have s2 : IntKind.i64.wrap ((j : Int) + (k : Int)) = (j : Int) + (k : Int) := IntWalk.i64_in _ (by omega);have bN : (0 : Int) ≤ (j : Int) + (k : Int) := by omega
     have bO : (j : Int) + (k : Int) < (l : Int) + (m : Int) + 1 := by omega
     have afO : ((j : Int) + (k : Int)).toNat = j + k := by omega
     have afP : IntKind.i64.wrap (dp + o) = dp + o := IntWalk.i64_in _ (by omega);have afQ : IntKind.i64.wrap (a * b) = a * b := IntWalk.i64_in _ (by omega);have afR : IntKind.i64.wrap (dp + o + a * b) = dp + o + a * b := IntWalk.i64_in _ (by omega);have eu : k < m ∨ (m ≤ k ∧ 0 < dp) := by omega
     rcases eu with t1 | ⟨t1, t2⟩
     all_goals
      go_wp2_with fail
      go_quiet ((go_at_call 115; exact Rm (bH.out _ (JD.out.drewN _))))
      clear s2 afO afP afQ afR p1 p2 p3 p4 q1 q2 bR dD ac Dw of;have qk := ot.out.drewN nq;clear aq JD ot;generalize wr.drewN nq = Jw at *;have lK := Lib.hid (N.out _ rfl);have c0 : 0 ≤ dp + o + a * b := by omega
      have ajx : dp + o + a * b ≤ 1000000000 := by omega
      obtain ⟨Dw, of⟩ := qk.cell fD;have vP := Lib.hid (qk.store (j + k) (s := (dp + o + a * b) % 10000) (by omega) (by omega));clear qk N;generalize dp + o + a * b = s at *;generalize ps.getD (j + k) 0 = eV at Dw
      go_wp2_with (go_at_call 116; (with_reducible refine (Bi _).mono ?_); rintro e w' ⟨rfl, rfl⟩)
      refine ⟨⟨k + 1, _, _, rfl, by go_num, vP.out, lK.out⟩, ?_⟩;simp [intOf]; omega
    ·have t1 : m ≤ k := by omega
     have t2 : dp ≤ 0 := by omega
     have ot := Lib.hid dV;have TI := Lib.hid (abE bj JX.out dV.len rU JO.out t1 t2 JH.out);clear dV bj
     go_wp2
     refine ⟨⟨j + 1, _, by go_num, by omega, ot.out, TI.out⟩, ?_⟩;simp [intOf]; omega
  ·obtain rfl : j = l := by omega
   have ot := Lib.hid dV;have pi := Lib.hid (abL qG.val (by rw [Tz.out]; omega));clear dV qG;have mS := Lib.hid ot.out.row;have Tr := Lib.hid ot.out.dg;have bw := Lib.hid ot.out.fA;have nG := Lib.hid ot.out.b1;have sH := Lib.hid ot.out.b2;have py := Lib.hid ot.out.below;clear ot
   go_wp2_with (go_at_call 110; ((with_reducible refine (Ar _ _ _ _ os _ mS.out Tr.out (by omega)).mono ?_); rintro e w1 ⟨cA, l1, rfl, h1, ab⟩; have JA := sH.out.call ab; clear p1 p2 p3 p4 q1 q2 bR dD cx dF gA ma; obtain ⟨⟨cx, dF⟩, gA, ma⟩ := id JA))
   have h2 : er w1 cA (some ⟨w.heap.size + 1 + 1 + 1, 0, none⟩) l1 (j + m + 1) (n * n') := h1.conv (by rw [pi.out]; exact hv.out)
   refine bodyPost_ret (v := .agg #[.bool cA, .slice (some ⟨w.heap.size + 1 + 1 + 1, 0, none⟩) l1 (j + m + 1)]) (by simp only [results, Tryz.results77]; go_simp) rfl ⟨_, _, _, _, rfl, ?_, ?_, fun a e => (by cases e; show w.heap.size ≤ w.heap.size + 1 + 1 + 1; omega)⟩
   ·exact h2.put (gC.of JA)
   ·exact hx (hx (e1 py.out ab) _ _ _ (by omega)) _ _ _ (by omega)
end Go.Proofs.YtbcecodakfejaaaGreat
namespace Go.Proofs.YtbcecodakfejaaaGreat
open Go.RowKit
theorem agL : (10000 : Int) ^ 10 = 10000000000000000000000000000000000000000 := by decide
end Go.Proofs.YtbcecodakfejaaaGreat
namespace Go.Proofs.YtbcecodakfejaaaGreat
open Go.RowKit
attribute [local go_sem ↓] Go.wp_at_zero Go.wp_at_succ
section
variable {w W w1 : World} {g : Nat} {x : Bool} {A : Option Addr} {l c : Nat} {n : Int}
end
end Go.Proofs.YtbcecodakfejaaaGreat
namespace Go.Proofs.YtbcecodakfejaaaGreat
open Go.RowKit
section
variable {w wr : World} {g : Nat} {x y z : Bool} {A B C : Option Addr} {l c m d p e : Nat} {ds ajy : List Int} {b r : Int}
end
end Go.Proofs.YtbcecodakfejaaaGreat
namespace Go.Proofs.YtbcecodakfejaaaGreat
open Go.RowKit
attribute [local go_sem ↓] Go.wp_at_zero Go.wp_at_succ
end Go.Proofs.YtbcecodakfejaaaGreat
namespace Go.Proofs
open Go.Shelf
def Tryz.aaW : Go.Shelf.Ren := ⟨fun | 134 => 219 | 129 => 214 | n => n, fun | 53 => 144 | 3 => 3 | 4 => 4 | 46 => 209 | 5 => 5 | 9 => 9 | n => n, fun | n => n⟩
theorem Tryz.aaV : Go.Proofs.Lays.n134 ag Tryz.aaW := {
 mixed := by kernel_rfl
 f129 := Tryz.func214.trans (congrArg some (by kernel_rfl))
 f134 := Tryz.func219.trans (congrArg some (by kernel_rfl))
 t3 := Tryz.underlying3
 a3 := Tryz.isAgg3
 z3 := Tryz.sizeOf3
 v3 := Tryz.zeroValue3
 t4 := Tryz.underlying4
 a4 := Tryz.isAgg4
 z4 := Tryz.sizeOf4
 v4 := Tryz.zeroValue4
 t5 := Tryz.underlying5
 a5 := Tryz.isAgg5
 z5 := Tryz.sizeOf5
 v5 := Tryz.zeroValue5
 t9 := Tryz.underlying9
 a9 := Tryz.isAgg9
 z9 := Tryz.sizeOf9
 v9 := Tryz.zeroValue9
 t46 := Tryz.underlying209
 a46 := Tryz.isAgg209
 z46 := Tryz.sizeOf209
 v46 := Tryz.zeroValue209
 t53 := Tryz.underlying144
 a53 := Tryz.isAgg144
 z53 := Tryz.sizeOf144
 v53 := Tryz.zeroValue144 }
theorem Tryz.bits_LeadingZeros64 (x : Int) (w : World) (az : 0 ≤ x) (h1 : x ≤ 18446744073709551615) :
  Calls ag 219 #[.int .u64 x] w fun e w' => e = .returned (.int .i64 (64 - (Lib.bitLen x.toNat : Int))) ∧ w' = w := Any.bits_LeadingZeros64 Tryz.aaV x w az h1
def Tryz.aaU : Go.Shelf.Ren := ⟨fun | 129 => 214 | n => n, fun | 53 => 144 | 3 => 3 | 4 => 4 | 46 => 209 | 5 => 5 | 9 => 9 | n => n, fun | n => n⟩
theorem Tryz.aaT : Go.Proofs.Lays.n129 ag Tryz.aaU := {
 mixed := by kernel_rfl
 f129 := Tryz.func214.trans (congrArg some (by kernel_rfl))
 t3 := Tryz.underlying3
 a3 := Tryz.isAgg3
 z3 := Tryz.sizeOf3
 v3 := Tryz.zeroValue3
 t4 := Tryz.underlying4
 a4 := Tryz.isAgg4
 z4 := Tryz.sizeOf4
 v4 := Tryz.zeroValue4
 t5 := Tryz.underlying5
 a5 := Tryz.isAgg5
 z5 := Tryz.sizeOf5
 v5 := Tryz.zeroValue5
 t9 := Tryz.underlying9
 a9 := Tryz.isAgg9
 z9 := Tryz.sizeOf9
 v9 := Tryz.zeroValue9
 t46 := Tryz.underlying209
 a46 := Tryz.isAgg209
 z46 := Tryz.sizeOf209
 v46 := Tryz.zeroValue209
 t53 := Tryz.underlying144
 a53 := Tryz.isAgg144
 z53 := Tryz.sizeOf144
 v53 := Tryz.zeroValue144 }
theorem Tryz.bits_Len64 (x : Int) (w : World) (az : 0 ≤ x) (h1 : x ≤ 18446744073709551615) :
  Calls ag 214 #[.int .u64 x] w fun e w' => e = .returned (.int .i64 (Lib.bitLen x.toNat)) ∧ w' = w := Any.bits_Len64 Tryz.aaT x w az h1
def Tryz.aaY : Go.Shelf.Ren := ⟨fun | 264 => 179 | n => n, fun | 53 => 144 | 46 => 209 | n => n, fun | n => n⟩
theorem Tryz.aaX : Go.Proofs.Lays.n264 ag Tryz.aaY := {
 mixed := by kernel_rfl
 f264 := Tryz.func179.trans (congrArg some (by kernel_rfl))
 t46 := Tryz.underlying209
 a46 := Tryz.isAgg209
 z46 := Tryz.sizeOf209
 v46 := Tryz.zeroValue209
 t53 := Tryz.underlying144
 a53 := Tryz.isAgg144
 z53 := Tryz.sizeOf144
 v53 := Tryz.zeroValue144 }
open Go.RowKit Go.Lib in
theorem Tryz.bits_Mul64 (x y : Nat) (aa : x < 18446744073709551616) (ai : y < 18446744073709551616) (w : World) :
  Calls ag 179 #[.int .u64 x, .int .u64 y] w fun e w' => e = .returned (.tuple #[.int .u64 ((x * y / 18446744073709551616 : Nat) : Int), .int .u64 ((x * y % 18446744073709551616 : Nat) : Int)]) ∧ w' = w := Any.bits_Mul64 Tryz.aaX x y aa ai w
end Go.Proofs
namespace Go.Proofs.YtbcecodakfejaaaGreat
open Go.RowKit
theorem size_pos {h l n : Int} (H : cH h l n) (k : 0 ≤ h) : dH (IntKind.u64.wrap h) l n.natAbs := by
  obtain ⟨b1, b2, rfl⟩ := H;unfold dH;rw [IntKind.wrap_u64];omega
theorem agk {h l n a b : Int} (H : cH h l n) (K : cH a b (wr (0 - n))) (k : h < 0) : dH (IntKind.u64.wrap a) b n.natAbs := by
  obtain ⟨b1, b2, rfl⟩ := H;obtain ⟨dm, cY, e⟩ := K;unfold wr at e;unfold dH;rw [IntKind.wrap_u64];omega
theorem agj (h1 l1 n : Int) (w : World) (H1 : cH h1 l1 n) :
    Calls ag 195 #[.agg #[.int .i64 h1, .int .u64 l1]] w (aU n.natAbs w) := by
  go_enter Tryz.func195, Tryz.ntmps195
  go_wp2_with (go_at_call 166; refine (zF _ _ _ _ _ _ _ w6 H1).mono ?_; rintro e w1 ⟨gr, h5, rfl, hs, ab⟩; have wb := Below.cell ab (p := ⟨w.heap.size, 0, none⟩) (by (simp; omega)); have wy := Below.frozen ab (p := ⟨w.heap.size, 0, none⟩) (by (simp; omega)); have we := Below.cell ab (p := ⟨w.heap.size, 1, none⟩) (by (simp; omega)); have wz := Below.frozen ab (p := ⟨w.heap.size, 1, none⟩) (by (simp; omega)); have yo := Below.cell ab (p := ⟨w.heap.size + 1, 0, none⟩) (by (simp; done)); have yB := Below.frozen ab (p := ⟨w.heap.size + 1, 0, none⟩) (by (simp; done)); have yp := Below.cell ab (p := ⟨w.heap.size + 1, 1, none⟩) (by (simp; done)); have yC := Below.frozen ab (p := ⟨w.heap.size + 1, 1, none⟩) (by (simp; done)); have n4 := Below.size ab; (try simp at n4); have xf : ¬ w1.heap.size = w.heap.size := (by omega); have zH : ¬ w1.heap.size = w.heap.size + 1 := (by omega))
  · refine bodyPost_ret (v := .agg #[.int .u64 (IntKind.u64.wrap gr), .int .u64 h5]) (by simp only [results, Tryz.results195]; go_simp) rfl ⟨_, _, rfl, agk H1 hs ‹_›, ?_⟩
    (repeat first | with_reducible exact Below.refl _ _ | with_reducible refine dP ?_ _ | focus ((with_reducible refine hx ?_ _ _ _ ?_); rotate_left; omega) | with_reducible refine e1 ?_ ab)
  · refine bodyPost_ret (v := .agg #[.int .u64 (IntKind.u64.wrap h1), .int .u64 l1]) (by simp only [results, Tryz.results195]; go_simp) rfl ⟨_, _, rfl, size_pos H1 ‹_›, ?_⟩
    (repeat first | with_reducible exact Below.refl _ _ | with_reducible refine dP ?_ _)
theorem agd {h l n : Int} (H : dH h l n) : cH (wrap64 h) l (wr n) := by
  obtain ⟨b1, b2, rfl⟩ := H;unfold cH wr wrap64;omega
theorem R2 {h l n : Int} (H : dH h l n) (k : fN h l 0 0 = true ∨ 0 ≤ wrap64 h) : fits n = true ∧ cH (wrap64 h) l n := by
  rw [H.fN zt, b4] at k;obtain ⟨b1, b2, rfl⟩ := H;unfold fits cH wrap64 at *;rw [b4];omega
theorem af2 {h l n : Int} (H : dH h l n) (j : fN h l 0 0 = false) (k : wrap64 h < 0) : fits n = false := by
  rw [H.fN zt, iE] at j;obtain ⟨b1, b2, rfl⟩ := H;unfold fits wrap64 at *;rw [iE];omega
theorem R1 {h l n a b : Int} (H : dH h l n) (K : cH a b (wr (0 - wr n))) (k : fN h l 0 0 = true ∨ a < 0) : fits (-n) = true ∧ cH a b (-n) := by
  rw [H.fN zt, b4] at k;obtain ⟨b1, b2, rfl⟩ := H;obtain ⟨dm, cY, e⟩ := K;unfold wr at e;unfold fits cH;rw [b4];omega
theorem afZ {h l n a b : Int} (H : dH h l n) (K : cH a b (wr (0 - wr n))) (j : fN h l 0 0 = false) (k : 0 ≤ a) : fits (-n) = false := by
  rw [H.fN zt, iE] at j;obtain ⟨b1, b2, rfl⟩ := H;obtain ⟨dm, cY, e⟩ := K;unfold wr at e;unfold fits;rw [iE];omega
theorem agf (h1 l1 n : Int) (w : World) (H1 : dH h1 l1 n) :
    Calls ag 196 #[.agg #[.int .u64 h1, .int .u64 l1], .bool false] w (pr n w) := by
  go_enter Tryz.func196, Tryz.ntmps196
  go_wp2
  · refine bodyPost_ret (v := .tuple #[.agg #[.int .i64 0, .int .u64 0], .bool false]) (by simp only [results, Tryz.results196]; go_simp) rfl (Ae (af2 H1 ‹_› ‹_›) ?_)
    (repeat first | with_reducible exact Below.refl _ _ | with_reducible refine dP ?_ _)
  · have ai := R2 H1 (.inr ‹_›)
    refine bodyPost_ret (v := .tuple #[.agg #[.int .i64 (wrap64 h1), .int .u64 l1], .bool true]) (by simp only [results, Tryz.results196]; go_simp) rfl (sA ai.1 ai.2 ?_);(repeat first | with_reducible exact Below.refl _ _ | with_reducible refine dP ?_ _)
  · have ai := R2 H1 (.inl ‹_›)
    refine bodyPost_ret (v := .tuple #[.agg #[.int .i64 (wrap64 h1), .int .u64 l1], .bool true]) (by simp only [results, Tryz.results196]; go_simp) rfl (sA ai.1 ai.2 ?_);(repeat first | with_reducible exact Below.refl _ _ | with_reducible refine dP ?_ _)
theorem age (h1 l1 n : Int) (w : World) (H1 : dH h1 l1 n) :
    Calls ag 196 #[.agg #[.int .u64 h1, .int .u64 l1], .bool true] w (pr (-n) w) := by
  go_enter Tryz.func196, Tryz.ntmps196
  go_wp2_with (go_at_call 166; refine (zF _ _ _ _ _ _ _ w6 (agd H1)).mono ?_; rintro e w1 ⟨gr, h5, rfl, hs, ab⟩; have wb := Below.cell ab (p := ⟨w.heap.size, 0, none⟩) (by (simp; omega)); have wy := Below.frozen ab (p := ⟨w.heap.size, 0, none⟩) (by (simp; omega)); have we := Below.cell ab (p := ⟨w.heap.size, 1, none⟩) (by (simp; omega)); have wz := Below.frozen ab (p := ⟨w.heap.size, 1, none⟩) (by (simp; omega)); have yo := Below.cell ab (p := ⟨w.heap.size + 1, 0, none⟩) (by (simp; done)); have yB := Below.frozen ab (p := ⟨w.heap.size + 1, 0, none⟩) (by (simp; done)); have yp := Below.cell ab (p := ⟨w.heap.size + 1, 1, none⟩) (by (simp; done)); have yC := Below.frozen ab (p := ⟨w.heap.size + 1, 1, none⟩) (by (simp; done)); have n4 := Below.size ab; (try simp at n4); have xf : ¬ w1.heap.size = w.heap.size := (by omega); have zH : ¬ w1.heap.size = w.heap.size + 1 := (by omega))
  · refine bodyPost_ret (v := .tuple #[.agg #[.int .i64 0, .int .u64 0], .bool false]) (by simp only [results, Tryz.results196]; go_simp) rfl (Ae (afZ H1 hs ‹_› (by have h := ‹(!decide (gr < 0)) = true›; simpa using h)) ?_)
    (repeat first | with_reducible exact Below.refl _ _ | with_reducible refine dP ?_ _ | focus ((with_reducible refine hx ?_ _ _ _ ?_); rotate_left; omega) | with_reducible refine e1 ?_ ab)
  · have ai := R1 H1 hs (.inr (by have h := ‹(!decide (gr < 0)) = false›; simpa using h))
    refine bodyPost_ret (v := .tuple #[.agg #[.int .i64 gr, .int .u64 h5], .bool true]) (by simp only [results, Tryz.results196]; go_simp) rfl (sA ai.1 ai.2 ?_);(repeat first | with_reducible exact Below.refl _ _ | with_reducible refine dP ?_ _ | focus ((with_reducible refine hx ?_ _ _ _ ?_); rotate_left; omega) | with_reducible refine e1 ?_ ab)
  · have ai := R1 H1 hs (.inl ‹_›)
    refine bodyPost_ret (v := .tuple #[.agg #[.int .i64 gr, .int .u64 h5], .bool true]) (by simp only [results, Tryz.results196]; go_simp) rfl (sA ai.1 ai.2 ?_);(repeat first | with_reducible exact Below.refl _ _ | with_reducible refine dP ?_ _ | focus ((with_reducible refine hx ?_ _ _ _ ?_); rotate_left; omega) | with_reducible refine e1 ?_ ab)
theorem Ja (h1 l1 n : Int) (b : Bool) (w : World) (H1 : dH h1 l1 n) :
    Calls ag 196 #[.agg #[.int .u64 h1, .int .u64 l1], .bool b] w (pr (if b then -n else n) w) := by
  cases b
  · exact agf h1 l1 n w H1
  · exact age h1 l1 n w H1
theorem aa5 (h1 l1 n h2 l2 m : Int) (w : World) (H1 : dH h1 l1 n) (cW : dH h2 l2 m) :
    Calls ag 218 #[.agg #[.int .u64 h1, .int .u64 l1], .agg #[.int .u64 h2, .int .u64 l2]] w (kQ (.bool (decide (n < m))) w) := by
  go_enter Tryz.func218, Tryz.ntmps218
  go_wp2
  all_goals
    go_ret
    refine ⟨ae4 ?_, by (repeat first | with_reducible exact Below.refl _ _ | with_reducible refine dP ?_ _)⟩;obtain ⟨b1, b2, aF⟩ := H1;obtain ⟨dm, cY, aP⟩ := cW;rw [nx];simp only [b4, true_iff, nz, false_iff];omega
theorem agB (h1 l1 h2 l2 : Int) (b1 : 0 ≤ h1 ∧ h1 < 18446744073709551616) (b2 : 0 ≤ l1 ∧ l1 < 18446744073709551616)
   (dm : 0 ≤ h2 ∧ h2 < 18446744073709551616) (cY : 0 ≤ l2 ∧ l2 < 18446744073709551616) (hle : h2 * 18446744073709551616 + l2 ≤ h1 * 18446744073709551616 + l1) :
   dH ((h1 - h2 - -((l1 - l2 - 0) / 18446744073709551616)) % 18446744073709551616) ((l1 - l2 - 0) % 18446744073709551616) ((h1 * 18446744073709551616 + l1) - (h2 * 18446744073709551616 + l2)) := by
  unfold dH;omega
theorem agC (h1 l1 n h2 l2 m : Int) (w : World) (H1 : dH h1 l1 n) (cW : dH h2 l2 m) (hle : m ≤ n) :
    Calls ag 217 #[.agg #[.int .u64 h1, .int .u64 l1], .agg #[.int .u64 h2, .int .u64 l2]] w (aU (n - m) w) := by
  obtain ⟨b1, b2, rfl⟩ := H1;obtain ⟨dm, cY, rfl⟩ := cW;have hv := agB h1 l1 h2 l2 b1 b2 dm cY hle;have aF := fun w => Ef l1 l2 0 b2.1 b2.2 cY.1 cY.2 (by omega) (by omega) w;have aP := fun w => Ef h1 h2 (-((l1 - l2 - 0) / 18446744073709551616)) b1.1 b1.2 dm.1 dm.2 (by omega) (by omega) w;generalize -((l1 - l2 - 0) / 18446744073709551616) = c at *;generalize (l1 - l2 - 0) % 18446744073709551616 = s at *;generalize (h1 - h2 - c) % 18446744073709551616 = s' at *;generalize -((h1 - h2 - c) / 18446744073709551616) = c' at *;generalize (h1 * 18446744073709551616 + l1) - (h2 * 18446744073709551616 + l2) = tF at *;clear b1 b2 dm cY hle
  go_enter Tryz.func217, Tryz.ntmps217
  go_wp2
  refine bodyPost_ret (v := .agg #[.int .u64 s', .int .u64 s]) (by simp only [results, Tryz.results217]; go_simp) rfl ⟨_, _, rfl, hv, ?_⟩;(repeat first | with_reducible exact Below.refl _ _ | with_reducible refine dP ?_ _)
end Go.Proofs.YtbcecodakfejaaaGreat
namespace Go.Proofs.YtbcecodakfejaaaGreat
def mh (n len : Nat) : Prop := (n = 0 ∧ len = 0) ∨ (1 ≤ len ∧ len ≤ 128 ∧ 2 ^ (len - 1) ≤ n ∧ n < 2 ^ len)
theorem rq : (2 : Nat) ^ 64 = 18446744073709551616 := by decide
theorem Jm : (2 : Nat) ^ 128 = 340282366920938463463374607431768211456 := by decide
theorem OP (l : Nat) (h : l < 18446744073709551616) : mh l (Lib.bitLen l) := by
  by_cases e : l = 0
  · subst e
    exact .inl ⟨rfl, Lib.bitLenAux_zero 64⟩
  · obtain ⟨a, b, c⟩ := Lib.bitLenAux_bounds 64 l (by rw [rq]; exact h) e
    have d : Lib.bitLen l ≤ 64 := Lib.bitLen_le l 64 (dE _) (by rw [rq]; exact h);exact .inr ⟨a, by omega, b, c⟩
theorem aa1 (h l : Nat) (az : h ≠ 0) (aR : h < 18446744073709551616) (ak : l < 18446744073709551616) : mh (h * 18446744073709551616 + l) (64 + Lib.bitLen h) ∧ Lib.bitLen h ≤ 64 := by
  obtain ⟨a, b, c⟩ := Lib.bitLenAux_bounds 64 h (by rw [rq]; exact aR) az;have d : Lib.bitLen h ≤ 64 := Lib.bitLen_le h 64 (dE _) (by rw [rq]; exact aR);have e : Lib.bitLenAux 64 h = Lib.bitLen h := rfl;rw [e] at a b c;refine ⟨.inr ⟨by omega, by omega, ?_, ?_⟩, d⟩
  · rw [show 64 + Lib.bitLen h - 1 = (Lib.bitLen h - 1) + 64 by omega, Nat.pow_add, rq]
    generalize 2 ^ (Lib.bitLen h - 1) = P at *;omega
  · rw [show 64 + Lib.bitLen h = Lib.bitLen h + 64 by omega, Nat.pow_add, rq]
    generalize 2 ^ Lib.bitLen h = P at *;omega
theorem aa2 {n len : Nat} (h : mh n len) : len ≤ 128 := by rcases h with h | h <;> omega
theorem aa3 {n len k : Nat} (h : mh n len) (az : n ≠ 0) (af : 128 < k + len) : 340282366920938463463374607431768211456 ≤ n * 2 ^ k := by
  rcases h with h | ⟨a, b, c, d⟩
  · omega
  · have h1 := kg (2 ^ k) c
    rw [← Nat.pow_add] at h1;have h2 : 2 ^ 128 ≤ 2 ^ (len - 1 + k) := vv (by decide) (by omega);rw [Jm] at h2;omega
theorem aa4 {n len k : Nat} (h : mh n len) (af : k + len ≤ 128) : n * 2 ^ k < 340282366920938463463374607431768211456 := by
  rcases h with ⟨rfl, rfl⟩ | ⟨a, b, c, d⟩
  · simp
  · have h1 := Nat.mul_lt_mul_of_pos_right d (Nat.two_pow_pos k)
    rw [← Nat.pow_add] at h1;have h2 : 2 ^ (len + k) ≤ 2 ^ 128 := vv (by decide) (by omega);rw [Jm] at h2;omega
theorem af7 (h l k : Nat) (ak : l < 18446744073709551616) (af : k < 64) (ab : (h * 18446744073709551616 + l) * 2 ^ k < 340282366920938463463374607431768211456) :
    h * 2 ^ k < 18446744073709551616 ∧ l / 2 ^ (64 - k) < 2 ^ k ∧ h * 2 ^ k + l / 2 ^ (64 - k) < 18446744073709551616 ∧
    (h * 18446744073709551616 + l) * 2 ^ k = (h * 2 ^ k + l / 2 ^ (64 - k)) * 18446744073709551616 + (l * 2 ^ k) % 18446744073709551616 := by
  have Ix : 2 ^ k * 2 ^ (64 - k) = 18446744073709551616 := by rw [← Nat.pow_add, show k + (64 - k) = 64 by omega, rq]
  have aex : 0 < 2 ^ k := Nat.two_pow_pos k;have Rk : 0 < 2 ^ (64 - k) := Nat.two_pow_pos _;generalize 2 ^ k = p at *;generalize 2 ^ (64 - k) = q at *;have hd : l / q < p := by rw [Nat.div_lt_iff_lt_mul Rk, Ix]; exact ak
  have aF : l * p = 18446744073709551616 * (l / q) + p * (l % q) := by
    conv => lhs; rw [← Nat.div_add_mod l q]
    rw [kf, ← Ix, Nat.mul_comm (l % q) p, Nat.mul_assoc p q, Nat.mul_comm (q * (l / q)) p]
  have aP : p * (l % q) < 18446744073709551616 := by rw [← Ix]; exact Nat.mul_lt_mul_of_pos_left (Nat.mod_lt _ Rk) aex
  have cr : (l * p) % 18446744073709551616 = p * (l % q) := by rw [aF, Nat.mul_add_mod, Nat.mod_eq_of_lt aP]
  have ew : (h * 18446744073709551616 + l) * p = h * p * 18446744073709551616 + l * p := by rw [kf, Nat.mul_right_comm]
  rw [ew] at ab;refine ⟨by omega, hd, by omega, ?_⟩;rw [ew, cr, kf];omega
theorem Ie (h l k : Nat) (h1 : h * 2 ^ k < 18446744073709551616) (h2 : l < 2 ^ k) (ao : h * 2 ^ k + l < 18446744073709551616) :
    bits .or .u64 ((h * 2 ^ k : Nat) : Int) (l : Int) = ((h * 2 ^ k + l : Nat) : Int) := by
  rw [bits_or_u64_nat _ _ h1 (by omega), Nat.mul_comm h, ← Nat.two_pow_add_eq_or_of_lt h2]
theorem R3 (h l k : Int) (uG : 0 ≤ h) (py : 0 ≤ l ∧ l < 18446744073709551616) (K5 : 0 ≤ k ∧ k < 64) (ab : (h * 18446744073709551616 + l) * 2 ^ k.toNat < 340282366920938463463374607431768211456) :
    ∃ H, bits .or .u64 (IntKind.u64.wrap (h * 2 ^ k.toNat)) (l / 2 ^ (64 - k).toNat) = H ∧ (0 ≤ H ∧ H < 18446744073709551616) ∧ (h * 18446744073709551616 + l) * 2 ^ k.toNat = H * 18446744073709551616 + IntKind.u64.wrap (l * 2 ^ k.toNat) := by
  obtain ⟨a, rfl⟩ := l6 uG;obtain ⟨b, rfl⟩ := l6 py.1;obtain ⟨c, rfl⟩ := l6 K5.1;have Vx : c < 64 := by omega
  rw [show (64 - (c : Int)).toNat = 64 - c by omega, kH] at *
  have dc : (a * 18446744073709551616 + b) * 2 ^ c < 340282366920938463463374607431768211456 := by
    have e : ((a : Int) * 18446744073709551616 + b) * 2 ^ c = (((a * 18446744073709551616 + b) * 2 ^ c : Nat) : Int) := by simp
    rw [e] at ab;omega
  obtain ⟨s1, s2, bN, bO⟩ := af7 a b c (by omega) Vx dc
  have w1 : IntKind.u64.wrap ((a : Int) * 2 ^ c) = ((a * 2 ^ c : Nat) : Int) := by
    rw [show (a : Int) * 2 ^ c = ((a * 2 ^ c : Nat) : Int) by simp, IntKind.wrap_u64];omega
  have w2 : (b : Int) / 2 ^ (64 - c) = ((b / 2 ^ (64 - c) : Nat) : Int) := by simp
  have w3 : IntKind.u64.wrap ((b : Int) * 2 ^ c) = ((b * 2 ^ c % 18446744073709551616 : Nat) : Int) := by
    rw [show (b : Int) * 2 ^ c = ((b * 2 ^ c : Nat) : Int) by simp, IntKind.wrap_u64];omega
  refine ⟨_, rfl, ?_, ?_⟩
  · rw [w1, w2, Ie _ _ _ s1 s2 bN]
    omega
  · rw [w1, w2, Ie _ _ _ s1 s2 bN, w3]
    rw [show ((a : Int) * 18446744073709551616 + b) * 2 ^ c = (((a * 18446744073709551616 + b) * 2 ^ c : Nat) : Int) by simp, bO];omega
theorem af6 (h l k : Int) (uG : 0 ≤ h) (py : 0 ≤ l) (K5 : 64 ≤ k) (ab : (h * 18446744073709551616 + l) * 2 ^ k.toNat < 340282366920938463463374607431768211456) :
    (0 ≤ IntKind.u64.wrap (l * 2 ^ (k - 64).toNat) ∧ IntKind.u64.wrap (l * 2 ^ (k - 64).toNat) < 18446744073709551616) ∧ (h * 18446744073709551616 + l) * 2 ^ k.toNat = IntKind.u64.wrap (l * 2 ^ (k - 64).toNat) * 18446744073709551616 + 0 := by
  obtain ⟨a, rfl⟩ := l6 uG;obtain ⟨b, rfl⟩ := l6 py;obtain ⟨c, rfl⟩ : ∃ c : Nat, k = c + 64 := ⟨(k - 64).toNat, by omega⟩;rw [show ((c : Int) + 64 - 64).toNat = c by omega, show ((c : Int) + 64).toNat = c + 64 by omega] at *
  have e : ((a : Int) * 18446744073709551616 + b) * 2 ^ (c + 64) = (((a * 18446744073709551616 + b) * 2 ^ c * 18446744073709551616 : Nat) : Int) := by
    rw [Int.pow_add, ← ki];simp
  rw [e] at ab ⊢;rw [show (b : Int) * 2 ^ c = ((b * 2 ^ c : Nat) : Int) by simp, IntKind.wrap_u64];have hp : 0 < 2 ^ c := Nat.two_pow_pos c
  have aJ : a = 0 := by
    rcases vu a with h | h
    · exact h
    · exfalso
      have h1 : 18446744073709551616 * 1 ≤ (a * 18446744073709551616 + b) * 2 ^ c := Nat.mul_le_mul (by omega) hp;omega
  subst aJ;rw [Nat.zero_mul, je] at *;omega
end Go.Proofs.YtbcecodakfejaaaGreat
namespace Go.Proofs.YtbcecodakfejaaaGreat
open Go.RowKit
def TO (n : Int) (w : World) (e : Ending) (w' : World) : Prop := ∃ H L, e = .returned (.tuple #[.int .u64 H, .int .u64 L]) ∧ dH H L n ∧ w = w'
theorem abD {x y : Nat} (aa : x < 18446744073709551616) (ai : y < 18446744073709551616) : x * y < 18446744073709551616 * 18446744073709551616 := Nat.mul_lt_mul'' aa ai
theorem xd (x y : Int) (w : World) (aa : 0 ≤ x ∧ x < 18446744073709551616) (ai : 0 ≤ y ∧ y < 18446744073709551616) :
    Calls ag 179 #[.int .u64 x, .int .u64 y] w (TO (x * y) w) := by
  obtain ⟨X, rfl⟩ := l6 aa.1;obtain ⟨Y, rfl⟩ := l6 ai.1;refine (Tryz.bits_Mul64 X Y (by omega) (by omega) w).mono ?_;rintro e w' ⟨rfl, rfl⟩;have ak := abD (x := X) (y := Y) (by omega) (by omega);refine ⟨_, _, rfl, ?_, rfl⟩;rw [show (X : Int) * (Y : Int) = ((X * Y : Nat) : Int) from (Int.natCast_mul X Y).symm];generalize X * Y = p at *;unfold dH;omega
def lQ (n : Int) : Bool := decide (n < 340282366920938463463374607431768211456)
def vT (n : Int) (w : World) (e : Ending) (w' : World) : Prop := ∃ H L, e = .returned (.tuple #[.agg #[.int .u64 H, .int .u64 L], .bool (lQ n)]) ∧ dH H L (if lQ n then n else 0) ∧ Below w.heap.size w w'
theorem RO {n H L : Int} {w w' : World} (h : lQ n = true) (k : dH H L n) (b : Below w.heap.size w w') : vT n w (.returned (.tuple #[.agg #[.int .u64 H, .int .u64 L], .bool true])) w' := ⟨H, L, by rw [h], by rw [h]; exact k, b⟩
theorem Ab {n : Int} {w w' : World} (h : lQ n = false) (b : Below w.heap.size w w') : vT n w (.returned (.tuple #[.agg #[.int .u64 0, .int .u64 0], .bool false])) w' := ⟨0, 0, by rw [h], by rw [h]; exact zt, b⟩
theorem VD {h1 l1 n h2 l2 m : Int} (H1 : dH h1 l1 n) (cW : dH h2 l2 m) (bn : h1 ≠ 0) (bY : h2 ≠ 0) : lQ (n * m) = false := by
  obtain ⟨b1, b2, aF⟩ := H1;obtain ⟨dm, cY, aP⟩ := cW;have ax : 18446744073709551616 ≤ n := by omega
  have hm : 18446744073709551616 ≤ m := by omega
  have h := rf ax hm (by omega) (by omega);unfold lQ;rw [iE];omega
theorem abP (h1 l1 n h2 l2 m : Int) (w : World) (H1 : dH h1 l1 n) (cW : dH h2 l2 m) (bn : h1 ≠ 0) (bY : h2 ≠ 0) :
    Calls ag 194 #[.agg #[.int .u64 h1, .int .u64 l1], .agg #[.int .u64 h2, .int .u64 l2]] w (vT (n * m) w) := by
  have ax := Lib.hid (VD H1 cW bn bY);have b1 : (h1 != 0) = true := by simpa using bn
  have b2 : (h2 != 0) = true := by simpa using bY
  clear bn bY
  go_enter Tryz.func194, Tryz.ntmps194
  go_wp2
  refine bodyPost_ret (v := .tuple #[.agg #[.int .u64 0, .int .u64 0], .bool false]) (by simp only [results, Tryz.results194]; go_simp) rfl (Ab ax.out ?_);(repeat first | with_reducible exact Below.refl _ _ | with_reducible refine dP ?_ _)
theorem Oj {a b : Int} (h : dH a b 0) : a = 0 ∧ b = 0 := by
  obtain ⟨b1, b2, e⟩ := h;omega
theorem Pn {o u q hi lo p N : Int} (A : dH o u q) (C : dH hi lo p) (e : N = q * 18446744073709551616 + p) :
    (¬ o = 0 → lQ N = false) ∧ (o = 0 → ((hi + u) / 18446744073709551616 != 0) = true → lQ N = false) ∧
    (o = 0 → ((hi + u) / 18446744073709551616 != 0) = false → lQ N = true ∧ dH ((hi + u) % 18446744073709551616) lo N) := by
  obtain ⟨a1, a2, rfl⟩ := A;obtain ⟨b1, b2, rfl⟩ := C;unfold lQ dH;simp only [bne_iff_ne, bne_eq_false_iff_eq, b4, iE];omega
theorem Qa (x : Int) (h : 0 ≤ x ∧ x < 18446744073709551616) : bits .or .u64 0 x = x ∧ bits .or .u64 x 0 = x := by
  obtain ⟨X, rfl⟩ := l6 h.1;have h1 := bits_or_u64_nat 0 X (by omega) (by omega);have h2 := bits_or_u64_nat X 0 (by omega) (by omega);rw [Nat.zero_or] at h1;rw [Nat.or_zero] at h2;exact ⟨h1, h2⟩
theorem abQ (l1 n h2 l2 m : Int) (w : World) (H1 : dH 0 l1 n) (cW : dH h2 l2 m) :
    Calls ag 194 #[.agg #[.int .u64 0, .int .u64 l1], .agg #[.int .u64 h2, .int .u64 l2]] w (vT (n * m) w) := by
  have h3 := H1.1; have z2 := H1.2.1; have z3 := cW.1; have z4 := cW.2.1
  go_enter Tryz.func194, Tryz.ntmps194
  go_wp2_with fail
  refine (xd _ _ _ h3 z4).mono ?_;rintro e w1 ⟨acm, Ek, rfl, ec, rfl⟩;rw [Int.zero_mul] at ec;obtain ⟨rfl, rfl⟩ := Oj ec;clear ec
  go_wp2_with fail
  refine (xd _ _ _ z2 z3).mono ?_;rintro e w1 ⟨acn, El, rfl, eM, rfl⟩
  go_wp2_with fail
  refine (xd _ _ _ z2 z4).mono ?_;rintro e w1 ⟨hi, lo, rfl, hC, rfl⟩;have o1 := (Qa El eM.2.1).1;have aF := fun w => A8 hi El 0 hC.1.1 eM.2.1.1 (by omega) (by omega) w;rw [Int.add_zero] at aF
  have rQ := Pn (N := n * m) eM hC (by
    rw [H1.2.2, cW.2.2, Int.zero_mul, Int.zero_add, Int.mul_add, ← ki])
  obtain ⟨q1, q2, bR⟩ := rQ;have nK := Lib.hid q1; have pp := Lib.hid q2; have EP := Lib.hid bR;clear q1 q2 bR h3 z2 z3 z4
  go_wp2
  · refine bodyPost_ret (v := .tuple #[.agg #[.int .u64 0, .int .u64 0], .bool false]) (by simp only [results, Tryz.results194]; go_simp) rfl (Ab (nK.out ‹_›) ?_)
    (repeat first | with_reducible exact Below.refl _ _ | with_reducible refine dP ?_ _)
  · refine bodyPost_ret (v := .tuple #[.agg #[.int .u64 0, .int .u64 0], .bool false]) (by simp only [results, Tryz.results194]; go_simp) rfl (Ab (pp.out ‹_› ‹_›) ?_)
    (repeat first | with_reducible exact Below.refl _ _ | with_reducible refine dP ?_ _)
  · have ai := EP.out ‹_› ‹_›
    refine bodyPost_ret (v := .tuple #[.agg #[.int .u64 ((hi + El) % 18446744073709551616), .int .u64 lo], .bool true]) (by simp only [results, Tryz.results194]; go_simp) rfl (RO ai.1 ai.2 ?_);(repeat first | with_reducible exact Below.refl _ _ | with_reducible refine dP ?_ _)
theorem abR (h1 l1 n l2 m : Int) (w : World) (H1 : dH h1 l1 n) (cW : dH 0 l2 m) (k : h1 ≠ 0) :
    Calls ag 194 #[.agg #[.int .u64 h1, .int .u64 l1], .agg #[.int .u64 0, .int .u64 l2]] w (vT (n * m) w) := by
  have h3 := H1.1; have z2 := H1.2.1; have z3 := cW.1; have z4 := cW.2.1;have aaG : (h1 != 0) = true := by simpa using k
  clear k
  go_enter Tryz.func194, Tryz.ntmps194
  go_wp2_with fail
  refine (xd _ _ _ h3 z4).mono ?_;rintro e w1 ⟨acm, Ek, rfl, ec, rfl⟩
  go_wp2_with fail
  refine (xd _ _ _ z2 z3).mono ?_;rintro e w1 ⟨acn, El, rfl, eM, rfl⟩;rw [Int.mul_zero] at eM;obtain ⟨rfl, rfl⟩ := Oj eM;clear eM
  go_wp2_with fail
  refine (xd _ _ _ z2 z4).mono ?_;rintro e w1 ⟨hi, lo, rfl, hC, rfl⟩;have o1 := (Qa Ek ec.2.1).2;have aF := fun w => A8 hi Ek 0 hC.1.1 ec.2.1.1 (by omega) (by omega) w;rw [Int.add_zero] at aF
  have rQ := Pn (N := n * m) ec hC (by
    rw [H1.2.2, cW.2.2, Int.zero_mul, Int.zero_add, Int.add_mul, Int.mul_right_comm])
  obtain ⟨q1, q2, bR⟩ := rQ;have nK := Lib.hid q1; have pp := Lib.hid q2; have EP := Lib.hid bR;clear q1 q2 bR h3 z2 z3 z4
  go_wp2
  · refine bodyPost_ret (v := .tuple #[.agg #[.int .u64 0, .int .u64 0], .bool false]) (by simp only [results, Tryz.results194]; go_simp) rfl (Ab (nK.out ‹_›) ?_)
    (repeat first | with_reducible exact Below.refl _ _ | with_reducible refine dP ?_ _)
  · refine bodyPost_ret (v := .tuple #[.agg #[.int .u64 0, .int .u64 0], .bool false]) (by simp only [results, Tryz.results194]; go_simp) rfl (Ab (pp.out ‹_› ‹_›) ?_)
    (repeat first | with_reducible exact Below.refl _ _ | with_reducible refine dP ?_ _)
  · have ai := EP.out ‹_› ‹_›
    refine bodyPost_ret (v := .tuple #[.agg #[.int .u64 ((hi + Ek) % 18446744073709551616), .int .u64 lo], .bool true]) (by simp only [results, Tryz.results194]; go_simp) rfl (RO ai.1 ai.2 ?_);(repeat first | with_reducible exact Below.refl _ _ | with_reducible refine dP ?_ _)
theorem abO (h1 l1 n h2 l2 m : Int) (w : World) (H1 : dH h1 l1 n) (cW : dH h2 l2 m) :
    Calls ag 194 #[.agg #[.int .u64 h1, .int .u64 l1], .agg #[.int .u64 h2, .int .u64 l2]] w (vT (n * m) w) := by
  by_cases bn : h1 = 0
  · subst bn; exact abQ l1 n h2 l2 m w H1 cW
  · by_cases bY : h2 = 0
    · subst bY; exact abR h1 l1 n l2 m w H1 cW bn
    · exact abP h1 l1 n h2 l2 m w H1 cW bn bY
def TM (n : Int) (w : World) (e : Ending) (w' : World) : Prop := ∃ k : Nat, e = .returned (.int .i64 k) ∧ mh n.toNat k ∧ Below w.heap.size w w'
theorem VA (h : Int) (b : 0 ≤ h ∧ h < 18446744073709551616) : Lib.bitLen h.toNat ≤ 64 := Lib.bitLen_le _ 64 (dE _) (by rw [rq]; omega)
theorem aa0 (h1 l1 n : Int) (w : World) (H1 : dH h1 l1 n) :
    Calls ag 205 #[.agg #[.int .u64 h1, .int .u64 l1]] w (TM n w) := by
  obtain ⟨b1, b2, e⟩ := H1;have q1 := VA h1 b1
  by_cases k : h1 = 0
  · subst k
    have ak : Hid (mh n.toNat (Lib.bitLen l1.toNat)) := by
      rw [e, show (0 * 18446744073709551616 + l1).toNat = l1.toNat by omega];exact OP _ (by omega)
    clear e
    go_enter Tryz.func205, Tryz.ntmps205
    go_wp2_with (go_at_call 214; refine (Tryz.bits_Len64 _ _ (by omega) (by omega)).mono ?_; rintro e w' ⟨rfl, rfl⟩)
    go_ret
    exact ⟨_, rfl, ak.out, by (repeat first | with_reducible exact Below.refl _ _ | with_reducible refine dP ?_ _)⟩
  · have ak : Hid (mh n.toNat (64 + Lib.bitLen h1.toNat)) := by
      rw [e, show (h1 * 18446744073709551616 + l1).toNat = h1.toNat * 18446744073709551616 + l1.toNat by omega];exact (aa1 _ _ (by omega) (by omega) (by omega)).1
    have aaG : (h1 != 0) = true := by simpa using k
    clear e k
    go_enter Tryz.func205, Tryz.ntmps205
    go_wp2_with (go_at_call 214; refine (Tryz.bits_Len64 _ _ (by omega) (by omega)).mono ?_; rintro e w' ⟨rfl, rfl⟩)
    go_ret
    exact ⟨_, by simp, ak.out, by (repeat first | with_reducible exact Below.refl _ _ | with_reducible refine dP ?_ _)⟩
theorem af4 (h1 l1 n k : Int) (w : World) (H1 : dH h1 l1 n) (gJ : 64 ≤ k) (bn : k < 128) (ab : n * 2 ^ k.toNat < 340282366920938463463374607431768211456) :
    Calls ag 206 #[.agg #[.int .u64 h1, .int .u64 l1], .int .u64 k] w (aU (n * 2 ^ k.toNat) w) := by
  obtain ⟨b1, b2, e⟩ := H1;rw [e] at ab ⊢;have pi := Lib.hid (af6 h1 l1 k b1.1 b2.1 gJ ab);clear e ab b1 b2
  go_enter Tryz.func206, Tryz.ntmps206
  go_wp2
  refine bodyPost_ret (v := .agg #[.int .u64 (IntKind.u64.wrap (l1 * 2 ^ (k - 64).toNat)), .int .u64 0]) (by simp only [results, Tryz.results206]; go_simp) rfl ⟨_, _, rfl, ⟨pi.out.1, by omega, pi.out.2⟩, ?_⟩;(repeat first | with_reducible exact Below.refl _ _ | with_reducible refine dP ?_ _)
theorem af5 (h1 l1 n k : Int) (w : World) (H1 : dH h1 l1 n) (gJ : 0 ≤ k) (bn : k < 64) (ab : n * 2 ^ k.toNat < 340282366920938463463374607431768211456) :
    Calls ag 206 #[.agg #[.int .u64 h1, .int .u64 l1], .int .u64 k] w (aU (n * 2 ^ k.toNat) w) := by
  obtain ⟨b1, b2, e⟩ := H1;rw [e] at ab ⊢;obtain ⟨H, iW, nk, NX⟩ := R3 h1 l1 k b1.1 b2 ⟨gJ, bn⟩ ab;have Tp := Lib.hid iW;have Tq := Lib.hid NX;clear e ab b1 b2 iW NX
  go_enter Tryz.func206, Tryz.ntmps206
  go_wp2
  refine bodyPost_ret (v := .agg #[.int .u64 (bits BinOp.or IntKind.u64 (IntKind.u64.wrap (h1 * 2 ^ k.toNat)) (l1 / 2 ^ (64 - k).toNat)), .int .u64 (IntKind.u64.wrap (l1 * 2 ^ k.toNat))]) (by simp only [results, Tryz.results206]; go_simp) rfl ⟨_, _, rfl, ?_, ?_⟩
  · rw [Tp.out]
    exact ⟨nk, vF _, Tq.out⟩
  · (repeat first | with_reducible exact Below.refl _ _ | with_reducible refine dP ?_ _)
theorem af3 (h1 l1 n k : Int) (w : World) (H1 : dH h1 l1 n) (gJ : 0 ≤ k) (bn : k < 128) (ab : n * 2 ^ k.toNat < 340282366920938463463374607431768211456) :
    Calls ag 206 #[.agg #[.int .u64 h1, .int .u64 l1], .int .u64 k] w (aU (n * 2 ^ k.toNat) w) := by
  by_cases h : k < 64
  · exact af5 h1 l1 n k w H1 gJ h ab
  · exact af4 h1 l1 n k w H1 (by omega) bn ab
end Go.Proofs.YtbcecodakfejaaaGreat
namespace Go.Proofs.YtbcecodakfejaaaGreat
open Go.RowKit
theorem sign_mul {h1 l1 n h2 l2 m : Int} (H1 : cH h1 l1 n) (cW : cH h2 l2 m) : (if (!decide (h1 < 0) == decide (h2 < 0)) = true then -((n.natAbs : Int) * (m.natAbs : Int)) else (n.natAbs : Int) * (m.natAbs : Int)) = n * m := by
  have bn := H1.neg; have bY := cW.neg;rcases o8 n 0 with a | a <;> rcases o8 m 0 with b | b
  · obtain ⟨x, rfl⟩ : ∃ x : Nat, n = -(x : Int) := ⟨n.natAbs, by omega⟩
    obtain ⟨y, rfl⟩ : ∃ y : Nat, m = -(y : Int) := ⟨m.natAbs, by omega⟩;simp [bn.2 a, bY.2 b, Int.neg_mul, Int.mul_neg]
  · obtain ⟨x, rfl⟩ : ∃ x : Nat, n = -(x : Int) := ⟨n.natAbs, by omega⟩
    obtain ⟨y, rfl⟩ : ∃ y : Nat, m = (y : Int) := ⟨m.natAbs, by omega⟩;have : ¬ h2 < 0 := by omega
    simp [bn.2 a, this, Int.neg_mul]
  · obtain ⟨x, rfl⟩ : ∃ x : Nat, n = (x : Int) := ⟨n.natAbs, by omega⟩
    obtain ⟨y, rfl⟩ : ∃ y : Nat, m = -(y : Int) := ⟨m.natAbs, by omega⟩;have : ¬ h1 < 0 := by omega
    simp [bY.2 b, this, Int.mul_neg]
  · obtain ⟨x, rfl⟩ : ∃ x : Nat, n = (x : Int) := ⟨n.natAbs, by omega⟩
    obtain ⟨y, rfl⟩ : ∃ y : Nat, m = (y : Int) := ⟨m.natAbs, by omega⟩;have t1 : ¬ h1 < 0 := by omega
    have t2 : ¬ h2 < 0 := by omega
    simp [t1, t2]
theorem agi {h1 l1 n h2 l2 m ph pl P : Int} (w : World) (H1 : cH h1 l1 n) (cW : cH h2 l2 m) (e : Hid (P = n.natAbs * m.natAbs)) (hp : dH ph pl P) :
    Calls ag 196 #[.agg #[.int .u64 ph, .int .u64 pl], .bool (!decide (h1 < 0) == decide (h2 < 0))] w (pr (n * m) w) := by
  rw [← sign_mul H1 cW, ← e.out];exact Ja ph pl P _ w hp
end Go.Proofs.YtbcecodakfejaaaGreat
namespace Go.Proofs.YtbcecodakfejaaaGreat
open Go.RowKit
theorem agP {n m : Int} (az : -9223372036854775808 ≤ n) (h1 : n < 9223372036854775808) (gJ : -9223372036854775808 ≤ m) (bn : m < 9223372036854775808) : fits (n * m) = true := by
  have a : n.natAbs ≤ 9223372036854775808 := by omega
  have b : m.natAbs ≤ 9223372036854775808 := by omega
  have c := Nat.mul_le_mul a b;rw [← Int.natAbs_mul] at c;unfold fits;rw [b4];omega
theorem Uf (n : Int) (k : Nat) : ((n * 2 ^ k).natAbs : Int) = (n.natAbs : Int) * 2 ^ k := by
  rw [Int.natAbs_mul, Int.natAbs_pow, Int.natCast_mul];simp
theorem af8 {n k : Int} {len : Nat} (h : mh n.natAbs len) (az : n ≠ 0) (af : 0 ≤ k) (aA : 128 - (len : Int) < k) : fits (n * 2 ^ k.toNat) = false := by
  have h1 := aa3 h (by omega) (show 128 < k.toNat + len by omega);have h2 := Uf n k.toNat
  rw [show (n.natAbs : Int) * 2 ^ k.toNat = ((n.natAbs * 2 ^ k.toNat : Nat) : Int) by simp] at h2;unfold fits;rw [iE];omega
theorem af9 {n k : Int} {len : Nat} (h : mh n.natAbs len) (az : n ≠ 0) (af : 0 ≤ k) (aA : k ≤ 128 - (len : Int)) : k < 128 ∧ (n.natAbs : Int) * 2 ^ k.toNat < 340282366920938463463374607431768211456 := by
  have h1 := aa4 h (show k.toNat + len ≤ 128 by omega);rw [show (n.natAbs : Int) * 2 ^ k.toNat = ((n.natAbs * 2 ^ k.toNat : Nat) : Int) by simp];refine ⟨?_, by omega⟩;rcases h with h | h <;> omega
theorem agc {h1 l1 n : Int} (k : Nat) (H1 : cH h1 l1 n) : (if decide (h1 < 0) = true then -((n.natAbs : Int) * 2 ^ k) else (n.natAbs : Int) * 2 ^ k) = n * 2 ^ k := by
  have bn := H1.neg;rcases o8 n 0 with a | a
  · obtain ⟨x, rfl⟩ : ∃ x : Nat, n = -(x : Int) := ⟨n.natAbs, by omega⟩
    rw [if_pos (bZ (bn.2 a)), Int.natAbs_neg, Int.natAbs_natCast, Int.neg_mul]
  · obtain ⟨x, rfl⟩ : ∃ x : Nat, n = (x : Int) := ⟨n.natAbs, by omega⟩
    rw [if_neg (by simp; omega), Int.natAbs_natCast]
theorem agh {h1 l1 n ph pl P : Int} {k : Nat} (w : World) (H1 : cH h1 l1 n) (e : Hid (P = (n.natAbs : Int) * 2 ^ k)) (hp : dH ph pl P) :
    Calls ag 196 #[.agg #[.int .u64 ph, .int .u64 pl], .bool (decide (h1 < 0))] w (pr (n * 2 ^ k) w) := by
  rw [← agc k H1, ← e.out];exact Ja ph pl P _ w hp
end Go.Proofs.YtbcecodakfejaaaGreat
namespace Go.Proofs.YtbcecodakfejaaaGreat
open Go.RowKit
end Go.Proofs.YtbcecodakfejaaaGreat
namespace Go.Proofs.YtbcecodakfejaaaGreat
open Go.RowKit
def b5 (n : Int) : Int := n / 18446744073709551616
def dB (n : Int) : Int := n % 18446744073709551616
abbrev my (n : Int) : bx := .agg [.c (.int .i64 (b5 n)), .c (.int .u64 (dB n))]
abbrev fZ (n : Int) : ah := .w (my n)
theorem lu {n : Int} (h : fits n = true) : cH (b5 n) (dB n) n := by
 unfold fits at h;rw [b4] at h;unfold cH b5 dB;omega
theorem CP {H L n : Int} (h : cH H L n) : H = b5 n ∧ L = dB n := by
 obtain ⟨a, b, rfl⟩ := h;unfold b5 dB;omega
theorem wR : b5 0 = 0 := by decide
theorem w9 : dB 0 = 0 := by decide
@[go_sem] theorem W4 (n m : Int) : fN (b5 n) (dB n) (b5 m) (dB m) = decide (n = m) := by
 unfold fN b5 dB;rw [nx];simp;omega
@[go_sem] theorem aii (n : Int) : fN (b5 n) (dB n) 0 0 = decide (n = 0) := by
 have := W4 n 0;rwa [wR, w9] at this
theorem BL {n : Int} (az : -9223372036854775808 ≤ n) (h1 : n < 9223372036854775808) : fits n = true := by unfold fits; rw [b4]; omega
theorem tP {n : Int} (az : -9223372036854775808 ≤ n) (h1 : n < 9223372036854775808) : aH ag 152 [aE n] (fZ n) :=
 hJ [.int .i64 n] (.agg #[.int .i64 (b5 n), .int .u64 (dB n)]) rfl rfl rfl rfl rfl fun W => (JY n W az h1).mono fun e w' ⟨H, L, he, hw, ab⟩ => by
  obtain ⟨rfl, rfl⟩ := CP hw; exact ⟨he, ab⟩
theorem DI {n : Int} (f : fits n = true) : aH ag 168 [fZ n] (aE (cj n 0)) :=
 hJ [.agg #[.int .i64 (b5 n), .int .u64 (dB n)]] (.int .i64 (cj n 0)) rfl rfl rfl rfl rfl fun W => TT _ _ _ W (lu f)
theorem ad8 {n m : Int} (f : fits n = true) (g : fits m = true) : aH ag 197 [fZ n, fZ m] (aE (cj n m)) :=
 hJ [.agg #[.int .i64 (b5 n), .int .u64 (dB n)], .agg #[.int .i64 (b5 m), .int .u64 (dB m)]] (.int .i64 (cj n m)) rfl rfl rfl rfl rfl fun W => JC _ _ _ _ _ _ W (lu f) (lu g)
abbrev wf (z : Int) : ah := .cn [my (if fits z then z else 0), .one (.c (.bool (fits z)))]
theorem xw {z : Int} {w w' : World} {e : Ending} (h : pr z w e w') : e = .returned (.tuple #[.agg #[.int .i64 (b5 (if fits z then z else 0)), .int .u64 (dB (if fits z then z else 0))], .bool (fits z)]) ∧ Below w.heap.size w w' := by
 obtain ⟨H, L, he, hw, ab⟩ := h;obtain ⟨rfl, rfl⟩ := CP hw;exact ⟨he, ab⟩
theorem QH {n : Int} (f : fits n = true) : aH ag 169 [fZ n] (wf (-n)) :=
 hJ [.agg #[.int .i64 (b5 n), .int .u64 (dB n)]] _ rfl rfl rfl rfl rfl fun W => (TF _ _ _ W (lu f)).mono fun e w' h => xw h
theorem ad7 {n m : Int} (f : fits n = true) (g : fits m = true) : aH ag 204 [fZ n, fZ m] (wf (n + m)) :=
 hJ [.agg #[.int .i64 (b5 n), .int .u64 (dB n)], .agg #[.int .i64 (b5 m), .int .u64 (dB m)]] _ rfl rfl rfl rfl rfl fun W => (SN _ _ _ _ _ _ W (lu f) (lu g)).mono fun e w' h => xw h
theorem QI {n m : Int} (f : fits n = true) (g : fits m = true) : aH ag 149 [fZ n, fZ m] (wf (n - m)) :=
 hJ [.agg #[.int .i64 (b5 n), .int .u64 (dB n)], .agg #[.int .i64 (b5 m), .int .u64 (dB m)]] _ rfl rfl rfl rfl rfl fun W => (TW _ _ _ _ _ _ W (lu f) (lu g)).mono fun e w' h => xw h
theorem er.frame {w w' : World} {neg : Bool} {A : Option Addr} {l c : Nat} {n : Int} (h : er w neg A l c n) (au : ∀ a, A = some a → 0 < l → w'.heap[a.block]? = w.heap[a.block]?) : er w' neg A l c n := by
 obtain ⟨ds, ⟨h1, h2, ao, aD⟩, hS⟩ := h;refine ⟨ds, ⟨h1, h2, ao, fun hp => ?_⟩, hS⟩;obtain ⟨g, rfl, aq, al⟩ := aD hp;have e := au _ rfl hp;refine ⟨g, rfl, ?_, fun j ae => ?_⟩
 ·have cm : w.heap[g]? = some w.heap[g] := Array.getElem?_eq_getElem aq;have eQ : w'.heap[g]? = some w.heap[g] := e.trans cm;exact (jU.1 eQ).1
 ·have bo : w'.heap[(⟨g, j, none⟩ : Addr).block]? = w.heap[(⟨g, j, none⟩ : Addr).block]? := e;rw [World.cell?_of_block (w := w) bo]; exact al j ae
def mj (n : Int) : e0 where
 holds w v := ∃ A l c, v = .slice A l c ∧ er w (decide (n < 0)) A l c n
 kW w v b := ∃ A l c a, v = .slice A l c ∧ 0 < l ∧ A = some a ∧ a.block = b
 frame w w' v := by
  rintro ⟨A, l, c, rfl, h⟩ au;exact ⟨⟨A, l, c, rfl, h.frame fun a aJ ak => au a.block ⟨A, l, c, a, rfl, ak, aJ, rfl⟩⟩, fun b ab => ab⟩
 ik w v b := by
  rintro ⟨A, l, c, rfl, ds, ⟨h1, h2, ao, aD⟩, hS⟩ ⟨dU, cE, c', a, e, ak, aJ, ab⟩;cases e;obtain ⟨g, rfl, aq, al⟩ := aD ak;cases aJ;subst ab;exact aq
 cell w v := by rintro ⟨A, l, c, rfl, h⟩; rfl
abbrev lX (n : Int) : bx := .agg [.c (.bool (decide (n < 0))), .p (mj n)]
abbrev ij (n : Int) : ah := .w (lX n)
theorem Dk {U : Nat → Prop} {ad : Nat → Nat} {w : World} {x : Bool} {A : Option Addr} {l c : Nat} {n : Int} (h : er w x A l c n) (di : ∀ a, A = some a → 0 < l → U a.block) : fR U ad w (lX n) (.agg #[.bool x, .slice A l c]) := by
 obtain rfl := h.H8;refine ⟨[.bool (decide (n < 0)), .slice A l c], rfl, rfl, fun i y v ai hv => ?_⟩
 match i with
 | 0 => simp at ai hv; subst ai; subst hv; exact ⟨rfl, rfl⟩
 | 1 =>
  simp at ai hv;subst ai; subst hv;refine ⟨⟨A, l, c, rfl, h⟩, ?_⟩;rintro b ⟨dU, cE, c', a, e, ak, aJ, ab⟩;cases e;subst ab;exact di a aJ ak
 | i + 2 => simp at ai
theorem H9 {U : Nat → Prop} {ad : Nat → Nat} {w : World} {v : Value} {n : Int} (h : fR U ad w (lX n) v) : ∃ A l c, v = .agg #[.bool (decide (n < 0)), .slice A l c] ∧ er w (decide (n < 0)) A l c n ∧ ∀ a, A = some a → 0 < l → U a.block := by
 obtain ⟨vs, rfl, ak, hv⟩ := h
 match vs, ak with
 | [x, y], _ =>
  have az := hv 0 _ x rfl rfl;have h1 := hv 1 _ y rfl rfl;obtain ⟨rfl, _⟩ := az;obtain ⟨⟨A, l, c, rfl, h⟩, au⟩ := h1;exact ⟨A, l, c, rfl, h, fun a aJ ak => au a.block ⟨A, l, c, a, rfl, ak, aJ, rfl⟩⟩
def dL (k : Nat) (n : Int) : Prop := (n.natAbs : Int) < 10000 ^ k
theorem dL.len {w : World} {x : Bool} {A : Option Addr} {l c k : Nat} {n : Int} (b : dL k n) (h : er w x A l c n) : l ≤ k := h.len b
theorem dL.up {k j : Nat} {n : Int} (b : dL k n) (h : k ≤ j) : dL j n := by
 unfold dL at *
 have : (10000 : Int) ^ k ≤ 10000 ^ j := by
  have := vv (show 0 < 10000 by decide) h;have aF : ((10000 : Int) ^ k) = ((10000 ^ k : Nat) : Int) := by simp
  have aP : ((10000 : Int) ^ j) = ((10000 ^ j : Nat) : Int) := by simp
  rw [aF, aP]; omega
 omega
theorem aeu (k : Nat) : (0 : Int) < 10000 ^ k := gp (by decide)
theorem dL.zK {n : Int} (h : fits n = true) : dL 10 n := by
 unfold fits at h;rw [b4] at h;unfold dL;rw [agL];omega
theorem dL.mul {k j : Nat} {n m : Int} (a : dL k n) (b : dL j m) : dL (k + j) (n * m) := by
 unfold dL at *;rw [Int.natAbs_mul, Int.pow_add, Int.natCast_mul];exact Int.mul_lt_mul' (lB a) b (by omega) (aeu k)
theorem dL.QS (k : Nat) : dL (k + 1) (2 ^ k) := by unfold dL; exact QT k
theorem afj {U : Nat → Prop} {n : Int} {w w' : World} {e : Ending} (h : qo n w e w') (di : ∀ b, w.heap.size ≤ b → U b) : ∃ v, e = .returned v ∧ cX U id w' (ij n) v ∧ Below w.heap.size w w' := by
 obtain ⟨x, A, l, c, he, ey, ab, hF⟩ := h;exact ⟨_, he, Dk ey fun a aJ _ => di _ (hF a aJ), ab⟩
theorem QM {f : FuncId} {n m : Int} {r : ah} (b0 : r.aY = true)
  (h : ∀ (U : Nat → Prop) (W : World) (A : Option Addr) (l c : Nat) (B : Option Addr) (cE c' : Nat), er W (decide (n < 0)) A l c n → er W (decide (m < 0)) B cE c' m →
   Calls ag f #[.agg #[.bool (decide (n < 0)), .slice A l c], .agg #[.bool (decide (m < 0)), .slice B cE c']] W fun e bf => ∃ v, e = .returned v ∧ cX (fun b => U b ∨ W.heap.size ≤ b) id bf r v ∧ Below W.heap.size W bf) : aH ag f [ij n, ij m] r := by
 refine ⟨fun x aa => ah.dq (by simp at aa; rcases aa with rfl | rfl <;> rfl), ah.dq b0, fun U W vs cK => ?_⟩
 match vs, cK with
 | [], cK => exact absurd cK.1 (by simp)
 | [_], cK => exact absurd cK.1 (by simp)
 | [v1, v2], cK =>
  obtain ⟨A, l, c, rfl, bn, _⟩ := H9 (cK.2 0 _ _ rfl rfl);obtain ⟨B, cE, c', rfl, bY, _⟩ := H9 (cK.2 1 _ _ rfl rfl);exact h U W A l c B cE c' bn bY
 | _ :: _ :: _ :: _, cK => exact absurd cK.1 (by simp)
theorem Iq {n m : Int} (a : dL 400 n) (b : dL 400 m) : aH ag 77 [ij n, ij m] (ij (n * m)) :=
 QM rfl fun U W A l c B cE c' h k => (aeV _ _ A B l c cE c' n m W h k (a.len h) (b.len k)).mono fun e w' h => afj h fun b ab => .inr ab
theorem Ip {n m : Int} (a : dL 1000 n) (b : dL 1000 m) : aH ag 76 [ij n, ij m] (aE (cj n m)) :=
 QM rfl fun U W A l c B cE c' h k => (aeU _ _ A B l c cE c' n m W h k (a.len h) (b.len k)).mono fun e w' ⟨he, ab⟩ => ⟨_, he, ⟨rfl, rfl⟩, ab⟩
theorem ra {n : Int} (az : -9223372036854775808 ≤ n) (h1 : n < 9223372036854775808) : aH ag 66 [aE n] (ij n) :=
 Iv [.int .i64 n] rfl rfl rfl fun W => (Rp n W az h1).mono fun e w' ⟨x, A, l, c, he, ey, ab, hF⟩ => ⟨_, he, fun U di => Dk ey fun a aJ _ => di _ (hF a aJ), ab⟩
theorem QB {k : Nat} (af : k ≤ 800) : aH ag 108 [aE k] (ij (2 ^ k)) :=
 Iv [.int .i64 k] rfl rfl rfl fun W => (aeX k W af).mono fun e w' ⟨x, A, l, c, he, ey, ab, hF⟩ => ⟨_, he, fun U di => Dk ey fun a aJ _ => di _ (hF a aJ), ab⟩
theorem aeg {f : FuncId} {n : Int} {r : ah} (b0 : r.aY = true)
  (h : ∀ (U : Nat → Prop) (W : World) (A : Option Addr) (l c : Nat), er W (decide (n < 0)) A l c n → (∀ a, A = some a → 0 < l → U a.block) →
   Calls ag f #[.agg #[.bool (decide (n < 0)), .slice A l c]] W fun e bf => ∃ v, e = .returned v ∧ cX (fun b => U b ∨ W.heap.size ≤ b) id bf r v ∧ Below W.heap.size W bf) : aH ag f [ij n] r := by
 refine ⟨fun x aa => ah.dq (by simp at aa; subst aa; rfl), ah.dq b0, fun U W vs cK => ?_⟩
 match vs, cK with
 | [], cK => exact absurd cK.1 (by simp)
 | [v1], cK =>
  obtain ⟨A, l, c, rfl, bn, au⟩ := H9 (cK.2 0 _ _ rfl rfl);exact h U W A l c bn au
 | _ :: _ :: _, cK => exact absurd cK.1 (by simp)
theorem ad4 {n : Int} (a : dL 1000 n) : aH ag 109 [ij n] (ij (-n)) :=
 aeg rfl fun U W A l c h au => (aeW _ A l c n W h (a.len h)).mono fun e w' ⟨x, cE, he, ey, hle, ab⟩ => ⟨_, he, Dk ey fun a aJ ak => .inl (au a aJ (by omega)), ab⟩
end Go.Proofs.YtbcecodakfejaaaGreat
namespace Go.Proofs.YtbcecodakfejaaaGreat
structure hN (u d a b : Int) : Prop where
  a0 : 2147483648 ≤ a
  a1 : a < 4294967296
  fA : 0 ≤ b
  b1 : b < 4294967296
  kk : 0 ≤ u
  cy : u < a * 4294967296 + b
  d0 : 0 ≤ d
  d1 : d < 4294967296
def iY (u d a b : Int) : Int := (u * 4294967296 + d) / (a * 4294967296 + b)
def ig (u d a b : Int) : Int := (u * 4294967296 + d) % (a * 4294967296 + b)
structure lL (u d a b q r : Int) : Prop where
  sum : q * a + r = u
  c0 : 0 ≤ q
  gM : 0 ≤ r
  le : iY u d a b ≤ q
variable {u d a b q r : Int}
theorem hN.mf (h : hN u d a b) : 0 < a * 4294967296 + b := by have := h.a0; have := h.fA; omega
theorem hN.c0 (h : hN u d a b) : 0 ≤ iY u d a b := nC (by have := h.kk; have := h.d0; omega) (lB h.mf)
theorem hN.DQ (h : hN u d a b) : iY u d a b < 4294967296 := by
  unfold iY;refine Int.ediv_lt_of_lt_mul h.mf ?_;have h1 := h.cy; have h2 := h.d1;generalize a * 4294967296 + b = y at *;omega
theorem hN.le_iff (h : hN u d a b) (q : Int) : q ≤ iY u d a b ↔ q * (a * 4294967296 + b) ≤ u * 4294967296 + d := by
  unfold iY;exact og h.mf
theorem H3 (q a b : Int) : q * (a * 4294967296 + b) = q * a * 4294967296 + q * b := by rw [Int.mul_add, ki]
theorem hN.init (h : hN u d a b) : lL u d a b (u / a) (u - u / a * a) := by
  have aJ : 0 < a := by have := h.a0; omega
  refine ⟨by omega, nC h.kk (lB aJ), ?_, ?_⟩
  · have := Int.ediv_mul_le u (show a ≠ 0 by omega)
    omega
  · have h1 := (h.le_iff _).1 (mH _)
    rw [H3] at h1;rw [og aJ];have h2 := fY h.c0 h.fA;have ao := h.d1;omega
theorem hN.Oc (h : hN u d a b) : u - u / a * a < a ∧ u - u / a * a < 4294967296 := by
  have aJ : 0 < a := by have := h.a0; omega
  have h1 := mK u aJ;rw [Int.emod_def, iq] at h1;have := h.a1;omega
theorem lL.down (h : hN u d a b) (t : lL u d a b q r) (k : 4294967296 ≤ q ∨ 4294967296 * r + d < q * b) : lL u d a b (q - 1) (r + a) ∧ 1 ≤ q := by
  have bb : iY u d a b < q := by
    rcases k with k | k
    · exact Int.lt_of_lt_of_le h.DQ k
    · rcases o8 (iY u d a b) q with l | l
      · exact l
      · have h1 := (h.le_iff q).1 l
        rw [H3] at h1;have h2 := t.sum;generalize q * a = oa at *;generalize q * b = ob at *;omega
  have az := h.c0;refine ⟨⟨?_, by omega, by have := t.gM; have := h.a0; omega, by omega⟩, by omega⟩;rw [Int.sub_mul, ← t.sum];omega
theorem lL.done (h : hN u d a b) (t : lL u d a b q r) (k : q * b ≤ 4294967296 * r + d) : q = iY u d a b := by
  have h1 : q ≤ iY u d a b := by
    rw [h.le_iff, H3];have h2 := t.sum;generalize q * a = oa at *;generalize q * b = ob at *;omega
  have := t.le;omega
theorem lL.DP (h : hN u d a b) (t : lL u d a b q r) : q < 8589934592 := by
  rcases o8 q 8589934592 with l | l
  · exact l
  · have h1 : 8589934592 * 2147483648 ≤ q * a := rf l h.a0 (by omega) t.c0
    have h2 := t.sum; have ao := h.cy; have aD := h.b1; have cm := h.a1; have eQ := t.gM;omega
theorem lL.small (h : hN u d a b) (t : lL u d a b q r) (k : 4294967296 ≤ r) : q < 4294967296 := by
  rcases o8 q 4294967296 with l | l
  · exact l
  · have h1 := nA l (show (0 : Int) ≤ a by have := h.a0; omega)
    have h2 := t.sum; have ao := h.cy; have aD := h.b1;omega
theorem lL.oQ (h : hN u d a b) (t : lL u d a b q r) (k : q < 4294967296) : 0 ≤ q * b ∧ q * b < 18446744073709551616 := by
  refine ⟨fY t.c0 h.fA, ?_⟩;have h1 : q * b ≤ 4294967295 * 4294967295 := rf (by omega) (by have := h.b1; omega) h.fA (by omega);omega
theorem lL.out (h : hN u d a b) (t : lL u d a b q r) (k : 4294967296 ≤ r) : q = iY u d a b := by
  have h1 := t.small h k;refine t.done h ?_;have h2 := (t.oQ h h1).2;have ao := h.d0;omega
theorem hN.rest (h : hN u d a b) : IntKind.u64.wrap (IntKind.u64.wrap (IntKind.u64.wrap (u * 4294967296) + d) - IntKind.u64.wrap (iY u d a b * (a * 4294967296 + b))) = ig u d a b := by
  have h1 : u * 4294967296 + d - iY u d a b * (a * 4294967296 + b) = ig u d a b := by
    unfold iY ig;rw [Int.emod_def, iq (a * 4294967296 + b)]
  have h2 : 0 ≤ ig u d a b := nB _ (by have := h.mf; omega);have ao : ig u d a b < a * 4294967296 + b := mK _ h.mf;have aD := h.a1; have cm := h.b1;simp only [IntKind.wrap_u64];generalize ig u d a b = k at *;generalize iY u d a b * (a * 4294967296 + b) = p at *;omega
theorem hN.next (h : hN u d a b) (e : Int) (cq : 0 ≤ e ∧ e < 4294967296) : hN (ig u d a b) e a b :=
  ⟨h.a0, h.a1, h.fA, h.b1, nB _ (by have := h.mf; omega), mK _ h.mf, cq.1, cq.2⟩
theorem hN.two (h : hN u d a b) (e : Int) (cq : 0 ≤ e ∧ e < 4294967296) :
    iY u d a b * 4294967296 + iY (ig u d a b) e a b = (u * 18446744073709551616 + d * 4294967296 + e) / (a * 4294967296 + b) ∧ ig (ig u d a b) e a b = (u * 18446744073709551616 + d * 4294967296 + e) % (a * 4294967296 + b) := by
  have k := h.next e cq
  have mf := h.mf;have s1 : u * 4294967296 + d = (a * 4294967296 + b) * iY u d a b + ig u d a b := (o6 _ _).symm;have s2 : ig u d a b * 4294967296 + e = (a * 4294967296 + b) * iY (ig u d a b) e a b + ig (ig u d a b) e a b := (o6 _ _).symm;have gM : 0 ≤ ig (ig u d a b) e a b := nB _ (by omega);have cx : ig (ig u d a b) e a b < a * 4294967296 + b := mK _ mf;generalize ig (ig u d a b) e a b = R at *;generalize iY (ig u d a b) e a b = pp at *;generalize ig u d a b = bh at *;generalize iY u d a b = nK at *;generalize a * 4294967296 + b = y at *
  have t : u * 18446744073709551616 + d * 4294967296 + e = R + y * (nK * 4294967296 + pp) := by
    rw [Int.mul_add, ← ki];generalize y * nK = p at *;generalize y * pp = p2 at *;omega
  rw [t]
  constructor
  · rw [Int.add_mul_ediv_left _ _ (by omega), Int.ediv_eq_zero_of_lt gM cx]
    omega
  · rw [Int.add_mul_emod_self_left, Int.emod_eq_of_lt gM cx]
structure Lz (y s : Int) : Prop where
  dJ : 0 ≤ s
  s1 : s < 64
  lo : 9223372036854775808 ≤ y * 2 ^ s.toNat
  hi : y * 2 ^ s.toNat < 18446744073709551616
theorem OZ (y : Int) (az : 0 < y) (h1 : y < 18446744073709551616) : Lz y (64 - (Lib.bitLen y.toNat : Int)) := by
  obtain ⟨n, rfl⟩ := l6 (lB az);rw [kH];rcases OP n (by omega) with ⟨h, _⟩ | ⟨l1, _, aaM, aaN⟩
  · omega
  · have l2 : Lib.bitLen n ≤ 64 := Lib.bitLen_le n 64 (dE _) (by rw [rq]; omega)
    have e : (64 - (Lib.bitLen n : Int)).toNat = 64 - Lib.bitLen n := by omega
    have f : (n : Int) * 2 ^ (64 - Lib.bitLen n) = ((n * 2 ^ (64 - Lib.bitLen n) : Nat) : Int) := by simp
    have g1 : 2 ^ 63 ≤ n * 2 ^ (64 - Lib.bitLen n) := by
      have := kg (2 ^ (64 - Lib.bitLen n)) aaM;rw [← Nat.pow_add, show Lib.bitLen n - 1 + (64 - Lib.bitLen n) = 63 by omega] at this;exact this
    have g2 : n * 2 ^ (64 - Lib.bitLen n) < 2 ^ 64 := by
      have := Nat.mul_lt_mul_of_pos_right aaN (Nat.two_pow_pos (64 - Lib.bitLen n));rw [← Nat.pow_add, show Lib.bitLen n + (64 - Lib.bitLen n) = 64 by omega] at this;exact this
    rw [rq] at g2;rw [show (2 : Nat) ^ 63 = 9223372036854775808 by decide] at g1;exact ⟨by omega, by omega, by rw [e, f]; omega, by rw [e, f]; omega⟩
structure Nm (hi lo y s U V Y : Int) : Prop where
  y : Y = y * 2 ^ s.toNat
  n : (hi * 18446744073709551616 + lo) * 2 ^ s.toNat = U * 18446744073709551616 + V
  kk : 0 ≤ U
  cy : U < Y
  v0 : 0 ≤ V
  v1 : V < 18446744073709551616
theorem ab8 {hi lo y s : Int} (az : 0 ≤ hi) (h1 : hi < y) (l : 0 ≤ lo ∧ lo < 18446744073709551616) (k : Lz y s) :
    Nm hi lo y s (bits .or .u64 (IntKind.u64.wrap (hi * 2 ^ s.toNat)) (lo / 2 ^ (64 - s).toNat)) (IntKind.u64.wrap (lo * 2 ^ s.toNat)) (IntKind.u64.wrap (y * 2 ^ s.toNat)) := by
  have lY : (0 : Int) < 2 ^ s.toNat := gp (by omega)
  have t : (hi * 18446744073709551616 + lo) * 2 ^ s.toNat < y * 2 ^ s.toNat * 18446744073709551616 := by
    rw [Int.mul_right_comm];exact Int.mul_lt_mul_of_pos_right (by omega) lY
  have oN := k.hi;obtain ⟨H, aF, aP, cr⟩ := R3 hi lo s az l ⟨k.dJ, k.s1⟩ (by omega)
  have w : IntKind.u64.wrap (y * 2 ^ s.toNat) = y * 2 ^ s.toNat := by
    have := k.lo;rw [IntKind.wrap_u64];omega
  rw [aF, w];have v : 0 ≤ IntKind.u64.wrap (lo * 2 ^ s.toNat) ∧ IntKind.u64.wrap (lo * 2 ^ s.toNat) < 18446744073709551616 := by rw [IntKind.wrap_u64]; omega
  refine ⟨rfl, cr, aP.1, ?_, v.1, v.2⟩;rw [cr] at t;omega
theorem KH (x : Int) (h : 0 ≤ x ∧ x < 18446744073709551616) : bits .and .u64 x 4294967295 = x % 4294967296 := by
  obtain ⟨X, rfl⟩ := l6 h.1;have h1 := bits_and_u64_nat X 4294967295 (by omega) (by omega);rw [show X &&& 4294967295 = X % 4294967296 from Nat.and_two_pow_sub_one_eq_mod X 32] at h1;rw [show ((4294967295 : Nat) : Int) = 4294967295 from rfl] at h1;rw [h1];omega
theorem Nm.aaJ {hi lo y s U V Y : Int} (h : Nm hi lo y s U V Y) (k : Lz y s) : hN U (V / 4294967296) (Y / 4294967296) (Y % 4294967296) := by
  have a := h.y; have b := h.kk; have c := h.cy; have d := h.v0; have e := h.v1; have f := k.lo; have g := k.hi
  constructor <;> omega
theorem Nm.quo {hi lo y s U V Y : Int} (h : Nm hi lo y s U V Y) (k : Lz y s) : (U * 18446744073709551616 + V / 4294967296 * 4294967296 + V % 4294967296) / (Y / 4294967296 * 4294967296 + Y % 4294967296) = (hi * 18446744073709551616 + lo) / y ∧
    (U * 18446744073709551616 + V / 4294967296 * 4294967296 + V % 4294967296) % (Y / 4294967296 * 4294967296 + Y % 4294967296) / 2 ^ s.toNat = (hi * 18446744073709551616 + lo) % y := by
  have lY : (0 : Int) < 2 ^ s.toNat := gp (by omega);rw [show U * 18446744073709551616 + V / 4294967296 * 4294967296 + V % 4294967296 = U * 18446744073709551616 + V by omega, show Y / 4294967296 * 4294967296 + Y % 4294967296 = Y by omega, ← h.n, h.y];generalize (2 : Int) ^ s.toNat = p at *
  constructor
  · exact Int.mul_ediv_mul_of_pos_left _ _ lY
  · rw [Int.emod_def, Int.mul_ediv_mul_of_pos_left _ _ lY, Int.mul_right_comm, ← Int.sub_mul, Int.mul_ediv_cancel _ (by omega), Int.emod_def]
end Go.Proofs.YtbcecodakfejaaaGreat
namespace Go.Proofs.YtbcecodakfejaaaGreat
theorem QV (s : Int) (dJ : 0 ≤ s) (s1 : s < 64) : (2 : Int) * 2 ^ (63 - s).toNat * 2 ^ s.toNat = 18446744073709551616 ∧ (0 : Int) < 2 ^ (63 - s).toNat ∧ (0 : Int) < 2 ^ s.toNat := by
  refine ⟨?_, gp (by omega), gp (by omega)⟩;rw [ki, ← Int.pow_add, show (63 - s).toNat + s.toNat = 63 by omega];decide
theorem XE (A b s T low : Int) (bK : 0 ≤ A) (gB : A ≤ 170141183460469231731687303715884105728) (dJ : 0 ≤ s) (s1 : s < 64) (e : b * 2 ^ s.toNat = T * 18446744073709551616 + low) (qS : 0 ≤ low) (l1 : low < 18446744073709551616) (TY : 9223372036854775808 ≤ T) :
    A / b ≤ A / 2 / T / 2 ^ (63 - s).toNat ∧ A / 2 / T / 2 ^ (63 - s).toNat ≤ A / b + 1 ∧ A / 2 / T / 2 ^ (63 - s).toNat ≤ 9223372036854775808 := by
  obtain ⟨p1, p2, p3⟩ := QV s dJ s1;generalize (2 : Int) ^ (63 - s).toNat = c at *;generalize (2 : Int) ^ s.toNat = p at *;rw [xo (show (0 : Int) ≤ T by omega), xo (show (0 : Int) ≤ 2 by omega)]
 
  have eG : T * (2 * c) * p = T * 18446744073709551616 := by rw [ki, p1]
  have c2 : 2 ≤ 2 * c := by omega
  have Ta : 18446744073709551616 ≤ T * (2 * c) := by
    have := rf TY c2 (by omega) (by omega);omega
  have Wt : T * (2 * c) ≤ b := by
    have : T * (2 * c) * p ≤ b * p := by rw [eG, e]; omega
    exact Int.le_of_mul_le_mul_right this p3
  have aid : b < T * (2 * c) + 2 * c := by
    have : b * p < (T * (2 * c) + 2 * c) * p := by rw [Int.add_mul, eG, p1, e]; omega
    exact Int.lt_of_mul_lt_mul_right this (lB p3)
  rw [show 2 * (T * c) = T * (2 * c) by rw [← ki, iq 2 T, ki]];generalize wF : T * (2 * c) = D at *;have AN : 0 < D := by omega
  have VE : 0 < b := by omega
  have g1 : A / D * D ≤ A := Int.ediv_mul_le A (by omega);have g0 : 0 ≤ A / D := nC bK (by omega)
  have gt : A / D ≤ 9223372036854775808 := by
    rcases o8 9223372036854775808 (A / D) with h | h
    · have := rf (show 9223372036854775809 ≤ A / D by omega) Ta (by omega) g0
      omega
    · exact h
  refine ⟨?_, ?_, gt⟩
  · rw [og AN]
    have h1 : A / b * b ≤ A := Int.ediv_mul_le A (by omega);have h2 : A / b * D ≤ A / b * b := od Wt (nC bK (by omega));omega
  · have : A / D - 1 ≤ A / b := by
      rw [og VE];rcases o8 0 (A / D) with h | h
      · have h2 : (A / D - 1) * b ≤ (A / D - 1) * (D + 2 * c) := od (by omega) (by omega)
        have ao : (A / D - 1) * (2 * c) ≤ T * (2 * c) := nA (by omega) (by omega);rw [Int.mul_add, Int.sub_mul (A / D) 1 D, Int.one_mul] at h2;omega
      · have h2 : (A / D - 1) * b ≤ 0 := Int.mul_nonpos_of_nonpos_of_nonneg (by omega) (by omega)
        omega
    omega
theorem acE (h l : Nat) (h1 : h * 9223372036854775808 < 18446744073709551616) (h2 : l < 9223372036854775808) (ao : h * 9223372036854775808 + l < 18446744073709551616) :
    bits .or .u64 ((h * 9223372036854775808 : Nat) : Int) (l : Int) = ((h * 9223372036854775808 + l : Nat) : Int) := by
  have e := Ie h l 63;rw [show (2 : Nat) ^ 63 = 9223372036854775808 by decide] at e;exact e h1 h2 ao
theorem X3 (h l : Int) (uG : 0 ≤ h ∧ h < 18446744073709551616) (py : 0 ≤ l ∧ l < 18446744073709551616) :
    ∃ L, bits .or .u64 (IntKind.u64.wrap (h * 9223372036854775808)) (l / 2) = L ∧ (0 ≤ L ∧ L < 18446744073709551616) ∧ h / 2 * 18446744073709551616 + L = (h * 18446744073709551616 + l) / 2 := by
  obtain ⟨a, rfl⟩ := l6 uG.1;obtain ⟨b, rfl⟩ := l6 py.1
  have w1 : IntKind.u64.wrap ((a : Int) * 9223372036854775808) = ((a % 2 * 9223372036854775808 : Nat) : Int) := by
    rw [IntKind.wrap_u64];omega
  have w2 : (b : Int) / 2 = ((b / 2 : Nat) : Int) := by omega
  refine ⟨_, rfl, ?_⟩;rw [w1, w2, acE _ _ (by omega) (by omega) (by omega)];omega
theorem abd {h l s : Int} (k : Lz h s) (az : 0 ≤ h) (qS : 0 ≤ l) (l1 : l < 18446744073709551616) :
    (h * 18446744073709551616 + l) * 2 ^ s.toNat < 340282366920938463463374607431768211456 ∧ 170141183460469231731687303715884105728 ≤ (h * 18446744073709551616 + l) * 2 ^ s.toNat := by
  obtain ⟨p1, p2, p3⟩ := QV s k.dJ k.s1;have lo := k.lo; have hi := k.hi;generalize (2 : Int) ^ (63 - s).toNat = c at *;generalize (2 : Int) ^ s.toNat = p at *
  have al : h < 2 * c := by
    rw [← p1] at hi;exact Int.lt_of_mul_lt_mul_right hi (lB p3)
  have h2 : (h + 1) * p ≤ 2 * c * p := nA (by omega) (lB p3);have ao : l * p ≤ 18446744073709551615 * p := nA (by omega) (lB p3);have aD : 0 ≤ l * p := fY qS (lB p3);rw [Int.add_mul, Int.one_mul, p1] at h2;rw [Int.add_mul, Int.mul_right_comm];generalize h * p = hp at *;generalize l * p = ajk at *;omega
end Go.Proofs.YtbcecodakfejaaaGreat
namespace Go.Proofs.YtbcecodakfejaaaGreat
open Go.RowKit
theorem Vz {w W : World} (h : Below w.heap.size w W) (n : Nat) : Below w.heap.size w (W.drewN n) := ⟨h.os, h.tape, h.output, h.size, h.block⟩
def TN (y : Int) (w : World) (e : Ending) (w' : World) : Prop := ∃ s : Int, e = .returned (.int .i64 s) ∧ Lz y s ∧ w = w'
theorem abc (y : Int) (w : World) (az : 0 < y) (h1 : y < 18446744073709551616) : Calls ag 219 #[.int .u64 y] w (TN y w) := by
  refine (Tryz.bits_LeadingZeros64 y w (by omega) (by omega)).mono ?_;rintro e w' ⟨rfl, rfl⟩;exact ⟨_, rfl, OZ y az h1, rfl⟩
theorem ae5 {a b c d : Int} (h : a = c) (k : b = d) : Ending.returned (.tuple #[.int .u64 a, .int .u64 b]) = .returned (.tuple #[.int .u64 c, .int .u64 d]) := by rw [h, k]
def EV (q r : Int) (w : World) (e : Ending) (w' : World) : Prop := e = .returned (.tuple #[.int .u64 q, .int .u64 r]) ∧ Below w.heap.size w w'
theorem Wp (lo y : Int) (w : World) (l : 0 ≤ lo ∧ lo < 18446744073709551616) (mf : 0 < y) (jk : y < 18446744073709551616) :
    Calls ag 215 #[.int .u64 0, .int .u64 lo, .int .u64 y] w (EV (lo / y) (lo % y) w) := by
  have fG : (y == 0) = false := by simp; omega
  have eJ : decide (y ≤ 0) = false := by simp; omega
  obtain ⟨qS, l1⟩ := l
  go_enter Tryz.func215, Tryz.ntmps215
  go_wp2
  go_quiet (fail)
  go_wp2
  go_ret2
  exact ⟨rfl, Vz (Below.refl _ _) _⟩
theorem Wo (hi lo y : Int) (w : World) (az : 0 < hi) (h1 : hi < y) (l : 0 ≤ lo ∧ lo < 18446744073709551616) (jk : y < 18446744073709551616) :
    Calls ag 215 #[.int .u64 hi, .int .u64 lo, .int .u64 y] w (EV ((hi * 18446744073709551616 + lo) / y) ((hi * 18446744073709551616 + lo) % y) w) := by
  have fG : (y == 0) = false := by simp; omega
  have eJ : decide (y ≤ hi) = false := by simp; omega
  have ft : (hi == 0) = false := by simp; omega
  go_enter Tryz.func215, Tryz.ntmps215
  go_wp2_with fail
  refine (abc y _ (by omega) jk).mono ?_;rintro e w1 ⟨s, rfl, hs, rfl⟩;have pT := hs.dJ; have tu := hs.s1;have ZE : IntKind.u64.wrap s = s := by rw [IntKind.wrap_u64]; omega
  have tq := ab8 (lB az) h1 l hs;generalize di : bits .or .u64 (IntKind.u64.wrap (hi * 2 ^ s.toNat)) (lo / 2 ^ (64 - s).toNat) = U at tq;generalize mr : IntKind.u64.wrap (lo * 2 ^ s.toNat) = V at tq;generalize tf : IntKind.u64.wrap (y * 2 ^ s.toNat) = Y at tq;have ka := tq.aaJ hs;have Ha := tq.quo hs;have M6 : 0 ≤ Y ∧ Y < 18446744073709551616 := by have := ka.a0; have := ka.a1; omega
  have aiA := KH Y M6;have aiz := KH V ⟨tq.v0, tq.v1⟩;have two := ka.two (V % 4294967296) (by omega);rw [Ha.1] at two;have M7 : Y / 4294967296 * 4294967296 + Y % 4294967296 = Y := by omega
  have DT := ka.rest;have zy := ka.next (V % 4294967296) (by omega)
  have z6 := zy.rest;rw [M7] at DT z6;have Wz : 0 ≤ V % 4294967296 ∧ V % 4294967296 < 4294967296 := by omega
  generalize hd : V / 4294967296 = d at *;generalize he : V % 4294967296 = e at *;generalize aJ : Y / 4294967296 = a at *;generalize ab : Y % 4294967296 = b at *;have a0 := ka.a0; have a1 := ka.a1; have fA := ka.fA; have b1 := ka.b1; have kk := ka.kk; have d0 := ka.d0; have d1 := ka.d1;have cy : U < 18446744073709551616 := by have := ka.cy; omega
  have ahS : (a == 0) = false := by simp; omega
  have qk := Lib.hid two; have Tm := Lib.hid Ha.2; have uq := Lib.hid ka; have lJ := Lib.hid zy;have ajw := ka.DQ; have ajv := ka.c0; have Rh := zy.DQ; have Rg := zy.c0;have t1 := ka.init; have Sc := ka.Oc;have i1 := t1.DP ka;have i2 : 0 ≤ U / a := t1.c0
  have i3 : IntKind.u64.wrap (U / a * a) = U / a * a := by
    have := t1.sum; have := t1.gM; rw [IntKind.wrap_u64];have : 0 ≤ U / a * a := fY i2 (by omega);omega
  have i4 := t1.gM;have i7 : 0 ≤ U / a * a := fY i2 (by omega);obtain ⟨m1, rV⟩ : ∃ m, m = U / a * a := ⟨_, rfl⟩;rw [← rV] at i4 i7 t1 Sc;have aiY : IntKind.u64.wrap (U / a * a) = m1 := by rw [i3, rV]
  obtain ⟨i5, i6⟩ := Sc;have rz := Lib.hid t1;generalize M1 : iY U d a b = nK at *;generalize XW : ig U d a b = lf at *;have EI := Lib.hid M1;have Tn := Lib.hid DT; have To := Lib.hid z6;clear two Ha ka zy tq M7 Wz M6 h1 az l jk i3 rV t1 M1 XW DT z6
  go_upto_block 0 with fail
  go_cut [15, 16] (fun Ah vC uf => w = uf ∧ Ah = .int .u64 nK ∧ ∃ r, vC = .int .u64 r)
  case first =>
    go_wp2_with fail
    go_loop [15, 16] (fun Ah vC => ∃ q r : Int, Ah = .int .u64 q ∧ vC = .int .u64 r ∧ lL U d a b q r ∧ r < 4294967296) (fun Ah _ => (intOf Ah).toNat)
    case atStart => exact ⟨_, _, rfl, rfl, rz.out, i6⟩
    case round =>
      obtain ⟨q, r, rfl, rfl, aB, ap⟩ := hrel;have an := aB.DP uq.out;have rX := aB.c0;have Zk := aB.gM
      by_cases ab : 4294967296 ≤ q
      · obtain ⟨fU, ts⟩ := aB.down uq.out (.inl ab)
        have mS := Lib.hid fU;clear fU
        by_cases aa : 4294967296 ≤ r + a
        · have iU := mS.out.out uq.out aa
          rw [EI.out] at iU;have iL := Lib.hid iU;clear iU
          go_wp2_with fail
          go_meet
          exact ⟨rfl, congrArg _ iL.out, _, rfl⟩
        · go_wp2_with fail
          go_round
          case rel => exact ⟨_, _, rfl, rfl, mS.out, by omega⟩
          case measure => simp [intOf]; omega
      · have GY := aB.oQ uq.out (by omega)
        obtain ⟨P, ef⟩ : ∃ P, P = q * b := ⟨_, rfl⟩;rw [← ef] at GY;have XS : IntKind.u64.wrap (q * b) = P := by rw [← ef, IntKind.wrap_u64]; omega
        have xP := Lib.hid ef;clear ef
        by_cases al : 4294967296 * r + d < P
        · obtain ⟨fU, ts⟩ := aB.down uq.out (.inr (by rw [← xP.out]; exact al))
          have mS := Lib.hid fU;clear fU
          by_cases aa : 4294967296 ≤ r + a
          · have iU := mS.out.out uq.out aa
            rw [EI.out] at iU;have iL := Lib.hid iU;clear iU
            go_wp2_with fail
            go_meet
            exact ⟨rfl, congrArg _ iL.out, _, rfl⟩
          · go_wp2_with fail
            go_round
            case rel => exact ⟨_, _, rfl, rfl, mS.out, by omega⟩
            case measure => simp [intOf]; omega
        · have iU := aB.done uq.out (by rw [← xP.out]; omega)
          rw [EI.out] at iU;have iL := Lib.hid iU;clear iU
          go_wp2_with fail
          go_meet
          exact ⟨rfl, congrArg _ iL.out, _, rfl⟩
  case rest =>
    obtain ⟨rfl, rfl, cx, rfl⟩ := hcut;have DT := Tn.out;have v0 := lJ.out.kk;have v1 : lf < 18446744073709551616 := by have := lJ.out.cy; omega
    have cq := lJ.out.d0; have aF := lJ.out.d1;have t2 := lJ.out.init; have Sd := lJ.out.Oc;have qR := t2.DP lJ.out;have CR : 0 ≤ lf / a := t2.c0
    have Ou : IntKind.u64.wrap (lf / a * a) = lf / a * a := by
      have := t2.sum; have := t2.gM; rw [IntKind.wrap_u64];have : 0 ≤ lf / a * a := fY CR (by omega);omega
    have aad := t2.gM;have aaf : 0 ≤ lf / a * a := fY CR (by omega);obtain ⟨m2, nZ⟩ : ∃ m, m = lf / a * a := ⟨_, rfl⟩;rw [← nZ] at aad aaf t2 Sd;have ajf : IntKind.u64.wrap (lf / a * a) = m2 := by rw [Ou, nZ]
    obtain ⟨ajg, aae⟩ := Sd;have x7 := Lib.hid t2;obtain ⟨pp, Gq⟩ : ∃ Q, Q = iY lf e a b := ⟨_, rfl⟩;have xQ := Lib.hid Gq.symm;have Rg := lJ.out.c0; have Rh := lJ.out.DQ;rw [← Gq] at Rg Rh;clear Ou nZ t2 Gq
    go_upto_block 2 with fail
    go_cut [18, 16] (fun Ai vC uf => w = uf ∧ Ai = .int .u64 pp ∧ ∃ r, vC = .int .u64 r)
    case first =>
      go_wp2_with fail
      go_loop [18, 16] (fun Ai vC => ∃ q r : Int, Ai = .int .u64 q ∧ vC = .int .u64 r ∧ lL lf e a b q r ∧ r < 4294967296) (fun Ai _ => (intOf Ai).toNat)
      case atStart => exact ⟨_, _, rfl, rfl, x7.out, aae⟩
      case round =>
        obtain ⟨q, r, rfl, rfl, aB, ap⟩ := hrel;have an := aB.DP lJ.out;have rX := aB.c0;have Zk := aB.gM
        by_cases ab : 4294967296 ≤ q
        · obtain ⟨fU, ts⟩ := aB.down lJ.out (.inl ab)
          have mS := Lib.hid fU;clear fU
          by_cases aa : 4294967296 ≤ r + a
          · have iU := mS.out.out lJ.out aa
            rw [xQ.out] at iU;have iL := Lib.hid iU;clear iU
            go_wp2_with fail
            go_meet
            exact ⟨rfl, congrArg _ iL.out, _, rfl⟩
          · go_wp2_with fail
            go_round
            case rel => exact ⟨_, _, rfl, rfl, mS.out, by omega⟩
            case measure => simp [intOf]; omega
        · have GY := aB.oQ lJ.out (by omega)
          obtain ⟨P, ef⟩ : ∃ P, P = q * b := ⟨_, rfl⟩;rw [← ef] at GY;have XS : IntKind.u64.wrap (q * b) = P := by rw [← ef, IntKind.wrap_u64]; omega
          have xP := Lib.hid ef;clear ef
          by_cases al : 4294967296 * r + e < P
          · obtain ⟨fU, ts⟩ := aB.down lJ.out (.inr (by rw [← xP.out]; exact al))
            have mS := Lib.hid fU;clear fU
            by_cases aa : 4294967296 ≤ r + a
            · have iU := mS.out.out lJ.out aa
              rw [xQ.out] at iU;have iL := Lib.hid iU;clear iU
              go_wp2_with fail
              go_meet
              exact ⟨rfl, congrArg _ iL.out, _, rfl⟩
            · go_wp2_with fail
              go_round
              case rel => exact ⟨_, _, rfl, rfl, mS.out, by omega⟩
              case measure => simp [intOf]; omega
          · have iU := aB.done lJ.out (by rw [← xP.out]; omega)
            rw [xQ.out] at iU;have iL := Lib.hid iU;clear iU
            go_wp2_with fail
            go_meet
            exact ⟨rfl, congrArg _ iL.out, _, rfl⟩
    case rest =>
      obtain ⟨rfl, rfl, dF, rfl⟩ := hcut;have z6 := To.out;rw [xQ.out] at z6;have fin := qk.out;have FT := Tm.out;rw [xQ.out] at fin;rw [← fin.2] at FT;have Tj := Lib.hid fin.1;have Tk := Lib.hid FT;generalize ig lf e a b = R at *;clear fin FT
      go_wp2
      go_ret2
      exact ⟨ae5 Tj.out Tk.out, Below.refl _ _⟩
theorem Wn (hi lo y : Int) (w : World) (az : 0 ≤ hi) (h1 : hi < y) (l : 0 ≤ lo ∧ lo < 18446744073709551616) (jk : y < 18446744073709551616) :
    Calls ag 215 #[.int .u64 hi, .int .u64 lo, .int .u64 y] w (EV ((hi * 18446744073709551616 + lo) / y) ((hi * 18446744073709551616 + lo) % y) w) := by
  by_cases h : hi = 0
  · subst h
    rw [Int.zero_mul, Int.zero_add];exact Wp lo y w l (by omega) jk
  · exact Wo hi lo y w (by omega) h1 l jk
end Go.Proofs.YtbcecodakfejaaaGreat
namespace Go.Proofs.YtbcecodakfejaaaGreat
open Go.RowKit
theorem Xc (x y : Int) (w : World) : (Instr.field 250 (.agg #[.int .u64 x, .int .u64 y]) 0).run ag w = .ok (.int .u64 x) w := by kernel_rfl
attribute [local go_sem] Xc
theorem Wq {h1 l1 n m : Int} (H1 : dH h1 l1 n) (m0 : 0 < m) (m1 : m < 18446744073709551616) :
    dH (h1 / m) ((h1 % m * 18446744073709551616 + l1) / m) (n / m) ∧ dH 0 ((h1 % m * 18446744073709551616 + l1) % m) (n % m) := by
  obtain ⟨b1, b2, rfl⟩ := H1;have gM := nB h1 (show m ≠ 0 by omega);have cx := mK h1 m0
  have e : h1 * 18446744073709551616 + l1 = (h1 % m * 18446744073709551616 + l1) + m * (h1 / m * 18446744073709551616) := by
    have := o6 h1 m;rw [← ki];generalize m * (h1 / m) = k at *;omega
  have c0 : 0 ≤ h1 / m := nC b1.1 (by omega);have q1 : h1 / m ≤ h1 := Int.ediv_le_self _ b1.1;have dJ := nB (h1 % m * 18446744073709551616 + l1) (show m ≠ 0 by omega);have s1 := mK (h1 % m * 18446744073709551616 + l1) m0;have t0 : 0 ≤ (h1 % m * 18446744073709551616 + l1) / m := nC (by omega) (by omega);have t1 : (h1 % m * 18446744073709551616 + l1) / m < 18446744073709551616 := Int.ediv_lt_of_lt_mul m0 (by omega)
  constructor
  · refine ⟨by omega, by omega, ?_⟩
    rw [e, Int.add_mul_ediv_left _ _ (by omega)];omega
  · refine ⟨by omega, by omega, ?_⟩
    rw [e, Int.add_mul_emod_self_left];omega
end Go.Proofs.YtbcecodakfejaaaGreat
namespace Go.Proofs.YtbcecodakfejaaaGreat
open Go.RowKit
theorem XB {n m g : Int} (fG : 0 ≤ n) (m0 : 0 < m) (eJ : n < 340282366920938463463374607431768211456) (h : g ≤ n / m) (g0 : 0 ≤ g) : lQ (g * m) = true ∧ g * m ≤ n := by
  have h1 : g * m ≤ n := (og m0).1 h;unfold lQ;rw [b4];exact ⟨by omega, h1⟩
theorem XC {n m g : Int} (m0 : 0 < m) (h : g ≤ n / m) (k : n - g * m < m) : g = n / m ∧ n - g * m = n % m := by
  have h1 : g * m ≤ n := (og m0).1 h;have h2 : n / m < g + 1 := Int.ediv_lt_of_lt_mul m0 (by rw [Int.add_mul]; omega);have e : g = n / m := by omega
  refine ⟨e, ?_⟩;rw [Int.emod_def, e, iq]
theorem XD {n m g : Int} (m0 : 0 < m) (h : n / m ≤ g + 1) (k : ¬ n - g * m < m) : g + 1 = n / m ∧ n - g * m - m = n % m := by
  have h2 : g + 1 ≤ n / m := (og m0).2 (by rw [Int.add_mul]; omega);have e : g + 1 = n / m := by omega
  refine ⟨e, ?_⟩;rw [Int.emod_def, ← e, iq m, Int.add_mul];omega
theorem aeJ {n m g : Int} (fG : 0 ≤ n) (ax : n ≤ 170141183460469231731687303715884105728) (m0 : 18446744073709551616 ≤ m) (h : g ≤ n / m) : g < 9223372036854775809 := by
  rcases o8 g 9223372036854775809 with k | k
  · exact k
  · have h1 : g * m ≤ n := (og (by omega)).1 h
    have h2 : 9223372036854775809 * 18446744073709551616 ≤ g * m := rf k m0 (by omega) (by omega);omega
end Go.Proofs.YtbcecodakfejaaaGreat
namespace Go.Proofs.YtbcecodakfejaaaGreat
open Go.RowKit
theorem aic {n m N M : Int} (hm : 0 < m) (ey : ((n.natAbs : Nat) : Int) = N) (gw : ((m.natAbs : Nat) : Int) = M) (k : 0 ≤ n) : N / M = n / m ∧ N % M = n % m := by
 obtain rfl : M = m := by omega
 obtain rfl : N = n := by omega
 exact ⟨rfl, rfl⟩
theorem Wr {n m N M : Int} (hm : 0 < m) (ey : ((n.natAbs : Nat) : Int) = N) (gw : ((m.natAbs : Nat) : Int) = M) (k : n < 0) (z : N % M = 0) : -(N / M) = n / m ∧ 0 = n % m := by
 obtain rfl : M = m := by omega
 obtain rfl : n = -N := by omega
 have h1 := o6 N M;rw [z, Int.add_zero] at h1;have h2 : -N = M * (-(N / M)) := by rw [Int.mul_neg, h1]
 rw [h2]
 constructor
 ·rw [Int.mul_ediv_cancel_left _ (by omega)]
 ·rw [Int.mul_emod_right]
theorem Ws {n m N M : Int} (hm : 0 < m) (ey : ((n.natAbs : Nat) : Int) = N) (gw : ((m.natAbs : Nat) : Int) = M) (k : n < 0) (z : N % M ≠ 0) : -(N / M) - 1 = n / m ∧ -(N % M) + m = n % m := by
 obtain rfl : M = m := by omega
 obtain rfl : n = -N := by omega
 have h1 := o6 N M;have gM := nB N (show M ≠ 0 by omega);have cx := mK N hm;have h2 : -N = (M - N % M) + M * (-(N / M) - 1) := by rw [Int.mul_sub, Int.mul_neg, Int.mul_one]; omega
 have q : (-N) / M = -(N / M) - 1 := by
  rw [h2, Int.add_mul_ediv_left _ _ (by omega), Int.ediv_eq_zero_of_lt (by omega) (by omega)];omega
 have r : (-N) % M = M - N % M := by
  rw [h2, Int.add_mul_emod_self_left, Int.emod_eq_of_lt (by omega) (by omega)]
 rw [q, r];omega
abbrev vE (n : Int) : bx := .agg [.c (.int .u64 (b5 n)), .c (.int .u64 (dB n))]
abbrev jX (n : Int) : ah := .w (vE n)
abbrev Jg : bx := .one (.c (.bool true))
abbrev xH (n : Int) : ah := aQ (.int .u64 n)
theorem mx {n : Int} (az : 0 ≤ n) (h1 : n < 340282366920938463463374607431768211456) : dH (b5 n) (dB n) n := by unfold dH b5 dB; omega
theorem zu {H L n : Int} (h : dH H L n) : H = b5 n ∧ L = dB n := by
 obtain ⟨a, b, rfl⟩ := h;unfold b5 dB; omega
theorem xE {H L n : Int} (h : dH H L n) : vE n = .agg [.c (.int .u64 H), .c (.int .u64 L)] := by
 obtain ⟨rfl, rfl⟩ := zu h; rfl
theorem Im {n m : Int} (fG : 0 ≤ n) (eJ : n < 340282366920938463463374607431768211456) (m0 : 0 ≤ m) (m1 : m < 340282366920938463463374607431768211456) {z : Int} {b : Bool} (ab : lQ (n * m) = b) (aN : (if b then n * m else 0) = z) : aH ag 194 [jX n, jX m] (.cn [vE z, .one (.c (.bool b))]) :=
 hJ [.agg #[.int .u64 (b5 n), .int .u64 (dB n)], .agg #[.int .u64 (b5 m), .int .u64 (dB m)]] (.tuple #[.agg #[.int .u64 (b5 z), .int .u64 (dB z)], .bool b]) rfl rfl rfl rfl rfl fun W => (abO _ _ n _ _ m W (mx fG eJ) (mx m0 m1)).mono fun e w' ⟨H, L, he, hw, dc⟩ => by
  rw [ab] at he hw;rw [aN] at hw;obtain ⟨rfl, rfl⟩ := zu hw;exact ⟨he, dc⟩
theorem QD {n k P : Int} (fG : 0 ≤ n) (eJ : n < 340282366920938463463374607431768211456) (gJ : 0 ≤ k) (bn : k < 128) (ab : n * 2 ^ k.toNat < 340282366920938463463374607431768211456) (ef : n * 2 ^ k.toNat = P) : aH ag 206 [jX n, aQ (.int .u64 k)] (jX P) :=
 hJ [.agg #[.int .u64 (b5 n), .int .u64 (dB n)], .int .u64 k] (.agg #[.int .u64 (b5 P), .int .u64 (dB P)]) rfl rfl rfl rfl rfl fun W => (af3 _ _ n k W (mx fG eJ) gJ bn ab).mono fun e w' ⟨H, L, he, hw, ab⟩ => by
  rw [ef] at hw; obtain ⟨rfl, rfl⟩ := zu hw; exact ⟨he, ab⟩
theorem adX {y : Int} (az : 0 < y) (h1 : y < 18446744073709551616) : aH ag 219 [xH y] (aE (64 - (Lib.bitLen y.toNat : Int))) :=
 hJ [.int .u64 y] (.int .i64 (64 - (Lib.bitLen y.toNat : Int))) rfl rfl rfl rfl rfl fun W => (Tryz.bits_LeadingZeros64 y W (by omega) (by omega)).mono fun e w' h => by
  obtain ⟨rfl, rfl⟩ := h; exact ⟨rfl, Below.refl _ _⟩
theorem Ij {hi lo y q r : Int} (az : 0 ≤ hi) (h1 : hi < y) (l : 0 ≤ lo ∧ lo < 18446744073709551616) (jk : y < 18446744073709551616) (an : (hi * 18446744073709551616 + lo) / y = q) (ap : (hi * 18446744073709551616 + lo) % y = r) : aH ag 215 [xH hi, xH lo, xH y] (.cn [.one (.c (.int .u64 q)), .one (.c (.int .u64 r))]) := by
 subst an ap;exact hJ [.int .u64 hi, .int .u64 lo, .int .u64 y] (.tuple #[.int .u64 _, .int .u64 _]) rfl rfl rfl rfl rfl fun W => Wn hi lo y W az h1 l jk
theorem QG {n m z : Int} (eJ : n < 340282366920938463463374607431768211456) (m0 : 0 ≤ m) (h : m ≤ n) (aN : n - m = z) : aH ag 217 [jX n, jX m] (jX z) :=
 hJ [.agg #[.int .u64 (b5 n), .int .u64 (dB n)], .agg #[.int .u64 (b5 m), .int .u64 (dB m)]] (.agg #[.int .u64 (b5 z), .int .u64 (dB z)]) rfl rfl rfl rfl rfl fun W => (agC _ _ n _ _ m W (mx (by omega) eJ) (mx m0 (by omega)) h).mono fun e w' ⟨H, L, he, hw, ab⟩ => by
  rw [aN] at hw; obtain ⟨rfl, rfl⟩ := zu hw; exact ⟨he, ab⟩
theorem Qu {n m : Int} {b : Bool} (fG : 0 ≤ n) (eJ : n < 340282366920938463463374607431768211456) (m0 : 0 ≤ m) (m1 : m < 340282366920938463463374607431768211456) (ab : decide (n < m) = b) : aH ag 218 [jX n, jX m] (bk b) := by
 subst ab;exact hJ [.agg #[.int .u64 (b5 n), .int .u64 (dB n)], .agg #[.int .u64 (b5 m), .int .u64 (dB m)]] (.bool (decide (n < m))) rfl rfl rfl rfl rfl fun W => aa5 _ _ n _ _ m W (mx fG eJ) (mx m0 m1)
set_option maxRecDepth 100000
set_option maxHeartbeats 4000000
instance ajc : ED ag 250 0 0 false 1 := ⟨by kernel_rfl⟩
theorem adM {n m : Int} (fG : 0 ≤ n) (ax : n ≤ 170141183460469231731687303715884105728) (m0 : 18446744073709551616 ≤ m) (m1 : m < 340282366920938463463374607431768211456) : ∃ g, (0 ≤ g ∧ g ≤ n / m ∧ n / m ≤ g + 1) ∧ aH ag 216 [jX n, jX m] (xH g) := by
 obtain ⟨b1, b2, aF⟩ := mx fG (show n < 340282366920938463463374607431768211456 by omega);obtain ⟨dm, cY, aP⟩ := mx (show 0 ≤ m by omega) m1;have hm : 0 < b5 m := by omega
 have aW := adX hm dm.2;have hs := OZ (b5 m) hm dm.2;generalize 64 - (Lib.bitLen (b5 m).toNat : Int) = s at *;have pT := hs.dJ;have tu := hs.s1;have ZE : IntKind.u64.wrap s = s := by rw [IntKind.wrap_u64]; omega
 obtain ⟨Al, I9⟩ := abd hs dm.1 cY.1 cY.2;rw [← aP] at Al I9;obtain ⟨M, gw⟩ : ∃ M, m * 2 ^ s.toNat = M := ⟨_, rfl⟩;have bH : aH ag 206 [jX m, xH s] (.w (.agg [.c (.int .u64 (b5 M)), .c (.int .u64 (dB M))])) := QD (by omega) m1 pT (by omega) Al gw;rw [gw] at Al I9;obtain ⟨K0, py, L4⟩ := mx (show 0 ≤ M by omega) Al;have M3 : 9223372036854775808 ≤ b5 M := by omega
 obtain ⟨L, iQ, MV, MW⟩ := X3 (b5 n) (dB n) b1 b2;obtain ⟨Ci, GI, GJ⟩ := XE n m s (b5 M) (dB M) fG ax pT tu (gw.trans L4) py.1 py.2 M3;have eF := Ij (hi := b5 n / 2) (lo := L) (y := b5 M) (by omega) (by omega) MV K0.2 rfl rfl;rw [MW, ← aF] at eF;have rX : 0 ≤ n / 2 / b5 M := nC (by omega) (by omega);have Nu : 0 ≤ n / m := nC (by omega) (by omega);have XM : 0 ≤ n / 2 / b5 M / 2 ^ (63 - s).toNat := nC rX (lB (gp (by decide)));generalize n / 2 % b5 M = R at *;generalize n / 2 / b5 M = Q at *;generalize n / m = q at *;clear MW gw L4 aF aP Al I9 hs hm K0 py M3 MV b1 b2 dm cY
 have FJ : (2 : Int) ^ (63 - s).toNat = 2 ^ min (IntKind.u64.wrap (63 - s)).toNat 64 := by
  rw [show IntKind.u64.wrap (63 - s) = 63 - s by rw [IntKind.wrap_u64]; omega, o7 (by omega)]
 rw [FJ] at Ci GI GJ XM
 by_cases aN : Q / 2 ^ min (IntKind.u64.wrap (63 - s)).toNat 64 = 0
 ·refine ⟨0, by omega, ?_⟩;clear Ci GI GJ FJ;refine bl (f := 216) Tryz.func216 rfl rfl rfl rfl ?_;(refine cc ?_)
  ((refine bd rfl (a8 rfl aL) ?_))
  exact ah.aS.refl _
 ·have w2 : IntKind.u64.wrap (Q / 2 ^ min (IntKind.u64.wrap (63 - s)).toNat 64 - 1) = Q / 2 ^ min (IntKind.u64.wrap (63 - s)).toNat 64 - 1 := by rw [IntKind.wrap_u64]; omega
  refine ⟨Q / 2 ^ min (IntKind.u64.wrap (63 - s)).toNat 64 - 1, by omega, ?_⟩;clear Ci GI GJ FJ;refine bl (f := 216) Tryz.func216 rfl rfl rfl rfl ?_;(refine cc ?_)
  ((refine bd rfl (a8 rfl aL) ?_))
  exact ah.aS.refl _
theorem adE {n m : Int} (fG : 0 ≤ n) (ax : n ≤ 170141183460469231731687303715884105728) (m0 : 0 < m) (m1 : m < 340282366920938463463374607431768211456) : aH ag 212 [jX n, jX m] (.cn [vE (n / m), vE (n % m)]) := by
 have H1 := mx fG (show n < 340282366920938463463374607431768211456 by omega)
 by_cases k : m < 18446744073709551616
 ·obtain ⟨q1, q2⟩ := Wq H1 m0 k;have gM := nB (b5 n) (show m ≠ 0 by omega);have cx := mK (b5 n) m0;have aW := Ij (hi := 0) (lo := b5 n) (y := m) (by omega) m0 H1.1 k rfl rfl;rw [Int.zero_mul, Int.zero_add] at aW;have bH := Ij (hi := b5 n % m) (lo := dB n) (y := m) gM cx H1.2.1 k rfl rfl;rw [xE q1, xE q2, show jX m = .w (.agg [.c (.int .u64 0), .c (.int .u64 m)]) from congrArg ah.w (xE (by unfold dH; omega))];clear q1 q2 gM cx k H1 ax m0 m1 fG;refine bl (f := 212) Tryz.func212 rfl rfl rfl rfl ?_;(refine cc ?_)
  ((refine bd rfl (cL rfl rfl rfl (cL rfl rfl rfl aL)) ?_))
  exact ah.aS.refl _
 ·obtain ⟨g, ⟨g0, g1, g2⟩, aW⟩ := adM fG ax (by omega) m1;obtain ⟨F5, F6⟩ := XB fG m0 (by omega) g1 g0;have GW := XC m0 g1;have GZ := XD m0 g2;have g4 : g < 9223372036854775809 := aeJ fG ax (by omega) g1;have h3 : ¬ b5 m = 0 := by unfold b5; omega
  have bH := Im (n := g) (m := m) (b := true) g0 (by omega) (by omega) m1 F5 rfl;rw [if_pos rfl, show jX g = .w (.agg [.c (.int .u64 0), .c (.int .u64 g)]) from congrArg ah.w (xE (by unfold dH; omega))] at bH;have F7 : 0 ≤ g * m := fY g0 (by omega);generalize g * m = td at *;have eF := QG (n := n) (m := td) (by omega) F7 F6 rfl
  by_cases ak : n - td < m
  ·have la := Qu (n := n - td) (m := m) (by omega) (by omega) (by omega) m1 (bZ ak);obtain ⟨q1, q2⟩ := GW ak;rw [← q1, ← q2, show vE g = .agg [.c (.int .u64 0), .c (.int .u64 g)] from xE (by unfold dH; omega)];generalize n - td = r at *;clear GW GZ q1 q2 ak F5 F6 g1 g2 F7 H1 k ax fG m0 m1;refine bl (f := 212) Tryz.func212 rfl rfl rfl rfl ?_;(refine cc ?_)
   ((refine bd rfl (cL rfl rfl rfl (cL rfl rfl rfl aL)) ?_))
   exact ah.aS.refl _
  ·have la := Qu (n := n - td) (m := m) (by omega) (by omega) (by omega) m1 (cp ak);have nI := QG (n := n - td) (m := m) (by omega) (by omega) (by omega) rfl;obtain ⟨q1, q2⟩ := GZ ak;have w1 : IntKind.u64.wrap (g + 1) = g + 1 := by rw [IntKind.wrap_u64]; omega
   rw [← q1, ← q2, show vE (g + 1) = .agg [.c (.int .u64 0), .c (.int .u64 (g + 1))] from xE (by unfold dH; omega)];generalize n - td - m = aV at *;generalize n - td = r at *;clear GW GZ q1 q2 ak F5 F6 g1 g2 F7 H1 k ax fG m0 m1;refine bl (f := 212) Tryz.func212 rfl rfl rfl rfl ?_;(refine cc ?_)
   ((refine bd rfl (cL rfl rfl rfl (cL rfl rfl rfl aL)) ?_))
   exact ah.aS.refl _
end Go.Proofs.YtbcecodakfejaaaGreat
namespace Go.Proofs.YtbcecodakfejaaaGreat
open Go.RowKit
theorem zR {n : Int} (f : fits n = true) : aH ag 195 [fZ n] (jX n.natAbs) :=
 hJ [.agg #[.int .i64 (b5 n), .int .u64 (dB n)]] (.agg #[.int .u64 (b5 n.natAbs), .int .u64 (dB n.natAbs)]) rfl rfl rfl rfl rfl fun W => (agj _ _ n W (lu f)).mono fun e w' ⟨H, L, he, hw, ab⟩ => by
  obtain ⟨rfl, rfl⟩ := zu hw; exact ⟨he, ab⟩
theorem DH {n z : Int} {b : Bool} (fG : 0 ≤ n) (eJ : n < 340282366920938463463374607431768211456) (aN : (if b then -n else n) = z) (f : fits z = true) : aH ag 196 [jX n, bk b] (.cn [my z, Jg]) :=
 hJ [.agg #[.int .u64 (b5 n), .int .u64 (dB n)], .bool b] (.tuple #[.agg #[.int .i64 (b5 z), .int .u64 (dB z)], .bool true]) rfl rfl rfl rfl rfl fun W => (Ja _ _ n b W (mx fG eJ)).mono fun e w' h => by
  have := xw h;rw [aN, f, if_pos rfl] at this;exact this
theorem adY {n m z : Int} (f : fits n = true) (g : fits m = true) (aN : wr (n - m) = z) : aH ag 166 [fZ n, fZ m] (fZ z) :=
 hJ [.agg #[.int .i64 (b5 n), .int .u64 (dB n)], .agg #[.int .i64 (b5 m), .int .u64 (dB m)]] (.agg #[.int .i64 (b5 z), .int .u64 (dB z)]) rfl rfl rfl rfl rfl fun W => (zF _ _ _ _ n m W (lu f) (lu g)).mono fun e w' ⟨H, L, he, hw, ab⟩ => by
  rw [aN] at hw; obtain ⟨rfl, rfl⟩ := CP hw; exact ⟨he, ab⟩
theorem ad3 {n m z : Int} (f : fits n = true) (g : fits m = true) (aN : wr (n + m) = z) : aH ag 213 [fZ n, fZ m] (fZ z) :=
 hJ [.agg #[.int .i64 (b5 n), .int .u64 (dB n)], .agg #[.int .i64 (b5 m), .int .u64 (dB m)]] (.agg #[.int .i64 (b5 z), .int .u64 (dB z)]) rfl rfl rfl rfl rfl fun W => (QP _ _ _ _ n m W (lu f) (lu g)).mono fun e w' ⟨H, L, he, hw, ab⟩ => by
  rw [aN] at hw; obtain ⟨rfl, rfl⟩ := CP hw; exact ⟨he, ab⟩
theorem jD {n : Int} : fits n = true ↔ -170141183460469231731687303715884105728 ≤ n ∧ n < 170141183460469231731687303715884105728 := by unfold fits; rw [b4]
theorem yW (n : Int) : b5 n < 0 ↔ n < 0 := by unfold b5; omega
theorem Qg {n m : Int} (f : fits n = true) (g : fits m = true) (hm : 0 < m) : aH ag 203 [fZ n, fZ m] (.cn [my (n / m), my (n % m), Jg]) := by
 have aW := DI g;have bH := zR f;have eF := zR g;have hs : ¬ cj m 0 ≤ 0 := by unfold cj; split <;> (try split) <;> omega
 have nU := jD.1 f;have ks := jD.1 g;generalize cj m 0 = s at *;obtain ⟨N, ey⟩ : ∃ N : Int, (n.natAbs : Int) = N := ⟨_, rfl⟩;have gw : (m.natAbs : Int) = m := by omega
 rw [ey] at bH;rw [gw] at eF;have la := adE (n := N) (m := m) (by omega) (by omega) hm (by omega);have aF := o6 N m;have c0 : 0 ≤ N / m := nC (by omega) (by omega);have q1 : N / m ≤ N := Int.ediv_le_self _ (by omega);have gM := nB N (show m ≠ 0 by omega);have cx := mK N hm
 by_cases ax : n < 0
 case neg =>
  obtain rfl : N = n := by omega
  have b1 : decide (b5 N < 0) = false := cp (by rw [yW]; exact ax);have nI := DH (n := N / m) (z := N / m) (b := decide (b5 N < 0)) c0 (by omega) (by rw [b1]; rfl) (jD.2 (by omega));have AK := DH (n := N % m) (z := N % m) (b := decide (b5 N < 0)) gM (by omega) (by rw [b1]; rfl) (jD.2 (by omega));have b2 : decide (b5 (N % m) < 0) = false := cp (by rw [yW]; omega);generalize N / m = q at *;generalize N % m = r at *;clear aF b1 ax ey gw nU ks f g;refine bl (f := 203) Tryz.func203 rfl rfl rfl rfl ?_;(refine cc ?_)
  ((refine bd rfl (cL rfl rfl rfl (cL rfl rfl rfl (a8 rfl aL))) ?_))
  exact ah.aS.refl _
 have b1 : decide (b5 n < 0) = true := bZ ((yW n).2 ax);have nI := DH (n := N / m) (z := -(N / m)) (b := decide (b5 n < 0)) c0 (by omega) (by rw [b1]; rfl) (jD.2 (by omega));have AK := DH (n := N % m) (z := -(N % m)) (b := decide (b5 n < 0)) gM (by omega) (by rw [b1]; rfl) (jD.2 (by omega))
 by_cases aN : N % m = 0
 ·obtain ⟨d1, d2⟩ := Wr hm ey gw ax aN;have d3 : n % m = -(N % m) := by omega
  rw [← d1, d3];have b2 : decide (b5 (-(N % m)) < 0) = false := cp (by rw [yW]; omega);generalize N / m = q at *;generalize N % m = r at *;clear d1 d2 d3 aF b1 ax ey gw nU ks f g;refine bl (f := 203) Tryz.func203 rfl rfl rfl rfl ?_;(refine cc ?_)
  ((refine bd rfl (cL rfl rfl rfl (cL rfl rfl rfl (a8 rfl aL))) ?_))
  exact ah.aS.refl _
 ·obtain ⟨d1, d2⟩ := Ws hm ey gw ax aN;have b2 : decide (b5 (-(N % m)) < 0) = true := bZ (by rw [yW]; omega)
  have q2 : N / m < N := by
   have := nA (show 1 ≤ m by omega) c0;omega
  have ahm := tP (n := 1) (by decide) (by decide);have ahn := adY (n := -(N / m)) (m := 1) (z := n / m) (jD.2 (by omega)) (by decide) (by rw [d1]; exact Jx (jD.2 (by omega)));have aho := ad3 (n := -(N % m)) (m := m) (z := n % m) (jD.2 (by omega)) g (by rw [d2]; exact Jx (jD.2 (by omega)));generalize N / m = q at *;generalize N % m = r at *;generalize n / m = cd at *;generalize n % m = aV at *;clear d1 d2 q2 aF b1 ax ey gw nU ks f g;refine bl (f := 203) Tryz.func203 rfl rfl rfl rfl ?_;(refine cc ?_)
  ((refine bd rfl (cL rfl rfl rfl (cL rfl rfl rfl (a8 rfl aL))) ?_))
  exact ah.aS.refl _
theorem ad5 {n m P : Int} (f : fits n = true) (g : fits m = true) (ef : (n.natAbs : Int) * m.natAbs = P) (sP : 0 ≤ P) (ko : P < 340282366920938463463374607431768211456) : aH ag 196 [jX P, bk (!decide (b5 n < 0) == decide (b5 m < 0))] (wf (n * m)) :=
 hJ [.agg #[.int .u64 (b5 P), .int .u64 (dB P)], .bool (!decide (b5 n < 0) == decide (b5 m < 0))] _ rfl rfl rfl rfl rfl fun W => (agi W (lu f) (lu g) (Lib.hid ef.symm) (mx sP ko)).mono fun e w' h => xw h
theorem ac5 {n m : Int} (f : fits n = true) (g : fits m = true) : aH ag 167 [fZ n, fZ m] (wf (n * m)) := by
 have aW := zR f;have bH := zR g;have nU := jD.1 f;have ks := jD.1 g;obtain ⟨P, ef⟩ : ∃ P : Int, (n.natAbs : Int) * m.natAbs = P := ⟨_, rfl⟩;have sP : 0 ≤ P := by rw [← ef]; exact fY (by omega) (by omega)
 cases ab : lQ P with
 | true =>
  have ko : P < 340282366920938463463374607431768211456 := by unfold lQ at ab; rw [b4] at ab; omega
  have eF := Im (n := n.natAbs) (m := m.natAbs) (z := P) (b := true) (by omega) (by omega) (by omega) (by omega) (by rw [ef]; exact ab) (by rw [ef]; rfl);have la := ad5 f g ef sP ko;clear ab nU ks;refine bl (f := 167) Tryz.func167 rfl rfl rfl rfl ?_;(refine cc ?_)
  ((refine bd rfl (cL rfl rfl rfl (a8 rfl aL)) ?_))
  exact ah.aS.refl _
 | false =>
  have eF := Im (n := n.natAbs) (m := m.natAbs) (z := 0) (b := false) (by omega) (by omega) (by omega) (by omega) (by rw [ef]; exact ab) rfl
  have au : fits (n * m) = false := by
   have : ¬ P < 340282366920938463463374607431768211456 := fun h => by unfold lQ at ab; rw [iE] at ab; omega
   have e : ((n * m).natAbs : Int) = P := by rw [Int.natAbs_mul, ← ef]; rfl
   cases aR : fits (n * m) with
   | false => rfl
   | true => have := jD.1 aR; omega
  have yz : wf (n * m) = .cn [my 0, .one (.c (.bool false))] := by
   show ah.cn [my (if fits (n * m) then n * m else 0), .one (.c (.bool (fits (n * m))))] = _;rw [au]; rfl
  rw [yz];clear ab nU ks au yz;refine bl (f := 167) Tryz.func167 rfl rfl rfl rfl ?_;(refine cc ?_)
  ((refine bd rfl (cL rfl rfl rfl (a8 rfl aL)) ?_))
  exact ah.aS.refl _
def r9 (m : Nat) : Nat := if m = 0 then 0 else Nat.log2 m + 1
theorem OO {m len : Nat} (h : mh m len) : len = r9 m := by
 unfold r9;unfold mh at h
 by_cases hm : m = 0
 ·rw [if_pos hm];rcases h with h | h
  ·omega
  ·have := Nat.two_pow_pos (len - 1); omega
 ·rw [if_neg hm];rcases h with h | h
  ·omega
  ·have h1 : Nat.log2 m < len := (Nat.log2_lt hm).2 (by omega);have h2 : len - 1 ≤ Nat.log2 m := (Nat.le_log2 hm).2 (by omega);omega
theorem adW {n : Int} (fG : 0 ≤ n) (eJ : n < 340282366920938463463374607431768211456) : aH ag 205 [jX n] (aE (r9 n.toNat)) :=
 hJ [.agg #[.int .u64 (b5 n), .int .u64 (dB n)]] (.int .i64 (r9 n.toNat)) rfl rfl rfl rfl rfl fun W => (aa0 _ _ n W (mx fG eJ)).mono fun e w' ⟨len, he, ak, ab⟩ => by
  rw [OO ak] at he; exact ⟨he, ab⟩
theorem ad6 {n P : Int} {k : Nat} (f : fits n = true) (ef : (n.natAbs : Int) * 2 ^ k = P) (sP : 0 ≤ P) (ko : P < 340282366920938463463374607431768211456) : aH ag 196 [jX P, bk (decide (b5 n < 0))] (wf (n * 2 ^ k)) :=
 hJ [.agg #[.int .u64 (b5 P), .int .u64 (dB P)], .bool (decide (b5 n < 0))] _ rfl rfl rfl rfl rfl fun W => (agh W (lu f) (Lib.hid ef.symm) (mx sP ko)).mono fun e w' h => xw h
theorem adj {n k : Int} (f : fits n = true) (ax : n ≠ 0) (af : 0 ≤ k) (Cm : k < 9223372036854775808) : aH ag 187 [fZ n, aE k] (wf (n * 2 ^ k.toNat)) := by
 have aW := zR f;have nU := jD.1 f;obtain ⟨N, ey⟩ : ∃ N : Int, (n.natAbs : Int) = N := ⟨_, rfl⟩;rw [ey] at aW;have bH := adW (n := N) (by omega) (by omega);have az : ¬ n = 0 := ax
 have ak : mh n.natAbs (r9 N.toNat) := by
  obtain ⟨len, h⟩ : ∃ len, mh n.natAbs len := by
   refine ⟨r9 n.natAbs, ?_⟩;have hm : n.natAbs ≠ 0 := by omega
   have h1 := Nat.log2_self_le hm;have h2 := Nat.lt_log2_self (n := n.natAbs);have ao : Nat.log2 n.natAbs < 128 := (Nat.log2_lt hm).2 (by rw [Jm]; omega);unfold mh r9;rw [if_neg hm];exact .inr ⟨by omega, by omega, h1, h2⟩
  have e : len = r9 n.natAbs := OO h;rw [show N.toNat = n.natAbs by omega, ← e]; exact h
 have nf := aa2 ak;generalize r9 N.toNat = len at *;have BE : (n.natAbs : Int) = N := ey
 by_cases aA : 128 - (len : Int) < k
 ·have au := af8 ak ax af aA
  have yz : wf (n * 2 ^ k.toNat) = .cn [my 0, .one (.c (.bool false))] := by
   show ah.cn [my (if fits (n * 2 ^ k.toNat) then n * 2 ^ k.toNat else 0), .one (.c (.bool (fits (n * 2 ^ k.toNat))))] = _;rw [au]; rfl
  rw [yz];clear au yz ak ey BE nU;refine bl (f := 187) Tryz.func187 rfl rfl rfl rfl ?_;(refine cc ?_)
  ((refine bd rfl (cL rfl rfl rfl (a8 rfl aL)) ?_))
  exact ah.aS.refl _
 ·obtain ⟨YT, hu⟩ := af9 ak ax af (by omega);obtain ⟨P, ef⟩ : ∃ P : Int, (n.natAbs : Int) * 2 ^ k.toNat = P := ⟨_, rfl⟩;have sP : 0 ≤ P := by rw [← ef]; exact fY (by omega) (lB (gp (by decide)))
  rw [ef] at hu;have eF := QD (n := N) (P := P) (by omega) (by omega) af YT (by rw [← ey, ef]; exact hu) (by rw [← ey]; exact ef);have la := ad6 f ef sP hu;have w1 : IntKind.u64.wrap k = k := by rw [IntKind.wrap_u64]; omega
  clear hu ef sP ak ey BE nU;refine bl (f := 187) Tryz.func187 rfl rfl rfl rfl ?_;(refine cc ?_)
  ((refine bd rfl (cL rfl rfl rfl (a8 rfl aL)) ?_))
  exact ah.aS.refl _
theorem ad9 {n k : Int} (f : fits n = true) (az : 0 ≤ k) (h1 : k < 9223372036854775808) : aH ag 187 [fZ n, aE k] (wf (n * 2 ^ k.toNat)) := by
 by_cases ax : n = 0
 ·subst ax;rw [Int.zero_mul];refine bl (f := 187) Tryz.func187 rfl rfl rfl rfl ?_;(refine eS ?_)
  ((refine bd rfl (cL rfl rfl rfl (a8 rfl aL)) ?_))
  exact ah.aS.refl _
 ·exact adj f ax az h1
def ht (w : World) (b : Nat) (u v x y : Value) : Prop := (w.cell? ⟨b, 0, none⟩ = some u ∧ w.cell? ⟨b, 1, none⟩ = some v ∧ w.cell? ⟨b, 2, none⟩ = some x ∧ w.cell? ⟨b, 3, none⟩ = some y) ∧ (w.frozen? ⟨b, 0, none⟩ = false ∧ w.frozen? ⟨b, 1, none⟩ = false ∧ w.frozen? ⟨b, 2, none⟩ = false ∧ w.frozen? ⟨b, 3, none⟩ = false)
section
variable {w W w1 : World} {b g : Nat} {u v x y q : Value}
theorem ht.lt (h : ht w b u v x y) : b < w.heap.size := World.block_lt_of_cell? w _ h.1.1
theorem ht.call (h : ht W b u v x y) (ab : Below W.heap.size W w1) : ht w1 b u v x y := by
 have ak := h.lt;obtain ⟨⟨h1, h2, ao, aD⟩, bn, bY, fW, iX⟩ := h;exact ⟨⟨(ab.cell (p := ⟨b, 0, none⟩) ak).trans h1, (ab.cell (p := ⟨b, 1, none⟩) ak).trans h2, (ab.cell (p := ⟨b, 2, none⟩) ak).trans ao, (ab.cell (p := ⟨b, 3, none⟩) ak).trans aD⟩, (ab.frozen (p := ⟨b, 0, none⟩) ak).trans bn, (ab.frozen (p := ⟨b, 1, none⟩) ak).trans bY, (ab.frozen (p := ⟨b, 2, none⟩) ak).trans fW, (ab.frozen (p := ⟨b, 3, none⟩) ak).trans iX⟩
theorem ht.alloc (h : ht W b u v x y) (o : Obj) : ht (W.alloc o) b u v x y := h.call ((Below.refl _ _).alloc (dE _) o)
theorem ht.drew (h : ht W b u v x y) : ht W.drew b u v x y := h.call ((Below.refl _ _).drew)
theorem ht.new {t : TypeId} (e : b = W.heap.size) : ht (W.alloc (.cells #[u, v, x, y] t)) b u v x y := by
 subst e;unfold ht
 go_simp
theorem ht.set (h : ht W b u v x y) (o : Nat) (ne : g ≠ b) : ht (W.setCell ⟨g, o, none⟩ q) b u v x y := by
 obtain ⟨⟨h1, h2, ao, aD⟩, bn, bY, fW, iX⟩ := h;have fG : ∀ i, (⟨g, o, none⟩ : Addr) ≠ ⟨b, i, none⟩ := fun i e => ne (congrArg Addr.block e);refine ⟨⟨?_, ?_, ?_, ?_⟩, ?_, ?_, ?_, ?_⟩
 ·rw [World.cell?_setCell_other _ _ _ _ (fG 0)]; exact h1
 ·rw [World.cell?_setCell_other _ _ _ _ (fG 1)]; exact h2
 ·rw [World.cell?_setCell_other _ _ _ _ (fG 2)]; exact ao
 ·rw [World.cell?_setCell_other _ _ _ _ (fG 3)]; exact aD
 ·go_simp
 ·go_simp
 ·go_simp
 ·go_simp
end
section
variable {W : World} {b : Nat} {u v x y oj v' : Value}
end
theorem ZQ (d : Int) : decide (0 < cj d 0) = decide (0 < d) := by
 unfold cj;rw [nx];simp only [b4]
 repeat' split
 all_goals omega
end Go.Proofs.YtbcecodakfejaaaGreat
namespace Go.Proofs.YtbcecodakfejaaaGreat
open Go.RowKit
attribute [local go_sem ↓] Go.wp_at_zero Go.wp_at_succ
def nu (n d : Int) : Int := if n % d < d - n % d then n / d else n / d + 1
theorem Pz {n d : Int} (ax : fits n = true) (hd : 0 < d) (yQ : fits d = true) : fits (d - n % d) = true ∧ (d - n % d ≤ n % d → fits (n / d + 1) = true) := by
 unfold fits at *;rw [b4] at ax yQ;have az := nB n (show d ≠ 0 by omega);have h1 := mK n hd;have h2 := o6 n d;rw [b4, b4];refine ⟨by omega, fun hle => ?_⟩;have wK : 2 ≤ d := by omega
 have q1 : n / d * 2 ≤ 170141183460469231731687303715884105727 ∧ -170141183460469231731687303715884105728 ≤ n / d := by
  refine ⟨?_, ?_⟩
  ·rcases o8 (n / d) 0 with q | q
   ·omega
   ·have : n / d * 2 ≤ n / d * d := od wK q;rw [iq (n / d) d] at this;omega
  ·rcases o8 (n / d) 0 with q | q
   ·have : d * (n / d + 1) ≤ 1 * (n / d + 1) := Int.mul_le_mul_of_nonpos_right (by omega) (by omega);rw [Int.mul_add] at this;omega
   ·omega
 omega
end Go.Proofs.YtbcecodakfejaaaGreat
namespace Go.Proofs.YtbcecodakfejaaaGreat
open Go.RowKit
attribute [local go_sem ↓] Go.wp_at_zero Go.wp_at_succ
end Go.Proofs.YtbcecodakfejaaaGreat
namespace Go.Proofs.YtbcecodakfejaaaGreat
open Go.RowKit
attribute [local go_sem ↓] Go.wp_at_zero Go.wp_at_succ
theorem ht.cs {w : World} {b : Nat} {u v x y : Value} (h : ht w b u v x y) : w.cell? ⟨b, 0, none⟩ = some u ∧ w.cell? ⟨b, 1, none⟩ = some v ∧ w.cell? ⟨b, 2, none⟩ = some x ∧ w.cell? ⟨b, 3, none⟩ = some y := h.1
def lF (n d : Int) (k : Nat) : Int := if k = 0 then nu n d else nu (n / d) (2 ^ k)
theorem QR {k : Nat} (h : k ≤ 100) : fits ((2 : Int) ^ k) = true := by
 have h1 := vv (show 0 < 2 by decide) h;rw [show (2 : Nat) ^ 100 = 1267650600228229401496703205376 by decide] at h1;have h2 := (QU k).1;have e : ((2 : Int) ^ k) = ((2 ^ k : Nat) : Int) := by simp
 unfold fits;rw [e, b4];generalize (2 : Nat) ^ k = P at *;omega
end Go.Proofs.YtbcecodakfejaaaGreat
namespace Go.Proofs.YtbcecodakfejaaaGreat
open Go.RowKit
attribute [local go_sem ↓] Go.wp_at_zero Go.wp_at_succ
end Go.Proofs.YtbcecodakfejaaaGreat
namespace Go.Proofs.YtbcecodakfejaaaGreat
open Go.RowKit
attribute [local go_sem ↓] Go.wp_at_zero Go.wp_at_succ
end Go.Proofs.YtbcecodakfejaaaGreat
namespace Go.Proofs.YtbcecodakfejaaaGreat
open Go.RowKit
attribute [local go_sem ↓] Go.wp_at_zero Go.wp_at_succ
section
variable {w W w1 : World} {g jn : Nat} {a b c d s t : Int}
end
end Go.Proofs.YtbcecodakfejaaaGreat
namespace Go.Proofs.YtbcecodakfejaaaGreat
open Go.RowKit
theorem vJ {z : Int} (h : fits z = true) : wf z = .cn [my z, Jg] := by
 show ah.cn [my (if fits z then z else 0), .one (.c (.bool (fits z)))] = _;rw [h]; rfl
theorem SH {z : Int} (h : fits z = false) : wf z = .cn [my 0, .one (.c (.bool false))] := by
 show ah.cn [my (if fits z then z else 0), .one (.c (.bool (fits z)))] = _;rw [h]; rfl
theorem N5 (a b : Int) : cj a b < 0 ↔ a < b := by unfold cj; split <;> (try split) <;> omega
theorem Qx {n d : Int} (f : fits n = true) (g : fits d = true) (hd : 0 < d) : aH ag 186 [fZ n, fZ d] (fZ (nu n d)) := by
 obtain ⟨eJ, ft⟩ := Pz f hd g;have nU := jD.1 f;have ks := jD.1 g;have gM := nB n (show d ≠ 0 by omega);have cx := mK n hd;have yE : fits (n % d) = true := jD.2 (by omega);have aW := Qg f g hd;have bH := QI g yE;have eF := ad8 yE eJ;rw [vJ eJ] at bH;unfold nu
 by_cases h : n % d < d - n % d
 ·have ao : cj (n % d) (d - n % d) < 0 := (N5 ..).2 h;have lP : nu n d = n / d := by unfold nu; first | rw [if_pos h] | (split <;> omega)
  unfold nu at lP;rw [lP];generalize cj (n % d) (d - n % d) = c at *;generalize n / d = q at *;generalize n % d = r at *;clear lP eJ ft nU ks gM cx yE f g;refine bl (f := 186) Tryz.func186 rfl rfl rfl rfl ?_;(refine cc ?_)
  ((refine bd rfl (cL rfl rfl rfl aL) ?_))
  exact ah.aS.refl _
 ·have ao : ¬ cj (n % d) (d - n % d) < 0 := fun aR => h ((N5 ..).1 aR);have lP : nu n d = n / d + 1 := by unfold nu; first | rw [if_neg h] | (split <;> omega)
  unfold nu at lP;rw [lP];have f5 := ft (by omega)
  have MG : fits (n / d) = true := by
   have q1 := o6 n d;have cm := jD.1 f5;refine jD.2 ?_
   by_cases ax : 0 ≤ n
   ·have := nC ax (show 0 ≤ d by omega); omega
   ·have eQ : n * d ≤ n * 1 := Int.mul_le_mul_of_nonpos_left (show n ≤ 0 by omega) (show 1 ≤ d by omega);have := (og (a := n) (b := n) hd).2 (by omega);omega
  have la := tP (n := 1) (by decide) (by decide);have nI := ad7 MG (show fits 1 = true by decide);rw [vJ f5] at nI;generalize cj (n % d) (d - n % d) = c at *;generalize n / d = q at *;generalize n % d = r at *;clear lP eJ ft nU ks gM cx yE f g MG f5;refine bl (f := 186) Tryz.func186 rfl rfl rfl rfl ?_;(refine cc ?_)
  ((refine bd rfl (cL rfl rfl rfl aL) ?_))
  exact ah.aS.refl _
end Go.Proofs.YtbcecodakfejaaaGreat
