/-
  My own texts, without what this claim does not need. My own text.
-/
import Derived.Test.YtbcecodakfejaaaGreatProg
import Derived.ProofKit
import Derived.OpenShut
import Derived.Deep.DeepHandedRow
import Derived.Lib.LaidTab
import Derived.Lib.SmallJoins
import Derived.Test.YtbcecodakfejaaaGreatSApartK8
set_option maxRecDepth 100000
set_option maxHeartbeats 64000000
set_option linter.unusedVariables false
set_option linter.unusedSimpArgs false
set_option linter.unusedSectionVars false
open Go.Proofs.Tryz renaming prog → ag
namespace Go.Proofs.YtbcecodakfejaaaGreat
open Go.RowKit
instance ahU : l0 ag 115 87 4 64 := ⟨by kernel_rfl⟩
def pB (p q : Int × Int) : Int × Int := (p.1 * q.2 + q.1 * p.2, p.2 * q.2 + p.2 * q.2)
def eW (L : List (Int × Int)) (i : Nat) : Int × Int := L.getD i (0, 1)
def j6 (L : List (Int × Int)) (i k : Nat) : List (Int × Int) := (List.range k).map fun j => pB (eW L i) (eW L j)
def h6 (L : List (Int × Int)) (i : Nat) : List (Int × Int) := (List.range i).flatMap fun j => j6 L j j
theorem aeD (L : List (Int × Int)) (i k : Nat) : j6 L i (k + 1) = j6 L i k ++ [pB (eW L i) (eW L k)] := by
 unfold j6; rw [List.range_succ, List.map_append]; rfl
theorem N9 (L : List (Int × Int)) (i : Nat) : h6 L (i + 1) = h6 L i ++ j6 L i i := by
 unfold h6; rw [List.range_succ, List.flatMap_append]; simp
theorem QU (L : List (Int × Int)) (i k : Nat) : (j6 L i k).length = k := by simp [j6]
theorem Hg (L : List (Int × Int)) : ∀ (i : Nat), i ≤ 10 → (h6 L i).length ≤ 10 * i
 | 0, _ => by simp [h6]
 | i + 1, h => by rw [N9, cx, QU]; have := Hg L i (by omega); omega
abbrev HX (a1 a2 b1 b2 l1 l2 h1 h2 : Int) : List (Nat × List AC) := [(5, [.c (.int .i64 a1), .c (.int .i64 a2)]), (6, [.c (.int .i64 b1), .c (.int .i64 b2)]), (7, [.c (.int .i64 l1), .c (.int .i64 l2)]), (8, [.c (.int .i64 h1), .c (.int .i64 h2)])]
abbrev pf (v : Value) (C : List (Int × Int)) : bz := ⟨87, 4, v, C.length, hE C⟩
def SI (L : List (Int × Int)) (N a1 a2 b1 b2 l1 l2 h1 h2 kind : Int) (m : Nat) (R : aG) (aL : List (Nat × ah)) (bj : List (Nat × List AC)) : Prop :=
 ∃ (i : Nat) (v : Value) (j : Int), i ≤ L.length ∧ m = L.length - i ∧ j = i ∧ R = bw 0 (pf v (L ++ h6 L i))
  ∧ aL = [(4, aB kind), (5, hy 5 0), (6, hy 6 0), (7, hy 7 0), (8, hy 8 0), (11, aM v), (12, aB N), (13, aB j)] ∧ bj = HX a1 a2 b1 b2 l1 l2 h1 h2
def SH (L : List (Int × Int)) (N a1 a2 b1 b2 l1 l2 h1 h2 kind : Int) (i : Nat) (ji : Int) (m : Nat) (R : aG) (aL : List (Nat × ah)) (bj : List (Nat × List AC)) : Prop :=
 ∃ (k : Nat) (v : Value) (j : Int), k ≤ i ∧ m = i - k ∧ j = k ∧ R = bw 0 (pf v (L ++ h6 L i ++ j6 L i k))
  ∧ aL = [(4, aB kind), (5, hy 5 0), (6, hy 6 0), (7, hy 7 0), (8, hy 8 0), (11, aM v), (12, aB N), (13, aB ji), (14, aB j)] ∧ bj = HX a1 a2 b1 b2 l1 l2 h1 h2
def SG (F : List (Int × Int)) (g : Int × Int → Bool) (a1 a2 b1 b2 l1 l2 h1 h2 kind : Int) (m : Nat) (aL : List (Nat × ah)) (bj : List (Nat × List AC)) : Prop :=
 ∃ (i : Nat) (j : Int), i ≤ F.length ∧ m = F.length - i ∧ j = i ∧ (F.take i).any g = false
  ∧ aL = [(4, aB kind), (5, hy 5 0), (6, hy 6 0), (7, hy 7 0), (8, hy 8 0), (11, xg F), (16, aB j)] ∧ bj = HX a1 a2 b1 b2 l1 l2 h1 h2
theorem Fk {C : List (Int × Int)} {i : Nat} {j : Int} {p : Int × Int} (ae : j = i) (h : C[i]? = some p) : j.toNat * 4 + 4 ≤ (hE C).length ∧ ((hE C).drop (j.toNat * 4)).take 4 = [.c (.bool (decide (p.1 < 0))), .p (kY p.1), .c (.bool (decide (p.2 < 0))), .p (kY p.2)] := by
 subst ae;obtain ⟨n, d⟩ := p;have a8 : i < C.length := (bF.1 h).1;rw [ks];exact ⟨by rw [LO]; omega, LN h⟩
theorem xU {L : List (Int × Int)} {i : Nat} (h : i < L.length) (M : List (Int × Int)) : (L ++ M)[i]? = some (eW L i) := by
 rw [fK h];unfold eW;simp [h]
theorem ac2 {a1 a2 b1 b2 l1 l2 h1 h2 kind : Int} {w1 w2 w3 ku L F : List (Int × Int)} {g : Int × Int → Bool} {Dg : Bool} (bg : aC ag 27 [aP a1 a2] (bf true)) (fo : aC ag 27 [aP b1 b2] (bf true)) (ky : aC ag 67 [aP l1 l2] (bf true)) (ss : aC ag 67 [aP h1 h2] (bf true)) (fX : ¬ kind < 0) (bd : ¬ 2 < kind)
  (I8 : aC ag 68 [aB 0] (e8 0)) (qY : aC ag 68 [aB 1] (e8 1))
  (gX : aC ag 69 [aB a1, aB b1, aB l1] (xg w1)) (Jp : aC ag 69 [aB a1, aB b1, aB h1] (xg w2)) (S6 : aC ag 69 [aB a2, aB b2, aB l2] (xg w3)) (S7 : aC ag 69 [aB a2, aB b2, aB h2] (xg ku))
  (lw : w1.length ≤ 1 ∧ w2.length ≤ 1 ∧ w3.length ≤ 1 ∧ ku.length ≤ 1) (Bg : L = [(0, 1), (1, 1)] ++ w1 ++ w2 ++ w3 ++ ku) (E4 : F = L ++ h6 L L.length)
  (S : ∀ i k, i < L.length → k < i → aC ag 70 [jm (eW L i).1 (eW L i).2, jm (eW L k).1 (eW L k).2] (jm ((eW L i).1 * (eW L k).2 + (eW L k).1 * (eW L i).2) ((eW L i).2 * (eW L k).2)) ∧ aC ag 71 [e8 ((eW L i).2 * (eW L k).2), e8 ((eW L i).2 * (eW L k).2)] (e8 ((eW L i).2 * (eW L k).2 + (eW L i).2 * (eW L k).2)))
  (G : ∀ p ∈ F, ∃ Et Ev Eu Ew g1 g2, aC ag 73 [aB a1, aB b1, jm p.1 p.2] (jm Et Ev) ∧ aC ag 72 [jm Et Ev, aB l1, aB h1, aB kind] (bf g1) ∧ aC ag 73 [aB a2, aB b2, jm p.1 p.2] (jm Eu Ew) ∧ aC ag 72 [jm Eu Ew, aB l2, aB h2, aB kind] (bf g2) ∧ g p = (g1 && g2))
  (uK : F.any g = Dg) : aC ag 37 [aP a1 a2, aP b1 b2, aP l1 l2, aP h1 h2, aB kind] (bf Dg) := by
 have Ht : L.length = 2 + w1.length + w2.length + w3.length + ku.length := by rw [Bg]; simp; omega
 have Kl : hE L = [.c (.bool (decide ((0 : Int) < 0))), .p (kY 0), .c (.bool (decide ((1 : Int) < 0))), .p (kY 1), .c (.bool (decide ((1 : Int) < 0))), .p (kY 1), .c (.bool (decide ((1 : Int) < 0))), .p (kY 1)] ++ hE w1 ++ hE w2 ++ hE w3 ++ hE ku := by
  rw [Bg, ← vU, ← vU, ← vU, ← vU]; rfl
 have b8 : maxLen = 9223372036854775807 := rfl;refine bi (f := 37) Tryz.func37 rfl rfl rfl rfl ?_;refine rb ?_;(repeat first | (with_reducible first | apply Ih | apply QP | apply QY | apply MR | apply QZ) | (with_reducible apply QW); rfl; (exact cC (by omega)) | (with_reducible apply hX); rfl; (repeat first | (with_reducible apply AR); rfl | refine EA rfl rfl rfl (by (first | exact bg | exact fo | exact ky | exact ss | exact I8 | exact qY)) rfl ?_ | (with_reducible apply cc (c := false)); rfl; rfl; (exact cC (by omega))); (with_reducible apply gY));refine Yr 0 rfl rfl rfl rfl rfl rfl rfl rfl ?h3 rfl rfl rfl (fun v1 hZ => ?_)
 case h3 => decide
 (repeat first | (with_reducible apply dj (id := 4) [0,1,2,3,4,5,6,7,9,10,11,12,13,14,8,15,16,17]); kernel_rfl; kernel_rfl; rfl | refine cF ?_ | refine ia ?_);refine yL 0 rfl rfl rfl rfl (.inr ?q0) ?q1 ?q2 (ye _) rfl (fun v2 lD => ?_)
 case q0 => show 0 < 2; omega
 case q1 => show 2 + w1.length ≤ maxLen; omega
 case q2 => show (2 + w1.length) * 64 ≤ 140737488355328; omega
 (refine mx ?_);refine yL 0 rfl rfl rfl rfl (.inr ?q0) ?q1 ?q2 (ye _) rfl (fun v3 B8 => ?_)
 case q0 => show 0 < 2 + w1.length; omega
 case q1 => show 2 + w1.length + w2.length ≤ maxLen; omega
 case q2 => show (2 + w1.length + w2.length) * 64 ≤ 140737488355328; omega
 (repeat first | (with_reducible apply dj (id := 5) [0,1,2,3,4,5,6,7,9,10,11,12,13,14,8,15,16,17]); kernel_rfl; kernel_rfl; rfl | refine cF ?_ | refine ia ?_);refine yL 0 rfl rfl rfl rfl (.inr ?q0) ?q1 ?q2 (ye _) rfl (fun v4 wF => ?_)
 case q0 => show 0 < 2 + w1.length + w2.length; omega
 case q1 => show 2 + w1.length + w2.length + w3.length ≤ maxLen; omega
 case q2 => show (2 + w1.length + w2.length + w3.length) * 64 ≤ 140737488355328; omega
 (refine mx ?_);refine yL 0 rfl rfl rfl rfl (.inr ?q0) ?q1 ?q2 (ye _) rfl (fun v5 YD => ?_)
 case q0 => show 0 < 2 + w1.length + w2.length + w3.length; omega
 case q1 => show 2 + w1.length + w2.length + w3.length + ku.length ≤ maxLen; omega
 case q2 => show (2 + w1.length + w2.length + w3.length + ku.length) * 64 ≤ 140737488355328; omega
 (repeat first | refine cF ?_ | (with_reducible apply mP 0); (iterate 4 rfl); kernel_rfl; rfl);clear bg fo ky ss I8 qY gX Jp S6 S7;have eC : ((2 + w1.length + w2.length + w3.length + ku.length : Nat) : Int) = (L.length : Int) := by rw [Ht]
 have AZ : L.length ≤ 6 := by omega
 have cW : pf v5 (L ++ h6 L 0) = ⟨87, 4, v5, 2 + w1.length + w2.length + w3.length + ku.length, [.c (.bool (decide ((0 : Int) < 0))), .p (kY 0), .c (.bool (decide ((1 : Int) < 0))), .p (kY 1), .c (.bool (decide ((1 : Int) < 0))), .p (kY 1), .c (.bool (decide ((1 : Int) < 0))), .p (kY 1)] ++ hE w1 ++ hE w2 ++ hE w3 ++ hE ku⟩ := by
  unfold pf; rw [← Kl, ← Ht]; simp [h6]
 refine j7 154 (SI L ((2 + w1.length + w2.length + w3.length + ku.length : Nat) : Int) a1 a2 b1 b2 l1 l2 h1 h2 kind) L.length (bw 0 (pf v5 (L ++ h6 L 0))) _ _ ⟨0, v5, 0, dA _, rfl, rfl, rfl, rfl, rfl⟩ ?hl rfl ⟨rfl, rfl, rfl, rfl, rfl, rfl, rfl, rfl, trivial⟩ ⟨rfl, rfl, rfl, rfl, trivial⟩ rfl ?_
 case hl => rw [cW]; exact ms _ _ _
 clear cW hZ lD B8 wF YD Kl Bg lw;generalize ((2 + w1.length + w2.length + w3.length + ku.length : Nat) : Int) = N at *;clear Ht;rintro m R aL bj ⟨i, v, j, hi, rfl, ae, rfl, rfl, rfl⟩ c3;clear c3
 by_cases ak : i < L.length
 ·have cd : j < N := by omega
  clear G uK;(refine aZ ?_);refine j7 154 (SH L N a1 a2 b1 b2 l1 l2 h1 h2 kind i j) i (bw 0 (pf v (L ++ h6 L i ++ j6 L i 0))) _ _ ⟨0, v, 0, dA _, rfl, rfl, rfl, rfl, rfl⟩ ?hl rfl ⟨rfl, rfl, rfl, rfl, rfl, rfl, rfl, rfl, rfl, trivial⟩ ⟨rfl, rfl, rfl, rfl, trivial⟩ rfl ?_
  case hl => rw [show j6 L i 0 = [] by rfl, mn]; exact bt.refl _
  rintro m R aL bj ⟨k, v', ek, af, rfl, iM, rfl, rfl, rfl⟩ c3;clear c3
  by_cases yG : k < i
  ·have q2 : ek < j := by omega
   have g1 : (L ++ h6 L i ++ j6 L i k)[i]? = some (eW L i) := by rw [gQ]; exact xU ak _
   have g2 : (L ++ h6 L i ++ j6 L i k)[k]? = some (eW L k) := by rw [gQ]; exact xU (by omega) _
   have uc := Fk ae g1;have ud := Fk iM g2
   have ah7 : (L ++ h6 L i ++ j6 L i k).length ≤ 200 ∧ i < (L ++ h6 L i ++ j6 L i k).length := by
    rw [cx, cx, QU];have := Hg L i (by omega);omega
   have b5 : ∀ xf, pf xf (L ++ h6 L i ++ j6 L i (k + 1)) = ⟨87, 4, xf, (L ++ h6 L i ++ j6 L i k).length + 1, hE (L ++ h6 L i ++ j6 L i k) ++ hE [pB (eW L i) (eW L k)]⟩ := fun xf => by
    unfold pf;rw [aeD, ← gQ, vU, cx];rfl
   obtain ⟨dP, fc⟩ := S i k ak yG;clear S g1 g2;unfold pB at b5;generalize L ++ h6 L i ++ j6 L i k = C at *;generalize eW L i = p1 at *;generalize eW L k = p2 at *;obtain ⟨dY, d1⟩ := p1;obtain ⟨et, d2⟩ := p2;simp only at dP fc uc ud b5;have f0 : 0 < C.length := by omega
   have f1 : 0 ≤ j ∧ 0 ≤ ek := by omega
   have f2 : j < (C.length : Int) := by omega
   have f3 : ek < (C.length : Int) := by omega
   (repeat first | (with_reducible apply dj (id := 13) [9,0,1,2,3,4,5,6,7,8,10]); kernel_rfl; kernel_rfl; rfl | (with_reducible apply dj (id := 14) [0,1,2,3,4,5,6,7,8,9,10,11]); kernel_rfl; kernel_rfl; rfl | refine cF ?_ | refine ia ?_ | (with_reducible apply jd 0); (iterate 4 rfl); (omega); (assumption); rfl; kernel_rfl; rfl | (with_reducible apply mQ 0); (iterate 3 rfl); (assumption); assumption; rfl; kernel_rfl; rfl);refine yL 0 rfl rfl rfl rfl (.inr ?q0) ?q1 ?q2 rfl rfl (fun xf ahI => ?_)
   case q0 => exact f0
   case q1 => show C.length + 1 ≤ maxLen; omega
   case q2 => show (C.length + 1) * 64 ≤ 140737488355328; omega
   (refine aZ ?_);exact ⟨i - (k + 1), bw 0 (pf xf (L ++ h6 L i ++ j6 L i (k + 1))), _, _, by omega, ⟨k + 1, xf, ek + 1, by omega, rfl, by omega, rfl, rfl, rfl⟩, by rw [b5]; exact ms _ _ _, rfl, ⟨rfl, rfl, rfl, rfl, rfl, rfl, rfl, rfl, rfl, trivial⟩, ⟨rfl, rfl, rfl, rfl, trivial⟩, rfl⟩
  ·have q2 : ¬ ek < j := by omega
   have ko : k = i := by omega
   subst ko;clear S;(refine aZ ?_);exact ⟨L.length - (k + 1), bw 0 (pf v' (L ++ h6 L (k + 1))), _, _, by omega, ⟨k + 1, v', j + 1, by omega, rfl, by omega, rfl, rfl, rfl⟩, by rw [N9, ← gQ]; exact bt.refl _, rfl, ⟨rfl, rfl, rfl, rfl, rfl, rfl, rfl, rfl, trivial⟩, ⟨rfl, rfl, rfl, rfl, trivial⟩, rfl⟩
 ·have cd : ¬ j < N := by omega
  have cP : i = L.length := by omega
  subst cP
  have ah3 : F.length ≤ 100 := by
   have := Hg L L.length (by omega);rw [E4, cx]; omega
  rw [← E4];clear S E4;(refine aZ ?_);refine zN 0 11 (pf v F) rfl rfl ?_;refine aeE ?_;refine sD 154 (SG F g a1 a2 b1 b2 l1 l2 h1 h2 kind) F.length _ _ ⟨0, 0, dA _, rfl, rfl, by simp, rfl, rfl⟩ rfl ⟨rfl, rfl, rfl, rfl, rfl, rfl, rfl, trivial⟩ ⟨rfl, rfl, rfl, rfl, trivial⟩ rfl ?_;rintro m aL bj ⟨i, ji, hi, rfl, fH, kp, rfl, rfl⟩ c3;clear c3
  by_cases MJ : i < F.length
  ·have bE : ji < (F.length : Int) := by omega
   have c4 : 0 ≤ ji := by omega
   obtain ⟨p, hp⟩ : ∃ p, F[i]? = some p := ⟨_, bQ MJ⟩;have Z := (Fk fH hp).2;obtain ⟨Et, Ev, Eu, Ew, c1, c2, Ed, iZ, Ee, n0, ao⟩ := G p (c5 hp);have ax : F.take (i + 1) = F.take i ++ [p] := by rw [List.take_add_one, hp]; rfl
   have dX : g p = true → F.any g = true := fun h => tz.2 ⟨p, c5 hp, h⟩;clear G hp;obtain ⟨n, d⟩ := p;simp only at Ed Ee Z;cases c1 with
   | false =>
    have au : (F.take (i + 1)).any g = false := by rw [ax, List.any_append, kp]; simp [ao]
    clear uK dX ax ao;(refine bZ ?_);exact ⟨F.length - (i + 1), _, _, by omega, ⟨i + 1, ji + 1, by omega, rfl, by omega, au, rfl, rfl⟩, rfl, ⟨rfl, rfl, rfl, rfl, rfl, rfl, rfl, trivial⟩, ⟨rfl, rfl, rfl, rfl, trivial⟩, rfl⟩
   | true =>
    cases c2 with
    | false =>
     have au : (F.take (i + 1)).any g = false := by rw [ax, List.any_append, kp]; simp [ao]
     clear uK dX ax ao;(refine bZ ?_);exact ⟨F.length - (i + 1), _, _, by omega, ⟨i + 1, ji + 1, by omega, rfl, by omega, au, rfl, rfl⟩, rfl, ⟨rfl, rfl, rfl, rfl, rfl, rfl, rfl, trivial⟩, ⟨rfl, rfl, rfl, rfl, trivial⟩, rfl⟩
    | true =>
     have al : Dg = true := by rw [← uK]; exact dX (by rw [ao]; rfl)
     clear uK dX ax ao;subst al;(refine bZ ?_);(refine aZ ?_)
     ((refine ba rfl (a6 rfl aK) ?_))
     exact ah.aQ.refl _
  ·have bE : ¬ ji < (F.length : Int) := by omega
   have al : Dg = false := by
    rw [← uK, ← kp, hq (by omega)]
   clear uK G;subst al;(refine fl ?_);(refine aZ ?_)
   ((refine ba rfl (a6 rfl aK) ?_))
   exact ah.aQ.refl _
def bT (a1 a2 b1 b2 l1 l2 h1 h2 k : Int) : Pa := qc (2 * a1 - l1) (2 * b1 - l1) (2 * a2 - l2) (2 * b2 - l2) (h1 - 2 * a1) (h1 - 2 * b1) (h2 - 2 * a2) (h2 - 2 * b2) (!decide (k = 2)) (decide (k = 1))
def tc (a1 a2 b1 b2 l1 l2 h1 h2 k : Int) : Bool := b7 a1 a2 && b7 b1 b2 && n7 l1 l2 && n7 h1 h2 && wK k
def rT (a1 a2 b1 b2 l1 l2 h1 h2 k : Int) : Bool := tc a1 a2 b1 b2 l1 l2 h1 h2 k && sB (bT a1 a2 b1 b2 l1 l2 h1 h2 k)
theorem ab2 {a1 a2 b1 b2 l1 l2 h1 h2 k : Int} {b9 cT e9 j5 zA : Bool} (bg : aC ag 123 [aP a1 a2] (bf b9)) (fo : aC ag 123 [aP b1 b2] (bf cT)) (Eb : aC ag 170 [aP l1 l2] (bf e9)) (Ec : aC ag 170 [aP h1 h2] (bf j5)) (SB : aC ag 171 [aB k] (bf zA)) (h : (b9 && cT && e9 && j5 && zA) = false) :
  aC ag 155 [aP a1 a2, aP b1 b2, aP l1 l2, aP h1 h2, aB k] (bf false) := by
 have cs : b9 = false ∨ (b9 = true ∧ cT = false) ∨ (b9 = true ∧ cT = true ∧ e9 = false) ∨ (b9 = true ∧ cT = true ∧ e9 = true ∧ j5 = false) ∨ (b9 = true ∧ cT = true ∧ e9 = true ∧ j5 = true ∧ zA = false) := by
  cases b9 <;> cases cT <;> cases e9 <;> cases j5 <;> cases zA <;> simp_all
 clear h;rcases cs with rfl | ⟨rfl, rfl⟩ | ⟨rfl, rfl, rfl⟩ | ⟨rfl, rfl, rfl, rfl⟩ | ⟨rfl, rfl, rfl, rfl, rfl⟩
 all_goals
  refine bi (f := 155) Tryz.func155 rfl rfl rfl rfl ?_;(refine bZ ?_)
  ((refine ba rfl (a6 rfl aK) ?_))
  exact ah.aQ.refl _
theorem JA : xA p6 := ⟨⟨by decide, by decide⟩, ⟨by decide, by decide⟩⟩
theorem ab0 {a1 a2 b1 b2 l1 l2 h1 h2 k : Int} : aC ag 155 [aP a1 a2, aP b1 b2, aP l1 l2, aP h1 h2, aB k] (bf (rT a1 a2 b1 b2 l1 l2 h1 h2 k)) := by
 unfold rT;cases al : tc a1 a2 b1 b2 l1 l2 h1 h2 k with
 | false => exact ab2 (oC rfl) (oC rfl) (C1 rfl) (C1 rfl) (Pr rfl) al
 | true =>
  rw [mq];unfold tc at al;simp only [dx] at al;obtain ⟨⟨⟨⟨tB, tC⟩, zF⟩, zE⟩, Dm⟩ := al;have px := oL.1 tB;have py := oL.1 tC;have uO := vL.1 zF;have bO := vL.1 zE;unfold bT qc;have o1 := Cq (u := 2 * a1 - l1) (v := 2 * b1 - l1) (w := !decide (k = 2)) JA (by omega) (by omega);have o2 := Cq (u := 2 * a2 - l2) (v := 2 * b2 - l2) (w := !decide (k = 2)) o1 (by omega) (by omega);have OR := Cq (u := h1 - 2 * a1) (v := h1 - 2 * b1) (w := decide (k = 1)) o2 (by omega) (by omega);have abj := Cq (u := h2 - 2 * a2) (v := h2 - 2 * b2) (w := decide (k = 1)) OR (by omega) (by omega);exact ab1 (oC tB) (oC tC) (C1 zF) (C1 zE) (Pr Dm) rfl rfl acj (acy px.1 py.1 uO.1 (C2 JA (by omega) (by omega))) (acx px.2 py.2 uO.2 (C2 o1 (by omega) (by omega))) (acz px.1 py.1 bO.1 (C2 o2 (by omega) (by omega))) (acw px.2 py.2 bO.2 (C2 OR (by omega) (by omega))) (acJ abj)
theorem Ph {a1 a2 b1 b2 x y k : Int} {b9 cT : Bool} (nk : aC ag 153 [aB k] (bf b9)) (So : aC ag 38 [aP x y, aB k] (bf cT)) (h : (b9 && cT) = false) : aC ag 131 [aP a1 a2, aP b1 b2, aP x y, aB k] (bf false) := by
 have cs : b9 = false ∨ (b9 = true ∧ cT = false) := by cases b9 <;> cases cT <;> simp_all
 clear h;rcases cs with rfl | ⟨rfl, rfl⟩
 all_goals
  refine bi (f := 131) Tryz.func131 rfl rfl rfl rfl ?_;(refine bZ ?_)
  ((refine ba rfl (a6 rfl aK) ?_))
  exact ah.aQ.refl _
theorem abW {a1 a2 b1 b2 x y k l1 l2 h1 h2 : Int} {r : Bool} (nk : aC ag 153 [aB k] (bf true)) (So : aC ag 38 [aP x y, aB k] (bf true)) (agp : aC ag 154 [aP x y, aB k] (.cj [.agg [.c (.int .i64 l1), .c (.int .i64 l2)], .agg [.c (.int .i64 h1), .c (.int .i64 h2)]])) (M : aC ag 155 [aP a1 a2, aP b1 b2, aP l1 l2, aP h1 h2, aB 0] (bf r)) : aC ag 131 [aP a1 a2, aP b1 b2, aP x y, aB k] (bf r) := by
 refine bi (f := 131) Tryz.func131 rfl rfl rfl rfl ?_;(refine bZ ?_)
 ((refine ba rfl (a6 rfl aK) ?_))
 exact ah.aQ.refl _
def nA (a1 a2 b1 b2 x y k : Int) : Bool := decide (0 ≤ k) && decide (k ≤ 28) && er k.toNat x y && rT a1 a2 b1 b2 (2 * (2 ^ k.toNat * x) - 2 ^ k.toNat) (2 * (2 ^ k.toNat * y) - 2 ^ k.toNat) (2 * (2 ^ k.toNat * x) + 2 ^ k.toNat) (2 * (2 ^ k.toNat * y) + 2 ^ k.toNat) 0
theorem Za {k : Int} (h : (decide (0 ≤ k) && decide (k ≤ 28)) = true) : fS k k.toNat := by
 simp only [dx, ca] at h;unfold fS;omega
theorem abT {a1 a2 b1 b2 x y k : Int} : aC ag 131 [aP a1 a2, aP b1 b2, aP x y, aB k] (bf (nA a1 a2 b1 b2 x y k)) := by
 unfold nA;have nk := acH (k := k);cases af : (decide (0 ≤ k) && decide (k ≤ 28)) with
 | false =>
  rw [af] at nk;obtain ⟨r, al⟩ := Ni k;exact Ph nk (zt al rfl) rfl
 | true =>
  rw [af] at nk;have al := Za af;cases hi : er k.toNat x y with
  | false => exact Ph nk (zt al hi) rfl
  | true => exact abW nk (zt al hi) (ace al hi) ab0
end Go.Proofs.YtbcecodakfejaaaGreat
namespace Go.Proofs.YtbcecodakfejaaaGreat
def I7 (a1 a2 b1 b2 l1 l2 h1 h2 k : Int) : Prop := Met (2 * a1 - l1) (2 * b1 - l1) (2 * a2 - l2) (2 * b2 - l2) (h1 - 2 * a1) (h1 - 2 * b1) (h2 - 2 * a2) (h2 - 2 * b2) (!decide (k = 2)) (decide (k = 1))
theorem Hd {a1 a2 b1 b2 l1 l2 h1 h2 k : Int} : rT a1 a2 b1 b2 l1 l2 h1 h2 k = true ↔ tc a1 a2 b1 b2 l1 l2 h1 h2 k = true ∧ I7 a1 a2 b1 b2 l1 l2 h1 h2 k := by
 unfold rT bT I7;rw [dx, Vj]
theorem NX {a1 a2 b1 b2 l1 l2 h1 h2 k : Int} : tc a1 a2 b1 b2 l1 l2 h1 h2 k = true ↔ b7 a1 a2 = true ∧ b7 b1 b2 = true ∧ n7 l1 l2 = true ∧ n7 h1 h2 = true ∧ wK k = true := by
 unfold tc;simp only [dx, and_assoc]
end Go.Proofs.YtbcecodakfejaaaGreat
namespace Go.Proofs.YtbcecodakfejaaaGreat
open Go.RowKit
def iF (a1 a2 b1 b2 l1 l2 h1 h2 : Int) : List (Int × Int) := [(0, 1), (1, 1)] ++ ng a1 b1 l1 ++ ng a1 b1 h1 ++ ng a2 b2 l2 ++ ng a2 b2 h2
def q7 (a1 a2 b1 b2 l1 l2 h1 h2 : Int) : List (Int × Int) := iF a1 a2 b1 b2 l1 l2 h1 h2 ++ h6 (iF a1 a2 b1 b2 l1 l2 h1 h2) (iF a1 a2 b1 b2 l1 l2 h1 h2).length
def Bu (a1 a2 b1 b2 l1 l2 h1 h2 kind : Int) (p : Int × Int) : Bool := xk (2 * a1 * p.2 + p.1 * (2 * (b1 - a1)) * 1) (1 * p.2) l1 h1 kind && xk (2 * a2 * p.2 + p.1 * (2 * (b2 - a2)) * 1) (1 * p.2) l2 h2 kind
theorem Ac (a b hH : Int) : (2 * (b - a) < 0 ∧ ng a b hH = if -(2 * (b - a)) = 0 ∨ -(hH - 2 * a) < 0 ∨ -(2 * (b - a)) < -(hH - 2 * a) then [] else [(-(hH - 2 * a), -(2 * (b - a)))]) ∨ (¬ 2 * (b - a) < 0 ∧ ng a b hH = if 2 * (b - a) = 0 ∨ hH - 2 * a < 0 ∨ 2 * (b - a) < hH - 2 * a then [] else [(hH - 2 * a, 2 * (b - a))]) := by
 unfold ng
 by_cases q : 2 * (b - a) < 0
 ·exact .inl ⟨q, by simp only [if_pos q]⟩
 ·exact .inr ⟨q, by simp only [if_neg q]⟩
theorem DR (a b hH : Int) : (ng a b hH).length ≤ 1 := by
 rcases Ac a b hH with ⟨_, e⟩ | ⟨_, e⟩ <;> rw [e] <;> split <;> simp
theorem DS {a b hH : Int} {p : Int × Int} (h : p ∈ ng a b hH) : 0 < p.2 ∧ 0 ≤ p.1 ∧ p.1 ≤ p.2 := by
 rcases Ac a b hH with ⟨q, e⟩ | ⟨q, e⟩ <;> rw [e] at h <;> split at h
 ·simp at h
 ·rw [ix.1 h]; simp only; omega
 ·simp at h
 ·rw [ix.1 h]; simp only; omega
def sj (p : Int × Int) : Prop := 0 < p.2 ∧ 0 ≤ p.1 ∧ p.1 ≤ p.2
theorem A0 {a1 a2 b1 b2 l1 l2 h1 h2 : Int} {p : Int × Int} (h : p ∈ iF a1 a2 b1 b2 l1 l2 h1 h2) : sj p := by
 unfold iF at h;simp only [iU, fQ, r2, or_false] at h;rcases h with (((h | h) | h) | h) | h
 ·rcases h with rfl | rfl <;> (unfold sj; simp)
 ·exact DS h
 ·exact DS h
 ·exact DS h
 ·exact DS h
theorem DT {a b hH : Int} (aH : -134217728 ≤ a ∧ a ≤ 134217728) (ab : -134217728 ≤ b ∧ b ≤ 134217728) {p : Int × Int} (h : p ∈ ng a b hH) : p.2 ≤ 536870912 := by
 rcases Ac a b hH with ⟨q, e⟩ | ⟨q, e⟩ <;> rw [e] at h <;> split at h
 ·simp at h
 ·rw [ix.1 h]; simp only; omega
 ·simp at h
 ·rw [ix.1 h]; simp only; omega
theorem UJ {a1 a2 b1 b2 l1 l2 h1 h2 : Int} (aH : b7 a1 a2 = true) (ab : b7 b1 b2 = true) {p : Int × Int} (h : p ∈ iF a1 a2 b1 b2 l1 l2 h1 h2) : p.2 ≤ 536870912 := by
 rw [oL] at aH ab;unfold iF at h;simp only [iU, fQ, r2, or_false] at h;rcases h with (((h | h) | h) | h) | h
 ·rcases h with rfl | rfl <;> simp
 ·exact DT aH.1 ab.1 h
 ·exact DT aH.1 ab.1 h
 ·exact DT aH.2 ab.2 h
 ·exact DT aH.2 ab.2 h
theorem xV {a1 a2 b1 b2 l1 l2 h1 h2 : Int} (aH : b7 a1 a2 = true) (ab : b7 b1 b2 = true) {p : Int × Int} (h : p ∈ iF a1 a2 b1 b2 l1 l2 h1 h2) : cN 5 p.1 ∧ cN 5 p.2 := by
 obtain ⟨q1, q2, bE⟩ := A0 h;have := UJ aH ab h;exact ⟨nJ (by omega) (by omega), nJ (by omega) (by omega)⟩
theorem AX {L : List (Int × Int)} {i : Nat} (h : i < L.length) : eW L i ∈ L := by
 have := xU h [];rw [mn] at this;exact c5 this
theorem Hh {L : List (Int × Int)} {n : Nat} {p : Int × Int} : p ∈ h6 L n ↔ ∃ i j, i < n ∧ j < i ∧ p = pB (eW L i) (eW L j) := by
 unfold h6 j6;simp only [List.mem_flatMap, List.mem_range, h9]
 constructor
 ·rintro ⟨i, hi, j, ae, rfl⟩; exact ⟨i, j, hi, ae, rfl⟩
 ·rintro ⟨i, j, hi, ae, rfl⟩; exact ⟨i, hi, j, ae, rfl⟩
theorem aat {p q : Int × Int} (h : sj p) (k : sj q) : sj (pB p q) := by
 obtain ⟨h1, h2, h3⟩ := h;obtain ⟨bd, bC, ez⟩ := k;unfold pB sj;simp only;have m := Int.mul_pos h1 bd;have m1 := fD h2 (kt bd);have m2 := fD bC (kt h1);have m3 : p.1 * q.2 ≤ p.2 * q.2 := lh h3 (kt bd);have m4 : q.1 * p.2 ≤ q.2 * p.2 := lh ez (kt h1);rw [gR q.2] at m4;omega
theorem JP {a1 a2 b1 b2 l1 l2 h1 h2 : Int} {p : Int × Int} (h : p ∈ q7 a1 a2 b1 b2 l1 l2 h1 h2) : p ∈ iF a1 a2 b1 b2 l1 l2 h1 h2 ∨ ∃ q r, q ∈ iF a1 a2 b1 b2 l1 l2 h1 h2 ∧ r ∈ iF a1 a2 b1 b2 l1 l2 h1 h2 ∧ p = pB q r := by
 unfold q7 at h;rcases iU.1 h with h | h
 ·exact .inl h
 ·obtain ⟨i, j, hi, ae, rfl⟩ := Hh.1 h;exact .inr ⟨_, _, AX hi, AX (by omega), rfl⟩
theorem AS {a1 a2 b1 b2 l1 l2 h1 h2 : Int} {p : Int × Int} (h : p ∈ q7 a1 a2 b1 b2 l1 l2 h1 h2) : sj p := by
 rcases JP h with h | ⟨q, r, ak, al, rfl⟩
 ·exact A0 h
 ·exact aat (A0 ak) (A0 al)
theorem Up {a1 a2 b1 b2 l1 l2 h1 h2 : Int} (aH : b7 a1 a2 = true) (ab : b7 b1 b2 = true) {p : Int × Int} (h : p ∈ q7 a1 a2 b1 b2 l1 l2 h1 h2) : cN 11 p.1 ∧ cN 11 p.2 := by
 rcases JP h with h | ⟨q, r, ak, al, rfl⟩
 ·obtain ⟨dY, et⟩ := xV aH ab h;exact ⟨dY.up (by omega), et.up (by omega)⟩
 ·obtain ⟨dY, et⟩ := xV aH ab ak;obtain ⟨m1, m2⟩ := xV aH ab al;exact ⟨(dY.mul m2).add (m1.mul et), (et.mul m2).add (et.mul m2)⟩
theorem RL {a b l h k : Int} {p : Int × Int} : xk (2 * a * p.2 + p.1 * (2 * (b - a)) * 1) (1 * p.2) l h k = true ↔ ic (2 * a - l) (2 * b - l) (!decide (k = 2)) p.1 p.2 ∧ ic (h - 2 * a) (h - 2 * b) (decide (k = 1)) p.1 p.2 := by
 obtain ⟨n, d⟩ := p;unfold xk ic;simp only [dx, qL, ca];rw [GR, GQ, GR, GQ];have aF : (2 * a - l) * (d - n) + (2 * b - l) * n = (2 * a * d + n * (2 * (b - a)) * 1) * 1 - l * (1 * d) := by grind
 have aN : (h - 2 * a) * (d - n) + (h - 2 * b) * n = h * (1 * d) - (2 * a * d + n * (2 * (b - a)) * 1) * 1 := by grind
 rw [aF, aN];generalize (2 * a * d + n * (2 * (b - a)) * 1) * 1 = X;generalize l * (1 * d) = Y;generalize h * (1 * d) = Z
 constructor
 ·rintro ⟨bd, bC⟩;refine ⟨?_, ?_⟩
  ·rcases bd with bd | ⟨bd, ez⟩
   ·exact .inl (by omega)
   ·exact .inr ⟨ez, by omega⟩
  ·rcases bC with bC | ⟨bC, ez⟩
   ·exact .inl (by omega)
   ·exact .inr ⟨ez, by omega⟩
 ·rintro ⟨bd, bC⟩;refine ⟨?_, ?_⟩
  ·rcases bd with bd | ⟨ez, bd⟩
   ·exact .inl (by omega)
   ·exact .inr ⟨by omega, ez⟩
  ·rcases bC with bC | ⟨ez, bC⟩
   ·exact .inl (by omega)
   ·exact .inr ⟨by omega, ez⟩
theorem Bv {a1 a2 b1 b2 l1 l2 h1 h2 k : Int} {p : Int × Int} (hp : sj p) : Bu a1 a2 b1 b2 l1 l2 h1 h2 k p = true ↔ n1 (bT a1 a2 b1 b2 l1 l2 h1 h2 k) p.1 p.2 := by
 unfold Bu bT;rw [dx, RL, RL, EY hp.1]
 constructor
 ·rintro ⟨⟨g1, g2⟩, g3, g4⟩; exact ⟨hp.2, g1, g3, g2, g4⟩
 ·rintro ⟨_, g1, g3, g2, g4⟩; exact ⟨⟨g1, g2⟩, g3, g4⟩
def kV (u v n d : Int) : Prop := (0 < v - u ∧ n = -u ∧ d = v - u) ∨ (v - u < 0 ∧ n = u ∧ d = -(v - u))
theorem Co {S : Int → Int → Prop} {p : Pa} {u v : Int} {o : Bool} (aA : S 0 1) (h1 : S 1 1) (aj : ∀ n d, kV u v n d → S n d) (ap : S p.f.n p.f.d) (ax : S p.t.n p.t.d) : S (jf p u v o).f.n (jf p u v o).f.d ∧ S (jf p u v o).t.n (jf p u v o).t.d := by
 unfold jf
 by_cases q1 : 0 < v - u
 ·rw [if_pos q1];refine ⟨?_, ax⟩;rcases Cr p.f ⟨-u, v - u, o⟩ with ⟨e, _⟩ | ⟨e, _⟩ <;> simp only [e]
  ·exact ap
  ·exact aj _ _ (.inl ⟨q1, rfl, rfl⟩)
 ·rw [if_neg q1]
  by_cases q2 : v - u < 0
  ·rw [if_pos q2];refine ⟨ap, ?_⟩;rcases Bh p.t ⟨u, -(v - u), o⟩ with ⟨e, _⟩ | ⟨e, _⟩ <;> simp only [e]
   ·exact ax
   ·exact aj _ _ (.inr ⟨q2, rfl, rfl⟩)
  ·rw [if_neg q2]
   split
   ·exact ⟨h1, aA⟩
   ·exact ⟨ap, ax⟩
theorem Cn {p : Pa} {u v : Int} {o : Bool} (Vr : 0 < p.f.d) (VE : 0 < p.t.d) (ap : 0 ≤ p.f.n) (ax : p.t.n ≤ p.t.d) : 0 ≤ (jf p u v o).f.n ∧ (jf p u v o).t.n ≤ (jf p u v o).t.d := by
 unfold jf
 by_cases q1 : 0 < v - u
 ·rw [if_pos q1];refine ⟨?_, ax⟩;rcases Cr p.f ⟨-u, v - u, o⟩ with ⟨e, _⟩ | ⟨e, h⟩ <;> simp only [e]
  ·exact ap
  ·have hle : p.f.n * (v - u) ≤ -u * p.f.d := by
    rcases uh p.f ⟨-u, v - u, o⟩ with ⟨t, _⟩ | ⟨t, _⟩ | ⟨_, c⟩
    ·simp only at t; omega
    ·simp only at t; omega
    ·exact absurd (.inl c) h
   have m := fD ap (by omega : 0 ≤ v - u);have : 0 * p.f.d ≤ -u * p.f.d := by omega
   exact le_mul this Vr
 ·rw [if_neg q1]
  by_cases q2 : v - u < 0
  ·rw [if_pos q2];refine ⟨ap, ?_⟩;rcases Bh p.t ⟨u, -(v - u), o⟩ with ⟨e, _⟩ | ⟨e, h⟩ <;> simp only [e]
   ·exact ax
   ·have hle : u * p.t.d ≤ p.t.n * -(v - u) := by
     rcases uh p.t ⟨u, -(v - u), o⟩ with ⟨_, c⟩ | ⟨t, _⟩ | ⟨t, _⟩
     ·exact absurd (.inl c) h
     ·simp only at t; omega
     ·simp only at t; omega
    have m : p.t.n * -(v - u) ≤ p.t.d * -(v - u) := lh ax (by omega);have : u * p.t.d ≤ -(v - u) * p.t.d := by rw [gR (-(v - u))]; omega
    exact le_mul this VE
  ·rw [if_neg q2]
   split
   ·exact ⟨by decide, by decide⟩
   ·exact ⟨ap, ax⟩
theorem KN {a b l n d : Int} (h : kV (2 * a - l) (2 * b - l) n d) (aA : 0 ≤ n) (h1 : n ≤ d) : (n, d) ∈ ng a b l := by
 unfold kV at h;rcases Ac a b l with ⟨q, e⟩ | ⟨q, e⟩ <;> rw [e] <;> split
 ·exfalso; omega
 ·rw [ix, Prod.mk.injEq]; omega
 ·exfalso; omega
 ·rw [ix, Prod.mk.injEq]; omega
theorem KM {a b l n d : Int} (h : kV (l - 2 * a) (l - 2 * b) n d) (aA : 0 ≤ n) (h1 : n ≤ d) : (n, d) ∈ ng a b l := by
 unfold kV at h;rcases Ac a b l with ⟨q, e⟩ | ⟨q, e⟩ <;> rw [e] <;> split
 ·exfalso; omega
 ·rw [ix, Prod.mk.injEq]; omega
 ·exfalso; omega
 ·rw [ix, Prod.mk.injEq]; omega
theorem KU (a1 a2 b1 b2 l1 l2 h1 h2 k : Int) (h : (bT a1 a2 b1 b2 l1 l2 h1 h2 k).f.n * (bT a1 a2 b1 b2 l1 l2 h1 h2 k).t.d ≤ (bT a1 a2 b1 b2 l1 l2 h1 h2 k).t.n * (bT a1 a2 b1 b2 l1 l2 h1 h2 k).f.d) :
  ((bT a1 a2 b1 b2 l1 l2 h1 h2 k).f.n, (bT a1 a2 b1 b2 l1 l2 h1 h2 k).f.d) ∈ iF a1 a2 b1 b2 l1 l2 h1 h2 ∧ ((bT a1 a2 b1 b2 l1 l2 h1 h2 k).t.n, (bT a1 a2 b1 b2 l1 l2 h1 h2 k).t.d) ∈ iF a1 a2 b1 b2 l1 l2 h1 h2 := by
 have hd : 0 < (bT a1 a2 b1 b2 l1 l2 h1 h2 k).f.d ∧ 0 < (bT a1 a2 b1 b2 l1 l2 h1 h2 k).t.d := EX ..
 have key : ∀ n d, ((n = 0 ∧ d = 1) ∨ (n = 1 ∧ d = 1) ∨ kV (2 * a1 - l1) (2 * b1 - l1) n d ∨ kV (2 * a2 - l2) (2 * b2 - l2) n d ∨ kV (h1 - 2 * a1) (h1 - 2 * b1) n d ∨ kV (h2 - 2 * a2) (h2 - 2 * b2) n d) → 0 ≤ n → n ≤ d → (n, d) ∈ iF a1 a2 b1 b2 l1 l2 h1 h2 := by
  intro n d hs q0 q1;unfold iF;simp only [iU, fQ, r2, or_false, Prod.mk.injEq];rcases hs with hs | hs | hs | hs | hs | hs
  ·exact .inl (.inl (.inl (.inl (.inl hs))))
  ·exact .inl (.inl (.inl (.inl (.inr hs))))
  ·exact .inl (.inl (.inl (.inr (KN hs q0 q1))))
  ·exact .inl (.inr (KN hs q0 q1))
  ·exact .inl (.inl (.inr (KM hs q0 q1)))
  ·exact .inr (KM hs q0 q1)
 generalize hS : (fun n d : Int => ((n = 0 ∧ d = 1) ∨ (n = 1 ∧ d = 1) ∨ kV (2 * a1 - l1) (2 * b1 - l1) n d ∨ kV (2 * a2 - l2) (2 * b2 - l2) n d ∨ kV (h1 - 2 * a1) (h1 - 2 * b1) n d ∨ kV (h2 - 2 * a2) (h2 - 2 * b2) n d)) = S;have dB : S 0 1 := by rw [← hS]; exact .inl ⟨rfl, rfl⟩
 have s1 : S 1 1 := by rw [← hS]; exact .inr (.inl ⟨rfl, rfl⟩)
 have c1 : ∀ n d, kV (2 * a1 - l1) (2 * b1 - l1) n d → S n d := fun n d h => by rw [← hS]; exact .inr (.inr (.inl h))
 have c2 : ∀ n d, kV (2 * a2 - l2) (2 * b2 - l2) n d → S n d := fun n d h => by rw [← hS]; exact .inr (.inr (.inr (.inl h)))
 have iH : ∀ n d, kV (h1 - 2 * a1) (h1 - 2 * b1) n d → S n d := fun n d h => by rw [← hS]; exact .inr (.inr (.inr (.inr (.inl h))))
 have qb : ∀ n d, kV (h2 - 2 * a2) (h2 - 2 * b2) n d → S n d := fun n d h => by rw [← hS]; exact .inr (.inr (.inr (.inr (.inr h))))
 have NE : ∀ n d, S n d → 0 ≤ n → n ≤ d → (n, d) ∈ iF a1 a2 b1 b2 l1 l2 h1 h2 := fun n d h => key n d (by rw [← hS] at h; exact h)
 have hs : S (bT a1 a2 b1 b2 l1 l2 h1 h2 k).f.n (bT a1 a2 b1 b2 l1 l2 h1 h2 k).f.d ∧ S (bT a1 a2 b1 b2 l1 l2 h1 h2 k).t.n (bT a1 a2 b1 b2 l1 l2 h1 h2 k).t.d := by
  unfold bT qc;have bd := Co (p := p6) (u := 2 * a1 - l1) (v := 2 * b1 - l1) (o := !decide (k = 2)) dB s1 c1 dB s1;have bC := Co (u := 2 * a2 - l2) (v := 2 * b2 - l2) (o := !decide (k = 2)) dB s1 c2 bd.1 bd.2;have ez := Co (u := h1 - 2 * a1) (v := h1 - 2 * b1) (o := decide (k = 1)) dB s1 iH bC.1 bC.2;exact Co dB s1 qb ez.1 ez.2
 have he : 0 ≤ (bT a1 a2 b1 b2 l1 l2 h1 h2 k).f.n ∧ (bT a1 a2 b1 b2 l1 l2 h1 h2 k).t.n ≤ (bT a1 a2 b1 b2 l1 l2 h1 h2 k).t.d := by
  unfold bT qc;have d1 := qv (p := p6) (u := 2 * a1 - l1) (v := 2 * b1 - l1) (own := !decide (k = 2)) (by decide) (by decide);have d2 := qv (u := 2 * a2 - l2) (v := 2 * b2 - l2) (own := !decide (k = 2)) d1.1 d1.2;have d3 := qv (u := h1 - 2 * a1) (v := h1 - 2 * b1) (own := decide (k = 1)) d2.1 d2.2;have bd := Cn (p := p6) (u := 2 * a1 - l1) (v := 2 * b1 - l1) (o := !decide (k = 2)) (by decide) (by decide) (by decide) (by decide);have bC := Cn (u := 2 * a2 - l2) (v := 2 * b2 - l2) (o := !decide (k = 2)) d1.1 d1.2 bd.1 bd.2;have ez := Cn (u := h1 - 2 * a1) (v := h1 - 2 * b1) (o := decide (k = 1)) d2.1 d2.2 bC.1 bC.2;exact Cn d3.1 d3.2 ez.1 ez.2
 generalize bT a1 a2 b1 b2 l1 l2 h1 h2 k = p at *;clear hS dB s1 c1 c2 iH qb key;have m1 : p.t.n * p.f.d ≤ p.t.d * p.f.d := lh he.2 (by omega);have m2 := fD he.1 (by omega : 0 ≤ p.t.d);refine ⟨NE _ _ hs.1 he.1 ?_, NE _ _ hs.2 ?_ he.2⟩
 ·have : p.f.n * p.t.d ≤ p.f.d * p.t.d := by rw [gR p.f.d]; omega
  exact le_mul this hd.2
 ·have : 0 * p.f.d ≤ p.t.n * p.f.d := by omega
  exact le_mul this hd.1
theorem Uo (a1 a2 b1 b2 l1 l2 h1 h2 k : Int) : (q7 a1 a2 b1 b2 l1 l2 h1 h2).any (Bu a1 a2 b1 b2 l1 l2 h1 h2 k) = sB (bT a1 a2 b1 b2 l1 l2 h1 h2 k) := by
 have hd : 0 < (bT a1 a2 b1 b2 l1 l2 h1 h2 k).f.d ∧ 0 < (bT a1 a2 b1 b2 l1 l2 h1 h2 k).t.d := EX ..;rw [lN, tz]
 constructor
 ·rintro ⟨p, hp, ao⟩;rw [JR hd.1 hd.2];have qj := AS hp;exact ⟨p.1, p.2, qj.1, (Bv qj).1 ao⟩
 ·intro aH;have oc := aH;unfold sB at aH;simp only [qL, dx, ca] at aH;rcases uh (bT a1 a2 b1 b2 l1 l2 h1 h2 k).f (bT a1 a2 b1 b2 l1 l2 h1 h2 k).t with ⟨t, c⟩ | ⟨t, c⟩ | ⟨t, c⟩
  ·obtain ⟨m1, m2⟩ := KU a1 a2 b1 b2 l1 l2 h1 h2 k (by omega);have il := (N8 hd.1 hd.2 t).2;obtain ⟨i, hi⟩ := jh m1;obtain ⟨j, ae⟩ := jh m2;have jA := (bF.1 hi).1;have kM := (bF.1 ae).1
   have mF : eW (iF a1 a2 b1 b2 l1 l2 h1 h2) i = ((bT a1 a2 b1 b2 l1 l2 h1 h2 k).f.n, (bT a1 a2 b1 b2 l1 l2 h1 h2 k).f.d) := by
    have := xU jA [];rw [mn, hi] at this;exact (lP this).symm
   have ij : eW (iF a1 a2 b1 b2 l1 l2 h1 h2) j = ((bT a1 a2 b1 b2 l1 l2 h1 h2 k).t.n, (bT a1 a2 b1 b2 l1 l2 h1 h2 k).t.d) := by
    have := xU kM [];rw [mn, ae] at this;exact (lP this).symm
   rcases Nat.lt_trichotomy i j with fg | fg | fg
   ·have hm : pB (eW (iF a1 a2 b1 b2 l1 l2 h1 h2) j) (eW (iF a1 a2 b1 b2 l1 l2 h1 h2) i) ∈ q7 a1 a2 b1 b2 l1 l2 h1 h2 := List.mem_append_right _ (Hh.2 ⟨j, i, kM, fg, rfl⟩);refine ⟨_, hm, (Bv (AS hm)).2 ?_⟩;rw [mF, ij];unfold pB;simp only;unfold Hf Cz at il;rw [Int.add_comm, gR (bT a1 a2 b1 b2 l1 l2 h1 h2 k).t.d];exact il
   ·exfalso;subst fg;rw [mF] at ij;simp only [Prod.mk.injEq] at ij;rw [← ij.1, ← ij.2] at t;omega
   ·have hm : pB (eW (iF a1 a2 b1 b2 l1 l2 h1 h2) i) (eW (iF a1 a2 b1 b2 l1 l2 h1 h2) j) ∈ q7 a1 a2 b1 b2 l1 l2 h1 h2 := List.mem_append_right _ (Hh.2 ⟨i, j, jA, fg, rfl⟩);refine ⟨_, hm, (Bv (AS hm)).2 ?_⟩;rw [mF, ij];exact il
  ·obtain ⟨m1, m2⟩ := KU a1 a2 b1 b2 l1 l2 h1 h2 k (by omega);rcases aH with aH | ⟨⟨_, o1⟩, o2⟩
   ·omega
   ·have hm : ((bT a1 a2 b1 b2 l1 l2 h1 h2 k).f.n, (bT a1 a2 b1 b2 l1 l2 h1 h2 k).f.d) ∈ q7 a1 a2 b1 b2 l1 l2 h1 h2 := List.mem_append_left _ m1;exact ⟨_, hm, (Bv (AS hm)).2 ⟨.inr ⟨o1, rfl⟩, .inr ⟨o2, t⟩⟩⟩
  ·rcases aH with aH | ⟨⟨aH, _⟩, _⟩ <;> omega
theorem ac3 {a1 a2 b1 b2 l1 l2 h1 h2 k : Int} {b9 cT e9 j5 : Bool} (bg : aC ag 27 [aP a1 a2] (bf b9)) (fo : aC ag 27 [aP b1 b2] (bf cT)) (Eb : aC ag 67 [aP l1 l2] (bf e9)) (Ec : aC ag 67 [aP h1 h2] (bf j5))
  (cs : b9 = false ∨ (b9 = true ∧ cT = false) ∨ (b9 = true ∧ cT = true ∧ e9 = false) ∨ (b9 = true ∧ cT = true ∧ e9 = true ∧ j5 = false) ∨ (b9 = true ∧ cT = true ∧ e9 = true ∧ j5 = true ∧ k < 0) ∨ (b9 = true ∧ cT = true ∧ e9 = true ∧ j5 = true ∧ ¬ k < 0 ∧ 2 < k)) :
  aC ag 37 [aP a1 a2, aP b1 b2, aP l1 l2, aP h1 h2, aB k] (bf false) := by
 rcases cs with rfl | ⟨rfl, rfl⟩ | ⟨rfl, rfl, rfl⟩ | ⟨rfl, rfl, rfl, rfl⟩ | ⟨rfl, rfl, rfl, rfl, q1⟩ | ⟨rfl, rfl, rfl, rfl, q1, q2⟩
 all_goals
  refine bi (f := 37) Tryz.func37 rfl rfl rfl rfl ?_;(repeat first | refine ec ?_ | refine gF ?_ | (with_reducible apply cc (c := true)); rfl; rfl; (exact ck (by omega)) | (with_reducible apply cc (c := false)); rfl; rfl; (exact cC (by omega)))
  ((refine ba rfl (a6 rfl aK) ?_))
  exact ah.aQ.refl _
theorem ac1 {a1 a2 b1 b2 l1 l2 h1 h2 k : Int} : aC ag 37 [aP a1 a2, aP b1 b2, aP l1 l2, aP h1 h2, aB k] (bf (rT a1 a2 b1 b2 l1 l2 h1 h2 k)) := by
 unfold rT;cases al : tc a1 a2 b1 b2 l1 l2 h1 h2 k with
 | false =>
  refine ac3 (tq rfl) (tq rfl) (C3 rfl) (C3 rfl) ?_;unfold tc wK at al;cases q1 : b7 a1 a2 with
  | false => exact .inl rfl
  | true =>
   cases q2 : b7 b1 b2 with
   | false => exact .inr (.inl ⟨rfl, rfl⟩)
   | true =>
    cases bE : n7 l1 l2 with
    | false => exact .inr (.inr (.inl ⟨rfl, rfl, rfl⟩))
    | true =>
     cases c4 : n7 h1 h2 with
     | false => exact .inr (.inr (.inr (.inl ⟨rfl, rfl, rfl, rfl⟩)))
     | true =>
      rw [q1, q2, bE, c4] at al;simp only [Bool.and_true, mq, Bool.and_eq_false_iff, jF] at al
      by_cases kP : k < 0
      ·exact .inr (.inr (.inr (.inr (.inl ⟨rfl, rfl, rfl, rfl, kP⟩))))
      ·exact .inr (.inr (.inr (.inr (.inr ⟨rfl, rfl, rfl, rfl, kP, by omega⟩))))
 | true =>
  rw [mq];rw [NX] at al;obtain ⟨tB, tC, zF, zE, Dm⟩ := al;have px := oL.1 tB;have py := oL.1 tC;have uO := vL.1 zF;have bO := vL.1 zE;unfold wK at Dm;simp only [dx, ca] at Dm
  refine ac2 (L := iF a1 a2 b1 b2 l1 l2 h1 h2) (F := q7 a1 a2 b1 b2 l1 l2 h1 h2) (g := Bu a1 a2 b1 b2 l1 l2 h1 h2 k) (tq tB) (tq tC) (C3 zF) (C3 zE) (by omega) (by omega) (oD (by omega) (by omega)) (oD (by omega) (by omega))
   (C4 px.1 py.1 uO.1) (C4 px.1 py.1 bO.1) (C4 px.2 py.2 uO.2) (C4 px.2 py.2 bO.2) ⟨DR _ _ _, DR _ _ _, DR _ _ _, DR _ _ _⟩ rfl rfl (fun i j hi ae => ?_) (fun p hp => ?_) (Uo ..)
  ·obtain ⟨dY, et⟩ := xV tB tC (AX hi);obtain ⟨m1, m2⟩ := xV tB tC (AX (Nat.lt_trans ae hi));exact ⟨PC (dY.up (by omega)) (et.up (by omega)) (m1.up (by omega)) (m2.up (by omega)), PE ((et.mul m2).up (by omega)) ((et.mul m2).up (by omega))⟩
  ·obtain ⟨dY, et⟩ := Up tB tC hp;have t1 : cN 5 (1 : Int) := nJ (by omega) (by omega);have b8 : cN 5 (2 * (b1 - a1)) := nJ (by omega) (by omega);have cp : cN 5 (2 * (b2 - a2)) := nJ (by omega) (by omega);have jo : cN 5 (2 * a1) := nJ (by omega) (by omega);have qX : cN 5 (2 * a2) := nJ (by omega) (by omega);have gU : cN 21 (2 * a1 * p.2) := (jo.mul et).up (by omega);have z2 : cN 21 (p.1 * (2 * (b1 - a1)) * 1) := ((dY.mul b8).mul t1).up (by omega);have z3 : cN 21 (2 * a2 * p.2) := (qX.mul et).up (by omega);have z4 : cN 21 (p.1 * (2 * (b2 - a2)) * 1) := ((dY.mul cp).mul t1).up (by omega);have z5 : cN 16 (1 * p.2) := (t1.mul et).up (by omega);have cr := gU.add z2;have cm := z3.add z4;exact ⟨_, _, _, _, _, _, PB px.1 py.1 (dY.up (by omega)) (et.up (by omega)), PD uO.1 bO.1 (cr.up (by omega)) (z5.up (by omega)), PB px.2 py.2 (dY.up (by omega)) (et.up (by omega)), PD uO.2 bO.2 (cm.up (by omega)) (z5.up (by omega)), rfl⟩
end Go.Proofs.YtbcecodakfejaaaGreat
namespace Go.Proofs.YtbcecodakfejaaaGreat
open Go.ChangeShapes Go.WideShapes Go.ChangeAt Go.RowKit Go.Joins
theorem abE : ownKnob ag.godebug = none := by kernel_rfl
def vT (P : Program) : Nat → TypeId → Bool
 | 0, _ => false
 | d + 1, t => match P.underlying t with
  | some .bool | some (.int _) | some .string => true
  | some (.struct bc) => bc.toList.all fun f => vT P d f.type
  | some (.array _ e) => vT P d e
  | _ => false
theorem mapM_flat {α β : Type} {f g : α → Option (β × List MemPlace)} : ∀ (l : List α) (xs : List (β × List MemPlace)), l.mapM f = some xs → (∀ a ∈ l, ∀ x, f a = some x → x.2 = [] ∧ g a = some (x.1, [])) → xs.flatMap (·.2) = [] ∧ l.mapM g = some xs
 | [], xs, h, _ => by cases h; exact ⟨rfl, rfl⟩
 | a :: l, xs, h, af => by
  rw [List.mapM_cons] at h;cases aH : f a with
  | none => rw [aH] at h; cases h
  | some b =>
   rw [aH] at h;cases hl : l.mapM f with
   | none => rw [hl] at h; cases h
   | some bs =>
    rw [hl] at h;cases h;obtain ⟨h1, h2⟩ := af a (by simp) b aH;obtain ⟨h3, aE⟩ := mapM_flat l bs hl fun a' oc => af a' (by simp [oc]);refine ⟨by simp [h1]; intro a' bK mH; have := List.flatMap_eq_nil_iff.1 h3 _ mH; exact this, ?_⟩;rw [List.mapM_cons, h2, aE];obtain ⟨b1, b2⟩ := b;simp only at h1;subst h1;rfl
section
variable {H : Type} {enc : TypeId × Value → H} {P : Program}
theorem LI : ∀ (d : Nat) (t : TypeId), vT P d t = true → ∀ (eZ : Nat) (w : World) (base : Nat) (sp : Nat → Bool) (held : Bool) (cs : List Value) (x : DataW H × List MemPlace), DataW.trod enc P w base sp held eZ t cs = some x →
  x.2 = [] ∧ ∀ (w' : World) (o5 : Nat) (pO : Nat → Bool) (pn : Bool), DataW.trod enc P w' o5 pO pn eZ t cs = some (x.1, [])
 | 0, _, h, _, _, _, _, _, _, _, _ => by cases h
 | d + 1, t, ap, 0, _, _, _, _, _, _, h => by simp [DataW.trod] at h
 | d + 1, t, ap, eZ + 1, w, base, sp, held, cs, x, h => by
  have bO := fun nT (Yw : vT P d nT = true) => LI d nT Yw eZ;rw [DataW.trod_step] at h;simp only [DataW.trod_step];unfold vT at ap;unfold DataW.trodStep at h ⊢;cases hu : P.underlying t with
  | none => rw [hu] at ap; cases ap
  | some D =>
   rw [hu] at ap h;cases D with
   | bool =>
    match cs, h with
    | [.bool b], h => cases h; exact ⟨rfl, fun _ _ _ _ => rfl⟩
   | int k =>
    match cs, h with
    | [.int k' n], h =>
     simp only at h ⊢
     split at h
     ·rename_i aj; cases h; exact ⟨rfl, fun _ _ _ _ => by rw [if_pos aj]⟩
     ·cases h
   | string =>
    match cs, h with
    | [.string s], h =>
     simp only at h ⊢
     split at h
     ·rename_i aj; cases h; exact ⟨rfl, fun _ _ _ _ => by rw [if_pos aj]⟩
     ·cases h
   | struct bc =>
    simp only at h ⊢ ap
    split at h
    ·rename_i aj;simp only [Option.map_eq_some_iff] at h;obtain ⟨xs, aa, rfl⟩ := h;have dn := cb.1 ap;refine ⟨?_, fun w' o5 pO pn => ?_⟩
     ·exact (mapM_flat (g := fun f => DataW.trod enc P w base sp held eZ f.type ((cs.drop f.offset).take (P.cellsOf f.type))) _ _ aa fun f mJ y ai => ⟨(bO f.type (dn f mJ) w base sp held _ y ai).1, (bO f.type (dn f mJ) w base sp held _ y ai).2 w base sp held⟩).1
     ·have := mapM_flat (g := fun f => DataW.trod enc P w' o5 pO pn eZ f.type ((cs.drop f.offset).take (P.cellsOf f.type))) _ _ aa fun f mJ y ai => ⟨(bO f.type (dn f mJ) w base sp held _ y ai).1, (bO f.type (dn f mJ) w base sp held _ y ai).2 w' o5 pO pn⟩;rw [if_pos aj, this.2];simp only [gC, this.1]
    ·cases h
   | array n e =>
    simp only at h ⊢ ap
    split at h
    ·rename_i aj;simp only [Option.map_eq_some_iff] at h;obtain ⟨xs, aa, rfl⟩ := h;refine ⟨?_, fun w' o5 pO pn => ?_⟩
     ·exact (mapM_flat (g := fun i => DataW.trod enc P w base sp held eZ e ((cs.drop (i * P.cellsOf e)).take (P.cellsOf e))) _ _ aa fun f _ y ai => ⟨(bO e ap w base sp held _ y ai).1, (bO e ap w base sp held _ y ai).2 w base sp held⟩).1
     ·have := mapM_flat (g := fun i => DataW.trod enc P w' o5 pO pn eZ e ((cs.drop (i * P.cellsOf e)).take (P.cellsOf e))) _ _ aa fun f _ y ai => ⟨(bO e ap w base sp held _ y ai).1, (bO e ap w base sp held _ y ai).2 w' o5 pO pn⟩;rw [if_pos aj, this.2];simp only [gC, this.1]
    ·cases h
   | _ => cases ap
theorem LG {d : Nat} {t : TypeId} (ap : vT P d t = true) {w : World} {base : Nat} {sp : Nat → Bool} {held : Bool} {v : Value} {D : DataW H} {p : List MemPlace} (h : DataW.Trod enc P w base sp held t v D p) :
  p = [] ∧ ∀ (w' : World) (o5 : Nat) (pO : Nat → Bool) (pn : Bool), DataW.Trod enc P w' o5 pO pn t v D [] := by
 obtain ⟨eZ, h⟩ := h;obtain ⟨h1, h2⟩ := LI d t ap eZ w base sp held _ _ h;exact ⟨h1, fun w' o5 pO pn => ⟨eZ, h2 w' o5 pO pn⟩⟩
end
section
variable {P : Program} {W : World} {r : Reach} {b : Nat} {t : TypeId} {v : Value}
theorem O1 {k : IntKind} (hu : P.underlying t = some (.int k)) (h : Cell.okWide P W r b t v) : ∃ n, v = .int k n ∧ k.min ≤ n ∧ n ≤ k.max := by
 unfold Cell.okWide Cell.ok at h;rw [hu] at h;cases v <;> simp only at h;rename_i k' n;obtain ⟨rfl, h⟩ := h;exact ⟨n, rfl, by simpa [IntKind.has] using h⟩
theorem O2 {D : TypeDesc} (hu : P.underlying t = some D) (hs : ∀ bc, D ≠ .struct bc) (aH : ∀ n e, D ≠ .array n e) (h : Value.okWide P W r b t v) : Cell.okWide P W r b t v := by
 unfold Value.okWide at h;rw [hu] at h;cases D <;> first | exact h | exact absurd rfl (hs _) | exact absurd rfl (aH _ _)
end
end Go.Proofs.YtbcecodakfejaaaGreat
namespace Go.Proofs.YtbcecodakfejaaaGreat
open Go.RowKit
def S0 (k : Int) (r : Nat) (m : Nat) (aL : List (Nat × ah)) (bj : List (Nat × List AC)) : Prop :=
 ∃ (i : Nat) (v j : Int), i ≤ r ∧ m = r - i ∧ v = 2 ^ i ∧ j = i ∧ bj = [] ∧ aL = [(0, aB k), (3, aB v), (4, aB j)]
theorem ady {i r : Nat} (h : i ≤ r) (al : r ≤ 28) : (0 : Int) < 2 ^ i ∧ (2 : Int) ^ i ≤ 268435456 := by
 have := zv (r := i) (by omega);omega
theorem acf {k : Int} {r : Nat} (h : fS k r) : aC ag 36 [aB k] (aB (2 ^ r)) := by
 have aU := HH h;have al := h.1;clear h;refine bi (f := 36) Tryz.func36 rfl rfl rfl rfl ?_;(refine fl ?_);refine sD 14 (S0 k r) r _ [] ⟨0, 1, 0, dA _, rfl, rfl, rfl, rfl, rfl⟩ rfl ⟨rfl, rfl, rfl, trivial⟩ trivial rfl ?_;rintro m aL bj ⟨i, v, j, hi, rfl, hv, ae, rfl, rfl⟩ c3;clear c3
 by_cases q : i < r
 ·have cd : j < r := by omega
  have aN : 2 * v = 2 ^ (i + 1) := by rw [hv, nb, gR]
  obtain ⟨fN, b1⟩ := ady hi al;rw [← hv] at fN b1;have iM : (0 : Int) ≤ j ∧ j ≤ 28 := by omega
  clear hv;(refine bZ ?_);exact ⟨r - (i + 1), _, [], by omega, ⟨i + 1, 2 * v, j + 1, by omega, rfl, aN, by omega, rfl, rfl⟩, rfl, ⟨rfl, rfl, rfl, trivial⟩, trivial, rfl⟩
 ·have cd : ¬ j < r := by omega
  have e : i = r := by omega
  rw [e] at hv;clear hi q e;(refine bZ ?_)
  ((refine ba rfl (a6 rfl aK) ?_))
  exact ah.aQ.of_eq (by rw [hv]; rfl)
theorem WA {P v : Int} (dV : 0 < P) : 2 * ((2 * v + P) / (2 * P) * P) ≤ 2 * v + P ∧ 2 * v + P < 2 * ((2 * v + P) / (2 * P) * P) + 2 * P := by
 have h1 := pK (2 * v + P) (2 * P);have h2 := nP (2 * v + P) (show 2 * P ≠ 0 by omega);have h3 := na (2 * v + P) (show 0 < 2 * P by omega);have e : 2 * P * ((2 * v + P) / (2 * P)) = 2 * ((2 * v + P) / (2 * P) * P) := by rw [jl, gR P]
 omega
theorem yv {a1 a2 b1 b2 q1 q2 : Int} {r : Nat} (al : r ≤ 28) : nA a1 a2 b1 b2 q1 q2 r = true ↔ er r q1 q2 = true ∧ rT a1 a2 b1 b2 (2 * (2 ^ r * q1) - 2 ^ r) (2 * (2 ^ r * q2) - 2 ^ r) (2 * (2 ^ r * q1) + 2 ^ r) (2 * (2 ^ r * q2) + 2 ^ r) 0 = true := by
 unfold nA;have g1 : decide ((0 : Int) ≤ (r : Int)) = true := ck (by omega);have g2 : decide ((r : Int) ≤ 28) = true := ck (by omega);rw [g1, g2, ks, Bool.and_self, mq, dx]
section
variable {P : Program} {ops : Array Oper} {s : az} {d ty : Nat} {pos : String} {after : Array Edge} {guard : Option (Nat × Bool)} {K : az → Prop} {rest : List Oper}
end
theorem Pg {a1 a2 b1 b2 q1 q2 k r : Int} {i : Bool} (nk : aC ag 25 [aB k] (aB r)) (iZ : aC ag 35 [aP q1 q2, aB k] (bf i)) (cs : ¬ k = r ∨ (k = r ∧ i = false)) : aC ag 12 [aP a1 a2, aP b1 b2, aP q1 q2, aB k] (bf false) := by
 rcases cs with c1 | ⟨c1, rfl⟩
 ·have e : (!decide (k = r)) = true := by simp [c1]
  refine bi (f := 12) Tryz.func12 rfl rfl rfl rfl ?_;(repeat first | refine ec ?_ | refine gF ?_ | (with_reducible apply cc (c := true)); rfl; rfl; (assumption))
  ((refine ba rfl (a6 rfl aK) ?_))
  exact ah.aQ.refl _
 ·have e : (!decide (k = r)) = false := by simp [c1]
  refine bi (f := 12) Tryz.func12 rfl rfl rfl rfl ?_;(repeat first | refine ec ?_ | refine gF ?_ | (with_reducible apply cc (c := false)); rfl; rfl; (assumption))
  ((refine ba rfl (a6 rfl aK) ?_))
  exact ah.aQ.refl _
theorem abV {a1 a2 b1 b2 q1 q2 k S X Y : Int} {u : Bool} (nk : aC ag 25 [aB k] (aB k)) (iZ : aC ag 35 [aP q1 q2, aB k] (bf true)) (Z : aC ag 36 [aB k] (aB S))
  (agI : 0 ≤ S ∧ S ≤ 300000000) (agJ : -1000000000 ≤ X ∧ X ≤ 1000000000) (agK : -1000000000 ≤ Y ∧ Y ≤ 1000000000) (aiu : IntKind.i64.wrap (2 * S * q1) = X) (aiv : IntKind.i64.wrap (2 * S * q2) = Y)
  (M : aC ag 37 [aP a1 a2, aP b1 b2, aP (X - S) (Y - S), aP (X - S + 2 * S) (Y - S + 2 * S), aB 0] (bf u)) : aC ag 12 [aP a1 a2, aP b1 b2, aP q1 q2, aB k] (bf u) := by
 have e : (!decide (k = k)) = false := by simp
 refine bi (f := 12) Tryz.func12 rfl rfl rfl rfl ?_;(repeat first | refine ec ?_ | refine gF ?_ | (with_reducible apply cc (c := false)); rfl; rfl; (assumption))
 ((refine ba rfl (a6 rfl aK) ?_))
 exact ah.aQ.refl _
theorem abU {a1 a2 b1 b2 q1 q2 k : Int} (af : -9223372036854775808 ≤ k ∧ k ≤ 9223372036854775807) (aa : -9223372036854775808 ≤ q1 ∧ q1 ≤ 9223372036854775807) (ai : -9223372036854775808 ≤ q2 ∧ q2 ≤ 9223372036854775807) : aC ag 12 [aP a1 a2, aP b1 b2, aP q1 q2, aB k] (bf (nA a1 a2 b1 b2 q1 q2 k)) := by
 obtain ⟨r, al⟩ := Ni k;have nk := HH al;have iZ := ac0 (x := q1) (y := q2) al (by omega) (by omega) (by omega) (by omega) rfl
 by_cases c1 : k = r
 ·subst c1;have Gx : r ≤ 28 := al.1;cases hi : er r q1 q2 with
  | false =>
   rw [hi] at iZ
   rw [show nA a1 a2 b1 b2 q1 q2 r = false by
    cases h : nA a1 a2 b1 b2 q1 q2 r with
    | false => rfl
    | true => rw [yv Gx, hi] at h; cases h.1]
   exact Pg nk iZ (.inr ⟨rfl, rfl⟩)
  | true =>
   rw [hi] at iZ;have abH := zv Gx;have j := (wI r q1 q2).1 hi;have M := ac1 (a1 := a1) (a2 := a2) (b1 := b1) (b2 := b2) (l1 := 2 * (2 ^ r * q1) - 2 ^ r) (l2 := 2 * (2 ^ r * q2) - 2 ^ r) (h1 := 2 * (2 ^ r * q1) + 2 ^ r) (h2 := 2 * (2 ^ r * q2) + 2 ^ r) (k := 0)
   have aF : nA a1 a2 b1 b2 q1 q2 r = rT a1 a2 b1 b2 (2 * (2 ^ r * q1) - 2 ^ r) (2 * (2 ^ r * q2) - 2 ^ r) (2 * (2 ^ r * q1) + 2 ^ r) (2 * (2 ^ r * q2) + 2 ^ r) 0 := by
    rw [lN, yv Gx];exact ⟨fun h => h.2, fun h => ⟨hi, h⟩⟩
   rw [aF];have Z := acf al;have aN : (2 : Int) * 2 ^ r * q1 = 2 * (2 ^ r * q1) := jl _ _ _;have b5 : (2 : Int) * 2 ^ r * q2 = 2 * (2 ^ r * q2) := jl _ _ _;refine abV (X := 2 * (2 ^ r * q1)) (Y := 2 * (2 ^ r * q2)) nk iZ Z (by omega) (by omega) (by omega) (by rw [aN]; exact la (by omega)) (by rw [b5]; exact la (by omega)) ?_;rw [show 2 * (2 ^ r * q1) - 2 ^ r + 2 * 2 ^ r = 2 * (2 ^ r * q1) + 2 ^ r by omega, show 2 * (2 ^ r * q2) - 2 ^ r + 2 * 2 ^ r = 2 * (2 ^ r * q2) + 2 ^ r by omega];exact M
 ·have : nA a1 a2 b1 b2 q1 q2 k = false := by
   unfold nA
   have : (decide (0 ≤ k) && decide (k ≤ 28)) = false := by
    rw [Bool.and_eq_false_iff, jF, jF];unfold fS at al;omega
   rw [this]; rfl
  rw [this];exact Pg nk iZ (.inl c1)
def qB (a1 a2 b1 b2 k : Int) (p : an) : Bool := nA a1 a2 b1 b2 p.1 p.2 k
end Go.Proofs.YtbcecodakfejaaaGreat
namespace Go.Proofs.YtbcecodakfejaaaGreat
def rX (a b x yb t : Rat) : Prop := -yb ≤ 2 * a + t * (2 * (b - a)) - x ∧ 2 * a + t * (2 * (b - a)) - x ≤ yb
def mV (S p q x u : Rat) : Prop := 2 * (S * x) - S ≤ 2 * (S * p + u * (S * q - S * p)) ∧ 2 * (S * p + u * (S * q - S * p)) < 2 * (S * x) + S
theorem OL {a b p q x S d t1 t2 u : Rat} (h1 : rX a b (2 * (S * p)) (d * S) t1) (h2 : rX a b (2 * (S * q)) (d * S) t2) (j9 : 0 ≤ u) (cr : u ≤ 1) (hm : mV S p q x u) : rX a b (2 * (S * x)) ((d + 1) * S) (t1 + u * (t2 - t1)) := by
 obtain ⟨a1, a2⟩ := h1;obtain ⟨b1, b2⟩ := h2;obtain ⟨m1, m2⟩ := hm;have v0 : 0 ≤ 1 - u := by grind
 have bd := j4 v0 (show 0 ≤ 2 * a + t1 * (2 * (b - a)) - 2 * (S * p) + d * S by grind);have bC := j4 v0 (show 0 ≤ d * S - (2 * a + t1 * (2 * (b - a)) - 2 * (S * p)) by grind);have ez := j4 j9 (show 0 ≤ 2 * a + t2 * (2 * (b - a)) - 2 * (S * q) + d * S by grind);have jz := j4 j9 (show 0 ≤ d * S - (2 * a + t2 * (2 * (b - a)) - 2 * (S * q)) by grind)
 constructor
 ·grind
 ·grind
theorem OM {a b x f g t : Rat} (wk : f ≤ g) (h : rX a b x f t) : rX a b x g t := by
 obtain ⟨h1, h2⟩ := h
 constructor <;> grind
abbrev bk (n : Int) : Rat := (n : Rat)
def wS (a1 a2 b1 b2 S : Int) (yb t : Rat) (v : an) : Prop := rX (bk a1) (bk b1) (2 * (bk S * bk v.1)) yb t ∧ rX (bk a2) (bk b2) (2 * (bk S * bk v.2)) yb t
def pX (S : Int) (p q : an) (u : Rat) (x : an) : Prop := (0 ≤ u ∧ u ≤ 1) ∧ mV (bk S) (bk p.1) (bk q.1) (bk x.1) u ∧ mV (bk S) (bk p.2) (bk q.2) (bk x.2) u
theorem abd {a1 a2 b1 b2 S : Int} {d t1 t2 u : Rat} {p q x : an} (h1 : wS a1 a2 b1 b2 S (d * bk S) t1 p) (h2 : wS a1 a2 b1 b2 S (d * bk S) t2 q) (hm : pX S p q u x) : wS a1 a2 b1 b2 S ((d + 1) * bk S) (t1 + u * (t2 - t1)) x :=
 ⟨OL h1.1 h2.1 hm.1.1 hm.1.2 hm.2.1, OL h1.2 h2.2 hm.1.1 hm.1.2 hm.2.2⟩
theorem abe {a1 a2 b1 b2 S : Int} {f g t : Rat} {v : an} (wk : f ≤ g) (h : wS a1 a2 b1 b2 S f t v) : wS a1 a2 b1 b2 S g t v := ⟨OM wk h.1, OM wk h.2⟩
theorem qM {a b : Int} : bk a ≤ bk b ↔ a ≤ b := Rat.intCast_le_intCast
theorem H4 {a b : Int} : bk a < bk b ↔ a < b := Rat.intCast_lt_intCast
theorem pM {a : Int} (h : 0 < a) : 0 < bk a := by have := H4.2 h; simpa [bk] using this
theorem De {a b : Int} (h : a < b) : bk a + 1 ≤ bk b := by
 have := qM.2 (show a + 1 ≤ b from h);simpa [bk, r6] using this
theorem Og {S p q x y : Int} {u w : Rat} (hS : 0 < S) (aa : mV (bk S) (bk p) (bk q) (bk x) u) (ai : mV (bk S) (bk p) (bk q) (bk y) w) (h0 : x < y) (hW : p ≤ q) : u ≤ w := by
 have dB := pM hS;obtain ⟨b8, cp⟩ := aa;obtain ⟨jo, qX⟩ := ai;have h1 := De h0;have h2 := qM.2 hW;have bd := j4 (Rat.le_of_lt dB) (show 0 ≤ bk y - (bk x + 1) by grind);refine Rat.not_lt.1 fun YJ => ?_;have bC := j4 (show 0 ≤ u - w by grind) (j4 (Rat.le_of_lt dB) (show 0 ≤ bk q - bk p by grind));grind
theorem Of {S p q x y : Int} {u w : Rat} (hS : 0 < S) (aa : mV (bk S) (bk p) (bk q) (bk x) u) (ai : mV (bk S) (bk p) (bk q) (bk y) w) (h0 : y < x) (hW : q ≤ p) : u ≤ w := by
 have dB := pM hS;obtain ⟨b8, cp⟩ := aa;obtain ⟨jo, qX⟩ := ai;have h1 := De h0;have h2 := qM.2 hW;have bd := j4 (Rat.le_of_lt dB) (show 0 ≤ bk x - (bk y + 1) by grind);refine Rat.not_lt.1 fun YJ => ?_;have bC := j4 (show 0 ≤ u - w by grind) (j4 (Rat.le_of_lt dB) (show 0 ≤ bk p - bk q by grind));grind
theorem CD {S p q x y : Int} {u w : Rat} (hS : 0 < S) (aa : mV (bk S) (bk p) (bk q) (bk x) u) (ai : mV (bk S) (bk p) (bk q) (bk y) w) (rI : u ≤ w) (hW : p ≤ q) : x ≤ y := by
 have dB := pM hS;obtain ⟨b8, cp⟩ := aa;obtain ⟨jo, qX⟩ := ai;refine Int.not_lt.1 fun GP => ?_;have h1 := De GP;have h2 := qM.2 hW;have bd := j4 (Rat.le_of_lt dB) (show 0 ≤ bk x - (bk y + 1) by grind);have bC := j4 (show 0 ≤ w - u by grind) (j4 (Rat.le_of_lt dB) (show 0 ≤ bk q - bk p by grind));grind
theorem CC {S p q x y : Int} {u w : Rat} (hS : 0 < S) (aa : mV (bk S) (bk p) (bk q) (bk x) u) (ai : mV (bk S) (bk p) (bk q) (bk y) w) (rI : u ≤ w) (hW : q ≤ p) : y ≤ x := by
 have dB := pM hS;obtain ⟨b8, cp⟩ := aa;obtain ⟨jo, qX⟩ := ai;refine Int.not_lt.1 fun GP => ?_;have h1 := De GP;have h2 := qM.2 hW;have bd := j4 (Rat.le_of_lt dB) (show 0 ≤ bk y - (bk x + 1) by grind);have bC := j4 (show 0 ≤ w - u by grind) (j4 (Rat.le_of_lt dB) (show 0 ≤ bk p - bk q by grind));grind
theorem Od {S p q : Int} (hS : 0 < S) : mV (bk S) (bk p) (bk q) (bk p) 0 := by
 have dB := pM hS
 constructor <;> grind
theorem Oe {S p q : Int} (hS : 0 < S) : mV (bk S) (bk p) (bk q) (bk q) 1 := by
 have dB := pM hS
 constructor <;> grind
theorem CB {S p q x : Int} {u : Rat} (hS : 0 < S) (aA : 0 ≤ u) (h1 : u ≤ 1) (aa : mV (bk S) (bk p) (bk q) (bk x) u) : (p ≤ q → p ≤ x ∧ x ≤ q) ∧ (q ≤ p → q ≤ x ∧ x ≤ p) :=
 ⟨fun h => ⟨CD hS (Od hS) aa aA h, CD hS aa (Oe hS) h1 h⟩, fun h => ⟨CC hS aa (Oe hS) h1 h, CC hS (Od hS) aa aA h⟩⟩
theorem N6 {S : Int} {p q x y : an} {u w : Rat} (hS : 0 < S) (aa : pX S p q u x) (ai : pX S p q w y) (h : dy (decide (S * q.1 < S * p.1)) (decide (S * q.2 < S * p.2)) x y = true) : u ≤ w := by
 have aF : (S * q.1 < S * p.1) ↔ q.1 < p.1 := ⟨fun h => Int.lt_of_mul_lt_mul_left h (by omega), fun h => Int.mul_lt_mul_of_pos_left h hS⟩;have aN : (S * q.2 < S * p.2) ↔ q.2 < p.2 := ⟨fun h => Int.lt_of_mul_lt_mul_left h (by omega), fun h => Int.mul_lt_mul_of_pos_left h hS⟩;rw [xN] at h;simp only [ca, aF, aN] at h;rcases h with h | ⟨he, h⟩
 ·by_cases g : q.1 < p.1
  ·rw [if_pos g] at h; exact Of hS aa.2.1 ai.2.1 h (by omega)
  ·rw [if_neg g] at h; exact Og hS aa.2.1 ai.2.1 h (by omega)
 ·by_cases g : q.2 < p.2
  ·rw [if_pos g] at h; exact Of hS aa.2.2 ai.2.2 h (by omega)
  ·rw [if_neg g] at h; exact Og hS aa.2.2 ai.2.2 h (by omega)
theorem X7 {a b l n d u : Rat} (d0 : 0 < d) (hu : u * d = n) (h : 0 ≤ (2 * a - l) * (d - n) + (2 * b - l) * n) : l ≤ 2 * (a + u * (b - a)) := by
 subst hu;refine Rat.not_lt.1 fun a8 => ?_;have k := Rat.mul_pos d0 (show 0 < l - 2 * (a + u * (b - a)) by grind);grind
theorem X8 {a b l n d u : Rat} (d0 : 0 < d) (hu : u * d = n) (h : 0 < (l - 2 * a) * (d - n) + (l - 2 * b) * n) : 2 * (a + u * (b - a)) < l := by
 subst hu;refine Rat.not_le.1 fun a8 => ?_;have k := j4 (Rat.le_of_lt d0) (show 0 ≤ 2 * (a + u * (b - a)) - l by grind);grind
theorem Dd {n d : Int} (hd : 0 < d) : bk n / bk d * bk d = bk n := Rat.div_mul_cancel (by have := pM hd; grind)
theorem ME {a b l : Int} {n d : Int} (hd : 0 < d) (h : ic (2 * a - l) (2 * b - l) true n d) : bk l ≤ 2 * (bk a + bk n / bk d * (bk b - bk a)) := by
 have h1 : 0 ≤ (2 * a - l) * (d - n) + (2 * b - l) * n := by rcases h with h | ⟨_, h⟩ <;> omega
 refine X7 (pM hd) (Dd hd) ?_;have := qM.2 h1;simpa [bk, r6, Rat.intCast_mul, Rat.intCast_sub] using this
theorem MF {a b l : Int} {n d : Int} (hd : 0 < d) (h : ic (l - 2 * a) (l - 2 * b) false n d) : 2 * (bk a + bk n / bk d * (bk b - bk a)) < bk l := by
 have h1 : 0 < (l - 2 * a) * (d - n) + (l - 2 * b) * n := by
  rcases h with h | ⟨h, _⟩
  ·exact h
  ·cases h
 refine X8 (pM hd) (Dd hd) ?_;have := H4.2 h1;simpa [bk, r6, Rat.intCast_mul, Rat.intCast_sub] using this
theorem aas {r : Nat} (al : r ≤ 28) {p q x : an} (h : qB (2 ^ r * p.1) (2 ^ r * p.2) (2 ^ r * q.1) (2 ^ r * q.2) r x = true) : er r x.1 x.2 = true ∧ ∃ u, pX (2 ^ r) p q u x := by
 unfold qB at h;rw [yv al] at h;refine ⟨h.1, ?_⟩;obtain ⟨_, n, d, hd, ⟨yB, uF⟩, g1, g2, g3, g4⟩ := Hd.1 h.2;have d0 := pM hd;refine ⟨bk n / bk d, ⟨?_, ?_⟩, ⟨?_, ?_⟩, ?_, ?_⟩
 ·refine Rat.not_lt.1 fun a8 => ?_;have k := Rat.mul_pos d0 (show 0 < -(bk n / bk d) by grind);have e := Dd (n := n) hd;have fJ := qM.2 yB;have z : bk 0 = 0 := by simp [bk]
  rw [z] at fJ;generalize bk n / bk d = u at *;grind
 ·refine Rat.not_lt.1 fun a8 => ?_;have k := Rat.mul_pos d0 (show 0 < bk n / bk d - 1 by grind);have e := Dd (n := n) hd;have dY := qM.2 uF;generalize bk n / bk d = u at *;grind
 ·have := ME hd g1;simpa [bk, r6, Rat.intCast_mul, Rat.intCast_sub] using this
 ·have := MF hd g3;simpa [bk, r6, Rat.intCast_mul, Rat.intCast_sub] using this
 ·have := ME hd g2;simpa [bk, r6, Rat.intCast_mul, Rat.intCast_sub] using this
 ·have := MF hd g4;simpa [bk, r6, Rat.intCast_mul, Rat.intCast_sub] using this
def pb (p q : an) (out : List an) (x : an) : List an := if x ≠ p ∧ x ≠ q ∧ out.getLast? ≠ some x then out ++ [x] else out
def KZ (p q : an) (l : List an) : List an := l.foldl (pb p q) []
theorem Ng {fx fy : Bool} {q : an} : ∀ {l : List an}, l.Pairwise (fun a b => dy fx fy b a = false) → (lF fx fy q l).Pairwise fun a b => dy fx fy b a = false
 | [], _ => by unfold lF; simp
 | p :: l, h => by
  have aj := iV.1 h;unfold lF
  split
  ·rename_i ak;refine iV.2 ⟨fun r al => ?_, h⟩;rcases fQ.1 al with rfl | al
   ·exact Jy ak
   ·cases aR : dy fx fy r q with
    | false => rfl
    | true => have := aj.1 r al; rw [xO aR ak] at this; cases this
  ·rename_i ak;refine iV.2 ⟨fun r al => ?_, Ng aj.2⟩;rcases fQ.1 ((y3 fx fy q l).mem_iff.1 al) with rfl | al
   ·simpa using ak
   ·exact aj.1 r al
theorem afo (fx fy : Bool) (f : an → Bool) (l : List an) : (qS fx fy f l).Pairwise fun a b => dy fx fy b a = false := by
 have key : ∀ (l out : List an), out.Pairwise (fun a b => dy fx fy b a = false) → (l.foldl (fun out q => if f q then lF fx fy q out else out) out).Pairwise fun a b => dy fx fy b a = false := by
  intro l
  induction l with
  | nil => intro out h; exact h
  | cons q l bO =>
   intro out h;rw [List.foldl_cons];refine bO _ ?_
   split
   ·exact Ng h
   ·exact h
 exact key l [] .nil
theorem E0 {fx fy : Bool} {p q : an} : ∀ (l out : List an), jN fx fy out → (∀ a ∈ out, ∀ b ∈ l, dy fx fy b a = false) → l.Pairwise (fun a b => dy fx fy b a = false) → jN fx fy (l.foldl (pb p q) out) ∧ (∀ x ∈ l.foldl (pb p q) out, x ∈ out ∨ (x ∈ l ∧ x ≠ p ∧ x ≠ q)) ∧ (l.foldl (pb p q) out).length ≤ out.length + l.length
 | [], out, h, _, _ => ⟨h, fun x aa => .inl aa, dl _⟩
 | x :: l, out, h, hw, hl => by
  have aj := iV.1 hl;rw [List.foldl_cons]
  by_cases aa : x ≠ p ∧ x ≠ q ∧ out.getLast? ≠ some x
  ·have e : pb p q out x = out ++ [x] := by unfold pb; rw [if_pos aa]
   rw [e]
   have aH : jN fx fy (out ++ [x]) := by
    unfold jN;rw [List.pairwise_append];refine ⟨h, List.pairwise_singleton _ _, fun a aH b ab => ?_⟩;rw [ix] at ab;subst ab;have h1 := hw a aH b (kr ..)
    by_cases mH : a = b
    ·subst mH;rcases List.eq_nil_or_concat out with aA | ⟨eM, z, aA⟩
     ·subst aA; cases aH
     ·rw [List.concat_eq_append] at aA;subst aA;have aI : z ≠ a := fun aR => aa.2.2 (by rw [aR]; simp)
      have oc : a ∈ eM := by
       rcases iU.1 aH with aJ | aJ
       ·exact aJ
       ·exact absurd (ix.1 aJ).symm aI
      have h2 := (List.pairwise_append.1 h).2.2 a oc z (ix.2 rfl);have h3 := hw z (by simp) a (kr ..);rw [h2] at h3; cases h3
    ·exact (Ez mH).resolve_right (by rw [h1]; decide)
   obtain ⟨g1, g2, g3⟩ := E0 l (out ++ [x]) aH (fun a oc b ab => by
    rcases iU.1 oc with aJ | aJ
    ·exact hw a aJ b (nL _ ab)
    ·rw [ix.1 aJ]; exact aj.1 b ab) aj.2
   refine ⟨g1, fun y ai => ?_, by rw [cx, List.length_singleton] at g3; simp only [jZ]; omega⟩;rcases g2 y ai with aJ | aJ
   ·rcases iU.1 aJ with aJ | aJ
    ·exact .inl aJ
    ·rw [ix.1 aJ]; exact .inr ⟨kr .., aa.1, aa.2.1⟩
   ·exact .inr ⟨nL _ aJ.1, aJ.2⟩
  ·have e : pb p q out x = out := by unfold pb; rw [if_neg aa]
   rw [e];obtain ⟨g1, g2, g3⟩ := E0 l out h (fun a oc b ab => hw a oc b (nL _ ab)) aj.2;refine ⟨g1, fun y ai => ?_, by simp only [jZ]; omega⟩;rcases g2 y ai with aJ | aJ
   ·exact .inl aJ
   ·exact .inr ⟨nL _ aJ.1, aJ.2⟩
def q9 (r : Nat) (l : List an) (p q : an) : List an := KZ p q (qS (decide ((2 : Int) ^ r * q.1 < 2 ^ r * p.1)) (decide ((2 : Int) ^ r * q.2 < 2 ^ r * p.2)) (qB (2 ^ r * p.1) (2 ^ r * p.2) (2 ^ r * q.1) (2 ^ r * q.2) r) l)
theorem AW {r : Nat} (al : r ≤ 28) (l : List an) (p q : an) : jN (decide ((2 : Int) ^ r * q.1 < 2 ^ r * p.1)) (decide ((2 : Int) ^ r * q.2 < 2 ^ r * p.2)) (q9 r l p q) ∧ (∀ x ∈ q9 r l p q, (x ≠ p ∧ x ≠ q) ∧ er r x.1 x.2 = true ∧ ∃ u, pX (2 ^ r) p q u x) ∧ (q9 r l p q).length ≤ l.length := by
 obtain ⟨g1, g2, g3⟩ := E0 (p := p) (q := q) _ [] (List.Pairwise.nil : jN (decide ((2 : Int) ^ r * q.1 < 2 ^ r * p.1)) (decide ((2 : Int) ^ r * q.2 < 2 ^ r * p.2)) []) (fun a aH => by cases aH) (afo _ _ (qB (2 ^ r * p.1) (2 ^ r * p.2) (2 ^ r * q.1) (2 ^ r * q.2) r) l);refine ⟨g1, fun x aa => ?_, ?_⟩
 ·rcases g2 x aa with h | ⟨h1, h2⟩
  ·cases h
  ·have h3 := (List.mem_filter.1 ((DA _ _ _ l).mem_iff.1 h1)).2;exact ⟨h2, aas al h3⟩
 ·refine h8 g3 ?_;rw [List.length_nil, jj];exact afn _ _ _ l
def hR (R : an → an → Prop) : List an → Prop
 | p :: q :: W => R p q ∧ hR R (q :: W)
 | _ => True
theorem ET {R : an → an → Prop} : ∀ {l : List an}, l.Pairwise R → hR R l
 | [], _ => trivial
 | [_], _ => trivial
 | p :: q :: W, h => by
  have aj := iV.1 h;exact ⟨aj.1 q (kr ..), ET aj.2⟩
theorem ES {R : an → an → Prop} {q : an} {W : List an} : ∀ {A : List an}, hR R (A ++ [q]) → hR R (q :: W) → hR R (A ++ q :: W)
 | [], _, h => h
 | [a], h, aJ => ⟨h.1, aJ⟩
 | a :: b :: A, h, aJ => ⟨h.1, ES (A := b :: A) h.2 aJ⟩
theorem AY {r : Nat} (al : r ≤ 28) (l : List an) (p q : an) {R : an → an → Prop} (aA : R p q) (h1 : ∀ x, (∃ u, pX (2 ^ r) p q u x) → R p x ∧ R x q) (h2 : ∀ x y u w, pX (2 ^ r) p q u x → pX (2 ^ r) p q w y → u ≤ w → R x y) : hR R (p :: (q9 r l p q ++ [q])) := by
 obtain ⟨s1, s2, _⟩ := AW al l p q;have hS : (0 : Int) < 2 ^ r := hr (by decide);refine ET (iV.2 ⟨fun x aa => ?_, List.pairwise_append.2 ⟨s1.imp_of_mem fun {x y} aa ai h0 => ?_, List.pairwise_singleton _ _, fun x aa y ai => ?_⟩⟩)
 ·rcases iU.1 aa with aa | aa
  ·exact (h1 x (s2 x aa).2.2).1
  ·rw [ix.1 aa]; exact aA
 ·obtain ⟨u, hu⟩ := (s2 x aa).2.2;obtain ⟨w, hw⟩ := (s2 y ai).2.2;exact h2 x y u w hu hw (N6 hS hu hw h0)
 ·rw [ix.1 ai]; exact (h1 x (s2 x aa).2.2).2
theorem Uw {r : Nat} (al : r ≤ 28) (l : List an) (p q : an) (h : p ≠ q) : hR (· ≠ ·) (p :: (q9 r l p q ++ [q])) := by
 obtain ⟨s1, s2, _⟩ := AW al l p q;refine ET (iV.2 ⟨fun x aa => ?_, List.pairwise_append.2 ⟨s1.imp fun {x y} h0 e => ?_, List.pairwise_singleton _ _, fun x aa y ai => ?_⟩⟩)
 ·rcases iU.1 aa with aa | aa
  ·exact fun e => (s2 x aa).1.1 e.symm
  ·rw [ix.1 aa]; exact h
 ·subst e; rw [Jz] at h0; cases h0
 ·rw [ix.1 ai]; exact (s2 x aa).1.2
def DB (V : List an) (j : Nat) (l : List an) : List an := V.take (j + 1) ++ l ++ V.drop (j + 1)
def zU (D : List Int) (j : Nat) (n : Nat) : List Int := D.take j ++ List.replicate (n + 1) (D.getD j 0 + 1) ++ D.drop (j + 1)
theorem VB {V : List an} {j : Nat} {p q : an} (hp : V[j]? = some p) (ak : V[j + 1]? = some q) : V.drop j = p :: q :: V.drop (j + 2) := by
 obtain ⟨h1, aF⟩ := bF.1 hp;obtain ⟨h2, aN⟩ := bF.1 ak;rw [ml h1, aF, ml h2, aN]
end Go.Proofs.YtbcecodakfejaaaGreat
namespace Go.Proofs.YtbcecodakfejaaaGreat
open Go.RowKit
def oF (a b c d : Int) : Int := if dI a b c d = true then 0 else if a < c ∨ (a = c ∧ b < d) then -1 else 1
theorem acY {a b c d : Int} : aC ag 163 [aP a b, aP c d] (aB (oF a b c d)) := by
 have cs : (dI a b c d = true ∧ oF a b c d = 0) ∨ (dI a b c d = false ∧ a < c ∧ oF a b c d = -1) ∨ (dI a b c d = false ∧ ¬ a < c ∧ a = c ∧ b < d ∧ oF a b c d = -1) ∨ (dI a b c d = false ∧ ¬ a < c ∧ a = c ∧ ¬ b < d ∧ oF a b c d = 1) ∨ (dI a b c d = false ∧ ¬ a < c ∧ ¬ a = c ∧ oF a b c d = 1) := by
  unfold oF;cases h : dI a b c d with
  | true => simp
  | false =>
   by_cases h1 : a < c <;> by_cases h2 : a = c <;> by_cases h3 : b < d <;> simp [h1, h2, h3] <;> omega
 rcases cs with ⟨h1, h⟩ | ⟨h1, h2, h⟩ | ⟨h1, h2, h3, aE, h⟩ | ⟨h1, h2, h3, aE, h⟩ | ⟨h1, h2, h3, h⟩ <;> rw [h] <;> clear h
 all_goals
  refine bi (f := 163) Tryz.func163 rfl rfl rfl rfl ?_;(repeat first | refine ec ?_ | (with_reducible apply cc (c := true)); rfl; rfl; (exact ck (by omega)) | (with_reducible apply cc (c := false)); rfl; rfl; (exact cC (by omega)))
  ((refine ba rfl (a6 rfl aK) ?_))
  exact ah.aQ.refl _
theorem PN {n m : Int} (aA : -9223372036854775808 ≤ n) (h1 : n < 9223372036854775808) (fX : -9223372036854775808 ≤ m) (bd : m < 9223372036854775808) : aC ag 150 [aB n, aB m] (fL (n * m)) := by
 have aU := tr aA h1;have bD := tr fX bd;have eg := ab4 (Bo aA h1) (Bo fX bd);rw [vm (afK aA h1 fX bd)] at eg;clear aA h1 fX bd;refine bi (f := 150) Tryz.func150 rfl rfl rfl rfl ?_;(refine bZ ?_)
 ((refine ba rfl (cL rfl rfl rfl aK) ?_))
 exact ah.aQ.refl _
theorem V7 (a b c d a' bK c' d' : Int) (W : World) : (Op.equalIn 10000 181 (.agg #[.int .i64 a, .int .i64 b, .int .i64 c, .int .i64 d]) (.agg #[.int .i64 a', .int .i64 bK, .int .i64 c', .int .i64 d'])).run ag W = .ok (um a b c d a' bK c' d') W := by
 unfold um dI
 go_simp
 by_cases h1 : a = a' <;> by_cases h2 : b = bK <;> by_cases h3 : c = c' <;> by_cases aE : d = d' <;> simp [h1, h2, h3, aE]
instance ahP : IW ag 181 := ⟨by kernel_rfl, V7⟩
theorem adg {a b c d : Int} : (oF a b c d > 0 ↔ ¬ di a b c d) := by
 unfold oF di;cases h : dI a b c d with
 | true => rw [pd] at h; rw [if_pos rfl]; omega
 | false =>
  have : ¬ (a = c ∧ b = d) := fun k => by rw [pd.2 k] at h; cases h
  rw [if_neg (by simp)]
  split <;> omega
theorem HK {a1 a2 b1 b2 : Int} : aC ag 145 [aP a1 a2, aP b1 b2] (.cj [.agg [.c (.int .i64 (eA a1 a2 b1 b2)), .c (.int .i64 (eb a1 a2 b1 b2))], .agg [.c (.int .i64 (ee a1 a2 b1 b2)), .c (.int .i64 (dN a1 a2 b1 b2))]]) := by
 have aU := acY (a := a1) (b := a2) (c := b1) (d := b2);have h := adg (a := a1) (b := a2) (c := b1) (d := b2)
 have cs : (oF a1 a2 b1 b2 > 0 ∧ eA a1 a2 b1 b2 = b1 ∧ eb a1 a2 b1 b2 = b2 ∧ ee a1 a2 b1 b2 = a1 ∧ dN a1 a2 b1 b2 = a2) ∨ (¬ oF a1 a2 b1 b2 > 0 ∧ eA a1 a2 b1 b2 = a1 ∧ eb a1 a2 b1 b2 = a2 ∧ ee a1 a2 b1 b2 = b1 ∧ dN a1 a2 b1 b2 = b2) := by
  rw [h];unfold eA eb ee dN
  by_cases k : di a1 a2 b1 b2 <;> simp [k]
 clear h;generalize eA a1 a2 b1 b2 = l1 at *;generalize eb a1 a2 b1 b2 = l2 at *;generalize ee a1 a2 b1 b2 = h1 at *;generalize dN a1 a2 b1 b2 = h2 at *;generalize oF a1 a2 b1 b2 = c at *;rcases cs with ⟨q, rfl, rfl, rfl, rfl⟩ | ⟨q, rfl, rfl, rfl, rfl⟩
 all_goals
  refine bi (f := 145) Tryz.func145 rfl rfl rfl rfl ?_;(refine bZ ?_)
  ((refine ba rfl (cL rfl rfl rfl (cL rfl rfl rfl aK)) ?_))
  exact ah.aQ.refl _
theorem CZ {a1 a2 b1 b2 : Int} : aC ag 124 [aP a1 a2, aP b1 b2] (iX (eA a1 a2 b1 b2) (eb a1 a2 b1 b2) (ee a1 a2 b1 b2) (dN a1 a2 b1 b2)) := by
 have aU := HK (a1 := a1) (a2 := a2) (b1 := b1) (b2 := b2);generalize eA a1 a2 b1 b2 = l1 at *;generalize eb a1 a2 b1 b2 = l2 at *;generalize ee a1 a2 b1 b2 = h1 at *;generalize dN a1 a2 b1 b2 = h2 at *;refine bi (f := 124) Tryz.func124 rfl rfl rfl rfl ?_;(refine bZ ?_)
 ((refine ba rfl (cL rfl rfl rfl aK) ?_))
 exact ah.aQ.refl _
theorem CY {s1 s2 bM bN p1 p2 : Int} (h1 : dZ s1 s2 = true) (h2 : dZ bM bN = true) (h3 : dZ p1 p2 = true) : aC ag 125 [iX s1 s2 bM bN, aP p1 p2] (aB (bV s1 s2 bM bN p1 p2)) := by
 have aU := Pe h1 h2 h3;clear h1 h2 h3;generalize bV s1 s2 bM bN p1 p2 = c at *;refine bi (f := 125) Tryz.func125 rfl rfl rfl rfl ?_;(refine bZ ?_)
 ((refine ba rfl (a6 rfl aK) ?_))
 exact ah.aQ.refl _
theorem aby {s1 s2 bM bN p1 p2 : Int} (h1 : dZ s1 s2 = true) (h2 : dZ bM bN = true) (h3 : dZ p1 p2 = true) : CU p1 p2 s1 s2 bM bN = decide (dh p1 p2 s1 s2 bM bN) := by
 rw [lN, ca];unfold CU dh rM;rw [h1, h2, h3];simp only [mq, dx, ca, WS]
 constructor
 ·rintro ⟨⟨a, b, c, d⟩, e⟩; exact ⟨e, a, b, c, d⟩
 ·rintro ⟨e, a, b, c, d⟩; exact ⟨⟨a, b, c, d⟩, e⟩
theorem Pq {s1 s2 bM bN p1 p2 : Int} (h1 : dZ s1 s2 = true) (h2 : dZ bM bN = true) (h3 : dZ p1 p2 = true) : aC ag 147 [iX s1 s2 bM bN, aP p1 p2] (bf (decide (dh p1 p2 s1 s2 bM bN))) := by
 have aU := ab7 (aby h1 h2 h3);clear h1 h2 h3;generalize decide (dh p1 p2 s1 s2 bM bN) = c at *;refine bi (f := 147) Tryz.func147 rfl rfl rfl rfl ?_;(refine bZ ?_)
 ((refine ba rfl (a6 rfl aK) ?_))
 exact ah.aQ.refl _
theorem PG {m n : Int} {r : Bool} (al : decide (same m n) = r) : aC ag 127 [aB m, aB n] (bf r) := by
 have cs : (m > 0 ∧ n > 0 ∧ r = true) ∨ (m > 0 ∧ ¬ n > 0 ∧ ¬ m < 0 ∧ r = false) ∨ (¬ m > 0 ∧ m < 0 ∧ n < 0 ∧ r = true) ∨ (¬ m > 0 ∧ m < 0 ∧ ¬ n < 0 ∧ r = false) ∨ (¬ m > 0 ∧ ¬ m < 0 ∧ r = false) := by
  rw [← al];unfold same
  by_cases h1 : m > 0 <;> by_cases h2 : n > 0 <;> by_cases h3 : m < 0 <;> by_cases aE : n < 0 <;> simp [h1, h2, h3, aE] <;> omega
 clear al;rcases cs with ⟨q1, q2, rfl⟩ | ⟨q1, q2, bE, rfl⟩ | ⟨q1, q2, bE, rfl⟩ | ⟨q1, q2, bE, rfl⟩ | ⟨q1, q2, rfl⟩
 all_goals
  refine bi (f := 127) Tryz.func127 rfl rfl rfl rfl ?_;(repeat first | refine ec ?_ | (with_reducible apply cc (c := true)); rfl; rfl; (exact ck (by omega)) | (with_reducible apply cc (c := false)); rfl; rfl; (exact cC (by omega)))
  ((refine ba rfl (a6 rfl aK) ?_))
  first | exact ah.aQ.refl _ | exact ah.aQ.of_eq (by rw [ck q2]; rfl) | exact ah.aQ.of_eq (by rw [ck bE]; rfl) | exact ah.aQ.of_eq (by rw [cC bE]; rfl)
theorem A2 {x A : Int} (h1 : -134217728 ≤ x) (h2 : x ≤ 134217728) (h3 : -144115188075855872 ≤ A) (aE : A ≤ 144115188075855872) : -19342813113834066795298816 ≤ x * A ∧ x * A ≤ 19342813113834066795298816 := by
 have := Hr h1 h2 h3 aE;omega
theorem PO {l h A B n d : Int} (bX : A ≠ B) (qw : -134217728 ≤ l) (l1 : l ≤ 134217728) (aA : -134217728 ≤ h) (h1 : h ≤ 134217728) (bG : -144115188075855872 ≤ A) (gV : A ≤ 144115188075855872) (bo : -144115188075855872 ≤ B) (nh : B ≤ 144115188075855872) (au : jg (h * A - l * B) (A - B) = n) (hd : ir (A - B) = d) : aC ag 128 [aB l, aB h, aB A, aB B] (fv n d) := by
 have b1 := A2 aA h1 bG gV;have b2 := A2 qw l1 bo nh;have sv := PN (n := h) (m := A) (by omega) (by omega) (by omega) (by omega);have xI := PN (n := l) (m := B) (by omega) (by omega) (by omega) (by omega);have f1 : fits (h * A) = true := by unfold fits; rw [ca]; omega
 have f2 : fits (l * B) = true := by unfold fits; rw [ca]; omega
 have f3 : fits (h * A - l * B) = true := by unfold fits; rw [ca]; omega
 have f4 : fits (A - B) = true := by unfold fits; rw [ca]; omega
 have S2 := PM f1 f2;have S3 := tr (n := A - B) (by omega) (by omega);simp only [wf, f3, if_true] at S2
 have S4 : aC ag 151 [fL (h * A - l * B), fL (A - B)] (.cj [Bn n d, .one (.c (.bool true))]) := by
  by_cases q : A - B < 0
  ·unfold jg at au;unfold ir at hd;rw [if_pos q] at au hd;have g1 : fits (-(h * A - l * B)) = true := by unfold fits; rw [ca]; omega
   have g2 : fits (-(A - B)) = true := by unfold fits; rw [ca]; omega
   exact abY f3 f4 q (s := true) (by rw [g1, g2]; rfl) (by rw [if_pos rfl, au]) (by rw [if_pos rfl, hd])
  ·unfold jg at au;unfold ir at hd;rw [if_neg q] at au hd;have := abZ f3 f4 (by omega);rw [au, hd] at this;rw [au, hd];exact this
 obtain ⟨D, ey⟩ : ∃ D, A - B = D := ⟨_, rfl⟩;have w1 : IntKind.i64.wrap (A - B) = D := by rw [← ey]; exact la (by omega)
 rw [ey] at S3 S4;clear f1 f2 f3 f4 b1 b2 au hd ey bG gV bo nh bX;generalize h * A - l * B = X at *;generalize h * A = Y at *;generalize l * B = Z at *;refine bi (f := 128) Tryz.func128 rfl rfl rfl rfl ?_;(refine bZ ?_)
 ((refine ba rfl (cL rfl rfl rfl aK) ?_))
 exact ah.aQ.refl _
instance ahQ : D1 ag 150 0 0 false 1 := ⟨by kernel_rfl⟩
abbrev af2 (k n d m e p1 p2 q1 q2 : Int) : ah := .w (.agg [.c (.int .i64 k), .c (.int .i64 (bY n)), .c (.int .u64 (dq n)), .c (.int .i64 (bY d)), .c (.int .u64 (dq d)), .c (.int .i64 (bY m)), .c (.int .u64 (dq m)), .c (.int .i64 (bY e)), .c (.int .u64 (dq e)), .c (.int .i64 p1), .c (.int .i64 p2), .c (.int .i64 q1), .c (.int .i64 q2)])
abbrev nW (M : fm) : ah := af2 M.k M.n M.d M.m M.e M.p1 M.p2 M.q1 M.q2
theorem YX {s1 s2 bM bN t1 t2 t3 t4 f1 f2 g1 g2 b8 cp jo qX : Int} {p q : Bool} {M : fm}
  (Ed : aC ag 145 [aP s1 s2, aP t1 t2] (.cj [.agg [.c (.int .i64 b8), .c (.int .i64 cp)], .agg [.c (.int .i64 f1), .c (.int .i64 f2)]]))
  (Ee : aC ag 145 [aP bM bN, aP t3 t4] (.cj [.agg [.c (.int .i64 g1), .c (.int .i64 g2)], .agg [.c (.int .i64 jo), .c (.int .i64 qX)]]))
  (H1 : aC ag 147 [iX s1 s2 bM bN, aP f1 f2] (bf p)) (cQ : aC ag 147 [iX t1 t2 t3 t4, aP f1 f2] (bf q))
  (mz : aC ag 148 [aB f1] (fv f1 1)) (si : aC ag 148 [aB f2] (fv f2 1))
  (fV : (if (p && q) = true then uP f1 f2 g1 g2 else hI) = M) : aC ag 126 [iX s1 s2 bM bN, iX t1 t2 t3 t4] (nW M) := by
 unfold uP at fV;have hp : (f1 = g1 ∧ f2 = g2) ↔ dI f1 f2 g1 g2 = true := pd.symm
 have cs : (p = false ∧ M = hI) ∨ (p = true ∧ q = false ∧ M = hI) ∨ (p = true ∧ q = true ∧ dI f1 f2 g1 g2 = true ∧ M = iT f1 1 f2 1) ∨ (p = true ∧ q = true ∧ dI f1 f2 g1 g2 = false ∧ M = sw f1 f2 g1 g2) := by
  rw [← fV];cases ak : dI f1 f2 g1 g2 <;> rw [ak] at hp <;> cases p <;> cases q <;> simp [hp]
 clear fV hp;refine bi (f := 126) Tryz.func126 rfl rfl rfl rfl ?_;(refine bZ ?_);clear Ed Ee;rcases cs with ⟨rfl, rfl⟩ | ⟨rfl, rfl, rfl⟩ | ⟨rfl, rfl, h, rfl⟩ | ⟨rfl, rfl, h, rfl⟩
 all_goals
  (refine bZ ?_)
  ((refine ba rfl (cL rfl rfl rfl aK) ?_))
  first | exact ah.aQ.refl _ | exact ah.aQ.of_eq (by simp only [hI, wu, wN]; rfl) | exact ah.aQ.of_eq (by simp only [sw, wu, wN]; rfl)
theorem H3 {a1 a2 b1 b2 : Int} (h : b7 a1 a2 = true) (k : b7 b1 b2 = true) : b7 (ee a1 a2 b1 b2) (dN a1 a2 b1 b2) = true := by
 rcases mT a1 a2 b1 b2 with ⟨_, _, h3, aE, _⟩ | ⟨_, _, h3, aE, _⟩ <;> rw [h3, aE] <;> assumption
theorem Qp {a1 a2 b1 b2 : Int} (h : b7 a1 a2 = true) (k : b7 b1 b2 = true) : b7 (eA a1 a2 b1 b2) (eb a1 a2 b1 b2) = true := by
 rcases mT a1 a2 b1 b2 with ⟨h3, aE, _⟩ | ⟨h3, aE, _⟩ <;> rw [h3, aE] <;> assumption
theorem acL {s1 s2 bM bN t1 t2 t3 t4 : Int} (h1 : b7 s1 s2 = true) (h2 : b7 bM bN = true) (h3 : b7 t1 t2 = true) (aE : b7 t3 t4 = true) : aC ag 126 [iX s1 s2 bM bN, iX t1 t2 t3 t4] (nW (inl s1 s2 bM bN t1 t2 t3 t4)) := by
 have ap := H3 h1 h3;have ab := oL.1 ap;refine YX HK HK (Pq (kR h1) (kR h2) (kR ap)) (Pq (kR h3) (kR aE) (kR ap)) (Pk (by omega) (by omega)) (Pk (by omega) (by omega)) ?_;unfold inl;exact y6 (by rw [dx, ca, ca])
theorem acp {a1 a2 b1 b2 c1 c2 d1 d2 : Int} (h : (b7 a1 a2 && b7 b1 b2 && b7 c1 c2 && b7 d1 d2) = false) : aC ag 93 [aP a1 a2, aP b1 b2, aP c1 c2, aP d1 d2] (nW hI) := by
 have bg := oC (x := a1) (y := a2) rfl;have fo := oC (x := b1) (y := b2) rfl;have ky := oC (x := c1) (y := c2) rfl;have ss := oC (x := d1) (y := d2) rfl
 have cs : b7 a1 a2 = false ∨ (b7 a1 a2 = true ∧ b7 b1 b2 = false) ∨ (b7 a1 a2 = true ∧ b7 b1 b2 = true ∧ b7 c1 c2 = false) ∨ (b7 a1 a2 = true ∧ b7 b1 b2 = true ∧ b7 c1 c2 = true ∧ b7 d1 d2 = false) := by
  generalize b7 a1 a2 = b9 at *;generalize b7 b1 b2 = cT at *;generalize b7 c1 c2 = e9 at *;generalize b7 d1 d2 = j5 at *;cases b9 <;> cases cT <;> cases e9 <;> cases j5 <;> simp_all
 clear h;rcases cs with h1 | ⟨h1, h2⟩ | ⟨h1, h2, h3⟩ | ⟨h1, h2, h3, aE⟩ <;> simp only [*] at bg fo ky ss
 all_goals
  refine bi (f := 93) Tryz.func93 rfl rfl rfl rfl ?_;(refine bZ ?_)
  ((refine ba rfl (cL rfl rfl rfl aK) ?_))
  exact ah.aQ.of_eq (by simp only [hI, wu, wN]; rfl)
theorem Vc {a1 a2 b1 b2 c1 c2 d1 d2 s1 s2 bM bN t1 t2 t3 t4 A B C D n d m e : Int} {x y : Bool} {I M : fm}
  (bg : aC ag 123 [aP a1 a2] (bf true)) (fo : aC ag 123 [aP b1 b2] (bf true)) (ky : aC ag 123 [aP c1 c2] (bf true)) (ss : aC ag 123 [aP d1 d2] (bf true))
  (nh : aC ag 124 [aP a1 a2, aP b1 b2] (iX s1 s2 bM bN)) (sf : aC ag 124 [aP c1 c2, aP d1 d2] (iX t1 t2 t3 t4))
  (dP : aC ag 125 [iX s1 s2 bM bN, aP t1 t2] (aB A)) (fc : aC ag 125 [iX s1 s2 bM bN, aP t3 t4] (aB B))
  (q3 : aC ag 125 [iX t1 t2 t3 t4, aP s1 s2] (aB C)) (xG : aC ag 125 [iX t1 t2 t3 t4, aP bM bN] (aB D))
  (Eb : aC ag 127 [aB A, aB B] (bf x)) (Ec : aC ag 127 [aB C, aB D] (bf y))
  (L : aC ag 126 [iX s1 s2 bM bN, iX t1 t2 t3 t4] (nW I))
  (uc : A ≠ B → aC ag 128 [aB t1, aB t3, aB A, aB B] (fv n d)) (ud : A ≠ B → aC ag 128 [aB t2, aB t4, aB A, aB B] (fv m e))
  (fV : (if A = B then I else if (x || y) = true then hI else iT n d m e) = M) : aC ag 93 [aP a1 a2, aP b1 b2, aP c1 c2, aP d1 d2] (nW M) := by
 have cs : (A = B ∧ M = I) ∨ (¬ A = B ∧ x = true ∧ M = hI) ∨ (¬ A = B ∧ x = false ∧ y = true ∧ M = hI) ∨ (¬ A = B ∧ x = false ∧ y = false ∧ M = iT n d m e) := by
  rw [← fV]
  by_cases h : A = B
  ·simp [h]
  ·cases x <;> cases y <;> simp [h]
 clear fV;refine bi (f := 93) Tryz.func93 rfl rfl rfl rfl ?_;(refine bZ ?_);clear bg fo ky ss nh sf dP fc;rcases cs with ⟨h, rfl⟩ | ⟨h, rfl, rfl⟩ | ⟨h, rfl, rfl, rfl⟩ | ⟨h, rfl, rfl, rfl⟩
 ·clear uc ud;(refine bZ ?_)
  ((refine ba rfl (cL rfl rfl rfl aK) ?_))
  exact ah.aQ.refl _
 ·clear uc ud;(refine bZ ?_)
  ((refine ba rfl (cL rfl rfl rfl aK) ?_))
  exact ah.aQ.of_eq (by simp only [hI, wu, wN]; rfl)
 ·clear uc ud;(refine bZ ?_)
  ((refine ba rfl (cL rfl rfl rfl aK) ?_))
  exact ah.aQ.of_eq (by simp only [hI, wu, wN]; rfl)
 ·have agt := uc h;have agu := ud h;clear uc ud;(refine bZ ?_)
  ((refine ba rfl (cL rfl rfl rfl aK) ?_))
  exact ah.aQ.refl _
theorem CE {x y : Int} (h1 : -268435456 ≤ x) (h2 : x ≤ 268435456) (h3 : -268435456 ≤ y) (aE : y ≤ 268435456) : -72057594037927936 ≤ x * y ∧ x * y ≤ 72057594037927936 := by
 have := Hr h1 h2 h3 aE;omega
theorem KO {o1 o2 a1 a2 b1 b2 : Int} (h1 : b7 o1 o2 = true) (h2 : b7 a1 a2 = true) (h3 : b7 b1 b2 = true) : -144115188075855872 ≤ bV o1 o2 a1 a2 b1 b2 ∧ bV o1 o2 a1 a2 b1 b2 ≤ 144115188075855872 := by
 rw [oL] at h1 h2 h3;have m1 := CE (x := a1 - o1) (y := b2 - o2) (by omega) (by omega) (by omega) (by omega);have m2 := CE (x := a2 - o2) (y := b1 - o1) (by omega) (by omega) (by omega) (by omega);unfold bV;omega
def qA (a1 a2 b1 b2 c1 c2 d1 d2 : Int) : fm := if (b7 a1 a2 && b7 b1 b2 && b7 c1 c2 && b7 d1 d2) = true then h5 a1 a2 b1 b2 c1 c2 d1 d2 else hI
theorem acq {a1 a2 b1 b2 c1 c2 d1 d2 : Int} (aH : b7 a1 a2 = true) (ab : b7 b1 b2 = true) (aj : b7 c1 c2 = true) (hd : b7 d1 d2 = true) : aC ag 93 [aP a1 a2, aP b1 b2, aP c1 c2, aP d1 d2] (nW (h5 a1 a2 b1 b2 c1 c2 d1 d2)) := by
 have bg := oC aH;have fo := oC ab;have ky := oC aj;have ss := oC hd;have nh := CZ (a1 := a1) (a2 := a2) (b1 := b1) (b2 := b2);have sf := CZ (a1 := c1) (a2 := c2) (b1 := d1) (b2 := d2);have q1 := Qp aH ab;have q2 := H3 aH ab;have bE := Qp aj hd;have c4 := H3 aj hd;have l1 := wL a1 a2 b1 b2;have l2 := wL c1 c2 d1 d2;rw [← aao];generalize eA a1 a2 b1 b2 = s1 at *;generalize eb a1 a2 b1 b2 = s2 at *;generalize ee a1 a2 b1 b2 = bM at *;generalize dN a1 a2 b1 b2 = bN at *;generalize eA c1 c2 d1 d2 = t1 at *;generalize eb c1 c2 d1 d2 = t2 at *;generalize ee c1 c2 d1 d2 = t3 at *;generalize dN c1 c2 d1 d2 = t4 at *;have bd := KO q1 q2 bE;have bC := KO q1 q2 c4;have i3 := oL.1 bE;have i4 := oL.1 c4
 refine Vc bg fo ky ss nh sf (CY (kR q1) (kR q2) (kR bE)) (CY (kR q1) (kR q2) (kR c4)) (CY (kR bE) (kR c4) (kR q1)) (CY (kR bE) (kR c4) (kR q2)) (PG rfl) (PG rfl) (acL q1 q2 bE c4)
  (fun bX => PO bX i3.1.1 i3.1.2 i4.1.1 i4.1.2 bd.1 bd.2 bC.1 bC.2 rfl rfl) (fun bX => PO bX i3.2.1 i3.2.2 i4.2.1 i4.2.2 bd.1 bd.2 bC.1 bC.2 rfl rfl) ?_
 rw [← aan l1 l2];unfold He
 by_cases h : bV s1 s2 bM bN t1 t2 = bV s1 s2 bM bN t3 t4
 ·rw [if_pos h, if_pos h]
 ·rw [if_neg h, if_neg h];exact y6 (by rw [qL, ca, ca])
theorem HI {a1 a2 b1 b2 c1 c2 d1 d2 : Int} : aC ag 93 [aP a1 a2, aP b1 b2, aP c1 c2, aP d1 d2] (nW (qA a1 a2 b1 b2 c1 c2 d1 d2)) := by
 unfold qA
 by_cases h : (b7 a1 a2 && b7 b1 b2 && b7 c1 c2 && b7 d1 d2) = true
 ·rw [if_pos h];simp only [dx] at h;exact acq h.1.1.1 h.1.1.2 h.1.2 h.2
 ·rw [if_neg h];exact acp (by simpa using h)
def Fb (M : fm) (a1 a2 b1 b2 c1 c2 d1 d2 : Int) : Bool :=
 if M.k = 1 then dI a1 a2 c1 c2 || dI a1 a2 d1 d2 || dI b1 b2 c1 c2 || dI b1 b2 d1 d2
 else if M.k = 2 then um (eA a1 a2 b1 b2) (eb a1 a2 b1 b2) (ee a1 a2 b1 b2) (dN a1 a2 b1 b2) (eA c1 c2 d1 d2) (eb c1 c2 d1 d2) (ee c1 c2 d1 d2) (dN c1 c2 d1 d2)
 else true
theorem US {a1 a2 b1 b2 c1 c2 d1 d2 s1 s2 bM bN t1 t2 t3 t4 : Int} {M : fm} {r : Bool} (aU : aC ag 93 [aP a1 a2, aP b1 b2, aP c1 c2, aP d1 d2] (nW M))
  (nh : aC ag 124 [aP a1 a2, aP b1 b2] (iX s1 s2 bM bN)) (sf : aC ag 124 [aP c1 c2, aP d1 d2] (iX t1 t2 t3 t4))
  (al : (if M.k = 1 then dI a1 a2 c1 c2 || dI a1 a2 d1 d2 || dI b1 b2 c1 c2 || dI b1 b2 d1 d2 else if M.k = 2 then um s1 s2 bM bN t1 t2 t3 t4 else true) = r) : aC ag 138 [aP a1 a2, aP b1 b2, aP c1 c2, aP d1 d2] (bf r) := by
 obtain ⟨k, n, d, m, e, p1, p2, q1, q2⟩ := M;simp only at al aU
 have cs : (k = 1 ∧ dI a1 a2 c1 c2 = true ∧ r = true) ∨ (k = 1 ∧ dI a1 a2 c1 c2 = false ∧ dI a1 a2 d1 d2 = true ∧ r = true) ∨ (k = 1 ∧ dI a1 a2 c1 c2 = false ∧ dI a1 a2 d1 d2 = false ∧ dI b1 b2 c1 c2 = true ∧ r = true) ∨ (k = 1 ∧ dI a1 a2 c1 c2 = false ∧ dI a1 a2 d1 d2 = false ∧ dI b1 b2 c1 c2 = false ∧ r = dI b1 b2 d1 d2) ∨ (¬ k = 1 ∧ k = 2 ∧ r = um s1 s2 bM bN t1 t2 t3 t4) ∨ (¬ k = 1 ∧ ¬ k = 2 ∧ r = true) := by
  rw [← al]
  by_cases h1 : k = 1
  ·rw [if_pos h1];cases dI a1 a2 c1 c2 <;> cases dI a1 a2 d1 d2 <;> cases dI b1 b2 c1 c2 <;> simp [h1]
  ·rw [if_neg h1]
   by_cases h2 : k = 2
   ·rw [if_pos h2]; simp [h2]
   ·rw [if_neg h2]; simp [h1, h2]
 clear al;refine bi (f := 138) Tryz.func138 rfl rfl rfl rfl ?_;(refine bZ ?_);clear aU;rcases cs with ⟨h1, h2, rfl⟩ | ⟨h1, h2, h3, rfl⟩ | ⟨h1, h2, h3, aE, rfl⟩ | ⟨h1, h2, h3, aE, rfl⟩ | ⟨h1, h2, rfl⟩ | ⟨h1, h2, rfl⟩
 all_goals
  (repeat first | refine ec ?_ | refine gF ?_ | (with_reducible apply cc (c := true)); rfl; rfl; (assumption) | (with_reducible apply cc (c := false)); rfl; rfl; (assumption))
  ((refine ba rfl (a6 rfl aK) ?_))
  first | exact ah.aQ.refl _ | exact ah.aQ.of_eq (by rw [h2]; rfl) | exact ah.aQ.of_eq (by rw [h3]; rfl) | exact ah.aQ.of_eq (by rw [aE]; rfl)
theorem aco {a1 a2 b1 b2 c1 c2 d1 d2 : Int} : aC ag 138 [aP a1 a2, aP b1 b2, aP c1 c2, aP d1 d2] (bf (Fb (qA a1 a2 b1 b2 c1 c2 d1 d2) a1 a2 b1 b2 c1 c2 d1 d2)) :=
 US HI CZ CZ rfl
end Go.Proofs.YtbcecodakfejaaaGreat
