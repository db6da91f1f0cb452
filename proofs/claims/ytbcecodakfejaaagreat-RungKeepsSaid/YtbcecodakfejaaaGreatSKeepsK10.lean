/-
  My own texts, without what this claim does not need. My own text.
-/
import Derived.Test.YtbcecodakfejaaaGreatProg
import Derived.ProofKit
import Derived.OpenShut
import Derived.Deep.DeepHandedRow
import Derived.Lib.LaidTab
import Derived.Lib.SmallJoins
import Derived.Test.YtbcecodakfejaaaGreatSKeepsK9
set_option maxRecDepth 100000
set_option maxHeartbeats 64000000
set_option linter.unusedVariables false
set_option linter.unusedSimpArgs false
set_option linter.unusedSectionVars false
open Go.Proofs.Tryz renaming prog → ag
namespace Go.Proofs.YtbcecodakfejaaaGreat
open Go.RowKit
theorem oE {n : Int} (aA : -9223372036854775808 ≤ n) (h1 : n < 9223372036854775808) : bj 5 n := by unfold bj; omega
theorem pF {n : Int} (aA : -9223372036854775808 ≤ n) (h1 : n < 9223372036854775808) : au ag 68 [ax n] (cc n) := by
 have aS := E2 aA h1;clear aA h1;refine bd (f := 68) Tryz.func68 rfl rfl rfl rfl ?_;(refine bS ?_)
 ((refine aW rfl (cD rfl rfl rfl aJ) ?_))
 exact ah.aK.refl _
theorem RT {n d m e : Int} (h1 : bj 100 n) (h2 : bj 100 d) (h3 : bj 100 m) (aD : bj 100 e) : au ag 70 [gr n d, gr m e] (gr (n * e + m * d) (d * e)) := by
 have aS := qP (n := n) (m := e) (h1.up (by omega)) (aD.up (by omega));have bD := qP (n := m) (m := d) (h3.up (by omega)) (h2.up (by omega));have dW := E0 (n := n * e) (m := m * d) ((h1.mul aD).up (by omega)) ((h3.mul h2).up (by omega));have js := qP (n := d) (m := e) (h2.up (by omega)) (aD.up (by omega));clear h1 h2 h3 aD;refine bd (f := 70) Tryz.func70 rfl rfl rfl rfl ?_;(refine bS ?_)
 ((refine aW rfl (cD rfl rfl rfl aJ) ?_))
 exact ah.aK.refl _
theorem RS {a b n d : Int} (aF : -134217728 ≤ a ∧ a ≤ 134217728) (ab : -134217728 ≤ b ∧ b ≤ 134217728) (h1 : bj 50 n) (h2 : bj 50 d) : au ag 73 [ax a, ax b, gr n d] (gr (2 * a * d + n * (2 * (b - a)) * 1) (1 * d)) := by
 have aS := pF (n := 2 * (b - a)) (by omega) (by omega);have bD := pF (n := 2 * a) (by omega) (by omega);have dW := pF (n := 1) (by omega) (by omega);have ba : bj 5 (2 * (b - a)) := oE (by omega) (by omega);have bo : bj 5 (2 * a) := oE (by omega) (by omega);have dU : bj 5 (1 : Int) := oE (by omega) (by omega);have js := qP (n := n) (m := 2 * (b - a)) (h1.up (by omega)) (ba.up (by omega));have mQ := RT (n := 2 * a) (d := 1) (m := n * (2 * (b - a))) (e := d) (bo.up (by omega)) (dU.up (by omega)) ((h1.mul ba).up (by omega)) (h2.up (by omega));clear h1 h2 ba bo dU;refine bd (f := 73) Tryz.func73 rfl rfl rfl rfl ?_;(refine bS ?_)
 ((refine aW rfl (cD rfl rfl rfl aJ) ?_))
 exact ah.aK.refl _
def yF (x y low high kind : Int) : Bool := (decide (bR (low * y) (x * 1) < 0) || (decide (bR (low * y) (x * 1) = 0) && !decide (kind = 2))) && (decide (bR (x * 1) (high * y) < 0) || (decide (bR (x * 1) (high * y) = 0) && decide (kind = 1)))
theorem afZ {x y low high kind c1 c2 : Int} {r : Bool} (aS : au ag 68 [ax low] (cc low)) (bD : au ag 68 [ax high] (cc high)) (dW : au ag 68 [ax 1] (cc 1))
  (mn : au ag 44 [gr low 1, gr x y] (ax c1)) (k0 : au ag 44 [gr x y, gr high 1] (ax c2))
  (cs : ((c1 < 0 ∨ (¬ c1 < 0 ∧ c1 = 0 ∧ ¬ kind = 2)) ∧ ((c2 < 0 ∧ r = true) ∨ (¬ c2 < 0 ∧ c2 = 0 ∧ kind = 1 ∧ r = true) ∨ (¬ c2 < 0 ∧ c2 = 0 ∧ ¬ kind = 1 ∧ r = false) ∨ (¬ c2 < 0 ∧ ¬ c2 = 0 ∧ r = false))) ∨ (¬ c1 < 0 ∧ c1 = 0 ∧ kind = 2 ∧ r = false) ∨ (¬ c1 < 0 ∧ ¬ c1 = 0 ∧ r = false)) : au ag 72 [gr x y, ax low, ax high, ax kind] (a7 r) := by
 rcases cs with ⟨q1 | ⟨q1, q2, bB⟩, ⟨g1, rfl⟩ | ⟨g1, g2, g3, rfl⟩ | ⟨g1, g2, g3, rfl⟩ | ⟨g1, g2, rfl⟩⟩ | ⟨q1, q2, bB, rfl⟩ | ⟨q1, q2, rfl⟩
 all_goals
  try (have cS : (!decide (kind = 2)) = true := by simp [bB])
  try (have cS : (!decide (kind = 2)) = false := by simp [bB])
  try (have g4 := cd g3)
  try (have g4 := cA g3)
  refine bd (f := 72) Tryz.func72 rfl rfl rfl rfl ?_;(repeat first | refine dv ?_ | refine e7 ?_ | (with_reducible apply bP (c := true)); rfl; rfl; (first | assumption | exact cd (by omega)) | (with_reducible apply bP (c := false)); rfl; rfl; (first | assumption | exact cA (by omega)))
  ((refine aW rfl (aY rfl aJ) ?_))
  first | exact ah.aK.refl _ | exact ah.aK.of_eq (by rw [g4]; rfl)
theorem RU {x y low high kind : Int} (hl : -536870912 ≤ low ∧ low ≤ 536870912) (aR : -536870912 ≤ high ∧ high ≤ 536870912) (h1 : bj 150 x) (h2 : bj 150 y) : au ag 72 [gr x y, ax low, ax high, ax kind] (a7 (yF x y low high kind)) := by
 have ba : bj 5 low := oE (by omega) (by omega);have bo : bj 5 high := oE (by omega) (by omega);have dU : bj 5 (1 : Int) := oE (by omega) (by omega);refine afZ (pF (by omega) (by omega)) (pF (by omega) (by omega)) (pF (by omega) (by omega)) (yj (ba.up (by omega)) (dU.up (by omega)) (h1.up (by omega)) (h2.up (by omega))) (yj (h1.up (by omega)) (h2.up (by omega)) (bo.up (by omega)) (dU.up (by omega))) ?_;unfold yF;generalize bR (low * y) (x * 1) = c1;generalize bR (x * 1) (high * y) = c2
 by_cases q1 : c1 < 0 <;> by_cases q2 : c1 = 0 <;> by_cases bB : kind = 2 <;> by_cases g1 : c2 < 0 <;> by_cases g2 : c2 = 0 <;> by_cases g3 : kind = 1 <;> simp [q1, q2, bB, g1, g2, g3] <;> omega
theorem EY {x y : Int} {b : Bool} (ab : o8 x y = b) : au ag 67 [aE x y] (a7 b) := by
 have cs : (x ≤ 536870912 ∧ -536870912 ≤ x ∧ y ≤ 536870912 ∧ -536870912 ≤ y ∧ b = true) ∨ (x ≤ 536870912 ∧ -536870912 ≤ x ∧ y ≤ 536870912 ∧ ¬ -536870912 ≤ y ∧ b = false) ∨ (x ≤ 536870912 ∧ -536870912 ≤ x ∧ ¬ y ≤ 536870912 ∧ b = false) ∨ (x ≤ 536870912 ∧ ¬ -536870912 ≤ x ∧ b = false) ∨ (¬ x ≤ 536870912 ∧ b = false) := by
  rw [← ab]; unfold o8 sG
  by_cases q1 : x ≤ 536870912 <;> by_cases q2 : y ≤ 536870912 <;> by_cases bB : -536870912 ≤ x <;> by_cases cS : -536870912 ≤ y <;> simp [q1, q2, bB, cS]
 clear ab;rcases cs with ⟨q1, q2, bB, cS, rfl⟩ | ⟨q1, q2, bB, cS, rfl⟩ | ⟨q1, q2, bB, rfl⟩ | ⟨q1, q2, rfl⟩ | ⟨q1, rfl⟩
 all_goals
  refine bd (f := 67) Tryz.func67 rfl rfl rfl rfl ?_;(repeat first | refine dv ?_ | (with_reducible apply bP (c := true)); rfl; rfl; (exact cd (by omega)) | (with_reducible apply bP (c := false)); rfl; rfl; (exact cA (by omega)))
  ((refine aW rfl (aY rfl aJ) ?_))
  first | exact ah.aK.refl _ | exact ah.aK.of_eq (by rw [cd cS]; rfl) | exact ah.aK.of_eq (by rw [cA cS]; rfl)
def il : List (Int × Int) → List AC
 | [] => []
 | (n, d) :: l => .c (.bool (decide (n < 0))) :: .p (jN n) :: .c (.bool (decide (d < 0))) :: .p (jN d) :: il l
theorem N2 : ∀ (l : List (Int × Int)), (il l).length = l.length * 4
 | [] => rfl
 | (n, d) :: l => by simp [il, N2 l]; omega
theorem xB : ∀ (l k : List (Int × Int)), il l ++ il k = il (l ++ k)
 | [], k => rfl
 | (n, d) :: l, k => by simp [il, xB l k]
theorem zv : ∀ (l : List (Int × Int)), (il l).all AC.aZ = true
 | [] => rfl
 | (n, d) :: l => by simp only [il, kt, zv l]; rfl
theorem N1 : ∀ {l : List (Int × Int)} {i : Nat} {n d : Int}, l[i]? = some (n, d) → ((il l).drop (i * 4)).take 4 = [.c (.bool (decide (n < 0))), .p (jN n), .c (.bool (decide (d < 0))), .p (jN d)]
 | [], i, n, d, h => by simp at h
 | (m, e) :: l, 0, n, d, h => by simp at h; obtain ⟨rfl, rfl⟩ := h; rfl
 | (m, e) :: l, i + 1, n, d, h => by
  have := N1 (l := l) (i := i) (n := n) (d := d) (by simpa using h);rw [← this];rw [show (i + 1) * 4 = i * 4 + 4 by omega, ← qT];simp only [il];congr 1;rw [qT, oK, ← qT];rfl
abbrev yB (l : List (Int × Int)) : ah := cK 4 l.length (il l)
def n9 (a b iv : Int) : List (Int × Int) :=
 let n := iv - 2 * a
 let d := 2 * (b - a)
 let n' := if d < 0 then -n else n
 let d' := if d < 0 then -d else d
 if d' = 0 ∨ n' < 0 ∨ d' < n' then [] else [(n', d')]
theorem AY (z : Nat) : ah.aK (aQ (.slice none 0 0)) (cK z 0 []) := fun U ad W v ⟨h, _⟩ => by
 subst h;exact ⟨⟨none, 0, rfl, dI _, by simp, fun h => absurd h (by omega)⟩, fun b ⟨c', a', q, aw, ab⟩ => by cases q⟩
theorem EZ {a b iv : Int} (aF : -134217728 ≤ a ∧ a ≤ 134217728) (ab : -134217728 ≤ b ∧ b ≤ 134217728) (hl : -536870912 ≤ iv ∧ iv ≤ 536870912) : au ag 69 [ax a, ax b, ax iv] (yB (n9 a b iv)) := by
 unfold n9;obtain ⟨n, aw⟩ : ∃ n, iv - 2 * a = n := ⟨_, rfl⟩;obtain ⟨d, hd⟩ : ∃ d, 2 * (b - a) = d := ⟨_, rfl⟩;simp only [aw, hd];have ajS : -1000000000 ≤ n ∧ n ≤ 1000000000 := by omega
 have ajQ : -1000000000 ≤ d ∧ d ≤ 1000000000 := by omega
 have w1 : IntKind.i64.wrap (iv - 2 * a) = n := by rw [aw]; exact k9 (by omega)
 have w2 : IntKind.i64.wrap (2 * (b - a)) = d := by rw [hd]; exact k9 (by omega)
 have w3 : IntKind.i64.wrap (2 * a) = 2 * a := k9 (by omega);have kz : IntKind.i64.wrap (b - a) = b - a := k9 (by omega);clear aF ab hl aw hd
 by_cases q : d < 0
 ·rw [if_pos q, if_pos q];have nA := pF (n := -n) (by omega) (by omega);have sq := pF (n := -d) (by omega) (by omega)
  by_cases q1 : -d = 0
  ·omega
  ·by_cases q2 : -n < 0
   ·rw [if_pos (by omega)];refine bd (f := 69) Tryz.func69 rfl rfl rfl rfl ?_;(repeat first | refine dv ?_ | (with_reducible apply bP (c := true)); rfl; rfl; (exact cd (by omega)) | (with_reducible apply bP (c := false)); rfl; rfl; (exact cA (by omega)))
    ((refine aW rfl (aY rfl aJ) ?_))
    exact AY 4
   ·by_cases bB : -d < -n
    ·rw [if_pos (by omega)];refine bd (f := 69) Tryz.func69 rfl rfl rfl rfl ?_;(repeat first | refine dv ?_ | (with_reducible apply bP (c := false)); rfl; rfl; (exact cA (by omega)))
     ((refine aW rfl (aY rfl aJ) ?_))
     exact AY 4
    ·rw [if_neg (by omega)];refine bd (f := 69) Tryz.func69 rfl rfl rfl rfl ?_;(repeat first | refine dv ?_ | refine e7 ?_ | (with_reducible apply bP (c := false)); rfl; rfl; (exact cA (by omega)))
     ((refine aW rfl (aY rfl aJ) ?_))
     exact ah.aK.refl _
 ·rw [if_neg q, if_neg q];have nA := pF (n := n) (by omega) (by omega);have sq := pF (n := d) (by omega) (by omega)
  by_cases q1 : d = 0
  ·rw [if_pos (by omega)];refine bd (f := 69) Tryz.func69 rfl rfl rfl rfl ?_;(repeat first | refine dv ?_ | (with_reducible apply bP (c := true)); rfl; rfl; (exact cd (by omega)))
   ((refine aW rfl (aY rfl aJ) ?_))
   exact AY 4
  ·by_cases q2 : n < 0
   ·rw [if_pos (by omega)];refine bd (f := 69) Tryz.func69 rfl rfl rfl rfl ?_;(repeat first | refine dv ?_ | (with_reducible apply bP (c := true)); rfl; rfl; (exact cd (by omega)) | (with_reducible apply bP (c := false)); rfl; rfl; (exact cA (by omega)))
    ((refine aW rfl (aY rfl aJ) ?_))
    exact AY 4
   ·by_cases bB : d < n
    ·rw [if_pos (by omega)];refine bd (f := 69) Tryz.func69 rfl rfl rfl rfl ?_;(repeat first | refine dv ?_ | (with_reducible apply bP (c := false)); rfl; rfl; (exact cA (by omega)))
     ((refine aW rfl (aY rfl aJ) ?_))
     exact AY 4
    ·rw [if_neg (by omega)];refine bd (f := 69) Tryz.func69 rfl rfl rfl rfl ?_;(repeat first | refine dv ?_ | refine e7 ?_ | (with_reducible apply bP (c := false)); rfl; rfl; (exact cA (by omega)))
     ((refine aW rfl (aY rfl aJ) ?_))
     exact ah.aK.refl _
instance ak1 : lm ag 115 87 4 64 := ⟨by kernel_rfl⟩
def qI (p q : Int × Int) : Int × Int := (p.1 * q.2 + q.1 * p.2, p.2 * q.2 + p.2 * q.2)
def fh (L : List (Int × Int)) (i : Nat) : Int × Int := L.getD i (0, 1)
def kW (L : List (Int × Int)) (i k : Nat) : List (Int × Int) := (List.range k).map fun j => qI (fh L i) (fh L j)
def iQ (L : List (Int × Int)) (i : Nat) : List (Int × Int) := (List.range i).flatMap fun j => kW L j j
theorem ahG (L : List (Int × Int)) (i k : Nat) : kW L i (k + 1) = kW L i k ++ [qI (fh L i) (fh L k)] := by
 unfold kW; rw [List.range_succ, qR]; rfl
theorem Qu (L : List (Int × Int)) (i : Nat) : iQ L (i + 1) = iQ L i ++ kW L i i := by
 unfold iQ; rw [List.range_succ, List.flatMap_append]; simp
theorem Tg (L : List (Int × Int)) (i k : Nat) : (kW L i k).length = k := by simp [kW]
theorem Jr (L : List (Int × Int)) : ∀ (i : Nat), i ≤ 10 → (iQ L i).length ≤ 10 * i
 | 0, _ => by simp [iQ]
 | i + 1, h => by rw [Qu, cO, Tg]; have := Jr L i (by omega); omega
abbrev J4 (a1 a2 b1 b2 l1 l2 h1 h2 : Int) : List (Nat × List AC) := [(5, [.c (.int .i64 a1), .c (.int .i64 a2)]), (6, [.c (.int .i64 b1), .c (.int .i64 b2)]), (7, [.c (.int .i64 l1), .c (.int .i64 l2)]), (8, [.c (.int .i64 h1), .c (.int .i64 h2)])]
abbrev qp (v : Value) (C : List (Int × Int)) : bG := ⟨87, 4, v, C.length, il C⟩
def UX (L : List (Int × Int)) (N a1 a2 b1 b2 l1 l2 h1 h2 kind : Int) (m : Nat) (R : aI) (aL : List (Nat × ah)) (bh : List (Nat × List AC)) : Prop :=
 ∃ (i : Nat) (v : Value) (j : Int), i ≤ L.length ∧ m = L.length - i ∧ j = i ∧ R = bC 0 (qp v (L ++ iQ L i))
  ∧ aL = [(4, ax kind), (5, fQ 5 0), (6, fQ 6 0), (7, fQ 7 0), (8, fQ 8 0), (11, aQ v), (12, ax N), (13, ax j)] ∧ bh = J4 a1 a2 b1 b2 l1 l2 h1 h2
def UW (L : List (Int × Int)) (N a1 a2 b1 b2 l1 l2 h1 h2 kind : Int) (i : Nat) (ji : Int) (m : Nat) (R : aI) (aL : List (Nat × ah)) (bh : List (Nat × List AC)) : Prop :=
 ∃ (k : Nat) (v : Value) (j : Int), k ≤ i ∧ m = i - k ∧ j = k ∧ R = bC 0 (qp v (L ++ iQ L i ++ kW L i k))
  ∧ aL = [(4, ax kind), (5, fQ 5 0), (6, fQ 6 0), (7, fQ 7 0), (8, fQ 8 0), (11, aQ v), (12, ax N), (13, ax ji), (14, ax j)] ∧ bh = J4 a1 a2 b1 b2 l1 l2 h1 h2
def UU (F : List (Int × Int)) (g : Int × Int → Bool) (a1 a2 b1 b2 l1 l2 h1 h2 kind : Int) (m : Nat) (aL : List (Nat × ah)) (bh : List (Nat × List AC)) : Prop :=
 ∃ (i : Nat) (j : Int), i ≤ F.length ∧ m = F.length - i ∧ j = i ∧ (F.take i).any g = false
  ∧ aL = [(4, ax kind), (5, fQ 5 0), (6, fQ 6 0), (7, fQ 7 0), (8, fQ 8 0), (11, yB F), (16, ax j)] ∧ bh = J4 a1 a2 b1 b2 l1 l2 h1 h2
theorem Hr {C : List (Int × Int)} {i : Nat} {j : Int} {p : Int × Int} (ae : j = i) (h : C[i]? = some p) : j.toNat * 4 + 4 ≤ (il C).length ∧ ((il C).drop (j.toNat * 4)).take 4 = [.c (.bool (decide (p.1 < 0))), .p (jN p.1), .c (.bool (decide (p.2 < 0))), .p (jN p.2)] := by
 subst ae;obtain ⟨n, d⟩ := p;have bb : i < C.length := (bL.1 h).1;rw [ld];exact ⟨by rw [N2]; omega, N1 h⟩
theorem ze {L : List (Int × Int)} {i : Nat} (h : i < L.length) (M : List (Int × Int)) : (L ++ M)[i]? = some (fh L i) := by
 rw [fZ h];unfold fh;simp [h]
theorem afX {a1 a2 b1 b2 l1 l2 h1 h2 kind : Int} {w1 w2 w3 kz L F : List (Int × Int)} {g : Int × Int → Bool} {Fh : Bool} (bf : au ag 27 [aE a1 a2] (a7 true)) (ev : au ag 27 [aE b1 b2] (a7 true)) (fR : au ag 67 [aE l1 l2] (a7 true)) (lT : au ag 67 [aE h1 h2] (a7 true)) (eW : ¬ kind < 0) (ba : ¬ 2 < kind)
  (vq : au ag 68 [ax 0] (cc 0)) (nA : au ag 68 [ax 1] (cc 1))
  (ic : au ag 69 [ax a1, ax b1, ax l1] (yB w1)) (Lx : au ag 69 [ax a1, ax b1, ax h1] (yB w2)) (Vm : au ag 69 [ax a2, ax b2, ax l2] (yB w3)) (Vn : au ag 69 [ax a2, ax b2, ax h2] (yB kz))
  (lw : w1.length ≤ 1 ∧ w2.length ≤ 1 ∧ w3.length ≤ 1 ∧ kz.length ≤ 1) (CP : L = [(0, 1), (1, 1)] ++ w1 ++ w2 ++ w3 ++ kz) (Hc : F = L ++ iQ L L.length)
  (S : ∀ i k, i < L.length → k < i → au ag 70 [gr (fh L i).1 (fh L i).2, gr (fh L k).1 (fh L k).2] (gr ((fh L i).1 * (fh L k).2 + (fh L k).1 * (fh L i).2) ((fh L i).2 * (fh L k).2)) ∧ au ag 71 [cc ((fh L i).2 * (fh L k).2), cc ((fh L i).2 * (fh L k).2)] (cc ((fh L i).2 * (fh L k).2 + (fh L i).2 * (fh L k).2)))
  (G : ∀ p ∈ F, ∃ Gw Gy Gx Gz g1 g2, au ag 73 [ax a1, ax b1, gr p.1 p.2] (gr Gw Gy) ∧ au ag 72 [gr Gw Gy, ax l1, ax h1, ax kind] (a7 g1) ∧ au ag 73 [ax a2, ax b2, gr p.1 p.2] (gr Gx Gz) ∧ au ag 72 [gr Gx Gz, ax l2, ax h2, ax kind] (a7 g2) ∧ g p = (g1 && g2))
  (wa : F.any g = Fh) : au ag 37 [aE a1 a2, aE b1 b2, aE l1 l2, aE h1 h2, ax kind] (a7 Fh) := by
 have JC : L.length = 2 + w1.length + w2.length + w3.length + kz.length := by rw [CP]; simp; omega
 have Mz : il L = [.c (.bool (decide ((0 : Int) < 0))), .p (jN 0), .c (.bool (decide ((1 : Int) < 0))), .p (jN 1), .c (.bool (decide ((1 : Int) < 0))), .p (jN 1), .c (.bool (decide ((1 : Int) < 0))), .p (jN 1)] ++ il w1 ++ il w2 ++ il w3 ++ il kz := by
  rw [CP, ← xB, ← xB, ← xB, ← xB]; rfl
 have b4 : maxLen = 9223372036854775807 := rfl;refine bd (f := 37) Tryz.func37 rfl rfl rfl rfl ?_;refine tU ?_;(repeat first | (with_reducible first | apply Kn | apply Tc | apply Tk | apply Pc | apply Tl) | (with_reducible apply Ti); rfl; (exact cA (by omega)) | (with_reducible apply fX); rfl; (repeat first | (with_reducible apply Cp); rfl | refine GG rfl rfl rfl (by (first | exact bf | exact ev | exact fR | exact lT | exact vq | exact nA)) rfl ?_ | (with_reducible apply bP (c := false)); rfl; rfl; (exact cA (by omega))); (with_reducible apply fC));refine aaX 0 rfl rfl rfl rfl rfl rfl rfl rfl ?h3 rfl rfl rfl (fun v1 hk => ?_)
 case h3 => decide
 (repeat first | (with_reducible apply dl (id := 4) [0,1,2,3,4,5,6,7,9,10,11,12,13,14,8,15,16,17]); kernel_rfl; kernel_rfl; rfl | refine cG ?_ | refine iF ?_);refine Af 0 rfl rfl rfl rfl (.inr ?q0) ?q1 ?q2 (zv _) rfl (fun v2 lz => ?_)
 case q0 => show 0 < 2; omega
 case q1 => show 2 + w1.length ≤ maxLen; omega
 case q2 => show (2 + w1.length) * 64 ≤ 140737488355328; omega
 (refine oV ?_);refine Af 0 rfl rfl rfl rfl (.inr ?q0) ?q1 ?q2 (zv _) rfl (fun v3 DQ => ?_)
 case q0 => show 0 < 2 + w1.length; omega
 case q1 => show 2 + w1.length + w2.length ≤ maxLen; omega
 case q2 => show (2 + w1.length + w2.length) * 64 ≤ 140737488355328; omega
 (repeat first | (with_reducible apply dl (id := 5) [0,1,2,3,4,5,6,7,9,10,11,12,13,14,8,15,16,17]); kernel_rfl; kernel_rfl; rfl | refine cG ?_ | refine iF ?_);refine Af 0 rfl rfl rfl rfl (.inr ?q0) ?q1 ?q2 (zv _) rfl (fun v4 x1 => ?_)
 case q0 => show 0 < 2 + w1.length + w2.length; omega
 case q1 => show 2 + w1.length + w2.length + w3.length ≤ maxLen; omega
 case q2 => show (2 + w1.length + w2.length + w3.length) * 64 ≤ 140737488355328; omega
 (refine oV ?_);refine Af 0 rfl rfl rfl rfl (.inr ?q0) ?q1 ?q2 (zv _) rfl (fun v5 aa9 => ?_)
 case q0 => show 0 < 2 + w1.length + w2.length + w3.length; omega
 case q1 => show 2 + w1.length + w2.length + w3.length + kz.length ≤ maxLen; omega
 case q2 => show (2 + w1.length + w2.length + w3.length + kz.length) * 64 ≤ 140737488355328; omega
 (repeat first | refine cG ?_ | (with_reducible apply nR 0); (iterate 4 rfl); kernel_rfl; rfl);clear bf ev fR lT vq nA ic Lx Vm Vn;have eO : ((2 + w1.length + w2.length + w3.length + kz.length : Nat) : Int) = (L.length : Int) := by rw [JC]
 have Cw : L.length ≤ 6 := by omega
 have dh : qp v5 (L ++ iQ L 0) = ⟨87, 4, v5, 2 + w1.length + w2.length + w3.length + kz.length, [.c (.bool (decide ((0 : Int) < 0))), .p (jN 0), .c (.bool (decide ((1 : Int) < 0))), .p (jN 1), .c (.bool (decide ((1 : Int) < 0))), .p (jN 1), .c (.bool (decide ((1 : Int) < 0))), .p (jN 1)] ++ il w1 ++ il w2 ++ il w3 ++ il kz⟩ := by
  unfold qp; rw [← Mz, ← JC]; simp [iQ]
 refine kw 154 (UX L ((2 + w1.length + w2.length + w3.length + kz.length : Nat) : Int) a1 a2 b1 b2 l1 l2 h1 h2 kind) L.length (bC 0 (qp v5 (L ++ iQ L 0))) _ _ ⟨0, v5, 0, dJ _, rfl, rfl, rfl, rfl, rfl⟩ ?hl rfl ⟨rfl, rfl, rfl, rfl, rfl, rfl, rfl, rfl, trivial⟩ ⟨rfl, rfl, rfl, rfl, trivial⟩ rfl ?_
 case hl => rw [dh]; exact nt _ _ _
 clear dh hk lz DQ x1 aa9 Mz CP lw;generalize ((2 + w1.length + w2.length + w3.length + kz.length : Nat) : Int) = N at *;clear JC;rintro m R aL bh ⟨i, v, j, hi, rfl, ae, rfl, rfl, rfl⟩ c9;clear c9
 by_cases ak : i < L.length
 ·have cf : j < N := by omega
  clear G wa;(refine bc ?_);refine kw 154 (UW L N a1 a2 b1 b2 l1 l2 h1 h2 kind i j) i (bC 0 (qp v (L ++ iQ L i ++ kW L i 0))) _ _ ⟨0, v, 0, dJ _, rfl, rfl, rfl, rfl, rfl⟩ ?hl rfl ⟨rfl, rfl, rfl, rfl, rfl, rfl, rfl, rfl, rfl, trivial⟩ ⟨rfl, rfl, rfl, rfl, trivial⟩ rfl ?_
  case hl => rw [show kW L i 0 = [] by rfl, me]; exact bx.refl _
  rintro m R aL bh ⟨k, v', dH, af, rfl, iu, rfl, rfl, rfl⟩ c9;clear c9
  by_cases Ab : k < i
  ·have q2 : dH < j := by omega
   have g1 : (L ++ iQ L i ++ kW L i k)[i]? = some (fh L i) := by rw [hK]; exact ze ak _
   have g2 : (L ++ iQ L i ++ kW L i k)[k]? = some (fh L k) := by rw [hK]; exact ze (by omega) _
   have ri := Hr ae g1;have rj := Hr iu g2
   have alf : (L ++ iQ L i ++ kW L i k).length ≤ 200 ∧ i < (L ++ iQ L i ++ kW L i k).length := by
    rw [cO, cO, Tg];have := Jr L i (by omega);omega
   have cl : ∀ yA, qp yA (L ++ iQ L i ++ kW L i (k + 1)) = ⟨87, 4, yA, (L ++ iQ L i ++ kW L i k).length + 1, il (L ++ iQ L i ++ kW L i k) ++ il [qI (fh L i) (fh L k)]⟩ := fun yA => by
    unfold qp;rw [ahG, ← hK, xB, cO];rfl
   obtain ⟨gy, fA⟩ := S i k ak Ab;clear S g1 g2;unfold qI at cl;generalize L ++ iQ L i ++ kW L i k = C at *;generalize fh L i = p1 at *;generalize fh L k = p2 at *;obtain ⟨cE, d1⟩ := p1;obtain ⟨cP, d2⟩ := p2;simp only at gy fA ri rj cl;have f0 : 0 < C.length := by omega
   have f1 : 0 ≤ j ∧ 0 ≤ dH := by omega
   have f2 : j < (C.length : Int) := by omega
   have f3 : dH < (C.length : Int) := by omega
   (repeat first | (with_reducible apply dl (id := 13) [9,0,1,2,3,4,5,6,7,8,10]); kernel_rfl; kernel_rfl; rfl | (with_reducible apply dl (id := 14) [0,1,2,3,4,5,6,7,8,9,10,11]); kernel_rfl; kernel_rfl; rfl | refine cG ?_ | refine iF ?_ | (with_reducible apply jT 0); (iterate 4 rfl); (omega); (assumption); rfl; kernel_rfl; rfl | (with_reducible apply nS 0); (iterate 3 rfl); (assumption); assumption; rfl; kernel_rfl; rfl);refine Af 0 rfl rfl rfl rfl (.inr ?q0) ?q1 ?q2 rfl rfl (fun yA akO => ?_)
   case q0 => exact f0
   case q1 => show C.length + 1 ≤ maxLen; omega
   case q2 => show (C.length + 1) * 64 ≤ 140737488355328; omega
   (refine bc ?_);exact ⟨i - (k + 1), bC 0 (qp yA (L ++ iQ L i ++ kW L i (k + 1))), _, _, by omega, ⟨k + 1, yA, dH + 1, by omega, rfl, by omega, rfl, rfl, rfl⟩, by rw [cl]; exact nt _ _ _, rfl, ⟨rfl, rfl, rfl, rfl, rfl, rfl, rfl, rfl, rfl, trivial⟩, ⟨rfl, rfl, rfl, rfl, trivial⟩, rfl⟩
  ·have q2 : ¬ dH < j := by omega
   have k8 : k = i := by omega
   subst k8;clear S;(refine bc ?_);exact ⟨L.length - (k + 1), bC 0 (qp v' (L ++ iQ L (k + 1))), _, _, by omega, ⟨k + 1, v', j + 1, by omega, rfl, by omega, rfl, rfl, rfl⟩, by rw [Qu, ← hK]; exact bx.refl _, rfl, ⟨rfl, rfl, rfl, rfl, rfl, rfl, rfl, rfl, trivial⟩, ⟨rfl, rfl, rfl, rfl, trivial⟩, rfl⟩
 ·have cf : ¬ j < N := by omega
  have da : i = L.length := by omega
  subst da
  have alb : F.length ≤ 100 := by
   have := Jr L L.length (by omega);rw [Hc, cO]; omega
  rw [← Hc];clear S Hc;(refine bc ?_);refine Bn 0 11 (qp v F) rfl rfl ?_;refine ahH ?_;refine sD 154 (UU F g a1 a2 b1 b2 l1 l2 h1 h2 kind) F.length _ _ ⟨0, 0, dJ _, rfl, rfl, by simp, rfl, rfl⟩ rfl ⟨rfl, rfl, rfl, rfl, rfl, rfl, rfl, trivial⟩ ⟨rfl, rfl, rfl, rfl, trivial⟩ rfl ?_;rintro m aL bh ⟨i, ji, hi, rfl, gm, jS, rfl, rfl⟩ c9;clear c9
  by_cases O3 : i < F.length
  ·have bB : ji < (F.length : Int) := by omega
   have cS : 0 ≤ ji := by omega
   obtain ⟨p, hp⟩ : ∃ p, F[i]? = some p := ⟨_, bN O3⟩;have Z := (Hr gm hp).2;obtain ⟨Gw, Gy, Gx, Gz, c1, c2, re, ju, sr, oe, an⟩ := G p (dc hp);have aB : F.take (i + 1) = F.take i ++ [p] := by rw [List.take_add_one, hp]; rfl
   have ec : g p = true → F.any g = true := fun h => uY.2 ⟨p, dc hp, h⟩;clear G hp;obtain ⟨n, d⟩ := p;simp only at re sr Z;cases c1 with
   | false =>
    have aw : (F.take (i + 1)).any g = false := by rw [aB, List.any_append, jS]; simp [an]
    clear wa ec aB an;(refine bS ?_);exact ⟨F.length - (i + 1), _, _, by omega, ⟨i + 1, ji + 1, by omega, rfl, by omega, aw, rfl, rfl⟩, rfl, ⟨rfl, rfl, rfl, rfl, rfl, rfl, rfl, trivial⟩, ⟨rfl, rfl, rfl, rfl, trivial⟩, rfl⟩
   | true =>
    cases c2 with
    | false =>
     have aw : (F.take (i + 1)).any g = false := by rw [aB, List.any_append, jS]; simp [an]
     clear wa ec aB an;(refine bS ?_);exact ⟨F.length - (i + 1), _, _, by omega, ⟨i + 1, ji + 1, by omega, rfl, by omega, aw, rfl, rfl⟩, rfl, ⟨rfl, rfl, rfl, rfl, rfl, rfl, rfl, trivial⟩, ⟨rfl, rfl, rfl, rfl, trivial⟩, rfl⟩
    | true =>
     have al : Fh = true := by rw [← wa]; exact ec (by rw [an]; rfl)
     clear wa ec aB an;subst al;(refine bS ?_);(refine bc ?_)
     ((refine aW rfl (aY rfl aJ) ?_))
     exact ah.aK.refl _
  ·have bB : ¬ ji < (F.length : Int) := by omega
   have al : Fh = false := by
    rw [← wa, ← jS, h4 (by omega)]
   clear wa G;subst al;(refine eF ?_);(refine bc ?_)
   ((refine aW rfl (aY rfl aJ) ?_))
   exact ah.aK.refl _
def b5 (a1 a2 b1 b2 l1 l2 h1 h2 k : Int) : Pa := ry (2 * a1 - l1) (2 * b1 - l1) (2 * a2 - l2) (2 * b2 - l2) (h1 - 2 * a1) (h1 - 2 * b1) (h2 - 2 * a2) (h2 - 2 * b2) (!decide (k = 2)) (decide (k = 1))
def uI (a1 a2 b1 b2 l1 l2 h1 h2 k : Int) : Bool := bu a1 a2 && bu b1 b2 && o8 l1 l2 && o8 h1 h2 && x5 k
def tf (a1 a2 b1 b2 l1 l2 h1 h2 k : Int) : Bool := uI a1 a2 b1 b2 l1 l2 h1 h2 k && tT (b5 a1 a2 b1 b2 l1 l2 h1 h2 k)
theorem aeR {a1 a2 b1 b2 l1 l2 h1 h2 k : Int} {bV cC eY iU yp : Bool} (bf : au ag 123 [aE a1 a2] (a7 bV)) (ev : au ag 123 [aE b1 b2] (a7 cC)) (B5 : au ag 170 [aE l1 l2] (a7 eY)) (B6 : au ag 170 [aE h1 h2] (a7 iU)) (UM : au ag 171 [ax k] (a7 yp)) (h : (bV && cC && eY && iU && yp) = false) :
  au ag 155 [aE a1 a2, aE b1 b2, aE l1 l2, aE h1 h2, ax k] (a7 false) := by
 have cs : bV = false ∨ (bV = true ∧ cC = false) ∨ (bV = true ∧ cC = true ∧ eY = false) ∨ (bV = true ∧ cC = true ∧ eY = true ∧ iU = false) ∨ (bV = true ∧ cC = true ∧ eY = true ∧ iU = true ∧ yp = false) := by
  cases bV <;> cases cC <;> cases eY <;> cases iU <;> cases yp <;> simp_all
 clear h;rcases cs with rfl | ⟨rfl, rfl⟩ | ⟨rfl, rfl, rfl⟩ | ⟨rfl, rfl, rfl, rfl⟩ | ⟨rfl, rfl, rfl, rfl, rfl⟩
 all_goals
  refine bd (f := 155) Tryz.func155 rfl rfl rfl rfl ?_;(refine bS ?_)
  ((refine aW rfl (aY rfl aJ) ?_))
  exact ah.aK.refl _
theorem LK : yU rl := ⟨⟨by decide, by decide⟩, ⟨by decide, by decide⟩⟩
theorem aeP {a1 a2 b1 b2 l1 l2 h1 h2 k : Int} : au ag 155 [aE a1 a2, aE b1 b2, aE l1 l2, aE h1 h2, ax k] (a7 (tf a1 a2 b1 b2 l1 l2 h1 h2 k)) := by
 unfold tf;cases al : uI a1 a2 b1 b2 l1 l2 h1 h2 k with
 | false => exact aeR (pE rfl) (pE rfl) (ER rfl) (ER rfl) (RG rfl) al
 | true =>
  rw [oN];unfold uI at al;simp only [c6] at al;obtain ⟨⟨⟨⟨u3, u4⟩, Bf⟩, Be⟩, Fp⟩ := al;have qF := kv.1 u3;have qG := kv.1 u4;have wk := xt.1 Bf;have b9 := xt.1 Be;unfold b5 ry;have o1 := D8 (u := 2 * a1 - l1) (v := 2 * b1 - l1) (w := !decide (k = 2)) LK (by omega) (by omega);have o2 := D8 (u := 2 * a2 - l2) (v := 2 * b2 - l2) (w := !decide (k = 2)) o1 (by omega) (by omega);have Ra := D8 (u := h1 - 2 * a1) (v := h1 - 2 * b1) (w := decide (k = 1)) o2 (by omega) (by omega);have ad6 := D8 (u := h2 - 2 * a2) (v := h2 - 2 * b2) (w := decide (k = 1)) Ra (by omega) (by omega);exact aeQ (pE u3) (pE u4) (ER Bf) (ER Be) (RG Fp) rfl rfl ae7 (afk qF.1 qG.1 wk.1 (ES LK (by omega) (by omega))) (afj qF.2 qG.2 wk.2 (ES o1 (by omega) (by omega))) (afl qF.1 qG.1 b9.1 (ES o2 (by omega) (by omega))) (afi qF.2 qG.2 b9.2 (ES Ra (by omega) (by omega))) (afv ad6)
theorem Rx {a1 a2 b1 b2 x y k : Int} {bV cC : Bool} (oc : au ag 153 [ax k] (a7 bV)) (UA : au ag 38 [aE x y, ax k] (a7 cC)) (h : (bV && cC) = false) : au ag 131 [aE a1 a2, aE b1 b2, aE x y, ax k] (a7 false) := by
 have cs : bV = false ∨ (bV = true ∧ cC = false) := by cases bV <;> cases cC <;> simp_all
 clear h;rcases cs with rfl | ⟨rfl, rfl⟩
 all_goals
  refine bd (f := 131) Tryz.func131 rfl rfl rfl rfl ?_;(refine bS ?_)
  ((refine aW rfl (aY rfl aJ) ?_))
  exact ah.aK.refl _
theorem aeL {a1 a2 b1 b2 x y k l1 l2 h1 h2 : Int} {r : Bool} (oc : au ag 153 [ax k] (a7 true)) (UA : au ag 38 [aE x y, ax k] (a7 true)) (ajt : au ag 154 [aE x y, ax k] (.cz [.agg [.c (.int .i64 l1), .c (.int .i64 l2)], .agg [.c (.int .i64 h1), .c (.int .i64 h2)]])) (M : au ag 155 [aE a1 a2, aE b1 b2, aE l1 l2, aE h1 h2, ax 0] (a7 r)) : au ag 131 [aE a1 a2, aE b1 b2, aE x y, ax k] (a7 r) := by
 refine bd (f := 131) Tryz.func131 rfl rfl rfl rfl ?_;(refine bS ?_)
 ((refine aW rfl (aY rfl aJ) ?_))
 exact ah.aK.refl _
def mx (a1 a2 b1 b2 x y k : Int) : Bool := decide (0 ≤ k) && decide (k ≤ 28) && eA k.toNat x y && tf a1 a2 b1 b2 (2 * (2 ^ k.toNat * x) - 2 ^ k.toNat) (2 * (2 ^ k.toNat * y) - 2 ^ k.toNat) (2 * (2 ^ k.toNat * x) + 2 ^ k.toNat) (2 * (2 ^ k.toNat * y) + 2 ^ k.toNat) 0
theorem abN {k : Int} (h : (decide (0 ≤ k) && decide (k ≤ 28)) = true) : gg k k.toNat := by
 simp only [c6, cg] at h;unfold gg;omega
theorem aeI {a1 a2 b1 b2 x y k : Int} : au ag 131 [aE a1 a2, aE b1 b2, aE x y, ax k] (a7 (mx a1 a2 b1 b2 x y k)) := by
 unfold mx;have oc := aft (k := k);cases af : (decide (0 ≤ k) && decide (k ≤ 28)) with
 | false =>
  rw [af] at oc;obtain ⟨r, al⟩ := PE k;exact Rx oc (A3 al rfl) rfl
 | true =>
  rw [af] at oc;have al := abN af;cases hi : eA k.toNat x y with
  | false => exact Rx oc (A3 al hi) rfl
  | true => exact aeL oc (A3 al hi) (ae2 al hi) aeP
end Go.Proofs.YtbcecodakfejaaaGreat
namespace Go.Proofs.YtbcecodakfejaaaGreat
def Lg (a1 a2 b1 b2 l1 l2 h1 h2 k : Int) : Prop := Met (2 * a1 - l1) (2 * b1 - l1) (2 * a2 - l2) (2 * b2 - l2) (h1 - 2 * a1) (h1 - 2 * b1) (h2 - 2 * a2) (h2 - 2 * b2) (!decide (k = 2)) (decide (k = 1))
theorem Jo {a1 a2 b1 b2 l1 l2 h1 h2 k : Int} : tf a1 a2 b1 b2 l1 l2 h1 h2 k = true ↔ uI a1 a2 b1 b2 l1 l2 h1 h2 k = true ∧ Lg a1 a2 b1 b2 l1 l2 h1 h2 k := by
 unfold tf b5 Lg;rw [c6, XE]
theorem Qg {a1 a2 b1 b2 l1 l2 h1 h2 k : Int} : uI a1 a2 b1 b2 l1 l2 h1 h2 k = true ↔ bu a1 a2 = true ∧ bu b1 b2 = true ∧ o8 l1 l2 = true ∧ o8 h1 h2 = true ∧ x5 k = true := by
 unfold uI;simp only [c6, and_assoc]
end Go.Proofs.YtbcecodakfejaaaGreat
namespace Go.Proofs.YtbcecodakfejaaaGreat
open Go.RowKit
def jy (a1 a2 b1 b2 l1 l2 h1 h2 : Int) : List (Int × Int) := [(0, 1), (1, 1)] ++ n9 a1 b1 l1 ++ n9 a1 b1 h1 ++ n9 a2 b2 l2 ++ n9 a2 b2 h2
def sy (a1 a2 b1 b2 l1 l2 h1 h2 : Int) : List (Int × Int) := jy a1 a2 b1 b2 l1 l2 h1 h2 ++ iQ (jy a1 a2 b1 b2 l1 l2 h1 h2) (jy a1 a2 b1 b2 l1 l2 h1 h2).length
def C6 (a1 a2 b1 b2 l1 l2 h1 h2 kind : Int) (p : Int × Int) : Bool := yF (2 * a1 * p.2 + p.1 * (2 * (b1 - a1)) * 1) (1 * p.2) l1 h1 kind && yF (2 * a2 * p.2 + p.1 * (2 * (b2 - a2)) * 1) (1 * p.2) l2 h2 kind
theorem BH (a b iv : Int) : (2 * (b - a) < 0 ∧ n9 a b iv = if -(2 * (b - a)) = 0 ∨ -(iv - 2 * a) < 0 ∨ -(2 * (b - a)) < -(iv - 2 * a) then [] else [(-(iv - 2 * a), -(2 * (b - a)))]) ∨ (¬ 2 * (b - a) < 0 ∧ n9 a b iv = if 2 * (b - a) = 0 ∨ iv - 2 * a < 0 ∨ 2 * (b - a) < iv - 2 * a then [] else [(iv - 2 * a, 2 * (b - a))]) := by
 unfold n9
 by_cases q : 2 * (b - a) < 0
 ·exact .inl ⟨q, by simp only [if_pos q]⟩
 ·exact .inr ⟨q, by simp only [if_neg q]⟩
theorem FX (a b iv : Int) : (n9 a b iv).length ≤ 1 := by
 rcases BH a b iv with ⟨_, e⟩ | ⟨_, e⟩ <;> rw [e] <;> split <;> simp
theorem FY {a b iv : Int} {p : Int × Int} (h : p ∈ n9 a b iv) : 0 < p.2 ∧ 0 ≤ p.1 ∧ p.1 ≤ p.2 := by
 rcases BH a b iv with ⟨q, e⟩ | ⟨q, e⟩ <;> rw [e] at h <;> split at h
 ·simp at h
 ·rw [hx.1 h]; simp only; omega
 ·simp at h
 ·rw [hx.1 h]; simp only; omega
def tI (p : Int × Int) : Prop := 0 < p.2 ∧ 0 ≤ p.1 ∧ p.1 ≤ p.2
theorem Cx {a1 a2 b1 b2 l1 l2 h1 h2 : Int} {p : Int × Int} (h : p ∈ jy a1 a2 b1 b2 l1 l2 h1 h2) : tI p := by
 unfold jy at h;simp only [h0, fl, pK, or_false] at h;rcases h with (((h | h) | h) | h) | h
 ·rcases h with rfl | rfl <;> (unfold tI; simp)
 ·exact FY h
 ·exact FY h
 ·exact FY h
 ·exact FY h
theorem FZ {a b iv : Int} (aF : -134217728 ≤ a ∧ a ≤ 134217728) (ab : -134217728 ≤ b ∧ b ≤ 134217728) {p : Int × Int} (h : p ∈ n9 a b iv) : p.2 ≤ 536870912 := by
 rcases BH a b iv with ⟨q, e⟩ | ⟨q, e⟩ <;> rw [e] at h <;> split at h
 ·simp at h
 ·rw [hx.1 h]; simp only; omega
 ·simp at h
 ·rw [hx.1 h]; simp only; omega
theorem W1 {a1 a2 b1 b2 l1 l2 h1 h2 : Int} (aF : bu a1 a2 = true) (ab : bu b1 b2 = true) {p : Int × Int} (h : p ∈ jy a1 a2 b1 b2 l1 l2 h1 h2) : p.2 ≤ 536870912 := by
 rw [kv] at aF ab;unfold jy at h;simp only [h0, fl, pK, or_false] at h;rcases h with (((h | h) | h) | h) | h
 ·rcases h with rfl | rfl <;> simp
 ·exact FZ aF.1 ab.1 h
 ·exact FZ aF.1 ab.1 h
 ·exact FZ aF.2 ab.2 h
 ·exact FZ aF.2 ab.2 h
theorem zf {a1 a2 b1 b2 l1 l2 h1 h2 : Int} (aF : bu a1 a2 = true) (ab : bu b1 b2 = true) {p : Int × Int} (h : p ∈ jy a1 a2 b1 b2 l1 l2 h1 h2) : bj 5 p.1 ∧ bj 5 p.2 := by
 obtain ⟨q1, q2, bB⟩ := Cx h;have := W1 aF ab h;exact ⟨oE (by omega) (by omega), oE (by omega) (by omega)⟩
theorem Ct {L : List (Int × Int)} {i : Nat} (h : i < L.length) : fh L i ∈ L := by
 have := ze h [];rw [me] at this;exact dc this
theorem Js {L : List (Int × Int)} {n : Nat} {p : Int × Int} : p ∈ iQ L n ↔ ∃ i j, i < n ∧ j < i ∧ p = qI (fh L i) (fh L j) := by
 unfold iQ kW;simp only [List.mem_flatMap, pL, gV]
 constructor
 ·rintro ⟨i, hi, j, ae, rfl⟩; exact ⟨i, j, hi, ae, rfl⟩
 ·rintro ⟨i, j, hi, ae, rfl⟩; exact ⟨i, hi, j, ae, rfl⟩
theorem adb {p q : Int × Int} (h : tI p) (k : tI q) : tI (qI p q) := by
 obtain ⟨h1, h2, h3⟩ := h;obtain ⟨ba, bo, dU⟩ := k;unfold qI tI;simp only;have m := Int.mul_pos h1 ba;have m1 := ga h2 (lf ba);have m2 := ga bo (lf h1);have m3 : p.1 * q.2 ≤ p.2 * q.2 := lK h3 (lf ba);have m4 : q.1 * p.2 ≤ q.2 * p.2 := lK dU (lf h1);rw [gq q.2] at m4;omega
theorem L1 {a1 a2 b1 b2 l1 l2 h1 h2 : Int} {p : Int × Int} (h : p ∈ sy a1 a2 b1 b2 l1 l2 h1 h2) : p ∈ jy a1 a2 b1 b2 l1 l2 h1 h2 ∨ ∃ q r, q ∈ jy a1 a2 b1 b2 l1 l2 h1 h2 ∧ r ∈ jy a1 a2 b1 b2 l1 l2 h1 h2 ∧ p = qI q r := by
 unfold sy at h;rcases h0.1 h with h | h
 ·exact .inl h
 ·obtain ⟨i, j, hi, ae, rfl⟩ := Js.1 h;exact .inr ⟨_, _, Ct hi, Ct (by omega), rfl⟩
theorem Cq {a1 a2 b1 b2 l1 l2 h1 h2 : Int} {p : Int × Int} (h : p ∈ sy a1 a2 b1 b2 l1 l2 h1 h2) : tI p := by
 rcases L1 h with h | ⟨q, r, ak, al, rfl⟩
 ·exact Cx h
 ·exact adb (Cx ak) (Cx al)
theorem WI {a1 a2 b1 b2 l1 l2 h1 h2 : Int} (aF : bu a1 a2 = true) (ab : bu b1 b2 = true) {p : Int × Int} (h : p ∈ sy a1 a2 b1 b2 l1 l2 h1 h2) : bj 11 p.1 ∧ bj 11 p.2 := by
 rcases L1 h with h | ⟨q, r, ak, al, rfl⟩
 ·obtain ⟨cE, cP⟩ := zf aF ab h;exact ⟨cE.up (by omega), cP.up (by omega)⟩
 ·obtain ⟨cE, cP⟩ := zf aF ab ak;obtain ⟨m1, m2⟩ := zf aF ab al;exact ⟨(cE.mul m2).add (m1.mul cP), (cP.mul m2).add (cP.mul m2)⟩
theorem T0 {a b l h k : Int} {p : Int × Int} : yF (2 * a * p.2 + p.1 * (2 * (b - a)) * 1) (1 * p.2) l h k = true ↔ iW (2 * a - l) (2 * b - l) (!decide (k = 2)) p.1 p.2 ∧ iW (h - 2 * a) (h - 2 * b) (decide (k = 1)) p.1 p.2 := by
 obtain ⟨n, d⟩ := p;unfold yF iW;simp only [c6, oJ, cg];rw [I0, IZ, I0, IZ];have aG : (2 * a - l) * (d - n) + (2 * b - l) * n = (2 * a * d + n * (2 * (b - a)) * 1) * 1 - l * (1 * d) := by grind
 have aO : (h - 2 * a) * (d - n) + (h - 2 * b) * n = h * (1 * d) - (2 * a * d + n * (2 * (b - a)) * 1) * 1 := by grind
 rw [aG, aO];generalize (2 * a * d + n * (2 * (b - a)) * 1) * 1 = X;generalize l * (1 * d) = Y;generalize h * (1 * d) = Z
 constructor
 ·rintro ⟨ba, bo⟩;refine ⟨?_, ?_⟩
  ·rcases ba with ba | ⟨ba, dU⟩
   ·exact .inl (by omega)
   ·exact .inr ⟨dU, by omega⟩
  ·rcases bo with bo | ⟨bo, dU⟩
   ·exact .inl (by omega)
   ·exact .inr ⟨dU, by omega⟩
 ·rintro ⟨ba, bo⟩;refine ⟨?_, ?_⟩
  ·rcases ba with ba | ⟨dU, ba⟩
   ·exact .inl (by omega)
   ·exact .inr ⟨by omega, dU⟩
  ·rcases bo with bo | ⟨dU, bo⟩
   ·exact .inl (by omega)
   ·exact .inr ⟨by omega, dU⟩
theorem C7 {a1 a2 b1 b2 l1 l2 h1 h2 k : Int} {p : Int × Int} (hp : tI p) : C6 a1 a2 b1 b2 l1 l2 h1 h2 k p = true ↔ o0 (b5 a1 a2 b1 b2 l1 l2 h1 h2 k) p.1 p.2 := by
 unfold C6 b5;rw [c6, T0, T0, G5 hp.1]
 constructor
 ·rintro ⟨⟨g1, g2⟩, g3, g4⟩; exact ⟨hp.2, g1, g3, g2, g4⟩
 ·rintro ⟨_, g1, g3, g2, g4⟩; exact ⟨⟨g1, g2⟩, g3, g4⟩
def lQ (u v n d : Int) : Prop := (0 < v - u ∧ n = -u ∧ d = v - u) ∨ (v - u < 0 ∧ n = u ∧ d = -(v - u))
theorem D6 {S : Int → Int → Prop} {p : Pa} {u v : Int} {o : Bool} (aA : S 0 1) (h1 : S 1 1) (aj : ∀ n d, lQ u v n d → S n d) (ap : S p.f.n p.f.d) (aB : S p.t.n p.t.d) : S (jV p u v o).f.n (jV p u v o).f.d ∧ S (jV p u v o).t.n (jV p u v o).t.d := by
 unfold jV
 by_cases q1 : 0 < v - u
 ·rw [if_pos q1];refine ⟨?_, aB⟩;rcases Ea p.f ⟨-u, v - u, o⟩ with ⟨e, _⟩ | ⟨e, _⟩ <;> simp only [e]
  ·exact ap
  ·exact aj _ _ (.inl ⟨q1, rfl, rfl⟩)
 ·rw [if_neg q1]
  by_cases q2 : v - u < 0
  ·rw [if_pos q2];refine ⟨ap, ?_⟩;rcases CQ p.t ⟨u, -(v - u), o⟩ with ⟨e, _⟩ | ⟨e, _⟩ <;> simp only [e]
   ·exact aB
   ·exact aj _ _ (.inr ⟨q2, rfl, rfl⟩)
  ·rw [if_neg q2]
   split
   ·exact ⟨h1, aA⟩
   ·exact ⟨ap, aB⟩
theorem D5 {p : Pa} {u v : Int} {o : Bool} (XN : 0 < p.f.d) (XZ : 0 < p.t.d) (ap : 0 ≤ p.f.n) (aB : p.t.n ≤ p.t.d) : 0 ≤ (jV p u v o).f.n ∧ (jV p u v o).t.n ≤ (jV p u v o).t.d := by
 unfold jV
 by_cases q1 : 0 < v - u
 ·rw [if_pos q1];refine ⟨?_, aB⟩;rcases Ea p.f ⟨-u, v - u, o⟩ with ⟨e, _⟩ | ⟨e, h⟩ <;> simp only [e]
  ·exact ap
  ·have hle : p.f.n * (v - u) ≤ -u * p.f.d := by
    rcases vC p.f ⟨-u, v - u, o⟩ with ⟨t, _⟩ | ⟨t, _⟩ | ⟨_, c⟩
    ·simp only at t; omega
    ·simp only at t; omega
    ·exact absurd (.inl c) h
   have m := ga ap (by omega : 0 ≤ v - u);have : 0 * p.f.d ≤ -u * p.f.d := by omega
   exact le_mul this XN
 ·rw [if_neg q1]
  by_cases q2 : v - u < 0
  ·rw [if_pos q2];refine ⟨ap, ?_⟩;rcases CQ p.t ⟨u, -(v - u), o⟩ with ⟨e, _⟩ | ⟨e, h⟩ <;> simp only [e]
   ·exact aB
   ·have hle : u * p.t.d ≤ p.t.n * -(v - u) := by
     rcases vC p.t ⟨u, -(v - u), o⟩ with ⟨_, c⟩ | ⟨t, _⟩ | ⟨t, _⟩
     ·exact absurd (.inl c) h
     ·simp only at t; omega
     ·simp only at t; omega
    have m : p.t.n * -(v - u) ≤ p.t.d * -(v - u) := lK aB (by omega);have : u * p.t.d ≤ -(v - u) * p.t.d := by rw [gq (-(v - u))]; omega
    exact le_mul this XZ
  ·rw [if_neg q2]
   split
   ·exact ⟨by decide, by decide⟩
   ·exact ⟨ap, aB⟩
theorem M1 {a b l n d : Int} (h : lQ (2 * a - l) (2 * b - l) n d) (aA : 0 ≤ n) (h1 : n ≤ d) : (n, d) ∈ n9 a b l := by
 unfold lQ at h;rcases BH a b l with ⟨q, e⟩ | ⟨q, e⟩ <;> rw [e] <;> split
 ·exfalso; omega
 ·rw [hx, pR]; omega
 ·exfalso; omega
 ·rw [hx, pR]; omega
theorem M0 {a b l n d : Int} (h : lQ (l - 2 * a) (l - 2 * b) n d) (aA : 0 ≤ n) (h1 : n ≤ d) : (n, d) ∈ n9 a b l := by
 unfold lQ at h;rcases BH a b l with ⟨q, e⟩ | ⟨q, e⟩ <;> rw [e] <;> split
 ·exfalso; omega
 ·rw [hx, pR]; omega
 ·exfalso; omega
 ·rw [hx, pR]; omega
theorem M8 (a1 a2 b1 b2 l1 l2 h1 h2 k : Int) (h : (b5 a1 a2 b1 b2 l1 l2 h1 h2 k).f.n * (b5 a1 a2 b1 b2 l1 l2 h1 h2 k).t.d ≤ (b5 a1 a2 b1 b2 l1 l2 h1 h2 k).t.n * (b5 a1 a2 b1 b2 l1 l2 h1 h2 k).f.d) :
  ((b5 a1 a2 b1 b2 l1 l2 h1 h2 k).f.n, (b5 a1 a2 b1 b2 l1 l2 h1 h2 k).f.d) ∈ jy a1 a2 b1 b2 l1 l2 h1 h2 ∧ ((b5 a1 a2 b1 b2 l1 l2 h1 h2 k).t.n, (b5 a1 a2 b1 b2 l1 l2 h1 h2 k).t.d) ∈ jy a1 a2 b1 b2 l1 l2 h1 h2 := by
 have hd : 0 < (b5 a1 a2 b1 b2 l1 l2 h1 h2 k).f.d ∧ 0 < (b5 a1 a2 b1 b2 l1 l2 h1 h2 k).t.d := G4 ..
 have key : ∀ n d, ((n = 0 ∧ d = 1) ∨ (n = 1 ∧ d = 1) ∨ lQ (2 * a1 - l1) (2 * b1 - l1) n d ∨ lQ (2 * a2 - l2) (2 * b2 - l2) n d ∨ lQ (h1 - 2 * a1) (h1 - 2 * b1) n d ∨ lQ (h2 - 2 * a2) (h2 - 2 * b2) n d) → 0 ≤ n → n ≤ d → (n, d) ∈ jy a1 a2 b1 b2 l1 l2 h1 h2 := by
  intro n d hs q0 q1;unfold jy;simp only [h0, fl, pK, or_false, pR];rcases hs with hs | hs | hs | hs | hs | hs
  ·exact .inl (.inl (.inl (.inl (.inl hs))))
  ·exact .inl (.inl (.inl (.inl (.inr hs))))
  ·exact .inl (.inl (.inl (.inr (M1 hs q0 q1))))
  ·exact .inl (.inr (M1 hs q0 q1))
  ·exact .inl (.inl (.inr (M0 hs q0 q1)))
  ·exact .inr (M0 hs q0 q1)
 generalize hS : (fun n d : Int => ((n = 0 ∧ d = 1) ∨ (n = 1 ∧ d = 1) ∨ lQ (2 * a1 - l1) (2 * b1 - l1) n d ∨ lQ (2 * a2 - l2) (2 * b2 - l2) n d ∨ lQ (h1 - 2 * a1) (h1 - 2 * b1) n d ∨ lQ (h2 - 2 * a2) (h2 - 2 * b2) n d)) = S;have dV : S 0 1 := by rw [← hS]; exact .inl ⟨rfl, rfl⟩
 have s1 : S 1 1 := by rw [← hS]; exact .inr (.inl ⟨rfl, rfl⟩)
 have c1 : ∀ n d, lQ (2 * a1 - l1) (2 * b1 - l1) n d → S n d := fun n d h => by rw [← hS]; exact .inr (.inr (.inl h))
 have c2 : ∀ n d, lQ (2 * a2 - l2) (2 * b2 - l2) n d → S n d := fun n d h => by rw [← hS]; exact .inr (.inr (.inr (.inl h)))
 have jA : ∀ n d, lQ (h1 - 2 * a1) (h1 - 2 * b1) n d → S n d := fun n d h => by rw [← hS]; exact .inr (.inr (.inr (.inr (.inl h))))
 have rv : ∀ n d, lQ (h2 - 2 * a2) (h2 - 2 * b2) n d → S n d := fun n d h => by rw [← hS]; exact .inr (.inr (.inr (.inr (.inr h))))
 have PX : ∀ n d, S n d → 0 ≤ n → n ≤ d → (n, d) ∈ jy a1 a2 b1 b2 l1 l2 h1 h2 := fun n d h => key n d (by rw [← hS] at h; exact h)
 have hs : S (b5 a1 a2 b1 b2 l1 l2 h1 h2 k).f.n (b5 a1 a2 b1 b2 l1 l2 h1 h2 k).f.d ∧ S (b5 a1 a2 b1 b2 l1 l2 h1 h2 k).t.n (b5 a1 a2 b1 b2 l1 l2 h1 h2 k).t.d := by
  unfold b5 ry;have ba := D6 (p := rl) (u := 2 * a1 - l1) (v := 2 * b1 - l1) (o := !decide (k = 2)) dV s1 c1 dV s1;have bo := D6 (u := 2 * a2 - l2) (v := 2 * b2 - l2) (o := !decide (k = 2)) dV s1 c2 ba.1 ba.2;have dU := D6 (u := h1 - 2 * a1) (v := h1 - 2 * b1) (o := decide (k = 1)) dV s1 jA bo.1 bo.2;exact D6 dV s1 rv dU.1 dU.2
 have he : 0 ≤ (b5 a1 a2 b1 b2 l1 l2 h1 h2 k).f.n ∧ (b5 a1 a2 b1 b2 l1 l2 h1 h2 k).t.n ≤ (b5 a1 a2 b1 b2 l1 l2 h1 h2 k).t.d := by
  unfold b5 ry;have d1 := rU (p := rl) (u := 2 * a1 - l1) (v := 2 * b1 - l1) (own := !decide (k = 2)) (by decide) (by decide);have d2 := rU (u := 2 * a2 - l2) (v := 2 * b2 - l2) (own := !decide (k = 2)) d1.1 d1.2;have d3 := rU (u := h1 - 2 * a1) (v := h1 - 2 * b1) (own := decide (k = 1)) d2.1 d2.2;have ba := D5 (p := rl) (u := 2 * a1 - l1) (v := 2 * b1 - l1) (o := !decide (k = 2)) (by decide) (by decide) (by decide) (by decide);have bo := D5 (u := 2 * a2 - l2) (v := 2 * b2 - l2) (o := !decide (k = 2)) d1.1 d1.2 ba.1 ba.2;have dU := D5 (u := h1 - 2 * a1) (v := h1 - 2 * b1) (o := decide (k = 1)) d2.1 d2.2 bo.1 bo.2;exact D5 d3.1 d3.2 dU.1 dU.2
 generalize b5 a1 a2 b1 b2 l1 l2 h1 h2 k = p at *;clear hS dV s1 c1 c2 jA rv key;have m1 : p.t.n * p.f.d ≤ p.t.d * p.f.d := lK he.2 (by omega);have m2 := ga he.1 (by omega : 0 ≤ p.t.d);refine ⟨PX _ _ hs.1 he.1 ?_, PX _ _ hs.2 ?_ he.2⟩
 ·have : p.f.n * p.t.d ≤ p.f.d * p.t.d := by rw [gq p.f.d]; omega
  exact le_mul this hd.2
 ·have : 0 * p.f.d ≤ p.t.n * p.f.d := by omega
  exact le_mul this hd.1
theorem WH (a1 a2 b1 b2 l1 l2 h1 h2 k : Int) : (sy a1 a2 b1 b2 l1 l2 h1 h2).any (C6 a1 a2 b1 b2 l1 l2 h1 h2 k) = tT (b5 a1 a2 b1 b2 l1 l2 h1 h2 k) := by
 have hd : 0 < (b5 a1 a2 b1 b2 l1 l2 h1 h2 k).f.d ∧ 0 < (b5 a1 a2 b1 b2 l1 l2 h1 h2 k).t.d := G4 ..;rw [kR, uY]
 constructor
 ·rintro ⟨p, hp, an⟩;rw [L3 hd.1 hd.2];have rH := Cq hp;exact ⟨p.1, p.2, rH.1, (C7 rH).1 an⟩
 ·intro aF;have pd := aF;unfold tT at aF;simp only [oJ, c6, cg] at aF;rcases vC (b5 a1 a2 b1 b2 l1 l2 h1 h2 k).f (b5 a1 a2 b1 b2 l1 l2 h1 h2 k).t with ⟨t, c⟩ | ⟨t, c⟩ | ⟨t, c⟩
  ·obtain ⟨m1, m2⟩ := M8 a1 a2 b1 b2 l1 l2 h1 h2 k (by omega);have gB := (Qt hd.1 hd.2 t).2;obtain ⟨i, hi⟩ := j1 m1;obtain ⟨j, ae⟩ := j1 m2;have kl := (bL.1 hi).1;have lB := (bL.1 ae).1
   have lr : fh (jy a1 a2 b1 b2 l1 l2 h1 h2) i = ((b5 a1 a2 b1 b2 l1 l2 h1 h2 k).f.n, (b5 a1 a2 b1 b2 l1 l2 h1 h2 k).f.d) := by
    have := ze kl [];rw [me, hi] at this;exact (lc this).symm
   have ij : fh (jy a1 a2 b1 b2 l1 l2 h1 h2) j = ((b5 a1 a2 b1 b2 l1 l2 h1 h2 k).t.n, (b5 a1 a2 b1 b2 l1 l2 h1 h2 k).t.d) := by
    have := ze lB [];rw [me, ae] at this;exact (lc this).symm
   rcases Nat.lt_trichotomy i j with e0 | e0 | e0
   ·have hm : qI (fh (jy a1 a2 b1 b2 l1 l2 h1 h2) j) (fh (jy a1 a2 b1 b2 l1 l2 h1 h2) i) ∈ sy a1 a2 b1 b2 l1 l2 h1 h2 := List.mem_append_right _ (Js.2 ⟨j, i, lB, e0, rfl⟩);refine ⟨_, hm, (C7 (Cq hm)).2 ?_⟩;rw [lr, ij];unfold qI;simp only;unfold Jq Ei at gB;rw [Int.add_comm, gq (b5 a1 a2 b1 b2 l1 l2 h1 h2 k).t.d];exact gB
   ·exfalso;subst e0;rw [lr] at ij;simp only [pR] at ij;rw [← ij.1, ← ij.2] at t;omega
   ·have hm : qI (fh (jy a1 a2 b1 b2 l1 l2 h1 h2) i) (fh (jy a1 a2 b1 b2 l1 l2 h1 h2) j) ∈ sy a1 a2 b1 b2 l1 l2 h1 h2 := List.mem_append_right _ (Js.2 ⟨i, j, kl, e0, rfl⟩);refine ⟨_, hm, (C7 (Cq hm)).2 ?_⟩;rw [lr, ij];exact gB
  ·obtain ⟨m1, m2⟩ := M8 a1 a2 b1 b2 l1 l2 h1 h2 k (by omega);rcases aF with aF | ⟨⟨_, o1⟩, o2⟩
   ·omega
   ·have hm : ((b5 a1 a2 b1 b2 l1 l2 h1 h2 k).f.n, (b5 a1 a2 b1 b2 l1 l2 h1 h2 k).f.d) ∈ sy a1 a2 b1 b2 l1 l2 h1 h2 := List.mem_append_left _ m1;exact ⟨_, hm, (C7 (Cq hm)).2 ⟨.inr ⟨o1, rfl⟩, .inr ⟨o2, t⟩⟩⟩
  ·rcases aF with aF | ⟨⟨aF, _⟩, _⟩ <;> omega
theorem afY {a1 a2 b1 b2 l1 l2 h1 h2 k : Int} {bV cC eY iU : Bool} (bf : au ag 27 [aE a1 a2] (a7 bV)) (ev : au ag 27 [aE b1 b2] (a7 cC)) (B5 : au ag 67 [aE l1 l2] (a7 eY)) (B6 : au ag 67 [aE h1 h2] (a7 iU))
  (cs : bV = false ∨ (bV = true ∧ cC = false) ∨ (bV = true ∧ cC = true ∧ eY = false) ∨ (bV = true ∧ cC = true ∧ eY = true ∧ iU = false) ∨ (bV = true ∧ cC = true ∧ eY = true ∧ iU = true ∧ k < 0) ∨ (bV = true ∧ cC = true ∧ eY = true ∧ iU = true ∧ ¬ k < 0 ∧ 2 < k)) :
  au ag 37 [aE a1 a2, aE b1 b2, aE l1 l2, aE h1 h2, ax k] (a7 false) := by
 rcases cs with rfl | ⟨rfl, rfl⟩ | ⟨rfl, rfl, rfl⟩ | ⟨rfl, rfl, rfl, rfl⟩ | ⟨rfl, rfl, rfl, rfl, q1⟩ | ⟨rfl, rfl, rfl, rfl, q1, q2⟩
 all_goals
  refine bd (f := 37) Tryz.func37 rfl rfl rfl rfl ?_;(repeat first | refine dv ?_ | refine e7 ?_ | (with_reducible apply bP (c := true)); rfl; rfl; (exact cd (by omega)) | (with_reducible apply bP (c := false)); rfl; rfl; (exact cA (by omega)))
  ((refine aW rfl (aY rfl aJ) ?_))
  exact ah.aK.refl _
theorem afW {a1 a2 b1 b2 l1 l2 h1 h2 k : Int} : au ag 37 [aE a1 a2, aE b1 b2, aE l1 l2, aE h1 h2, ax k] (a7 (tf a1 a2 b1 b2 l1 l2 h1 h2 k)) := by
 unfold tf;cases al : uI a1 a2 b1 b2 l1 l2 h1 h2 k with
 | false =>
  refine afY (kQ rfl) (kQ rfl) (EY rfl) (EY rfl) ?_;unfold uI x5 at al;cases q1 : bu a1 a2 with
  | false => exact .inl rfl
  | true =>
   cases q2 : bu b1 b2 with
   | false => exact .inr (.inl ⟨rfl, rfl⟩)
   | true =>
    cases bB : o8 l1 l2 with
    | false => exact .inr (.inr (.inl ⟨rfl, rfl, rfl⟩))
    | true =>
     cases cS : o8 h1 h2 with
     | false => exact .inr (.inr (.inr (.inl ⟨rfl, rfl, rfl, rfl⟩)))
     | true =>
      rw [q1, q2, bB, cS] at al;simp only [Bool.and_true, oN, Bool.and_eq_false_iff, kq] at al
      by_cases lH : k < 0
      ·exact .inr (.inr (.inr (.inr (.inl ⟨rfl, rfl, rfl, rfl, lH⟩))))
      ·exact .inr (.inr (.inr (.inr (.inr ⟨rfl, rfl, rfl, rfl, lH, by omega⟩))))
 | true =>
  rw [oN];rw [Qg] at al;obtain ⟨u3, u4, Bf, Be, Fp⟩ := al;have qF := kv.1 u3;have qG := kv.1 u4;have wk := xt.1 Bf;have b9 := xt.1 Be;unfold x5 at Fp;simp only [c6, cg] at Fp
  refine afX (L := jy a1 a2 b1 b2 l1 l2 h1 h2) (F := sy a1 a2 b1 b2 l1 l2 h1 h2) (g := C6 a1 a2 b1 b2 l1 l2 h1 h2 k) (kQ u3) (kQ u4) (EY Bf) (EY Be) (by omega) (by omega) (pF (by omega) (by omega)) (pF (by omega) (by omega))
   (EZ qF.1 qG.1 wk.1) (EZ qF.1 qG.1 b9.1) (EZ qF.2 qG.2 wk.2) (EZ qF.2 qG.2 b9.2) ⟨FX _ _ _, FX _ _ _, FX _ _ _, FX _ _ _⟩ rfl rfl (fun i j hi ae => ?_) (fun p hp => ?_) (WH ..)
  ·obtain ⟨cE, cP⟩ := zf u3 u4 (Ct hi);obtain ⟨m1, m2⟩ := zf u3 u4 (Ct (Nat.lt_trans ae hi));exact ⟨RT (cE.up (by omega)) (cP.up (by omega)) (m1.up (by omega)) (m2.up (by omega)), E0 ((cP.mul m2).up (by omega)) ((cP.mul m2).up (by omega))⟩
  ·obtain ⟨cE, cP⟩ := WI u3 u4 hp;have t1 : bj 5 (1 : Int) := oE (by omega) (by omega);have b4 : bj 5 (2 * (b1 - a1)) := oE (by omega) (by omega);have ck : bj 5 (2 * (b2 - a2)) := oE (by omega) (by omega);have iG : bj 5 (2 * a1) := oE (by omega) (by omega);have ob : bj 5 (2 * a2) := oE (by omega) (by omega);have e2 : bj 21 (2 * a1 * p.2) := (iG.mul cP).up (by omega);have z2 : bj 21 (p.1 * (2 * (b1 - a1)) * 1) := ((cE.mul b4).mul t1).up (by omega);have z3 : bj 21 (2 * a2 * p.2) := (ob.mul cP).up (by omega);have z4 : bj 21 (p.1 * (2 * (b2 - a2)) * 1) := ((cE.mul ck).mul t1).up (by omega);have z5 : bj 16 (1 * p.2) := (t1.mul cP).up (by omega);have bY := e2.add z2;have b0 := z3.add z4;exact ⟨_, _, _, _, _, _, RS qF.1 qG.1 (cE.up (by omega)) (cP.up (by omega)), RU wk.1 b9.1 (bY.up (by omega)) (z5.up (by omega)), RS qF.2 qG.2 (cE.up (by omega)) (cP.up (by omega)), RU wk.2 b9.2 (b0.up (by omega)) (z5.up (by omega)), rfl⟩
end Go.Proofs.YtbcecodakfejaaaGreat
namespace Go.Proofs.YtbcecodakfejaaaGreat
open Go.ChangeShapes Go.WideShapes Go.ChangeAt Go.RowKit Go.Joins
theorem aet : ownKnob ag.godebug = none := by kernel_rfl
def xA (P : Program) : Nat → TypeId → Bool
 | 0, _ => false
 | d + 1, t => match P.underlying t with
  | some .bool | some (.int _) | some .string => true
  | some (.struct bi) => bi.toList.all fun f => xA P d f.type
  | some (.array _ e) => xA P d e
  | _ => false
theorem mapM_flat {α β : Type} {f g : α → Option (β × List MemPlace)} : ∀ (l : List α) (xs : List (β × List MemPlace)), l.mapM f = some xs → (∀ a ∈ l, ∀ x, f a = some x → x.2 = [] ∧ g a = some (x.1, [])) → xs.flatMap (·.2) = [] ∧ l.mapM g = some xs
 | [], xs, h, _ => by cases h; exact ⟨rfl, rfl⟩
 | a :: l, xs, h, af => by
  rw [List.mapM_cons] at h;cases aF : f a with
  | none => rw [aF] at h; cases h
  | some b =>
   rw [aF] at h;cases hl : l.mapM f with
   | none => rw [hl] at h; cases h
   | some bs =>
    rw [hl] at h;cases h;obtain ⟨h1, h2⟩ := af a (by simp) b aF;obtain ⟨h3, aD⟩ := mapM_flat l bs hl fun a' pd => af a' (by simp [pd]);refine ⟨by simp [h1]; intro a' bE nH; have := List.flatMap_eq_nil_iff.1 h3 _ nH; exact this, ?_⟩;rw [List.mapM_cons, h2, aD];obtain ⟨b1, b2⟩ := b;simp only at h1;subst h1;rfl
section
variable {H : Type} {enc : TypeId × Value → H} {P : Program}
theorem NW : ∀ (d : Nat) (t : TypeId), xA P d t = true → ∀ (fr : Nat) (w : World) (base : Nat) (sp : Nat → Bool) (held : Bool) (cs : List Value) (x : DataW H × List MemPlace), DataW.trod enc P w base sp held fr t cs = some x →
  x.2 = [] ∧ ∀ (w' : World) (qc : Nat) (qX : Nat → Bool) (qu : Bool), DataW.trod enc P w' qc qX qu fr t cs = some (x.1, [])
 | 0, _, h, _, _, _, _, _, _, _, _ => by cases h
 | d + 1, t, ap, 0, _, _, _, _, _, _, h => by simp [DataW.trod] at h
 | d + 1, t, ap, fr + 1, w, base, sp, held, cs, x, h => by
  have b9 := fun gd (aa2 : xA P d gd = true) => NW d gd aa2 fr;rw [DataW.trod_step] at h;simp only [DataW.trod_step];unfold xA at ap;unfold DataW.trodStep at h ⊢;cases hu : P.underlying t with
  | none => rw [hu] at ap; cases ap
  | some D =>
   rw [hu] at ap h;cases D with
   | bool =>
    match cs, h with
    | [.bool b], h => cases h; exact ⟨rfl, fun _ _ _ _ => rfl⟩
   | int k =>
    match cs, h with
    | [.int k' n], h =>
     simp only at h ⊢
     split at h
     ·rename_i aj; cases h; exact ⟨rfl, fun _ _ _ _ => by rw [if_pos aj]⟩
     ·cases h
   | string =>
    match cs, h with
    | [.string s], h =>
     simp only at h ⊢
     split at h
     ·rename_i aj; cases h; exact ⟨rfl, fun _ _ _ _ => by rw [if_pos aj]⟩
     ·cases h
   | struct bi =>
    simp only at h ⊢ ap
    split at h
    ·rename_i aj;simp only [Option.map_eq_some_iff] at h;obtain ⟨xs, aa, rfl⟩ := h;have dD := cB.1 ap;refine ⟨?_, fun w' qc qX qu => ?_⟩
     ·exact (mapM_flat (g := fun f => DataW.trod enc P w base sp held fr f.type ((cs.drop f.offset).take (P.cellsOf f.type))) _ _ aa fun f nK y ai => ⟨(b9 f.type (dD f nK) w base sp held _ y ai).1, (b9 f.type (dD f nK) w base sp held _ y ai).2 w base sp held⟩).1
     ·have := mapM_flat (g := fun f => DataW.trod enc P w' qc qX qu fr f.type ((cs.drop f.offset).take (P.cellsOf f.type))) _ _ aa fun f nK y ai => ⟨(b9 f.type (dD f nK) w base sp held _ y ai).1, (b9 f.type (dD f nK) w base sp held _ y ai).2 w' qc qX qu⟩;rw [if_pos aj, this.2];simp only [hr, this.1]
    ·cases h
   | array n e =>
    simp only at h ⊢ ap
    split at h
    ·rename_i aj;simp only [Option.map_eq_some_iff] at h;obtain ⟨xs, aa, rfl⟩ := h;refine ⟨?_, fun w' qc qX qu => ?_⟩
     ·exact (mapM_flat (g := fun i => DataW.trod enc P w base sp held fr e ((cs.drop (i * P.cellsOf e)).take (P.cellsOf e))) _ _ aa fun f _ y ai => ⟨(b9 e ap w base sp held _ y ai).1, (b9 e ap w base sp held _ y ai).2 w base sp held⟩).1
     ·have := mapM_flat (g := fun i => DataW.trod enc P w' qc qX qu fr e ((cs.drop (i * P.cellsOf e)).take (P.cellsOf e))) _ _ aa fun f _ y ai => ⟨(b9 e ap w base sp held _ y ai).1, (b9 e ap w base sp held _ y ai).2 w' qc qX qu⟩;rw [if_pos aj, this.2];simp only [hr, this.1]
    ·cases h
   | _ => cases ap
theorem YE {d : Nat} {t : TypeId} (ap : xA P d t = true) {w : World} {base : Nat} {sp : Nat → Bool} {held : Bool} {v : Value} {D : DataW H} {p : List MemPlace} (h : DataW.Trod enc P w base sp held t v D p) :
  p = [] ∧ ∀ (w' : World) (qc : Nat) (qX : Nat → Bool) (qu : Bool), DataW.Trod enc P w' qc qX qu t v D [] := by
 obtain ⟨fr, h⟩ := h;obtain ⟨h1, h2⟩ := NW d t ap fr w base sp held _ _ h;exact ⟨h1, fun w' qc qX qu => ⟨fr, h2 w' qc qX qu⟩⟩
end
section
variable {P : Program} {W : World} {r : Reach} {b : Nat} {t : TypeId} {v : Value}
theorem aem {k : IntKind} (hu : P.underlying t = some (.int k)) (h : Cell.okWide P W r b t v) : ∃ n, v = .int k n ∧ k.min ≤ n ∧ n ≤ k.max := by
 unfold Cell.okWide Cell.ok at h;rw [hu] at h;cases v <;> simp only at h;rename_i k' n;obtain ⟨rfl, h⟩ := h;exact ⟨n, rfl, by simpa [IntKind.has] using h⟩
theorem aen {D : TypeDesc} (hu : P.underlying t = some D) (hs : ∀ bi, D ≠ .struct bi) (aF : ∀ n e, D ≠ .array n e) (h : Value.okWide P W r b t v) : Cell.okWide P W r b t v := by
 unfold Value.okWide at h;rw [hu] at h;cases D <;> first | exact h | exact absurd rfl (hs _) | exact absurd rfl (aF _ _)
end
end Go.Proofs.YtbcecodakfejaaaGreat
namespace Go.Proofs.YtbcecodakfejaaaGreat
open Go.RowKit
def Vg (k : Int) (r : Nat) (m : Nat) (aL : List (Nat × ah)) (bh : List (Nat × List AC)) : Prop :=
 ∃ (i : Nat) (v j : Int), i ≤ r ∧ m = r - i ∧ v = 2 ^ i ∧ j = i ∧ bh = [] ∧ aL = [(0, ax k), (3, ax v), (4, ax j)]
theorem agr {i r : Nat} (h : i ≤ r) (al : r ≤ 28) : (0 : Int) < 2 ^ i ∧ (2 : Int) ^ i ≤ 268435456 := by
 have := A6 (r := i) (by omega);omega
theorem ae3 {k : Int} {r : Nat} (h : gg k r) : au ag 36 [ax k] (ax (2 ^ r)) := by
 have aS := EM h;have al := h.1;clear h;refine bd (f := 36) Tryz.func36 rfl rfl rfl rfl ?_;(refine eF ?_);refine sD 14 (Vg k r) r _ [] ⟨0, 1, 0, dJ _, rfl, rfl, rfl, rfl, rfl⟩ rfl ⟨rfl, rfl, rfl, trivial⟩ trivial rfl ?_;rintro m aL bh ⟨i, v, j, hi, rfl, hv, ae, rfl, rfl⟩ c9;clear c9
 by_cases q : i < r
 ·have cf : j < r := by omega
  have aO : 2 * v = 2 ^ (i + 1) := by rw [hv, n5, gq]
  obtain ⟨fD, b1⟩ := agr hi al;rw [← hv] at fD b1;have iu : (0 : Int) ≤ j ∧ j ≤ 28 := by omega
  clear hv;(refine bS ?_);exact ⟨r - (i + 1), _, [], by omega, ⟨i + 1, 2 * v, j + 1, by omega, rfl, aO, by omega, rfl, rfl⟩, rfl, ⟨rfl, rfl, rfl, trivial⟩, trivial, rfl⟩
 ·have cf : ¬ j < r := by omega
  have e : i = r := by omega
  rw [e] at hv;clear hi q e;(refine bS ?_)
  ((refine aW rfl (aY rfl aJ) ?_))
  exact ah.aK.of_eq (by rw [hv]; rfl)
theorem YY {P v : Int} (en : 0 < P) : 2 * ((2 * v + P) / (2 * P) * P) ≤ 2 * v + P ∧ 2 * v + P < 2 * ((2 * v + P) / (2 * P) * P) + 2 * P := by
 have h1 := qS (2 * v + P) (2 * P);have h2 := oL (2 * v + P) (show 2 * P ≠ 0 by omega);have h3 := n4 (2 * v + P) (show 0 < 2 * P by omega);have e : 2 * P * ((2 * v + P) / (2 * P)) = 2 * ((2 * v + P) / (2 * P) * P) := by rw [j5, gq P]
 omega
theorem zS {a1 a2 b1 b2 q1 q2 : Int} {r : Nat} (al : r ≤ 28) : mx a1 a2 b1 b2 q1 q2 r = true ↔ eA r q1 q2 = true ∧ tf a1 a2 b1 b2 (2 * (2 ^ r * q1) - 2 ^ r) (2 * (2 ^ r * q2) - 2 ^ r) (2 * (2 ^ r * q1) + 2 ^ r) (2 * (2 ^ r * q2) + 2 ^ r) 0 = true := by
 unfold mx;have g1 : decide ((0 : Int) ≤ (r : Int)) = true := cd (by omega);have g2 : decide ((r : Int) ≤ 28) = true := cd (by omega);rw [g1, g2, ld, Bool.and_self, oN, c6]
section
variable {P : Program} {ops : Array Oper} {s : aC} {d ty : Nat} {pos : String} {after : Array Edge} {guard : Option (Nat × Bool)} {K : aC → Prop} {rest : List Oper}
end
theorem Rw {a1 a2 b1 b2 q1 q2 k r : Int} {i : Bool} (oc : au ag 25 [ax k] (ax r)) (ju : au ag 35 [aE q1 q2, ax k] (a7 i)) (cs : ¬ k = r ∨ (k = r ∧ i = false)) : au ag 12 [aE a1 a2, aE b1 b2, aE q1 q2, ax k] (a7 false) := by
 rcases cs with c1 | ⟨c1, rfl⟩
 ·have e : (!decide (k = r)) = true := by simp [c1]
  refine bd (f := 12) Tryz.func12 rfl rfl rfl rfl ?_;(repeat first | refine dv ?_ | refine e7 ?_ | (with_reducible apply bP (c := true)); rfl; rfl; (assumption))
  ((refine aW rfl (aY rfl aJ) ?_))
  exact ah.aK.refl _
 ·have e : (!decide (k = r)) = false := by simp [c1]
  refine bd (f := 12) Tryz.func12 rfl rfl rfl rfl ?_;(repeat first | refine dv ?_ | refine e7 ?_ | (with_reducible apply bP (c := false)); rfl; rfl; (assumption))
  ((refine aW rfl (aY rfl aJ) ?_))
  exact ah.aK.refl _
theorem aeK {a1 a2 b1 b2 q1 q2 k S X Y : Int} {u : Bool} (oc : au ag 25 [ax k] (ax k)) (ju : au ag 35 [aE q1 q2, ax k] (a7 true)) (Z : au ag 36 [ax k] (ax S))
  (ajN : 0 ≤ S ∧ S ≤ 300000000) (ajO : -1000000000 ≤ X ∧ X ≤ 1000000000) (ajP : -1000000000 ≤ Y ∧ Y ≤ 1000000000) (alI : IntKind.i64.wrap (2 * S * q1) = X) (alJ : IntKind.i64.wrap (2 * S * q2) = Y)
  (M : au ag 37 [aE a1 a2, aE b1 b2, aE (X - S) (Y - S), aE (X - S + 2 * S) (Y - S + 2 * S), ax 0] (a7 u)) : au ag 12 [aE a1 a2, aE b1 b2, aE q1 q2, ax k] (a7 u) := by
 have e : (!decide (k = k)) = false := by simp
 refine bd (f := 12) Tryz.func12 rfl rfl rfl rfl ?_;(repeat first | refine dv ?_ | refine e7 ?_ | (with_reducible apply bP (c := false)); rfl; rfl; (assumption))
 ((refine aW rfl (aY rfl aJ) ?_))
 exact ah.aK.refl _
theorem aeJ {a1 a2 b1 b2 q1 q2 k : Int} (af : -9223372036854775808 ≤ k ∧ k ≤ 9223372036854775807) (aa : -9223372036854775808 ≤ q1 ∧ q1 ≤ 9223372036854775807) (ai : -9223372036854775808 ≤ q2 ∧ q2 ≤ 9223372036854775807) : au ag 12 [aE a1 a2, aE b1 b2, aE q1 q2, ax k] (a7 (mx a1 a2 b1 b2 q1 q2 k)) := by
 obtain ⟨r, al⟩ := PE k;have oc := EM al;have ju := afM (x := q1) (y := q2) al (by omega) (by omega) (by omega) (by omega) rfl
 by_cases c1 : k = r
 ·subst c1;have IB : r ≤ 28 := al.1;cases hi : eA r q1 q2 with
  | false =>
   rw [hi] at ju
   rw [show mx a1 a2 b1 b2 q1 q2 r = false by
    cases h : mx a1 a2 b1 b2 q1 q2 r with
    | false => rfl
    | true => rw [zS IB, hi] at h; cases h.1]
   exact Rw oc ju (.inr ⟨rfl, rfl⟩)
  | true =>
   rw [hi] at ju;have aew := A6 IB;have j := (Ay r q1 q2).1 hi;have M := afW (a1 := a1) (a2 := a2) (b1 := b1) (b2 := b2) (l1 := 2 * (2 ^ r * q1) - 2 ^ r) (l2 := 2 * (2 ^ r * q2) - 2 ^ r) (h1 := 2 * (2 ^ r * q1) + 2 ^ r) (h2 := 2 * (2 ^ r * q2) + 2 ^ r) (k := 0)
   have aG : mx a1 a2 b1 b2 q1 q2 r = tf a1 a2 b1 b2 (2 * (2 ^ r * q1) - 2 ^ r) (2 * (2 ^ r * q2) - 2 ^ r) (2 * (2 ^ r * q1) + 2 ^ r) (2 * (2 ^ r * q2) + 2 ^ r) 0 := by
    rw [kR, zS IB];exact ⟨fun h => h.2, fun h => ⟨hi, h⟩⟩
   rw [aG];have Z := ae3 al;have aO : (2 : Int) * 2 ^ r * q1 = 2 * (2 ^ r * q1) := j5 _ _ _;have cl : (2 : Int) * 2 ^ r * q2 = 2 * (2 ^ r * q2) := j5 _ _ _;refine aeK (X := 2 * (2 ^ r * q1)) (Y := 2 * (2 ^ r * q2)) oc ju Z (by omega) (by omega) (by omega) (by rw [aO]; exact k9 (by omega)) (by rw [cl]; exact k9 (by omega)) ?_;rw [show 2 * (2 ^ r * q1) - 2 ^ r + 2 * 2 ^ r = 2 * (2 ^ r * q1) + 2 ^ r by omega, show 2 * (2 ^ r * q2) - 2 ^ r + 2 * 2 ^ r = 2 * (2 ^ r * q2) + 2 ^ r by omega];exact M
 ·have : mx a1 a2 b1 b2 q1 q2 k = false := by
   unfold mx
   have : (decide (0 ≤ k) && decide (k ≤ 28)) = false := by
    rw [Bool.and_eq_false_iff, kq, kq];unfold gg at al;omega
   rw [this]; rfl
  rw [this];exact Rw oc ju (.inl c1)
def qH (a1 a2 b1 b2 k : Int) (p : ao) : Bool := mx a1 a2 b1 b2 p.1 p.2 k
end Go.Proofs.YtbcecodakfejaaaGreat
namespace Go.Proofs.YtbcecodakfejaaaGreat
def tj (a b x zr t : Rat) : Prop := -zr ≤ 2 * a + t * (2 * (b - a)) - x ∧ 2 * a + t * (2 * (b - a)) - x ≤ zr
def nY (S p q x u : Rat) : Prop := 2 * (S * x) - S ≤ 2 * (S * p + u * (S * q - S * p)) ∧ 2 * (S * p + u * (S * q - S * p)) < 2 * (S * x) + S
theorem Q4 {a b p q x S d t1 t2 u : Rat} (h1 : tj a b (2 * (S * p)) (d * S) t1) (h2 : tj a b (2 * (S * q)) (d * S) t2) (kY : 0 ≤ u) (bY : u ≤ 1) (hm : nY S p q x u) : tj a b (2 * (S * x)) ((d + 1) * S) (t1 + u * (t2 - t1)) := by
 obtain ⟨a1, a2⟩ := h1;obtain ⟨b1, b2⟩ := h2;obtain ⟨m1, m2⟩ := hm;have v0 : 0 ≤ 1 - u := by grind
 have ba := kV v0 (show 0 ≤ 2 * a + t1 * (2 * (b - a)) - 2 * (S * p) + d * S by grind);have bo := kV v0 (show 0 ≤ d * S - (2 * a + t1 * (2 * (b - a)) - 2 * (S * p)) by grind);have dU := kV kY (show 0 ≤ 2 * a + t2 * (2 * (b - a)) - 2 * (S * q) + d * S by grind);have hU := kV kY (show 0 ≤ d * S - (2 * a + t2 * (2 * (b - a)) - 2 * (S * q)) by grind)
 constructor
 ·grind
 ·grind
theorem Q5 {a b x f g t : Rat} (xN : f ≤ g) (h : tj a b x f t) : tj a b x g t := by
 obtain ⟨h1, h2⟩ := h
 constructor <;> grind
abbrev bn (n : Int) : Rat := (n : Rat)
def yf (a1 a2 b1 b2 S : Int) (zr t : Rat) (v : ao) : Prop := tj (bn a1) (bn b1) (2 * (bn S * bn v.1)) zr t ∧ tj (bn a2) (bn b2) (2 * (bn S * bn v.2)) zr t
def rb (S : Int) (p q : ao) (u : Rat) (x : ao) : Prop := (0 ≤ u ∧ u ≤ 1) ∧ nY (bn S) (bn p.1) (bn q.1) (bn x.1) u ∧ nY (bn S) (bn p.2) (bn q.2) (bn x.2) u
theorem ad0 {a1 a2 b1 b2 S : Int} {d t1 t2 u : Rat} {p q x : ao} (h1 : yf a1 a2 b1 b2 S (d * bn S) t1 p) (h2 : yf a1 a2 b1 b2 S (d * bn S) t2 q) (hm : rb S p q u x) : yf a1 a2 b1 b2 S ((d + 1) * bn S) (t1 + u * (t2 - t1)) x :=
 ⟨Q4 h1.1 h2.1 hm.1.1 hm.1.2 hm.2.1, Q4 h1.2 h2.2 hm.1.1 hm.1.2 hm.2.2⟩
theorem ad1 {a1 a2 b1 b2 S : Int} {f g t : Rat} {v : ao} (xN : f ≤ g) (h : yf a1 a2 b1 b2 S f t v) : yf a1 a2 b1 b2 S g t v := ⟨Q5 xN h.1, Q5 xN h.2⟩
theorem r6 {a b : Int} : bn a ≤ bn b ↔ a ≤ b := Rat.intCast_le_intCast
theorem Ka {a b : Int} : bn a < bn b ↔ a < b := Rat.intCast_lt_intCast
theorem qU {a : Int} (h : 0 < a) : 0 < bn a := by have := Ka.2 h; simpa [bn] using this
theorem Ff {a b : Int} (h : a < b) : bn a + 1 ≤ bn b := by
 have := r6.2 (show a + 1 ≤ b from h);simpa [bn, tv] using this
theorem QB {S p q x y : Int} {u w : Rat} (hS : 0 < S) (aa : nY (bn S) (bn p) (bn q) (bn x) u) (ai : nY (bn S) (bn p) (bn q) (bn y) w) (hH : x < y) (iN : p ≤ q) : u ≤ w := by
 have dV := qU hS;obtain ⟨b4, ck⟩ := aa;obtain ⟨iG, ob⟩ := ai;have h1 := Ff hH;have h2 := r6.2 iN;have ba := kV (Rat.le_of_lt dV) (show 0 ≤ bn y - (bn x + 1) by grind);refine Rat.not_lt.1 fun abi => ?_;have bo := kV (show 0 ≤ u - w by grind) (kV (Rat.le_of_lt dV) (show 0 ≤ bn q - bn p by grind));grind
theorem QA {S p q x y : Int} {u w : Rat} (hS : 0 < S) (aa : nY (bn S) (bn p) (bn q) (bn x) u) (ai : nY (bn S) (bn p) (bn q) (bn y) w) (hH : y < x) (iN : q ≤ p) : u ≤ w := by
 have dV := qU hS;obtain ⟨b4, ck⟩ := aa;obtain ⟨iG, ob⟩ := ai;have h1 := Ff hH;have h2 := r6.2 iN;have ba := kV (Rat.le_of_lt dV) (show 0 ≤ bn x - (bn y + 1) by grind);refine Rat.not_lt.1 fun abi => ?_;have bo := kV (show 0 ≤ u - w by grind) (kV (Rat.le_of_lt dV) (show 0 ≤ bn p - bn q by grind));grind
theorem Em {S p q x y : Int} {u w : Rat} (hS : 0 < S) (aa : nY (bn S) (bn p) (bn q) (bn x) u) (ai : nY (bn S) (bn p) (bn q) (bn y) w) (s4 : u ≤ w) (iN : p ≤ q) : x ≤ y := by
 have dV := qU hS;obtain ⟨b4, ck⟩ := aa;obtain ⟨iG, ob⟩ := ai;refine Int.not_lt.1 fun IY => ?_;have h1 := Ff IY;have h2 := r6.2 iN;have ba := kV (Rat.le_of_lt dV) (show 0 ≤ bn x - (bn y + 1) by grind);have bo := kV (show 0 ≤ w - u by grind) (kV (Rat.le_of_lt dV) (show 0 ≤ bn q - bn p by grind));grind
theorem El {S p q x y : Int} {u w : Rat} (hS : 0 < S) (aa : nY (bn S) (bn p) (bn q) (bn x) u) (ai : nY (bn S) (bn p) (bn q) (bn y) w) (s4 : u ≤ w) (iN : q ≤ p) : y ≤ x := by
 have dV := qU hS;obtain ⟨b4, ck⟩ := aa;obtain ⟨iG, ob⟩ := ai;refine Int.not_lt.1 fun IY => ?_;have h1 := Ff IY;have h2 := r6.2 iN;have ba := kV (Rat.le_of_lt dV) (show 0 ≤ bn y - (bn x + 1) by grind);have bo := kV (show 0 ≤ w - u by grind) (kV (Rat.le_of_lt dV) (show 0 ≤ bn p - bn q by grind));grind
theorem Qy {S p q : Int} (hS : 0 < S) : nY (bn S) (bn p) (bn q) (bn p) 0 := by
 have dV := qU hS
 constructor <;> grind
theorem Qz {S p q : Int} (hS : 0 < S) : nY (bn S) (bn p) (bn q) (bn q) 1 := by
 have dV := qU hS
 constructor <;> grind
theorem Ek {S p q x : Int} {u : Rat} (hS : 0 < S) (aA : 0 ≤ u) (h1 : u ≤ 1) (aa : nY (bn S) (bn p) (bn q) (bn x) u) : (p ≤ q → p ≤ x ∧ x ≤ q) ∧ (q ≤ p → q ≤ x ∧ x ≤ p) :=
 ⟨fun h => ⟨Em hS (Qy hS) aa aA h, Em hS aa (Qz hS) h1 h⟩, fun h => ⟨El hS aa (Qz hS) h1 h, El hS (Qy hS) aa aA h⟩⟩
theorem Qr {S : Int} {p q x y : ao} {u w : Rat} (hS : 0 < S) (aa : rb S p q u x) (ai : rb S p q w y) (h : dS (decide (S * q.1 < S * p.1)) (decide (S * q.2 < S * p.2)) x y = true) : u ≤ w := by
 have aG : (S * q.1 < S * p.1) ↔ q.1 < p.1 := ⟨fun h => Int.lt_of_mul_lt_mul_left h (by omega), fun h => Int.mul_lt_mul_of_pos_left h hS⟩;have aO : (S * q.2 < S * p.2) ↔ q.2 < p.2 := ⟨fun h => Int.lt_of_mul_lt_mul_left h (by omega), fun h => Int.mul_lt_mul_of_pos_left h hS⟩;rw [y8] at h;simp only [cg, aG, aO] at h;rcases h with h | ⟨he, h⟩
 ·by_cases g : q.1 < p.1
  ·rw [if_pos g] at h; exact QA hS aa.2.1 ai.2.1 h (by omega)
  ·rw [if_neg g] at h; exact QB hS aa.2.1 ai.2.1 h (by omega)
 ·by_cases g : q.2 < p.2
  ·rw [if_pos g] at h; exact QA hS aa.2.2 ai.2.2 h (by omega)
  ·rw [if_neg g] at h; exact QB hS aa.2.2 ai.2.2 h (by omega)
theorem aaA {a b l n d u : Rat} (d0 : 0 < d) (hu : u * d = n) (h : 0 ≤ (2 * a - l) * (d - n) + (2 * b - l) * n) : l ≤ 2 * (a + u * (b - a)) := by
 subst hu;refine Rat.not_lt.1 fun bb => ?_;have k := Rat.mul_pos d0 (show 0 < l - 2 * (a + u * (b - a)) by grind);grind
theorem aaB {a b l n d u : Rat} (d0 : 0 < d) (hu : u * d = n) (h : 0 < (l - 2 * a) * (d - n) + (l - 2 * b) * n) : 2 * (a + u * (b - a)) < l := by
 subst hu;refine Rat.not_le.1 fun bb => ?_;have k := kV (Rat.le_of_lt d0) (show 0 ≤ 2 * (a + u * (b - a)) - l by grind);grind
theorem Fe {n d : Int} (hd : 0 < d) : bn n / bn d * bn d = bn n := Rat.div_mul_cancel (by have := qU hd; grind)
theorem OY {a b l : Int} {n d : Int} (hd : 0 < d) (h : iW (2 * a - l) (2 * b - l) true n d) : bn l ≤ 2 * (bn a + bn n / bn d * (bn b - bn a)) := by
 have h1 : 0 ≤ (2 * a - l) * (d - n) + (2 * b - l) * n := by rcases h with h | ⟨_, h⟩ <;> omega
 refine aaA (qU hd) (Fe hd) ?_;have := r6.2 h1;simpa [bn, tv, Rat.intCast_mul, Rat.intCast_sub] using this
theorem OZ {a b l : Int} {n d : Int} (hd : 0 < d) (h : iW (l - 2 * a) (l - 2 * b) false n d) : 2 * (bn a + bn n / bn d * (bn b - bn a)) < bn l := by
 have h1 : 0 < (l - 2 * a) * (d - n) + (l - 2 * b) * n := by
  rcases h with h | ⟨h, _⟩
  ·exact h
  ·cases h
 refine aaB (qU hd) (Fe hd) ?_;have := Ka.2 h1;simpa [bn, tv, Rat.intCast_mul, Rat.intCast_sub] using this
theorem ada {r : Nat} (al : r ≤ 28) {p q x : ao} (h : qH (2 ^ r * p.1) (2 ^ r * p.2) (2 ^ r * q.1) (2 ^ r * q.2) r x = true) : eA r x.1 x.2 = true ∧ ∃ u, rb (2 ^ r) p q u x := by
 unfold qH at h;rw [zS al] at h;refine ⟨h.1, ?_⟩;obtain ⟨_, n, d, hd, ⟨zY, pj⟩, g1, g2, g3, g4⟩ := Jo.1 h.2;have d0 := qU hd;refine ⟨bn n / bn d, ⟨?_, ?_⟩, ⟨?_, ?_⟩, ?_, ?_⟩
 ·refine Rat.not_lt.1 fun bb => ?_;have k := Rat.mul_pos d0 (show 0 < -(bn n / bn d) by grind);have e := Fe (n := n) hd;have gp := r6.2 zY;have z : bn 0 = 0 := by simp [bn]
  rw [z] at gp;generalize bn n / bn d = u at *;grind
 ·refine Rat.not_lt.1 fun bb => ?_;have k := Rat.mul_pos d0 (show 0 < bn n / bn d - 1 by grind);have e := Fe (n := n) hd;have cE := r6.2 pj;generalize bn n / bn d = u at *;grind
 ·have := OY hd g1;simpa [bn, tv, Rat.intCast_mul, Rat.intCast_sub] using this
 ·have := OZ hd g3;simpa [bn, tv, Rat.intCast_mul, Rat.intCast_sub] using this
 ·have := OY hd g2;simpa [bn, tv, Rat.intCast_mul, Rat.intCast_sub] using this
 ·have := OZ hd g4;simpa [bn, tv, Rat.intCast_mul, Rat.intCast_sub] using this
def qk (p q : ao) (out : List ao) (x : ao) : List ao := if x ≠ p ∧ x ≠ q ∧ out.getLast? ≠ some x then out ++ [x] else out
def Nd (p q : ao) (l : List ao) : List ao := l.foldl (qk p q) []
theorem PC {fx fy : Bool} {q : ao} : ∀ {l : List ao}, l.Pairwise (fun a b => dS fx fy b a = false) → (mC fx fy q l).Pairwise fun a b => dS fx fy b a = false
 | [], _ => by unfold mC; simp
 | p :: l, h => by
  have aj := jK.1 h;unfold mC
  split
  ·rename_i ak;refine jK.2 ⟨fun r al => ?_, h⟩;rcases fl.1 al with rfl | al
   ·exact LI ak
   ·cases aR : dS fx fy r q with
    | false => rfl
    | true => have := aj.1 r al; rw [y9 aR ak] at this; cases this
  ·rename_i ak;refine jK.2 ⟨fun r al => ?_, PC aj.2⟩;rcases fl.1 ((AA fx fy q l).mem_iff.1 al) with rfl | al
   ·simpa using ak
   ·exact aj.1 r al
theorem ais (fx fy : Bool) (f : ao → Bool) (l : List ao) : (sb fx fy f l).Pairwise fun a b => dS fx fy b a = false := by
 have key : ∀ (l out : List ao), out.Pairwise (fun a b => dS fx fy b a = false) → (l.foldl (fun out q => if f q then mC fx fy q out else out) out).Pairwise fun a b => dS fx fy b a = false := by
  intro l
  induction l with
  | nil => intro out h; exact h
  | cons q l b9 =>
   intro out h;rw [pN];refine b9 _ ?_
   split
   ·exact PC h
   ·exact h
 exact key l [] .nil
theorem G7 {fx fy : Bool} {p q : ao} : ∀ (l out : List ao), kB fx fy out → (∀ a ∈ out, ∀ b ∈ l, dS fx fy b a = false) → l.Pairwise (fun a b => dS fx fy b a = false) → kB fx fy (l.foldl (qk p q) out) ∧ (∀ x ∈ l.foldl (qk p q) out, x ∈ out ∨ (x ∈ l ∧ x ≠ p ∧ x ≠ q)) ∧ (l.foldl (qk p q) out).length ≤ out.length + l.length
 | [], out, h, _, _ => ⟨h, fun x aa => .inl aa, dI _⟩
 | x :: l, out, h, hw, hl => by
  have aj := jK.1 hl;rw [pN]
  by_cases aa : x ≠ p ∧ x ≠ q ∧ out.getLast? ≠ some x
  ·have e : qk p q out x = out ++ [x] := by unfold qk; rw [if_pos aa]
   rw [e]
   have aF : kB fx fy (out ++ [x]) := by
    unfold kB;rw [List.pairwise_append];refine ⟨h, List.pairwise_singleton _ _, fun a aF b ab => ?_⟩;rw [hx] at ab;subst ab;have h1 := hw a aF b (lI ..)
    by_cases nH : a = b
    ·subst nH;rcases List.eq_nil_or_concat out with aA | ⟨bU, z, aA⟩
     ·subst aA; cases aF
     ·rw [List.concat_eq_append] at aA;subst aA;have aN : z ≠ a := fun aR => aa.2.2 (by rw [aR]; simp)
      have pd : a ∈ bU := by
       rcases h0.1 aF with aM | aM
       ·exact aM
       ·exact absurd (hx.1 aM).symm aN
      have h2 := (List.pairwise_append.1 h).2.2 a pd z (hx.2 rfl);have h3 := hw z (by simp) a (lI ..);rw [h2] at h3; cases h3
    ·exact (GF nH).resolve_right (by rw [h1]; decide)
   obtain ⟨g1, g2, g3⟩ := G7 l (out ++ [x]) aF (fun a pd b ab => by
    rcases h0.1 pd with aM | aM
    ·exact hw a aM b (pJ _ ab)
    ·rw [hx.1 aM]; exact aj.1 b ab) aj.2
   refine ⟨g1, fun y ai => ?_, by rw [cO, List.length_singleton] at g3; simp only [jj]; omega⟩;rcases g2 y ai with aM | aM
   ·rcases h0.1 aM with aM | aM
    ·exact .inl aM
    ·rw [hx.1 aM]; exact .inr ⟨lI .., aa.1, aa.2.1⟩
   ·exact .inr ⟨pJ _ aM.1, aM.2⟩
  ·have e : qk p q out x = out := by unfold qk; rw [if_neg aa]
   rw [e];obtain ⟨g1, g2, g3⟩ := G7 l out h (fun a pd b ab => hw a pd b (pJ _ ab)) aj.2;refine ⟨g1, fun y ai => ?_, by simp only [jj]; omega⟩;rcases g2 y ai with aM | aM
   ·exact .inl aM
   ·exact .inr ⟨pJ _ aM.1, aM.2⟩
def sB (r : Nat) (l : List ao) (p q : ao) : List ao := Nd p q (sb (decide ((2 : Int) ^ r * q.1 < 2 ^ r * p.1)) (decide ((2 : Int) ^ r * q.2 < 2 ^ r * p.2)) (qH (2 ^ r * p.1) (2 ^ r * p.2) (2 ^ r * q.1) (2 ^ r * q.2) r) l)
theorem Cs {r : Nat} (al : r ≤ 28) (l : List ao) (p q : ao) : kB (decide ((2 : Int) ^ r * q.1 < 2 ^ r * p.1)) (decide ((2 : Int) ^ r * q.2 < 2 ^ r * p.2)) (sB r l p q) ∧ (∀ x ∈ sB r l p q, (x ≠ p ∧ x ≠ q) ∧ eA r x.1 x.2 = true ∧ ∃ u, rb (2 ^ r) p q u x) ∧ (sB r l p q).length ≤ l.length := by
 obtain ⟨g1, g2, g3⟩ := G7 (p := p) (q := q) _ [] (List.Pairwise.nil : kB (decide ((2 : Int) ^ r * q.1 < 2 ^ r * p.1)) (decide ((2 : Int) ^ r * q.2 < 2 ^ r * p.2)) []) (fun a aF => by cases aF) (ais _ _ (qH (2 ^ r * p.1) (2 ^ r * p.2) (2 ^ r * q.1) (2 ^ r * q.2) r) l);refine ⟨g1, fun x aa => ?_, ?_⟩
 ·rcases g2 x aa with h | ⟨h1, h2⟩
  ·cases h
  ·have h3 := (tp.1 ((FF _ _ _ l).mem_iff.1 h1)).2;exact ⟨h2, ada al h3⟩
 ·refine ht g3 ?_;rw [List.length_nil, j3];exact air _ _ _ l
def iI (R : ao → ao → Prop) : List ao → Prop
 | p :: q :: W => R p q ∧ iI R (q :: W)
 | _ => True
theorem G0 {R : ao → ao → Prop} : ∀ {l : List ao}, l.Pairwise R → iI R l
 | [], _ => trivial
 | [_], _ => trivial
 | p :: q :: W, h => by
  have aj := jK.1 h;exact ⟨aj.1 q (lI ..), G0 aj.2⟩
theorem GZ {R : ao → ao → Prop} {q : ao} {W : List ao} : ∀ {A : List ao}, iI R (A ++ [q]) → iI R (q :: W) → iI R (A ++ q :: W)
 | [], _, h => h
 | [a], h, aM => ⟨h.1, aM⟩
 | a :: b :: A, h, aM => ⟨h.1, GZ (A := b :: A) h.2 aM⟩
theorem Cu {r : Nat} (al : r ≤ 28) (l : List ao) (p q : ao) {R : ao → ao → Prop} (aA : R p q) (h1 : ∀ x, (∃ u, rb (2 ^ r) p q u x) → R p x ∧ R x q) (h2 : ∀ x y u w, rb (2 ^ r) p q u x → rb (2 ^ r) p q w y → u ≤ w → R x y) : iI R (p :: (sB r l p q ++ [q])) := by
 obtain ⟨s1, s2, _⟩ := Cs al l p q;have hS : (0 : Int) < 2 ^ r := hL (by decide);refine G0 (jK.2 ⟨fun x aa => ?_, List.pairwise_append.2 ⟨s1.imp_of_mem fun {x y} aa ai hH => ?_, List.pairwise_singleton _ _, fun x aa y ai => ?_⟩⟩)
 ·rcases h0.1 aa with aa | aa
  ·exact (h1 x (s2 x aa).2.2).1
  ·rw [hx.1 aa]; exact aA
 ·obtain ⟨u, hu⟩ := (s2 x aa).2.2;obtain ⟨w, hw⟩ := (s2 y ai).2.2;exact h2 x y u w hu hw (Qr hS hu hw hH)
 ·rw [hx.1 ai]; exact (h1 x (s2 x aa).2.2).2
theorem WO {r : Nat} (al : r ≤ 28) (l : List ao) (p q : ao) (h : p ≠ q) : iI (· ≠ ·) (p :: (sB r l p q ++ [q])) := by
 obtain ⟨s1, s2, _⟩ := Cs al l p q;refine G0 (jK.2 ⟨fun x aa => ?_, List.pairwise_append.2 ⟨s1.imp fun {x y} hH e => ?_, List.pairwise_singleton _ _, fun x aa y ai => ?_⟩⟩)
 ·rcases h0.1 aa with aa | aa
  ·exact fun e => (s2 x aa).1.1 e.symm
  ·rw [hx.1 aa]; exact h
 ·subst e; rw [LJ] at hH; cases hH
 ·rw [hx.1 ai]; exact (s2 x aa).1.2
def FG (V : List ao) (j : Nat) (l : List ao) : List ao := V.take (j + 1) ++ l ++ V.drop (j + 1)
def Bu (D : List Int) (j : Nat) (n : Nat) : List Int := D.take j ++ List.replicate (n + 1) (D.getD j 0 + 1) ++ D.drop (j + 1)
theorem XX {V : List ao} {j : Nat} {p q : ao} (hp : V[j]? = some p) (ak : V[j + 1]? = some q) : V.drop j = p :: q :: V.drop (j + 2) := by
 obtain ⟨h1, aG⟩ := bL.1 hp;obtain ⟨h2, aO⟩ := bL.1 ak;rw [nm h1, aG, nm h2, aO]
end Go.Proofs.YtbcecodakfejaaaGreat
namespace Go.Proofs.YtbcecodakfejaaaGreat
open Go.RowKit
def pG (a b c d : Int) : Int := if bZ a b c d = true then 0 else if a < c ∨ (a = c ∧ b < d) then -1 else 1
theorem afK {a b c d : Int} : au ag 163 [aE a b, aE c d] (ax (pG a b c d)) := by
 have cs : (bZ a b c d = true ∧ pG a b c d = 0) ∨ (bZ a b c d = false ∧ a < c ∧ pG a b c d = -1) ∨ (bZ a b c d = false ∧ ¬ a < c ∧ a = c ∧ b < d ∧ pG a b c d = -1) ∨ (bZ a b c d = false ∧ ¬ a < c ∧ a = c ∧ ¬ b < d ∧ pG a b c d = 1) ∨ (bZ a b c d = false ∧ ¬ a < c ∧ ¬ a = c ∧ pG a b c d = 1) := by
  unfold pG;cases h : bZ a b c d with
  | true => simp
  | false =>
   by_cases h1 : a < c <;> by_cases h2 : a = c <;> by_cases h3 : b < d <;> simp [h1, h2, h3] <;> omega
 rcases cs with ⟨h1, h⟩ | ⟨h1, h2, h⟩ | ⟨h1, h2, h3, aD, h⟩ | ⟨h1, h2, h3, aD, h⟩ | ⟨h1, h2, h3, h⟩ <;> rw [h] <;> clear h
 all_goals
  refine bd (f := 163) Tryz.func163 rfl rfl rfl rfl ?_;(repeat first | refine dv ?_ | (with_reducible apply bP (c := true)); rfl; rfl; (exact cd (by omega)) | (with_reducible apply bP (c := false)); rfl; rfl; (exact cA (by omega)))
  ((refine aW rfl (aY rfl aJ) ?_))
  exact ah.aK.refl _
theorem yk {x y : Int} {b : Bool} (ab : cp x y = b) : au ag 117 [aE x y] (a7 b) := by
 have cs : (x ≤ 536870912 ∧ y ≤ 536870912 ∧ -536870912 ≤ x ∧ -536870912 ≤ y ∧ b = true) ∨ (x ≤ 536870912 ∧ y ≤ 536870912 ∧ -536870912 ≤ x ∧ ¬ -536870912 ≤ y ∧ b = false) ∨ (x ≤ 536870912 ∧ y ≤ 536870912 ∧ ¬ -536870912 ≤ x ∧ b = false) ∨ (x ≤ 536870912 ∧ ¬ y ≤ 536870912 ∧ b = false) ∨ (¬ x ≤ 536870912 ∧ b = false) := by
  rw [← ab]; unfold cp sK
  by_cases q1 : x ≤ 536870912 <;> by_cases q2 : y ≤ 536870912 <;> by_cases bB : -536870912 ≤ x <;> by_cases cS : -536870912 ≤ y <;> simp [q1, q2, bB, cS]
 clear ab;rcases cs with ⟨q1, q2, bB, cS, rfl⟩ | ⟨q1, q2, bB, cS, rfl⟩ | ⟨q1, q2, bB, rfl⟩ | ⟨q1, q2, rfl⟩ | ⟨q1, rfl⟩
 all_goals
  refine bd (f := 117) Tryz.func117 rfl rfl rfl rfl ?_;(repeat first | refine dv ?_ | (with_reducible apply bP (c := true)); rfl; rfl; (exact cd (by omega)) | (with_reducible apply bP (c := false)); rfl; rfl; (exact cA (by omega)))
  ((refine aW rfl (aY rfl aJ) ?_))
  first | exact ah.aK.refl _ | exact ah.aK.of_eq (by rw [cd cS]; rfl) | exact ah.aK.of_eq (by rw [cA cS]; rfl)
theorem uJ {x y : Int} (h1 : -536870912 ≤ x) (h2 : x ≤ 536870912) (h3 : -536870912 ≤ y) (aD : y ≤ 536870912) : -288230376151711744 ≤ x * y ∧ x * y ≤ 288230376151711744 := by
 have := Eo h1 h2 h3 aD;omega
theorem JS {a1 a2 b1 b2 : Int} (aF : cp a1 a2 = true) (ab : cp b1 b2 = true) : au ag 139 [aE a1 a2, aE b1 b2] (ax (a1 * b2 - a2 * b1)) := by
 rw [Fc] at aF ab;have m1 := uJ (x := a1) (y := b2) (by omega) (by omega) (by omega) (by omega);have m2 := uJ (x := a2) (y := b1) (by omega) (by omega) (by omega) (by omega);refine bd (f := 139) Tryz.func139 rfl rfl rfl rfl ?_;(refine eF ?_)
 ((refine aW rfl (aY rfl aJ) ?_))
 exact ah.aK.refl _
theorem Xz (o1 o2 a1 a2 b1 b2 : Int) : o1 * a2 - o2 * a1 + (a1 * b2 - a2 * b1) + (b1 * o2 - b2 * o1) = bW o1 o2 a1 a2 b1 b2 := by
 unfold bW;simp only [Int.sub_mul, Int.mul_sub];rw [gq o1 a2, gq o2 a1, gq b1 o2, gq b2 o1, gq o1 o2];omega
theorem afN {o1 o2 a1 a2 b1 b2 : Int} : au ag 118 [aE o1 o2, aE a1 a2, aE b1 b2] (ax (ig o1 o2 a1 a2 b1 b2)) := by
 have bf := yk (x := o1) (y := o2) rfl;have ev := yk (x := a1) (y := a2) rfl;have fR := yk (x := b1) (y := b2) rfl
 have cs : (cp o1 o2 = false ∧ ig o1 o2 a1 a2 b1 b2 = 0) ∨ (cp o1 o2 = true ∧ cp a1 a2 = false ∧ ig o1 o2 a1 a2 b1 b2 = 0) ∨ (cp o1 o2 = true ∧ cp a1 a2 = true ∧ cp b1 b2 = false ∧ ig o1 o2 a1 a2 b1 b2 = 0) ∨ (cp o1 o2 = true ∧ cp a1 a2 = true ∧ cp b1 b2 = true) := by
  unfold ig;generalize cp o1 o2 = p at *;generalize cp a1 a2 = q at *;generalize cp b1 b2 = r at *;cases p <;> cases q <;> cases r <;> simp_all
 rcases cs with ⟨h1, h⟩ | ⟨h1, h2, h⟩ | ⟨h1, h2, h3, h⟩ | ⟨h1, h2, h3⟩
 ·rw [h]; clear h; simp only [*] at bf ev fR;refine bd (f := 118) Tryz.func118 rfl rfl rfl rfl ?_;(refine bS ?_)
  ((refine aW rfl (aY rfl aJ) ?_))
  exact ah.aK.refl _
 ·rw [h]; clear h; simp only [*] at bf ev fR;refine bd (f := 118) Tryz.func118 rfl rfl rfl rfl ?_;(refine bS ?_)
  ((refine aW rfl (aY rfl aJ) ?_))
  exact ah.aK.refl _
 ·rw [h]; clear h; simp only [*] at bf ev fR;refine bd (f := 118) Tryz.func118 rfl rfl rfl rfl ?_;(refine bS ?_)
  ((refine aW rfl (aY rfl aJ) ?_))
  exact ah.aK.refl _
 ·have e : ig o1 o2 a1 a2 b1 b2 = bW o1 o2 a1 a2 b1 b2 := by unfold ig; simp [h1, h2, h3]
  rw [e];have mn := JS h1 h2;have k0 := JS h2 h3;have ajs := JS h3 h1;have E := Xz o1 o2 a1 a2 b1 b2;simp only [*] at bf ev fR;rw [Fc] at h1 h2 h3;have m1 := uJ (x := o1) (y := a2) (by omega) (by omega) (by omega) (by omega);have m2 := uJ (x := o2) (y := a1) (by omega) (by omega) (by omega) (by omega);have m3 := uJ (x := a1) (y := b2) (by omega) (by omega) (by omega) (by omega);have m4 := uJ (x := a2) (y := b1) (by omega) (by omega) (by omega) (by omega);have m5 := uJ (x := b1) (y := o2) (by omega) (by omega) (by omega) (by omega);have m6 := uJ (x := b2) (y := o1) (by omega) (by omega) (by omega) (by omega);clear e h1 h2 h3;rw [← E];have cE : -576460752303423488 ≤ o1 * a2 - o2 * a1 ∧ o1 * a2 - o2 * a1 ≤ 576460752303423488 := by omega
  have cP : -576460752303423488 ≤ a1 * b2 - a2 * b1 ∧ a1 * b2 - a2 * b1 ≤ 576460752303423488 := by omega
  have jG : -576460752303423488 ≤ b1 * o2 - b2 * o1 ∧ b1 * o2 - b2 * o1 ≤ 576460752303423488 := by omega
  clear m1 m2 m3 m4 m5 m6 E;generalize o1 * a2 - o2 * a1 = b4 at *;generalize a1 * b2 - a2 * b1 = ck at *;generalize b1 * o2 - b2 * o1 = hM at *;refine bd (f := 118) Tryz.func118 rfl rfl rfl rfl ?_;(refine bS ?_)
  ((refine aW rfl (aY rfl aJ) ?_))
  exact ah.aK.refl _
theorem R4 {n m : Int} (aA : -9223372036854775808 ≤ n) (h1 : n < 9223372036854775808) (eW : -9223372036854775808 ≤ m) (ba : m < 9223372036854775808) : au ag 150 [ax n, ax m] (gv (n * m)) := by
 have aS := uU aA h1;have bD := uU eW ba;have dW := aeT (CY aA h1) (CY eW ba);rw [wY (aiP aA h1 eW ba)] at dW;clear aA h1 eW ba;refine bd (f := 150) Tryz.func150 rfl rfl rfl rfl ?_;(refine bS ?_)
 ((refine aW rfl (cD rfl rfl rfl aJ) ?_))
 exact ah.aK.refl _
theorem Yt (a b c d a' bE c' d' : Int) (W : World) : (Op.equalIn 10000 181 (.agg #[.int .i64 a, .int .i64 b, .int .i64 c, .int .i64 d]) (.agg #[.int .i64 a', .int .i64 bE, .int .i64 c', .int .i64 d'])).run ag W = .ok (ua a b c d a' bE c' d') W := by
 unfold ua bZ
 go_simp
 by_cases h1 : a = a' <;> by_cases h2 : b = bE <;> by_cases h3 : c = c' <;> by_cases aD : d = d' <;> simp [h1, h2, h3, aD]
instance akV : K6 ag 181 := ⟨by kernel_rfl, Yt⟩
theorem af8 {a b c d : Int} : (pG a b c d > 0 ↔ ¬ c5 a b c d) := by
 unfold pG c5;cases h : bZ a b c d with
 | true => rw [iJ] at h; rw [if_pos rfl]; omega
 | false =>
  have : ¬ (a = c ∧ b = d) := fun k => by rw [iJ.2 k] at h; cases h
  rw [if_neg (by simp)]
  split <;> omega
theorem JU {a1 a2 b1 b2 : Int} : au ag 145 [aE a1 a2, aE b1 b2] (.cz [.agg [.c (.int .i64 (dF a1 a2 b1 b2)), .c (.int .i64 (dk a1 a2 b1 b2))], .agg [.c (.int .i64 (dy a1 a2 b1 b2)), .c (.int .i64 (dj a1 a2 b1 b2))]]) := by
 have aS := afK (a := a1) (b := a2) (c := b1) (d := b2);have h := af8 (a := a1) (b := a2) (c := b1) (d := b2)
 have cs : (pG a1 a2 b1 b2 > 0 ∧ dF a1 a2 b1 b2 = b1 ∧ dk a1 a2 b1 b2 = b2 ∧ dy a1 a2 b1 b2 = a1 ∧ dj a1 a2 b1 b2 = a2) ∨ (¬ pG a1 a2 b1 b2 > 0 ∧ dF a1 a2 b1 b2 = a1 ∧ dk a1 a2 b1 b2 = a2 ∧ dy a1 a2 b1 b2 = b1 ∧ dj a1 a2 b1 b2 = b2) := by
  rw [h];unfold dF dk dy dj
  by_cases k : c5 a1 a2 b1 b2 <;> simp [k]
 clear h;generalize dF a1 a2 b1 b2 = l1 at *;generalize dk a1 a2 b1 b2 = l2 at *;generalize dy a1 a2 b1 b2 = h1 at *;generalize dj a1 a2 b1 b2 = h2 at *;generalize pG a1 a2 b1 b2 = c at *;rcases cs with ⟨q, rfl, rfl, rfl, rfl⟩ | ⟨q, rfl, rfl, rfl, rfl⟩
 all_goals
  refine bd (f := 145) Tryz.func145 rfl rfl rfl rfl ?_;(refine bS ?_)
  ((refine aW rfl (cD rfl rfl rfl (cD rfl rfl rfl aJ)) ?_))
  exact ah.aK.refl _
theorem EO {a1 a2 b1 b2 : Int} : au ag 124 [aE a1 a2, aE b1 b2] (jL (dF a1 a2 b1 b2) (dk a1 a2 b1 b2) (dy a1 a2 b1 b2) (dj a1 a2 b1 b2)) := by
 have aS := JU (a1 := a1) (a2 := a2) (b1 := b1) (b2 := b2);generalize dF a1 a2 b1 b2 = l1 at *;generalize dk a1 a2 b1 b2 = l2 at *;generalize dy a1 a2 b1 b2 = h1 at *;generalize dj a1 a2 b1 b2 = h2 at *;refine bd (f := 124) Tryz.func124 rfl rfl rfl rfl ?_;(refine bS ?_)
 ((refine aW rfl (cD rfl rfl rfl aJ) ?_))
 exact ah.aK.refl _
theorem EN {s1 s2 bJ bK p1 p2 : Int} (h1 : cp s1 s2 = true) (h2 : cp bJ bK = true) (h3 : cp p1 p2 = true) : au ag 125 [jL s1 s2 bJ bK, aE p1 p2] (ax (bW s1 s2 bJ bK p1 p2)) := by
 have aS := Ru h1 h2 h3;clear h1 h2 h3;generalize bW s1 s2 bJ bK p1 p2 = c at *;refine bd (f := 125) Tryz.func125 rfl rfl rfl rfl ?_;(refine bS ?_)
 ((refine aW rfl (aY rfl aJ) ?_))
 exact ah.aK.refl _
theorem JL {s1 s2 bJ bK p1 p2 : Int} (h1 : cp s1 s2 = true) (h2 : cp bJ bK = true) (h3 : cp p1 p2 = true) : mF p1 p2 s1 s2 bJ bK = decide (c3 p1 p2 s1 s2 bJ bK) := by
 rw [kR, cg];unfold mF c3 pu;rw [h1, h2, h3];simp only [oN, c6, cg, Zc]
 constructor
 ·rintro ⟨⟨a, b, c, d⟩, e⟩; exact ⟨e, a, b, c, d⟩
 ·rintro ⟨e, a, b, c, d⟩; exact ⟨⟨a, b, c, d⟩, e⟩
theorem RF {s1 s2 bJ bK p1 p2 : Int} (h1 : cp s1 s2 = true) (h2 : cp bJ bK = true) (h3 : cp p1 p2 = true) : au ag 147 [jL s1 s2 bJ bK, aE p1 p2] (a7 (decide (c3 p1 p2 s1 s2 bJ bK))) := by
 have aS := aeW (JL h1 h2 h3);clear h1 h2 h3;generalize decide (c3 p1 p2 s1 s2 bJ bK) = c at *;refine bd (f := 147) Tryz.func147 rfl rfl rfl rfl ?_;(refine bS ?_)
 ((refine aW rfl (aY rfl aJ) ?_))
 exact ah.aK.refl _
theorem RW {m n : Int} {r : Bool} (al : decide (same m n) = r) : au ag 127 [ax m, ax n] (a7 r) := by
 have cs : (m > 0 ∧ n > 0 ∧ r = true) ∨ (m > 0 ∧ ¬ n > 0 ∧ ¬ m < 0 ∧ r = false) ∨ (¬ m > 0 ∧ m < 0 ∧ n < 0 ∧ r = true) ∨ (¬ m > 0 ∧ m < 0 ∧ ¬ n < 0 ∧ r = false) ∨ (¬ m > 0 ∧ ¬ m < 0 ∧ r = false) := by
  rw [← al];unfold same
  by_cases h1 : m > 0 <;> by_cases h2 : n > 0 <;> by_cases h3 : m < 0 <;> by_cases aD : n < 0 <;> simp [h1, h2, h3, aD] <;> omega
 clear al;rcases cs with ⟨q1, q2, rfl⟩ | ⟨q1, q2, bB, rfl⟩ | ⟨q1, q2, bB, rfl⟩ | ⟨q1, q2, bB, rfl⟩ | ⟨q1, q2, rfl⟩
 all_goals
  refine bd (f := 127) Tryz.func127 rfl rfl rfl rfl ?_;(repeat first | refine dv ?_ | (with_reducible apply bP (c := true)); rfl; rfl; (exact cd (by omega)) | (with_reducible apply bP (c := false)); rfl; rfl; (exact cA (by omega)))
  ((refine aW rfl (aY rfl aJ) ?_))
  first | exact ah.aK.refl _ | exact ah.aK.of_eq (by rw [cd q2]; rfl) | exact ah.aK.of_eq (by rw [cd bB]; rfl) | exact ah.aK.of_eq (by rw [cA bB]; rfl)
end Go.Proofs.YtbcecodakfejaaaGreat
