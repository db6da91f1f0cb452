/-
  Contracts of the reference package: Mul. My own text.
-/
import Derived.Test.YtinjgiigmlikpaaRefO
namespace Go.Proofs.Ytinjgiigmlikpaa
open Go.RowKit
set_option linter.unusedVariables false

theorem sg_mul (x y : Bool) (a b : Int) : sg (x != y) (a * b) = sg x a * sg y b := by
  cases x <;> cases y <;> simp [sg, Int.neg_mul, Int.mul_neg]
theorem IsN.conv {w : World} {neg : Bool} {A : Option Addr} {l c : Nat} {n m : Int} (h : IsN w neg A l c n) (e : n = m) : IsN w neg A l c m := e ▸ h
theorem MulW.row {w wr : World} {x y : Bool} {A B : Option Addr} {l c m d : Nat} {ds es os : List Int} (h : MulW w wr x A l c ds y B m d es os) : Dg wr (some ⟨w.heap.size + 1 + 1 + 1, 0, none⟩) (l + m + 1) (l + m + 1) os := by
  obtain ⟨A', c', e, hD⟩ := Dg.own h.own
  cases e
  exact hD
set_option maxHeartbeats 2000000 in
set_option maxRecDepth 100000 in
theorem rMul_new (x y : Bool) (A B : Option Addr) (l c m d : Nat) (n n' : Int) (w : World) (h : IsN w x A l c n) (k : IsN w y B m d n') (hl : l ≤ 400) (hm : m ≤ 400) :
    Calls Try.prog 53 #[.agg #[.bool x, .slice A l c], .agg #[.bool y, .slice B m d]] w (RNF (n * n') w) := by
  obtain ⟨ds, hD, hS⟩ := h
  obtain ⟨es, hE, hT⟩ := k
  obtain ⟨i0, hi0, hz0, hz1, hz2⟩ := info_parts info_int
  have I0 := Lib.hid hi0
  have I1 := Lib.hid hz0
  have I2 := Lib.hid hz1
  have I3 := Lib.hid hz2
  have D1 := Lib.hid hD
  have D2 := Lib.hid hE
  have L1 := Lib.hid hD.1
  have L2 := Lib.hid hE.1
  have S1 := Lib.hid hS.dg
  have S2 := Lib.hid hT.dg
  have hv : Hid (sg (x != y) (dval ds * dval es) = n * n') := by unfold Hid; rw [sg_mul, hS.val, hT.val]
  clear hi0 hz0 hz1 hz2 hD hE hS hT
  go_enter Try.func53, Try.ntmps53
  go_wp2_with (at_make; refine wpList_make_full _ rfl _ _ 29 rfl (w.heap.size + 1 + 1 + 1) 3 i0 (.int .i64 0) 1 Try.underlying29 I0.out I1.out I2.out .i64 .i64 _ _ (l + m + 1) rfl rfl (by omega) (by omega) (by rw [I3.out]; omega) (by simp only [maxLen]; omega) (by simp) ?_; intro w3 hown hg; have MW := Lib.hid (mulW_made (w := w) (x := x) (A := A) (l := l) (c := c) (ds := ds) (y := y) (B := B) (m := m) (d := d) (es := es) rfl (by simp) (((Box.new rfl).alloc _).alloc _) ((Box.new (by simp)).alloc _) (Box.new (by simp)) (by (repeat (first | (with_reducible exact Below.refl _ _) | with_reducible assumption | (with_reducible refine below_alloc ?_ _) | (focus ((with_reducible refine below_set ?_ _ _ _ ?_); rotate_left; omega)) | (with_reducible refine Below.drew ?_)))) hown hg); clear hown hg)
  go_loopw [6] (fun i wr => ∃ (j : Nat) (os : List Int), i = .int .i64 j ∧ j ≤ l ∧ MulW w wr x A l c ds y B m d es os ∧ MulO os ds es j l m) (fun i _ => l - (intOf i).toNat)
  case atStart => exact ⟨0, _, rfl, Nat.zero_le _, MW.out, ⟨mulOut_start (dval_zeros _), fun j _ => getD_zeros _ j, Nat.zero_le _⟩⟩
  case round =>
    obtain ⟨j, os, rfl, hj, hW, hO⟩ := hrel
    clear MW
    obtain ⟨wo, rfl⟩ : ∃ wo : World, wo = wr := ⟨_, rfl⟩
    obtain ⟨⟨p1, p2⟩, p3, p4⟩ := id hW.b0
    obtain ⟨⟨q1, q2⟩, q3, q4⟩ := id hW.b1
    obtain ⟨⟨r1, r2⟩, r3, r4⟩ := id hW.b2
    by_cases hjl : j < l
    · have WO := Lib.hid hW
      have OO := Lib.hid hO
      obtain ⟨a, ha⟩ : ∃ a, a = ds.getD j 0 := ⟨_, rfl⟩
      have HA := Lib.hid ha
      have ga : 0 ≤ a ∧ a < 10000 := by rw [ha]; exact S1.out.getD j
      clear hW hO ha
      go_wp2
      go_loopw [7, 8] (fun u v wr => ∃ (k : Nat) (cc : Int) (ps : List Int), u = .int .i64 cc ∧ v = .int .i64 k ∧ MulW w wr x A l c ds y B m d es ps ∧ MulI os j l m a es k cc ps) (fun _ v _ => m + 2 - (intOf v).toNat)
      case atStart => exact ⟨0, 0, os, rfl, rfl, WO.out, mulI_start OO.out _⟩
      case round =>
        obtain ⟨k, cc, ps, rfl, rfl, hW, hI⟩ := hrel
        clear p1 p2 p3 p4 q1 q2 q3 q4 r1 r2 r3 r4
        obtain ⟨⟨p1, p2⟩, p3, p4⟩ := id hW.b0
        obtain ⟨⟨q1, q2⟩, q3, q4⟩ := id hW.b1
        have b0 := hI.c0
        have b1 := hI.c1
        have b2 := hI.kk
        by_cases hgo : k < m ∨ 0 < cc
        · have hin := mulI_in hI hjl hgo
          obtain ⟨oc, of⟩ := hW.cell hin
          obtain ⟨x1, x2, x3, h4⟩ := D1.out.call hW.below
          obtain ⟨g, hA', hg, hcell⟩ := h4 (by omega)
          have ac := hcell j hjl
          rw [← HA.out] at ac
          have DB := Lib.hid (D2.out.call hW.below)
          have C2 := Lib.hid (fun w h => digit_any B m d es k w h (by omega) (by omega))
          have g2 := S2.out.getD k
          have g1 := hW.dg.getD (j + k)
          have N : Hid (∀ s, s = cc + ps.getD (j + k) 0 + a * es.getD k 0 → MulI os j l m a es (k + 1) (s / 10000) (ps.set (j + k) (s % 10000))) := fun s hs => mulI_round hI hW.len hjl hW.dg L2.out S2.out ga hgo hs
          have HW := Lib.hid hW
          subst hA'
          clear h4 hcell x1 x2 x3 hI hW
          generalize ps.getD (j + k) 0 = o at N oc g1
          generalize es.getD k 0 = b at N C2 g2
          have gp := mul_bd ga g2
          have s0 : (0 : Int) ≤ (j : Int) := by omega
          have s1 : (j : Int) < (l : Int) := by omega
          have s2 : IntKind.i64.wrap ((j : Int) + (k : Int)) = (j : Int) + (k : Int) := IntWalk.i64_in _ (by omega)
          have s3 : (0 : Int) ≤ (j : Int) + (k : Int) := by omega
          have s4 : (j : Int) + (k : Int) < (l : Int) + (m : Int) + 1 := by omega
          have s5 : ((j : Int) + (k : Int)).toNat = j + k := by omega
          have s6 : IntKind.i64.wrap (cc + o) = cc + o := IntWalk.i64_in _ (by omega)
          have s7 : IntKind.i64.wrap (a * b) = a * b := IntWalk.i64_in _ (by omega)
          have s8 : IntKind.i64.wrap (cc + o + a * b) = cc + o + a * b := IntWalk.i64_in _ (by omega)
          have hcs : k < m ∨ (m ≤ k ∧ 0 < cc) := by omega
          rcases hcs with t1 | ⟨t1, t2⟩
          all_goals
            go_wp2_with fail
            go_quiet ((go_at_call 68; exact qt_left (C2.out _ (DB.out.drewN _))))
            clear s2 s5 s6 s7 s8 p1 p2 p3 p4 q1 q2 q3 q4 ac oc of
            have HQ := HW.out.drewN nq
            clear hg DB HW
            generalize wr.drewN nq = wq at *
            have HR := Lib.hid (N.out _ rfl)
            have q0 : 0 ≤ cc + o + a * b := by omega
            have q9 : cc + o + a * b ≤ 1000000000 := by omega
            obtain ⟨oc, of⟩ := HQ.cell hin
            have HS := Lib.hid (HQ.store (j + k) (s := (cc + o + a * b) % 10000) (by omega) (by omega))
            clear HQ N
            generalize cc + o + a * b = s at *
            generalize ps.getD (j + k) 0 = o' at oc
            go_wp2_with (go_at_call 74; (with_reducible refine (base_any _).mono ?_); rintro e w' ⟨rfl, rfl⟩)
            refine ⟨⟨k + 1, _, _, rfl, by go_num, HS.out, HR.out⟩, ?_⟩
            simp [intOf]; omega
        · have t1 : m ≤ k := by omega
          have t2 : cc ≤ 0 := by omega
          have HW := Lib.hid hW
          have OE := Lib.hid (mulI_end hI OO.out hW.len hjl L2.out t1 t2 HA.out)
          clear hW hI
          go_wp2
          refine ⟨⟨j + 1, _, by go_num, by omega, HW.out, OE.out⟩, ?_⟩
          simp [intOf]; omega
    · obtain rfl : j = l := by omega
      have HW := Lib.hid hW
      have HV := Lib.hid (mulOut_end hO.val (by rw [L1.out]; omega))
      clear hW hO
      have HD := Lib.hid HW.out.row
      have Hd := Lib.hid HW.out.dg
      have B0 := Lib.hid HW.out.b0
      have B1 := Lib.hid HW.out.b1
      have B2 := Lib.hid HW.out.b2
      have bl := Lib.hid HW.out.below
      clear HW
      go_wp2_with (go_at_call 48; ((with_reducible refine (trim_same _ _ _ _ os _ HD.out Hd.out (by omega)).mono ?_); rintro e w1 ⟨x1, l1, rfl, h1, hb⟩; have B2' := B2.out.call hb; clear p1 p2 p3 p4 q1 q2 q3 q4 r1 r2 r3 r4; obtain ⟨⟨r1, r2⟩, r3, r4⟩ := id B2'))
      have h2 : IsN w1 x1 (some ⟨w.heap.size + 1 + 1 + 1, 0, none⟩) l1 (j + m + 1) (n * n') := h1.conv (by rw [HV.out]; exact hv.out)
      refine bodyPost_ret (v := .agg #[.bool x1, .slice (some ⟨w.heap.size + 1 + 1 + 1, 0, none⟩) l1 (j + m + 1)]) (by simp only [results, Try.results53]; go_simp) rfl ⟨_, _, _, _, rfl, ?_, ?_, fun a e => (by cases e; show w.heap.size ≤ w.heap.size + 1 + 1 + 1; omega)⟩
      · exact h2.put (HasBB.of B2')
      · exact below_set (below_set (below_call bl.out hb) _ _ _ (by omega)) _ _ _ (by omega)
theorem rMul_any (x y : Bool) (A B : Option Addr) (l c m d : Nat) (n n' : Int) (w : World) (h : IsN w x A l c n) (k : IsN w y B m d n') (hl : l ≤ 400) (hm : m ≤ 400) :
    Calls Try.prog 53 #[.agg #[.bool x, .slice A l c], .agg #[.bool y, .slice B m d]] w (RN (n * n') w) := (rMul_new x y A B l c m d n n' w h k hl hm).mono fun _ _ h => h.rn
end Go.Proofs.Ytinjgiigmlikpaa
