/-
  Contracts of the reference package: plus, minus. My own text.
-/
import Derived.Test.YtinjgiigmlikpaaRefD
import Derived.Maps.AppendAt
namespace Go.Proofs.Ytinjgiigmlikpaa
open Go.RowKit
set_option linter.unusedVariables false

theorem info_int : (Try.prog.info? 3).map (fun i => (i.zero, i.size, i.bytes)) = some (some (.int .i64 0), 1, 8) := by kernel_rfl
/-- what a sum's round keeps. -/
structure PlusR (w wr : World) (ds es : List Int) (l m : Nat) (v : Value) (c : Int) (k : Nat) (os : List Int) : Prop where
  c0 : 0 ≤ c
  c1 : c ≤ 1
  len : os.length = k
  dg : IsD os
  val : dvx os (c + hi ds k + hi es k) = dval ds + dval es
  more : 0 < c → k ≤ l ∨ k ≤ m
  top : k ≤ l ∨ k ≤ m + 1 ∨ k ≤ l + 1
  own : wr.ownsRow w.heap.size 3 1 v k (os.map (Value.int .i64))
  below : Below w.heap.size w wr
theorem plus_start (w : World) (ds es : List Int) (l m : Nat) : PlusR w w ds es l m (.slice none 0 0) 0 0 [] :=
  ⟨by omega, by omega, rfl, IsD.nil, by show (0 : Int) + _ + _ = _; rw [hi_zero, hi_zero]; omega, fun h => absurd h (by omega), .inl (Nat.zero_le _), World.ownsRow_nil _ _ _ _, Below.refl _ _⟩
theorem plus_round {w wr w1 : World} {ds es os : List Int} {l m k : Nat} {v v' : Value} {c : Int} {o : Obj} (h : PlusR w wr ds es l m v c k os) (hl : ds.length = l) (hm : es.length = m) (hd : IsD ds) (he : IsD es)
    (hgo : k < l ∨ k < m ∨ 0 < c) {s : Int} (hs : s = c + ds.getD k 0 + es.getD k 0)
    (hown : w1.ownsRow w.heap.size 3 1 v' (k + 1) (os.map (Value.int .i64) ++ [.int .i64 (s % 10000)])) (hg : (wr.alloc o).grownBy w1 v.ownBlock) : PlusR w w1 ds es l m v' (s / 10000) (k + 1) (os ++ [s % 10000]) := by
  have g1 := hd.getD k
  have g2 := he.getD k
  have h0 := h.c0; have h1 := h.c1; have hmo := h.more
  have z1 : l ≤ k → ds.getD k 0 = 0 := fun q => by simp [List.getD_eq_getElem?_getD, List.getElem?_eq_none (show ds.length ≤ k by omega)]
  have z2 : m ≤ k → es.getD k 0 = 0 := fun q => by simp [List.getD_eq_getElem?_getD, List.getElem?_eq_none (show es.length ≤ k by omega)]
  refine ⟨by omega, by omega, by rw [List.length_append, h.len]; rfl, h.dg.snoc (by omega) (by omega), by rw [hs]; exact plus_step h.val, fun q => ?_, ?_, by rw [List.map_append]; exact hown, ?_⟩
  · by_cases q1 : k < l
    · exact .inl (by omega)
    · by_cases q2 : k < m
      · exact .inr (by omega)
      · have := z1 (by omega); have := z2 (by omega); omega
  · rcases hgo with q | q | q
    · exact .inl (by omega)
    · exact .inr (.inl (by omega))
    · have := hmo q; omega
  · refine (h.below.alloc h.below.size o).grown hg (by have := h.below.size; simp; omega) (fun j hj => (h.own.lt j hj).1)
theorem plus_end {w wr : World} {ds es os : List Int} {l m k : Nat} {v : Value} {c : Int} (h : PlusR w wr ds es l m v c k os) (hl : ds.length = l) (hm : es.length = m) (h1 : l ≤ k) (h2 : m ≤ k) (h3 : c ≤ 0) : RDF (dval ds + dval es) (max l m + 1) w (.returned v) wr := by
  obtain ⟨A, c', rfl, hD⟩ := Dg.own h.own
  have e : c = 0 := by have := h.c0; omega
  have hv := h.val
  rw [e, hi_end ds (by omega), hi_end es (by omega)] at hv
  exact ⟨A, k, c', os, rfl, hD, h.dg, hv, by have := h.top; omega, h.below, Fr.own h.own⟩
set_option maxHeartbeats 1000000 in
set_option maxRecDepth 100000 in
theorem rplus_new (A B : Option Addr) (l c m d : Nat) (ds es : List Int) (w : World) (h : Dg w A l c ds) (k : Dg w B m d es) (hd : IsD ds) (he : IsD es) (hl : l ≤ 900) (hm : m ≤ 900) :
    Calls Try.prog 72 #[.slice A l c, .slice B m d] w (RDF (dval ds + dval es) (max l m + 1) w) := by
  obtain ⟨i0, hi0, hz0, hz1, hz2⟩ := info_parts info_int
  have H1 := Lib.hid h.1
  have H2 := Lib.hid k.1
  have hd' := Lib.hid hd
  have he' := Lib.hid he
  have hs := Lib.hid h
  have ks := Lib.hid k
  have I0 := Lib.hid hi0
  have I1 := Lib.hid hz0
  have I2 := Lib.hid hz1
  have I3 := Lib.hid hz2
  clear hd he h k hi0 hz0 hz1 hz2
  go_enter Try.func72, Try.ntmps72
  go_wp2
  go_loopw [5, 6, 7] (fun v c i wr => ∃ (k : Nat) (cc : Int) (os : List Int), c = .int .i64 cc ∧ i = .int .i64 k ∧ PlusR w wr ds es l m v cc k os) (fun _ _ i _ => 2000 - (intOf i).toNat)
  case atStart => exact ⟨0, 0, [], rfl, rfl, plus_start w ds es l m⟩
  case round =>
    obtain ⟨k, cc, os, rfl, rfl, hr⟩ := hrel
    have b0 := hr.c0
    have b1 := hr.c1
    have b2 := hr.top
    have b3 := hr.more
    have HR := Lib.hid hr
    have C1 := Lib.hid (fun w h => digit_any A l c ds k w h (by omega) (by omega))
    have C2 := Lib.hid (fun w h => digit_any B m d es k w h (by omega) (by omega))
    have g1 := hd'.out.getD k
    have g2 := he'.out.getD k
    have hD1 := Lib.hid (hs.out.call hr.below)
    have hD2 := Lib.hid (ks.out.call hr.below)
    clear hr
    have N := Lib.hid (fun (w1 : World) (v' : Value) (o : Obj) hgo hown hg => plus_round (w1 := w1) (v' := v') (o := o) HR.out H1.out H2.out hd'.out he'.out hgo rfl hown hg)
    generalize ds.getD k 0 = x at *
    generalize es.getD k 0 = y at *
    by_cases hgo : k < l ∨ k < m ∨ 0 < cc
    · have hgo' := Lib.hid hgo
      have HO := Lib.hid HR.out.own
      have q0 : 0 ≤ cc + x + y := by omega
      have hsz := HR.out.below.size
      have M := Lib.hid (fun w1 v' o => N.out w1 v' o hgo'.out)
      clear N
      have hcs : (l < m ∧ k < m) ∨ (l < m ∧ m ≤ k ∧ 0 < cc) ∨ (m ≤ l ∧ k < l) ∨ (m ≤ l ∧ l ≤ k ∧ 0 < cc) := by omega
      rcases hcs with ⟨t1, t2⟩ | ⟨t1, t2, t3⟩ | ⟨t1, t2⟩ | ⟨t1, t2, t3⟩
      all_goals
        go_wp2_with (first
          | (go_at_call 68; first | ((with_reducible refine (C1.out _ hD1.out).mono ?_); rintro e w' ⟨rfl, rfl⟩) | ((with_reducible refine (C2.out _ hD2.out).mono ?_); rintro e w' ⟨rfl, rfl⟩))
          | (go_at_call 74; (with_reducible refine (base_any _).mono ?_); rintro e w' ⟨rfl, rfl⟩)
          | (at_builtin; refine wpList_append_own _ rfl _ _ 29 rfl w.heap.size 3 i0 (.int .i64 0) 1 8 Try.underlying29 I0.out I1.out I2.out I3.out rfl (by decide) _ _ _ rfl (HO.out.alloc _) ⟨wr.heap.size, 0, none⟩ 1 1 [.int .i64 ((cc + x + y) % 10000)] rfl rfl (cell_one_new _ _ _) (by simp [Value.oneCell']) (by simp only [maxLen]; omega) (by omega) (by simp; omega) ?_; intro v' w1 hown' hgrow hiff; clear hiff; have R := Lib.hid (M.out w1 v' _ hown' hgrow); clear hown' hgrow))
        all_goals first
          | (exfalso; omega)
          | (refine ⟨⟨k + 1, _, _, rfl, by go_num, R.out⟩, ?_⟩; simp [intOf]; omega)
    · clear N
      have t3 : cc ≤ 0 := by omega
      have t4 : l ≤ k := by omega
      have t5 : m ≤ k := by omega
      rcases Nat.lt_or_ge l m with hlm | hlm
      all_goals
        go_wp2
        all_goals first
          | (exfalso; omega)
          | (go_ret; exact plus_end HR.out H1.out H2.out t4 t5 t3)
end Go.Proofs.Ytinjgiigmlikpaa
