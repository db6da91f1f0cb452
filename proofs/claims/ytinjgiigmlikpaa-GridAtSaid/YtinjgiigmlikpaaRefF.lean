/-
  Contracts of the reference package: minus. My own text.
-/
import Derived.Test.YtinjgiigmlikpaaRefE
import Derived.IntWalk
namespace Go.Proofs.Ytinjgiigmlikpaa
open Go.RowKit
set_option linter.unusedVariables false

theorem qt_left {P : Program} {f : FuncId} {args : Array Value} {w : World} {n : Nat} {v : Value}
    (h : Calls P f args (w.drewN n) fun e w' => e = .returned v ∧ w.drewN n = w') : Calls P f args (w.drewN n) fun e w'' => e = .returned v ∧ ∃ m, w'' = w.drewN m :=
  h.mono fun _ _ ⟨he, hm⟩ => ⟨he, n, hm.symm⟩
theorem Dg.drewN {w : World} {A : Option Addr} {l c : Nat} {ds : List Int} (h : Dg w A l c ds) (n : Nat) : Dg (w.drewN n) A l c ds := h
theorem bel_drewN {B : Nat} {a w : World} (h : Below B a w) (n : Nat) : Below B a (w.drewN n) := ⟨h.os, h.tape, h.output, h.size, h.block⟩
/-- what a difference's round keeps. -/
structure MinusR (w wr : World) (ds es : List Int) (l : Nat) (v : Value) (c : Int) (k : Nat) (os : List Int) : Prop where
  c0 : 0 ≤ c
  c1 : c ≤ 1
  len : os.length = k
  dg : IsD os
  val : dvx os (hi ds k - hi es k - c) = dval ds - dval es
  top : k ≤ l
  own : wr.ownsRow w.heap.size 3 1 v k (os.map (Value.int .i64))
  below : Below w.heap.size w wr
theorem minus_start (w : World) (ds es : List Int) (l : Nat) : MinusR w w ds es l (.slice none 0 0) 0 0 [] :=
  ⟨by omega, by omega, rfl, IsD.nil, by show hi ds 0 - hi es 0 - 0 = _; rw [hi_zero, hi_zero]; omega, Nat.zero_le _, World.ownsRow_nil _ _ _ _, Below.refl _ _⟩
theorem minus_round {w wr w1 : World} {ds es os : List Int} {l k : Nat} {v v' : Value} {c : Int} {o : Obj} (h : MinusR w wr ds es l v c k os)
    (hgo : k < l) {x c' : Int} (h0 : 0 ≤ x) (h1 : x < 10000) (hc0 : 0 ≤ c') (hc1 : c' ≤ 1) (hs : x - 10000 * c' = ds.getD k 0 - es.getD k 0 - c)
    (hown : w1.ownsRow w.heap.size 3 1 v' (k + 1) (os.map (Value.int .i64) ++ [.int .i64 x])) (hg : (wr.alloc o).grownBy w1 v.ownBlock) : MinusR w w1 ds es l v' c' (k + 1) (os ++ [x]) := by
  refine ⟨hc0, hc1, by rw [List.length_append, h.len]; rfl, h.dg.snoc h0 h1, minus_step h.val hs, by omega, by rw [List.map_append]; exact hown, ?_⟩
  exact (h.below.alloc h.below.size o).grown hg (by have := h.below.size; simp; omega) (fun j hj => (h.own.lt j hj).1)
theorem minus_end' {w wr : World} {ds es os : List Int} {l k : Nat} {v : Value} {c : Int} (h : MinusR w wr ds es l v c k os) (hl : ds.length = l) (he : IsD es) (h1 : l ≤ k) (hle : dval es ≤ dval ds) : RDF (dval ds - dval es) l w (.returned v) wr := by
  obtain ⟨A, c', rfl, hD⟩ := Dg.own h.own
  have hv := h.val
  have ht := h.top
  obtain rfl : k = ds.length := by omega
  exact ⟨A, _, c', os, rfl, hD, h.dg, minus_end h.dg he h.c0 hle hv, by omega, h.below, Fr.own h.own⟩
theorem MinusR.drewN {w wr : World} {ds es os : List Int} {l k : Nat} {v : Value} {c : Int} (h : MinusR w wr ds es l v c k os) (n : Nat) : MinusR w (wr.drewN n) ds es l v c k os :=
  ⟨h.c0, h.c1, h.len, h.dg, h.val, h.top, h.own, bel_drewN h.below n⟩
set_option maxHeartbeats 1000000 in
set_option maxRecDepth 100000 in
theorem rminus_new (A B : Option Addr) (l c m d : Nat) (ds es : List Int) (w : World) (h : Dg w A l c ds) (k : Dg w B m d es) (hd : IsD ds) (he : IsD es) (hl : l ≤ 900) (hm : m ≤ 900) (hle : dval es ≤ dval ds) :
    Calls Try.prog 73 #[.slice A l c, .slice B m d] w (RDF (dval ds - dval es) l w) := by
  obtain ⟨i0, hi0, hz0, hz1, hz2⟩ := info_parts info_int
  have H1 := Lib.hid h.1
  have hd' := Lib.hid hd
  have he' := Lib.hid he
  have hs := Lib.hid h
  have ks := Lib.hid k
  have I0 := Lib.hid hi0
  have I1 := Lib.hid hz0
  have I2 := Lib.hid hz1
  have I3 := Lib.hid hz2
  have HL := Lib.hid hle
  clear hd he h k hi0 hz0 hz1 hz2 hle
  go_enter Try.func73, Try.ntmps73
  go_wp2
  go_loopw [5, 6, 7] (fun v c i wr => ∃ (k : Nat) (cc : Int) (os : List Int), c = .int .i64 cc ∧ i = .int .i64 k ∧ MinusR w wr ds es l v cc k os) (fun _ _ i _ => l - (intOf i).toNat)
  case atStart => exact ⟨0, 0, [], rfl, rfl, minus_start w ds es l⟩
  case round =>
    obtain ⟨k, cc, os, rfl, rfl, hr⟩ := hrel
    have b0 := hr.c0
    have b1 := hr.c1
    have b2 := hr.top
    have HR := Lib.hid hr
    have C2 := Lib.hid (fun w h => digit_any B m d es k w h (by omega) (by omega))
    have g1 := hd'.out.getD k
    have g2 := he'.out.getD k
    have hD2 := Lib.hid (ks.out.call hr.below)
    have hD1 := hs.out.call hr.below
    have HO := Lib.hid hr.own
    have hsz := hr.below.size
    by_cases hgo : k < l
    · obtain ⟨x1, x2, x3, h4⟩ := hD1
      obtain ⟨g, rfl, hg, hcell⟩ := h4 (by omega)
      have hck := hcell k hgo
      clear h4 hcell hr x1 x2 x3
      generalize hX : ds.getD k 0 = x at hck g1
      generalize hY : es.getD k 0 = y at g2 C2
      replace hX := Lib.hid hX
      replace hY := Lib.hid hY
      have k0 : (0 : Int) ≤ (k : Int) := by omega
      have k1 : (k : Int) < (l : Int) := by omega
      have s1 : IntKind.i64.wrap (x - y) = x - y := IntWalk.i64_in _ (by omega)
      have s2 : IntKind.i64.wrap (x - y - cc) = x - y - cc := IntWalk.i64_in _ (by omega)
      go_wp2_with fail
      go_quiet ((go_at_call 68; exact qt_left (C2.out _ (hD2.out.drewN _))))
      clear s1 s2 hck hg
      have HQ := HR.out.drewN nq
      generalize wr.drewN nq = wq at *
      clear HR hD2 HO hsz C2
      have HO := Lib.hid HQ.own
      have hsz := HQ.below.size
      have N := Lib.hid (fun (w1 : World) (v' : Value) (o : Obj) (z c' : Int) h0 h1 hc0 hc1 hs hown hg => minus_round (w1 := w1) (v' := v') (o := o) (x := z) (c' := c') HQ hgo h0 h1 hc0 hc1 hs hown hg)
      clear HQ
      rw [hX.out, hY.out] at N
      by_cases hneg : x - y - cc < 0
      · have M := Lib.hid (fun (w1 : World) (v' : Value) (o : Obj) hown hg => N.out w1 v' o (x - y - cc + 10000) 1 (by omega) (by omega) (by omega) (by omega) (by omega) hown hg)
        clear N
        go_wp2_with (first
          | (go_at_call 74; (with_reducible refine (base_any _).mono ?_); rintro e w' ⟨rfl, rfl⟩)
          | (at_builtin; refine wpList_append_own _ rfl _ _ 29 rfl w.heap.size 3 i0 (.int .i64 0) 1 8 Try.underlying29 I0.out I1.out I2.out I3.out rfl (by decide) _ _ _ rfl (HO.out.alloc _) ⟨wq.heap.size, 0, none⟩ 1 1 [.int .i64 (x - y - cc + 10000)] rfl rfl (cell_one_new _ _ _) (by simp [Value.oneCell']) (by simp only [maxLen]; omega) (by omega) (by simp; omega) ?_; intro v' w1 hown' hgrow hiff; clear hiff; have R := Lib.hid (M.out w1 v' _ hown' hgrow); clear hown' hgrow))
        refine ⟨⟨k + 1, _, _, rfl, by go_num, R.out⟩, ?_⟩
        simp [intOf]; omega
      · have M := Lib.hid (fun (w1 : World) (v' : Value) (o : Obj) hown hg => N.out w1 v' o (x - y - cc) 0 (by omega) (by omega) (by omega) (by omega) (by omega) hown hg)
        clear N
        go_wp2_with (first
          | (go_at_call 74; (with_reducible refine (base_any _).mono ?_); rintro e w' ⟨rfl, rfl⟩)
          | (at_builtin; refine wpList_append_own _ rfl _ _ 29 rfl w.heap.size 3 i0 (.int .i64 0) 1 8 Try.underlying29 I0.out I1.out I2.out I3.out rfl (by decide) _ _ _ rfl (HO.out.alloc _) ⟨wq.heap.size, 0, none⟩ 1 1 [.int .i64 (x - y - cc)] rfl rfl (cell_one_new _ _ _) (by simp [Value.oneCell']) (by simp only [maxLen]; omega) (by omega) (by simp; omega) ?_; intro v' w1 hown' hgrow hiff; clear hiff; have R := Lib.hid (M.out w1 v' _ hown' hgrow); clear hown' hgrow))
        refine ⟨⟨k + 1, _, _, rfl, by go_num, R.out⟩, ?_⟩
        simp [intOf]; omega
    · clear hD1 hr
      go_wp2
      go_ret
      exact minus_end' HR.out H1.out he'.out (by omega) HL.out
end Go.Proofs.Ytinjgiigmlikpaa
