/-
  My own texts, without what this claim does not need. My own text.
-/
import Derived.WalkKit
import Derived.WalkSpells
import Derived.Lib.Hide
import Derived.BigQuiet
import Derived.BigGuardPart
import Derived.Deep.RegionHeld3
import Derived.Below
import Derived.Still
import Derived.Laws.CopyRow
import Derived.Laws.Cells
import Derived.Tactics
import Derived.IntWalk
import Derived.Test.YtaennpehlhgggaaProg
import Derived.ProofKit
import Derived.Laws.StructEq
import Derived.Laws.AppendOwn
import Derived.Laws.MakeOwn
import Derived.Laws.Slices
import Derived.StillTail
import Derived.Deep.QuietTactic
import Derived.OwnWalk
import Derived.Laws.OwnMore
import Derived.Maps.AppendAt
import Derived.Deep.DrawnRows
import Derived.Deep.LoopGhost
import Derived.Lib.ItoaNum
import Derived.Deep.DeepCutAuto
import Derived.Deep.CutBlock
import Derived.RegionTactic
import Derived.OpenShut
import Derived.Deep.DeepHandedRow
import Derived.Lib.LaidTab
import Derived.Lib.SmallJoins
import Derived.Laws.BytesArg
import Derived.Shelf.Spec.SlicesInsert
import Derived.Lib.AppendZerosOnto
import Derived.Deep.SlicePairs
import Derived.Carry
import Derived.Test.YtaennpehlhgggaaRows
import Derived.Test.YtaennpehlhgggaaHotRmK4
namespace Go.Proofs.Ytaennpehlhgggaa
open Go.RowKit
set_option linter.unusedVariables false
set_option linter.unusedSimpArgs false
theorem near_box (a1 a2 b1 b2 : Int) (m : Nat) (L : List Px) : (L.filter fun p => decide ((if gsn b1 m < gsn a1 m then gsn b1 m else gsn a1 m) ≤ p.1) && decide (p.1 ≤ (if gsn b1 m > gsn a1 m then gsn b1 m else gsn a1 m)) && decide ((if gsn b2 m < gsn a2 m then gsn b2 m else gsn a2 m) ≤ p.2) && decide (p.2 ≤ (if gsn b2 m > gsn a2 m then gsn b2 m else gsn a2 m))) = L.filter (nearF a1 a2 b1 b2 m) := by
  refine List.filter_congr fun p _ => ?_
  unfold nearF btw9
  generalize gsn a1 m = A
  generalize gsn b1 m = B
  generalize gsn a2 m = C
  generalize gsn b2 m = D
  rw [Bool.eq_iff_iff]
  simp only [Bool.and_eq_true, Bool.or_eq_true, decide_eq_true_eq]
  repeat' split
  all_goals omega
set_option maxRecDepth 100000 in
set_option maxHeartbeats 8000000 in
/-- Near, of a set's block and row. -/
theorem o_Near9 {r : Int} {L : List Px} {v : Value} {es : List Ent} {a1 a2 b1 b2 k : Int} {m : Nat} (hv : v.oneCell' = true) (hI : IdxOf L es) (hl : L.length ≤ 300) (hr : IsR k m) (ra : rB5 a1 a2 = true) (rb : rB5 b1 b2 = true) : OCall Try.prog 23 [vP a1 a2, vP b1 b2, vI k] (setC v r) (nxRow v es) fun w cs' r' => w = vIt (sortI (decide (b1 < a1)) (decide (b2 < a2)) (nearF a1 a2 b1 b2 m) L) ∧ cs' = setC v r ∧ r' = nxRow v es := by
  have qa := rB5_iff.1 ra
  have qb := rB5_iff.1 rb
  have C1 := p_gOf (x := a1) (y := a2) hr (by omega) (by omega) (by omega) (by omega)
  have C2 := p_gOf (x := b1) (y := b2) hr (by omega) (by omega) (by omega) (by omega)
  have C3 := k_InZ (.int .i64 r) es v (if gsn b1 m < gsn a1 m then gsn b1 m else gsn a1 m) (if gsn b2 m < gsn a2 m then gsn b2 m else gsn a2 m) (if gsn b1 m > gsn a1 m then gsn b1 m else gsn a1 m) (if gsn b2 m > gsn a2 m then gsn b2 m else gsn a2 m) hv hI.1 (by rw [hI.len]; exact hl)
  have hp := hI.box (if gsn b1 m < gsn a1 m then gsn b1 m else gsn a1 m) (if gsn b2 m < gsn a2 m then gsn b2 m else gsn a2 m) (if gsn b1 m > gsn a1 m then gsn b1 m else gsn a1 m) (if gsn b2 m > gsn a2 m then gsn b2 m else gsn a2 m)
  rw [near_box] at hp
  have hil := inL_len es (if gsn b1 m < gsn a1 m then gsn b1 m else gsn a1 m) (if gsn b2 m < gsn a2 m then gsn b2 m else gsn a2 m) (if gsn b1 m > gsn a1 m then gsn b1 m else gsn a1 m) (if gsn b2 m > gsn a2 m then gsn b2 m else gsn a2 m)
  rw [hI.len] at hil
  generalize hns : inL es (if gsn b1 m < gsn a1 m then gsn b1 m else gsn a1 m) (if gsn b2 m < gsn a2 m then gsn b2 m else gsn a2 m) (if gsn b1 m > gsn a1 m then gsn b1 m else gsn a1 m) (if gsn b2 m > gsn a2 m then gsn b2 m else gsn a2 m) = ns at *
  have C4 := a_pix (l := ns) (by omega)
  have C5 := p_Along (a1 := a1) (a2 := a2) (b1 := b1) (b2 := b2)
  have C6 := p_SortP (fx := decide (b1 < a1)) (fy := decide (b2 < a2)) (ns.map pixE).length (ns.map pixE) (Nat.le_refl _) (by rw [List.length_map]; omega)
  rw [srtL_sortI (fx := decide (b1 < a1)) (fy := decide (b2 < a2)) hI.2.2 hp] at C6
  refine ocall_of rfl rfl (fun w cs' r' h => by obtain ⟨rfl, rfl, rfl⟩ := h; exact ⟨rfl, rfl⟩) ?_
  generalize sortI (decide (b1 < a1)) (decide (b2 < a2)) (nearF a1 a2 b1 b2 m) L = T at *
  generalize ns.map pixE = ps at *
  generalize decide (b1 < a1) = fx at *
  generalize decide (b2 < a2) = fy at *
  clear hp hns hI qa qb
  generalize gsn a1 m = A1 at *
  generalize gsn a2 m = A2 at *
  generalize gsn b1 m = B1 at *
  generalize gsn b2 m = B2 at *
  refine hcall_of_body (f := 23) Try.func23 rfl (Nat.le_of_ble_eq_true rfl) (by first | exact big0 | exact big1 rfl) ?_
  (repeat (first | ((with_reducible apply hs_nilS); kernel_rfl) | ((with_reducible apply rwp_draw (id := 1) [6,7,0,1,2,3,4,5,8,9]); kernel_rfl; kernel_rfl; exact rfl) | ((with_reducible apply rwp_drawH (id := 4) [0,1,2,3,4,7,8,5,6,9,10,11] [46,47]); kernel_rfl; kernel_rfl; exact rfl) | ((with_reducible apply rwp_seq)) | ((with_reducible apply rthen_normal)) | ((with_reducible apply rwp_region)) | ((with_reducible apply hs_nil)) | ((with_reducible apply hs_c); exact rfl; (repeat (first | ((with_reducible apply al_q); exact rfl) | ((with_reducible apply al_nilck); (iterate 3 exact rfl)) | ((with_reducible apply al_min); (iterate 4 exact rfl)) | ((with_reducible apply al_max); (iterate 4 exact rfl)) | (refine al_call2 rfl rfl rfl rfl (by (first | exact C1 | exact C2 | exact C5 | exact C6)) rfl ?_))); (with_reducible apply al_nil))))
  refine hs_h2cu 1000 0 1 (by decide) rfl rfl rfl rfl C3 rfl (fun v cs' r' q h => h.1) rfl rfl rfl rfl (fun rv cs' r' q h => ?_)
  obtain ⟨rfl, rfl, rfl, hq⟩ := h
  refine ⟨rfl, ?_⟩
  rw [hq]
  skip
  refine hs_ac 1 rfl rfl rfl rfl C4 rfl rfl rfl (fun rv q h => ?_)
  obtain ⟨v', rfl, rfl⟩ := h
  refine ⟨rfl, ?_⟩
  change hList _ _ _ _ _ _ (AS.put _ _ (vIt ps))
  (repeat (first | ((with_reducible apply hs_nilS); kernel_rfl) | ((with_reducible apply rthen_normal)) | ((with_reducible apply rwp_ret)) | ((with_reducible apply hs_c); exact rfl; (repeat (first | ((with_reducible apply al_q); exact rfl) | (refine al_call2 rfl rfl rfl rfl (by (first | exact C5 | exact C6)) rfl ?_))); (with_reducible apply al_nil))))
  (first | (refine hfin_o1 rfl (resl_tmp rfl resl_nil) rfl rfl rfl rfl ?_))
  exact ⟨rfl, rfl, rfl⟩
theorem k_Near9 : CNear9 SetI := by
  intro s L b S a1 a2 b1 b2 k m h hl hn hin hr ra rb
  exact set_of (L' := L) (post := fun w => w = vIt (sortI (decide (b1 < a1)) (decide (b2 < a2)) (nearF a1 a2 b1 b2 m) L)) rfl h fun v es hv hI => ocall_mono (o_Near9 hv hI hl hr ra rb) fun w cs' r' h => by
    obtain ⟨rfl, rfl, rfl⟩ := h
    exact ⟨rfl, rfl, v, es, hv, hI, rfl, rfl⟩
def MtI (T : List Px) (g : Px → Bool) (v : Value) (r : Int) (es : List Ent) (a1 a2 b1 b2 k : Int) (n : Nat) (R : Rws) (ts : List (Nat × AV)) (ms : List (Nat × List AC)) : Prop :=
  ∃ (i : Nat) (u : Value) (ki : Int), i ≤ T.length ∧ n = T.length - i ∧ ki = i ∧ R = rowTwo (nxRow v es) (pxRow u ((T.take i).filter g)) ∧ ms = [(5, mPx a1 a2), (6, mPx b1 b2), (1000, setC v r)] ∧ ts = [(3, vI k), (5, vOw 5), (6, vOw 6), (9, vC u), (16, vIt T), (17, vI T.length), (18, vI ki)]
set_option maxRecDepth 100000 in
set_option maxHeartbeats 8000000 in
theorem k_Met9 : CMet9 SetI := by
  intro s L b S a1 a2 b1 b2 k h hl hn hin hk ra rb
  obtain ⟨m, hr⟩ := isR_ex k
  refine thcall2_mono (set_row (post := fun w q => ∃ v', w = vC v' ∧ q = pxRow v' (sortI (decide (b1 < a1)) (decide (b2 < a2)) (metF a1 a2 b1 b2 k) L)) rfl h fun v es hv hI => ?_) (fun v S' q h => by obtain ⟨⟨v', h1, h2⟩, h3⟩ := h; exact ⟨v', h1, h2, h3⟩)
  have C1 := o_Near9 (r := s) hv hI hl hr ra rb
  rw [← sortI_filter (f := nearF a1 a2 b1 b2 m) (g := metF a1 a2 b1 b2 k) hn fun p hp => met_near hr p hp]
  have hT := sortI_len (decide (b1 < a1)) (decide (b2 < a2)) (nearF a1 a2 b1 b2 m) L
  generalize sortI (decide (b1 < a1)) (decide (b2 < a2)) (nearF a1 a2 b1 b2 m) L = T at *
  clear hI hin hn h
  refine hcall_of_body (f := 25) Try.func25 rfl (Nat.le_of_ble_eq_true rfl) (by first | exact big0 | exact big1 rfl) ?_
  refine rwp_nil 1 32 2 rfl ?_
  (repeat (first | ((with_reducible apply rwp_seq)) | ((with_reducible apply rthen_normal)) | ((with_reducible apply rwp_region)) | ((with_reducible apply hs_nil)) | ((with_reducible apply hs_c); exact rfl; (repeat (first | ((with_reducible apply al_q); exact rfl))); (with_reducible apply al_nil))))
  refine hs_h1 1000 0 rfl rfl rfl rfl C1 rfl rfl rfl rfl rfl rfl (fun rv cs' r' h => ?_)
  obtain ⟨rfl, rfl, rfl⟩ := h
  (repeat (first | ((with_reducible apply rthen_normal)) | ((with_reducible apply hs_nil)) | ((with_reducible apply rwp_block)) | ((with_reducible apply hs_c); exact rfl; (repeat (first | ((with_reducible apply al_q); exact rfl) | ((with_reducible apply al_len); (iterate 3 exact rfl)))); (with_reducible apply al_nil))))
  refine rwp_loopL 33 (MtI T (metF a1 a2 b1 b2 k) v s es a1 a2 b1 b2 k) T.length (rowTwo (nxRow v es) (pxRow (.slice none 0 0) [])) _ [(5, mPx a1 a2), (6, mPx b1 b2), (1000, setC v s)] ⟨0, .slice none 0 0, 0, Nat.zero_le _, rfl, rfl, rfl, rfl, rfl⟩ (rowTwo_le rfl rfl) rfl ⟨rfl, rfl, rfl, rfl, rfl, rfl, rfl, trivial⟩ ⟨rfl, rfl, rfl, trivial⟩ rfl ?_
  clear C1
  rintro n R ts ms ⟨i, u, ki, hi, rfl, hki, rfl, rfl, rfl⟩ hok
  clear hok
  have hfl : ((T.take i).filter (metF a1 a2 b1 b2 k)).length ≤ i := Nat.le_trans (List.length_filter_le _ _) (by rw [List.length_take]; omega)
  by_cases hq : i < T.length
  · have q2 : ki < (T.length : Int) := by omega
    have q3 : 0 ≤ ki := by omega
    obtain ⟨x, y, g1⟩ : ∃ x y, T[i]? = some (x, y) := ⟨_, _, List.getElem?_eq_getElem hq⟩
    have E1 := itC_xy hki g1
    have C2 := p_Hits (a1 := a1) (a2 := a2) (b1 := b1) (b2 := b2) (x := x) (y := y) (k := k)
    have ht : (T.take (i + 1)).filter (metF a1 a2 b1 b2 k) = (T.take i).filter (metF a1 a2 b1 b2 k) ++ if metF a1 a2 b1 b2 k (x, y) then [(x, y)] else [] := by
      rw [List.take_succ_eq_append_getElem hq, (List.getElem?_eq_some_iff.1 g1).2, List.filter_append]
      congr 1
      by_cases hm : metF a1 a2 b1 b2 k (x, y) = true
      · simp [hm]
      · simp [hm]
    rw [show hiB a1 a2 b1 b2 x y k = metF a1 a2 b1 b2 k (x, y) from rfl] at C2
    generalize metF a1 a2 b1 b2 k = g at *
    cases hm : g (x, y) with
    | true =>
      rw [hm] at C2 ht
      rw [if_pos rfl] at ht
      (repeat (first | ((with_reducible apply rwp_seq)) | ((with_reducible apply rthen_normal)) | ((with_reducible apply rwp_region)) | ((with_reducible apply hs_nil)) | ((with_reducible apply rwp_skip)) | ((with_reducible apply rwp_block)) | ((with_reducible apply rwp_cond_1); exact rfl; (first | assumption | exact decide_eq_true (by omega) | (simp only [Bool.not_eq_true', decide_eq_false_iff_not, decide_eq_true_eq, Bool.not_eq_false']; (first | done | omega)) | exact rfl)) | ((with_reducible apply hs_c); exact rfl; (repeat (first | ((with_reducible apply al_q); exact rfl) | ((with_reducible apply al_loadPN); (iterate 5 exact rfl)) | ((with_reducible apply al_idxS); (iterate 3 exact rfl); (first | decide | omega); (first | decide | omega); (first | assumption | rfl); exact rfl) | ((with_reducible apply al_bslice); (iterate 10 exact rfl)) | (refine al_call4 rfl rfl rfl rfl rfl rfl (by (first | exact C2)) rfl ?_))); (with_reducible apply al_nil))))
      refine hs_app0 1 rfl rfl rfl rfl ?q1 ?q2 rfl rfl (fun v' hv' => ?_)
      case q1 => exact le_maxLen (by show ((T.take i).filter g).length + 1 ≤ 1000000; omega)
      case q2 => show (((T.take i).filter g).length + 1) * 16 ≤ 140737488355328; omega
      (repeat (first | ((with_reducible apply rthen_normal)) | ((with_reducible apply rwp_region)) | ((with_reducible apply hs_nil)) | ((with_reducible apply rblock_normal)) | ((with_reducible apply hs_c); exact rfl; (repeat (first | ((with_reducible apply al_q); exact rfl) | ((with_reducible apply al_add); (iterate 3 exact rfl); (first | exact i64_wrap (by omega) | assumption | rfl); exact rfl))); (with_reducible apply al_nil))))
      refine ⟨T.length - (i + 1), rowTwo (nxRow v es) (pxRow v' ((T.take (i + 1)).filter g)), _, [(5, mPx a1 a2), (6, mPx b1 b2), (1000, setC v s)], by omega, ⟨i + 1, v', ki + 1, by omega, rfl, by omega, rfl, rfl, rfl⟩, ?_, rfl, ⟨rfl, rfl, rfl, rfl, rfl, rfl, rfl, trivial⟩, ⟨rfl, rfl, rfl, trivial⟩, rfl⟩
      rw [ht, pxRow_one]
      exact rowTwo_le rfl rfl
    | false =>
      rw [hm] at C2 ht
      rw [if_neg (by decide), List.append_nil] at ht
      (repeat (first | ((with_reducible apply rwp_seq)) | ((with_reducible apply rthen_normal)) | ((with_reducible apply rwp_region)) | ((with_reducible apply hs_nil)) | ((with_reducible apply rwp_skip)) | ((with_reducible apply rwp_block)) | ((with_reducible apply rblock_normal)) | ((with_reducible apply rwp_cond_1); exact rfl; (first | assumption | exact decide_eq_true (by omega) | (simp only [Bool.not_eq_true', decide_eq_false_iff_not, decide_eq_true_eq, Bool.not_eq_false']; (first | done | omega)) | exact rfl)) | ((with_reducible apply rwp_cond_0); exact rfl; (first | assumption | exact decide_eq_false (by omega) | (simp only [Bool.not_eq_true', decide_eq_false_iff_not, decide_eq_true_eq, Bool.not_eq_false']; (first | done | omega)) | exact rfl)) | ((with_reducible apply hs_c); exact rfl; (repeat (first | ((with_reducible apply al_q); exact rfl) | ((with_reducible apply al_loadPN); (iterate 5 exact rfl)) | ((with_reducible apply al_idxS); (iterate 3 exact rfl); (first | decide | omega); (first | decide | omega); (first | assumption | rfl); exact rfl) | ((with_reducible apply al_add); (iterate 3 exact rfl); (first | exact i64_wrap (by omega) | assumption | rfl); exact rfl) | (refine al_call4 rfl rfl rfl rfl rfl rfl (by (first | exact C2)) rfl ?_))); (with_reducible apply al_nil))))
      refine ⟨T.length - (i + 1), rowTwo (nxRow v es) (pxRow u ((T.take (i + 1)).filter g)), _, [(5, mPx a1 a2), (6, mPx b1 b2), (1000, setC v s)], by omega, ⟨i + 1, u, ki + 1, by omega, rfl, by omega, rfl, rfl, rfl⟩, ?_, rfl, ⟨rfl, rfl, rfl, rfl, rfl, rfl, rfl, trivial⟩, ⟨rfl, rfl, rfl, trivial⟩, rfl⟩
      rw [ht]
      exact rowTwo_le rfl rfl
  · have q2 : ¬ ki < (T.length : Int) := by omega
    have e0 : T.take i = T := List.take_of_length_le (by omega)
    rw [e0]
    (repeat (first | ((with_reducible apply rwp_seq)) | ((with_reducible apply rthen_normal)) | ((with_reducible apply rwp_region)) | ((with_reducible apply hs_nil)) | ((with_reducible apply rwp_ret)) | ((with_reducible apply rblock_same)) | ((with_reducible apply rwp_exit)) | ((with_reducible apply rthen_exit)) | ((with_reducible apply rwp_cond_0); exact rfl; (first | assumption | exact decide_eq_false (by omega) | (simp only [Bool.not_eq_true', decide_eq_false_iff_not, decide_eq_true_eq, Bool.not_eq_false']; (first | done | omega)) | exact rfl)) | ((with_reducible apply hs_c); exact rfl; (repeat (first | ((with_reducible apply al_q); exact rfl))); (with_reducible apply al_nil))))
    (first | (refine hfin_g rfl (resl_tmp rfl resl_nil) rfl (rle2 (i := 0) (j := 1) rfl rfl) rfl rfl (fun i r h => by obtain ⟨rfl, rfl⟩ := row1_iff h; exact ⟨_, rfl⟩) ?_))
    exact ⟨_, rfl, rfl, rfl, Nat.zero_lt_succ _, u, rfl, rfl⟩
end Go.Proofs.Ytaennpehlhgggaa

namespace Go.Proofs.Ytaennpehlhgggaa
open Go.RowKit
set_option linter.unusedVariables false
set_option linter.unusedSimpArgs false
/-- the end of a function that is handed a thing's block and rows, and makes block k2, and rows, of another one. -/
theorem hfin_c (k2 : Nat) {P : Program} {fn : Func} {l : List ResultVar} {xs : List AW} {R R0 R1 : Rws} {s : AS} {cs cs' ds : List AC} {Post : AV → Mem → Rws → Prop} (hr : fn.results = l.toArray) (h : l.map (resOf P s) = xs.map some) (hk : s.mem 1000 = some cs') (hk2 : s.mem k2 = some ds) (hR : RLe R1 R) (hc : cs'.all AC.closedB = true) (hd : ds.all AC.closedB = true) (hx : (packed xs).ownB k2 = true) (hne : 1000 ≠ k2) (h0 : ∀ i r, R0 i = some r → ∃ r', R1 i = some r')
    (hp : Post (packed xs) (upd (mem1 1000 cs') k2 ds) R1) : hfin P fn (mem1 1000 cs) R0 Post R s := by
  have two : ∀ {k : Nat} {c : List AC}, upd (mem1 1000 cs') k2 ds k = some c → (k = k2 ∧ c = ds) ∨ (k = 1000 ∧ c = cs') := fun {k c} h => by
    by_cases e : k = k2
    · subst e; rw [upd_same] at h; cases h; exact .inl ⟨rfl, rfl⟩
    · rw [upd_ne _ _ e] at h; exact .inr (mem1_iff h)
  refine ⟨xs, packed xs, upd (mem1 1000 cs') k2 ds, R1, by rw [hr]; exact h, .refl _, hp, fun k c h => ?_, hR, fun j hj => ?_, fun k c x j h hxc hj => ?_, fun k c h => ?_, h0⟩
  · rcases two h with ⟨rfl, rfl⟩ | ⟨rfl, rfl⟩
    · exact hk2
    · exact hk
  · rw [AV.ownB_spec hx hj]; exact ⟨ds, upd_same _ _ _⟩
  · rcases two h with ⟨rfl, rfl⟩ | ⟨rfl, rfl⟩
    · exact absurd hj (AC.closed_of (List.all_eq_true.1 hd x hxc) j)
    · exact absurd hj (AC.closed_of (List.all_eq_true.1 hc x hxc) j)
  · obtain ⟨rfl, rfl⟩ := mem1_iff h; exact ⟨cs', by rw [upd_ne _ _ hne]; unfold mem1; exact upd_same _ _ _⟩
set_option maxRecDepth 100000 in
set_option maxHeartbeats 4000000 in
theorem k_Copy9 : CCopy9 SetI := by
  intro r L b S h hl
  obtain ⟨ρ, v, es, hp, hv, hI, rfl⟩ := h
  obtain rfl := ptr_b hp
  have C1 := k_CopyZ (.int .i64 r) es v hv hI.1 (by rw [hI.len]; exact hl)
  refine th_two (mem1_some _ _) rfl (Post := fun w m' R' => ∃ v2, v2.oneCell' = true ∧ w = .w (.one (.own 12 0)) ∧ m' = upd (mem1 1000 (setC v r)) 12 (setC v2 r) ∧ R' = upd (row1 0 (nxRow v es)) 1 (nxRow v2 es)) ?_ (fun w m' R' h => ?_)
  · refine hcall_of_body (f := 27) Try.func27 rfl (Nat.le_of_ble_eq_true rfl) (by first | exact big0 | exact big1 rfl) ?_
    (repeat (first | ((with_reducible apply rwp_drawH (id := 1) [0,1,2,4,5,6,7,3,8,9,10] [6]); kernel_rfl; kernel_rfl; exact rfl) | ((with_reducible apply rwp_seq)) | ((with_reducible apply rthen_normal)) | ((with_reducible apply rwp_region)) | ((with_reducible apply hs_nil)) | ((with_reducible apply hs_c); exact rfl; (repeat (first | ((with_reducible apply al_q); exact rfl) | ((with_reducible apply al_nilck); (iterate 3 exact rfl)))); (with_reducible apply al_nil))))
    refine hs_h2u 1000 0 1 (by decide) rfl rfl rfl rfl C1 rfl (fun v cs' r' q h => h.1) rfl rfl rfl rfl (fun rv cs' r' q h => ?_)
    obtain ⟨rfl, rfl, rfl, hq, hqc⟩ := h
    generalize hw : q.v = v2 at *
    subst hq
    clear hw
    (repeat (first | ((with_reducible apply hs_nilS); kernel_rfl) | ((with_reducible apply rthen_normal)) | ((with_reducible apply rwp_ret)) | ((with_reducible apply hs_c); exact rfl; (repeat (first | ((with_reducible apply al_q); exact rfl))); (with_reducible apply al_nil))))
    (first | (refine hfin_c 12 rfl (resl_tmp rfl resl_nil) rfl rfl (rle2 (i := 0) (j := 1) rfl rfl) rfl rfl rfl (by decide) (fun i r h => by obtain ⟨rfl, rfl⟩ := row1_iff h; exact ⟨_, rfl⟩) ?_))
    exact ⟨v2, hqc, rfl, rfl, rfl⟩
  · obtain ⟨v2, hv2, rfl, rfl, rfl⟩ := h
    refine ⟨mem1 1000 (setC v r), row1 0 (nxRow v es), mem1 12 (setC v2 r), row1 1 (nxRow v2 es), 12, rfl, fun k cs h => ?_, fun k cs h => ?_, rle1 rfl, rle1 rfl, fun k cs cs' h1 h2 => ?_, fun i q q' h1 h2 => ?_, fun k cs x j h hx hj => ?_, fun k cs x j h hx hj => ?_, set_plain _ _ _, ⟨fun k cs h => ?_, fun i q h => ?_⟩, fun ρ1 hρ => ⟨ρ1 12, rfl, ⟨ρ1, v, es, by rw [hρ], hv, hI, rfl⟩, fun j => ρ1 (swp 1000 12 j), v2, es, rfl, hv2, hI, ?_⟩⟩
    · obtain ⟨rfl, rfl⟩ := mem1_iff h; rfl
    · obtain ⟨rfl, rfl⟩ := mem1_iff h; rfl
    · obtain ⟨rfl, _⟩ := mem1_iff h1
      obtain ⟨e, _⟩ := mem1_iff h2
      exact absurd e (by decide)
    · obtain ⟨rfl, _⟩ := row1_iff h1
      obtain ⟨e, _⟩ := row1_iff h2
      exact absurd e (by decide)
    · obtain ⟨rfl, rfl⟩ := mem1_iff h
      exact absurd hj (AC.closed_of (List.all_eq_true.1 (show (setC v r).all AC.closedB = true from rfl) x hx) j)
    · obtain ⟨rfl, rfl⟩ := mem1_iff h
      exact absurd hj (AC.closed_of (List.all_eq_true.1 (show (setC v2 r).all AC.closedB = true from rfl) x hx) j)
    · obtain ⟨rfl, rfl⟩ := mem1_iff h; rfl
    · obtain ⟨rfl, rfl⟩ := row1_iff h; exact ⟨Nat.zero_lt_succ _, enC_plain es⟩
    · have h1 := thingSP_ren (swp_swp 1000 12) (σ := swp 0 1) (τ := swp 0 1) (swp_swp 0 1) (swp_swp 0 1) (ρ := ρ1) (m := mem1 1000 (setC v2 r)) (R := row1 0 (nxRow v2 es)) (k := 1000)
      rw [mem1_ren rfl, row1_ren] at h1
      exact h1
end Go.Proofs.Ytaennpehlhgggaa

namespace Go.Proofs.Ytaennpehlhgggaa
open Go.RowKit
set_option linter.unusedVariables false
set_option linter.unusedSimpArgs false
theorem room9_min (n : Int) : room9 n = (if 1024 < if 1 > n then 1 else n then 1024 else if 1 > n then 1 else n) := by unfold room9; (repeat split) <;> omega
def R9I (SI : SIT) (r : Int) (l : List Px) (n : Nat) (R : Rws) (ts : List (Nat × AV)) (ms : List (Nat × List AC)) : Prop :=
  ∃ (k b : Nat) (S : SP) (ki : Int) (L : List Px), k ≤ l.length ∧ n = l.length - k ∧ ki = k ∧ L.length ≤ k ∧ (L.length : Int) ≤ r ∧ SI r L (ptrV b) S ∧ R = row1 0 (ob (ptrV b) S) ∧ ms = [] ∧ ts = [(5, vC (ptrV b)), (6, vI r), (26, vIt l), (27, vI l.length), (28, vI ki)]
set_option maxRecDepth 100000 in
set_option maxHeartbeats 8000000 in
theorem law_Room9 {SI : SIT} (cn : CNew9 SI) (ca : CAdd9 SI) (cr : CRoom9 SI) (cl : CLen9 SI) (cu : CNum9 SI) {n : Int} {l : List Px} (hal : PCall Try.prog 9 [] (vB true)) : PCall Try.prog 6 [vI n, vIt l] (vB true) := by
  by_cases hl : 200 < (l.length : Int)
  · refine pcall_body (f := 6) Try.func6 rfl rfl rfl rfl ?_
    (repeat (first | ((with_reducible apply al_q); exact rfl) | ((with_reducible apply al_len); (iterate 3 exact rfl)) | (refine al_call0 rfl rfl (by (first | exact hal)) rfl ?_) | ((with_reducible apply awp_seq)) | ((with_reducible apply athen_normal)) | ((with_reducible apply awp_region)) | ((with_reducible apply al_nil)) | ((with_reducible apply awp_ret)) | ((with_reducible apply athen_ret)) | ((with_reducible apply awp_cond_1); exact rfl; (first | assumption | exact decide_eq_true (by omega) | (simp only [Bool.not_eq_true', decide_eq_false_iff_not, decide_eq_true_eq, Bool.not_eq_false']; (first | done | omega))))))
    (first | (refine apost_ret rfl (resl_tmp rfl resl_nil) ?_))
    exact AV.Le.refl _
  · have C1 := cn n
    rw [room9_min] at C1
    have hr1 : (0 : Int) ≤ (if 1024 < if 1 > n then 1 else n then 1024 else if 1 > n then 1 else n) := by (repeat split) <;> omega
    refine pcall_body (f := 6) Try.func6 rfl rfl rfl rfl ?_
    refine awp_rows ?_
    (repeat (first | ((with_reducible apply rwp_seq)) | ((with_reducible apply rthen_normal)) | ((with_reducible apply rwp_region)) | ((with_reducible apply hs_nil)) | ((with_reducible apply rwp_skip)) | ((with_reducible apply rwp_cond_0); exact rfl; (first | assumption | exact decide_eq_false (by omega) | (simp only [Bool.not_eq_true', decide_eq_false_iff_not, decide_eq_true_eq, Bool.not_eq_false']; (first | done | omega)) | exact rfl)) | ((with_reducible apply hs_c); exact rfl; (repeat (first | ((with_reducible apply al_q); exact rfl) | ((with_reducible apply al_len); (iterate 3 exact rfl)))); (with_reducible apply al_nil))))
    refine hs_tn 0 rfl rfl rfl rfl C1 rfl rfl (fun p S hpost => ?_)
    obtain ⟨b, rfl, hS⟩ := hpost
    (repeat (first | ((with_reducible apply rwp_seq)) | ((with_reducible apply rthen_normal)) | ((with_reducible apply rwp_region)) | ((with_reducible apply hs_nil)) | ((with_reducible apply rwp_skip)) | ((with_reducible apply rwp_block)) | ((with_reducible apply rwp_cond_0); exact rfl; (first | assumption | exact decide_eq_false (by omega) | (simp only [Bool.not_eq_true', decide_eq_false_iff_not, decide_eq_true_eq, Bool.not_eq_false']; (first | done | omega)) | exact rfl)) | ((with_reducible apply hs_c); exact rfl; (repeat (first | ((with_reducible apply al_q); exact rfl) | ((with_reducible apply al_min); (iterate 4 exact rfl)) | ((with_reducible apply al_max); (iterate 4 exact rfl)) | ((with_reducible apply al_len); (iterate 3 exact rfl)) | ((with_reducible apply al_eqptr); exact rfl; exact rfl; kernel_rfl; exact rfl))); (with_reducible apply al_nil))))
    refine rwp_loopL 85 (R9I SI ((if 1024 < if 1 > n then 1 else n then 1024 else if 1 > n then 1 else n)) l) l.length (row1 0 (ob (ptrV b) S)) _ [] ⟨0, b, S, 0, [], Nat.zero_le _, rfl, rfl, Nat.le_refl _, hr1, hS, rfl, rfl, rfl⟩ (row1_le _ _ _) rfl ⟨rfl, rfl, rfl, rfl, rfl, trivial⟩ trivial rfl ?_
    clear hS b S C1 hr1
    generalize (if 1024 < if 1 > n then 1 else n then 1024 else if 1 > n then 1 else n) = r
    have hrr : decide (r = r) = true := by simp
    rintro m R ts ms ⟨k, b, S, ki, L, hk, rfl, hki, hL, hLr, hS, rfl, rfl, rfl⟩ hok
    clear hok
    by_cases hq : k < l.length
    · have q2 : ki < (l.length : Int) := by omega
      have q3 : 0 ≤ ki := by omega
      obtain ⟨x, y, g1⟩ : ∃ x y, l[k]? = some (x, y) := ⟨_, _, List.getElem?_eq_getElem hq⟩
      have E1 := itC_xy hki g1
      have hml := addL_len r L x y
      have D1 := cu r L b S x y hS (by omega)
      have cs : (0 ≤ numI L x y ∧ addL r L x y = L ∧ addB r L x y = false ∧ addE r L x y = 0) ∨ (¬ 0 ≤ numI L x y ∧ (L.length : Int) = r ∧ addL r L x y = L ∧ addB r L x y = false ∧ addE r L x y = 90) ∨ (¬ 0 ≤ numI L x y ∧ ¬ (L.length : Int) = r ∧ (L.length : Int) + 1 ≤ r ∧ (addL r L x y).length = L.length + 1 ∧ addB r L x y = true ∧ addE r L x y = 0) := by
        unfold addL addB addE
        by_cases h : 0 ≤ numI L x y
        · simp [h]
        · by_cases h2 : r ≤ (L.length : Int)
          · simp [h, h2]; omega
          · simp [h, h2]; omega
      clear g1
      generalize numI L x y = a at *
      rcases cs with ⟨h1, h2, h3, h4⟩ | ⟨h1, h0, h2, h3, h4⟩ | ⟨h1, h0, h00, h2, h3, h4⟩
      · rw [decide_eq_true h1] at D1
        (repeat (first | ((with_reducible apply rwp_seq)) | ((with_reducible apply rthen_normal)) | ((with_reducible apply rwp_region)) | ((with_reducible apply hs_nil)) | ((with_reducible apply rwp_skip)) | ((with_reducible apply rwp_block)) | ((with_reducible apply rwp_cond_1); exact rfl; (first | assumption | exact decide_eq_true (by omega) | (simp only [Bool.not_eq_true', decide_eq_false_iff_not, decide_eq_true_eq, Bool.not_eq_false']; (first | done | omega)) | exact rfl)) | ((with_reducible apply hs_c); exact rfl; (repeat (first | ((with_reducible apply al_q); exact rfl) | ((with_reducible apply al_loadPN); (iterate 5 exact rfl)) | ((with_reducible apply al_idxS); (iterate 3 exact rfl); (first | decide | omega); (first | decide | omega); (first | assumption | rfl); exact rfl))); (with_reducible apply al_nil))))
        refine hs_t1 0 rfl rfl rfl rfl D1 rfl rfl rfl (fun v S1 hpost => ?_)
        obtain ⟨j, rfl, hj, hS1⟩ := hpost
        have D2 := cl r L b S1 hS1 (by omega)
        (repeat (first | ((with_reducible apply rwp_seq)) | ((with_reducible apply rthen_normal)) | ((with_reducible apply rwp_region)) | ((with_reducible apply hs_nil)) | ((with_reducible apply hs_c); exact rfl; (repeat (first | ((with_reducible apply al_q); exact rfl) | ((with_reducible apply al_nilckX); (iterate 3 exact rfl)) | ((with_reducible apply al_fldX); (iterate 3 exact rfl)))); (with_reducible apply al_nil))))
        refine hs_t1 0 rfl rfl rfl rfl D2 rfl rfl rfl (fun v S2 hpost => ?_)
        obtain ⟨rfl, hS2⟩ := hpost
        have C3 := ca r L b S2 x y hS2 (by omega)
        rw [h2, h3, h4] at C3
        (repeat (first | ((with_reducible apply rwp_seq)) | ((with_reducible apply rthen_normal)) | ((with_reducible apply rwp_region)) | ((with_reducible apply hs_nil)) | ((with_reducible apply hs_c); exact rfl; (repeat (first | ((with_reducible apply al_q); exact rfl))); (with_reducible apply al_nil))))
        refine hs_t1 0 rfl rfl rfl rfl C3 rfl rfl rfl (fun v S3 hpost => ?_)
        obtain ⟨rfl, hS3⟩ := hpost
        have D3 := cl r L b S3 hS3 (by omega)
        (repeat (first | ((with_reducible apply rwp_seq)) | ((with_reducible apply rthen_normal)) | ((with_reducible apply rwp_region)) | ((with_reducible apply hs_nil)) | ((with_reducible apply hs_c); exact rfl; (repeat (first | ((with_reducible apply al_q); exact rfl) | ((with_reducible apply al_nilckX); (iterate 3 exact rfl)) | ((with_reducible apply al_fldX); (iterate 3 exact rfl)) | ((with_reducible apply al_bin); (iterate 5 exact rfl); (intro W; go_simp; try rfl); (intro W; go_simp; try rfl); exact rfl; exact rfl))); (with_reducible apply al_nil))))
        refine hs_t1 0 rfl rfl rfl rfl D3 rfl rfl rfl (fun v S4 hpost => ?_)
        obtain ⟨rfl, hS4⟩ := hpost
        (repeat (first | ((with_reducible apply rthen_normal)) | ((with_reducible apply rwp_region)) | ((with_reducible apply hs_nil)) | ((with_reducible apply rwp_skip)) | ((with_reducible apply rblock_normal)) | ((with_reducible apply rwp_cond_0); exact rfl; (first | assumption | exact decide_eq_false (by omega) | (simp only [Bool.not_eq_true', decide_eq_false_iff_not, decide_eq_true_eq, Bool.not_eq_false']; (first | done | omega)) | exact rfl)) | ((with_reducible apply hs_c); exact rfl; (repeat (first | ((with_reducible apply al_q); exact rfl) | ((with_reducible apply al_add); (iterate 3 exact rfl); (first | exact i64_wrap (by omega) | assumption | rfl); exact rfl))); (with_reducible apply al_nil))))
        exact ⟨l.length - (k + 1), row1 0 (ob (ptrV b) S4), _, [], by omega, ⟨k + 1, b, S4, ki + 1, L, by omega, rfl, by omega, by omega, by omega, hS4, rfl, rfl, rfl⟩, fun i q h => (by obtain ⟨rfl, rfl⟩ := row1_iff h; rfl), rfl, ⟨rfl, rfl, rfl, rfl, rfl, trivial⟩, trivial, rfl⟩
      · rw [decide_eq_false h1] at D1
        subst h0
        (repeat (first | ((with_reducible apply rwp_seq)) | ((with_reducible apply rthen_normal)) | ((with_reducible apply rwp_region)) | ((with_reducible apply hs_nil)) | ((with_reducible apply rwp_skip)) | ((with_reducible apply rwp_block)) | ((with_reducible apply rwp_cond_1); exact rfl; (first | assumption | exact decide_eq_true (by omega) | (simp only [Bool.not_eq_true', decide_eq_false_iff_not, decide_eq_true_eq, Bool.not_eq_false']; (first | done | omega)) | exact rfl)) | ((with_reducible apply hs_c); exact rfl; (repeat (first | ((with_reducible apply al_q); exact rfl) | ((with_reducible apply al_loadPN); (iterate 5 exact rfl)) | ((with_reducible apply al_idxS); (iterate 3 exact rfl); (first | decide | omega); (first | decide | omega); (first | assumption | rfl); exact rfl))); (with_reducible apply al_nil))))
        refine hs_t1 0 rfl rfl rfl rfl D1 rfl rfl rfl (fun v S1 hpost => ?_)
        obtain ⟨j, rfl, hj, hS1⟩ := hpost
        have D2 := cl _ L b S1 hS1 (by omega)
        (repeat (first | ((with_reducible apply rwp_seq)) | ((with_reducible apply rthen_normal)) | ((with_reducible apply rwp_region)) | ((with_reducible apply hs_nil)) | ((with_reducible apply hs_c); exact rfl; (repeat (first | ((with_reducible apply al_q); exact rfl) | ((with_reducible apply al_nilckX); (iterate 3 exact rfl)) | ((with_reducible apply al_fldX); (iterate 3 exact rfl)))); (with_reducible apply al_nil))))
        refine hs_t1 0 rfl rfl rfl rfl D2 rfl rfl rfl (fun v S2 hpost => ?_)
        obtain ⟨rfl, hS2⟩ := hpost
        have C3 := ca _ L b S2 x y hS2 (by omega)
        rw [h2, h3, h4] at C3
        (repeat (first | ((with_reducible apply rwp_seq)) | ((with_reducible apply rthen_normal)) | ((with_reducible apply rwp_region)) | ((with_reducible apply hs_nil)) | ((with_reducible apply hs_c); exact rfl; (repeat (first | ((with_reducible apply al_q); exact rfl))); (with_reducible apply al_nil))))
        refine hs_t1 0 rfl rfl rfl rfl C3 rfl rfl rfl (fun v S3 hpost => ?_)
        obtain ⟨rfl, hS3⟩ := hpost
        have D3 := cl _ L b S3 hS3 (by omega)
        (repeat (first | ((with_reducible apply rwp_seq)) | ((with_reducible apply rthen_normal)) | ((with_reducible apply rwp_region)) | ((with_reducible apply hs_nil)) | ((with_reducible apply hs_c); exact rfl; (repeat (first | ((with_reducible apply al_q); exact rfl) | ((with_reducible apply al_nilckX); (iterate 3 exact rfl)) | ((with_reducible apply al_fldX); (iterate 3 exact rfl)) | ((with_reducible apply al_bin); (iterate 5 exact rfl); (intro W; go_simp; try rfl); (intro W; go_simp; try rfl); exact rfl; exact rfl))); (with_reducible apply al_nil))))
        refine hs_t1 0 rfl rfl rfl rfl D3 rfl rfl rfl (fun v S4 hpost => ?_)
        obtain ⟨rfl, hS4⟩ := hpost
        (repeat (first | ((with_reducible apply rthen_normal)) | ((with_reducible apply rwp_region)) | ((with_reducible apply hs_nil)) | ((with_reducible apply rwp_skip)) | ((with_reducible apply rblock_normal)) | ((with_reducible apply rwp_cond_0); exact rfl; (first | assumption | exact decide_eq_false (by omega) | (simp only [Bool.not_eq_true', decide_eq_false_iff_not, decide_eq_true_eq, Bool.not_eq_false']; (first | done | omega)) | exact rfl)) | ((with_reducible apply hs_c); exact rfl; (repeat (first | ((with_reducible apply al_q); exact rfl) | ((with_reducible apply al_add); (iterate 3 exact rfl); (first | exact i64_wrap (by omega) | assumption | rfl); exact rfl))); (with_reducible apply al_nil))))
        exact ⟨l.length - (k + 1), row1 0 (ob (ptrV b) S4), _, [], by omega, ⟨k + 1, b, S4, ki + 1, L, by omega, rfl, by omega, by omega, by omega, hS4, rfl, rfl, rfl⟩, fun i q h => (by obtain ⟨rfl, rfl⟩ := row1_iff h; rfl), rfl, ⟨rfl, rfl, rfl, rfl, rfl, trivial⟩, trivial, rfl⟩
      · rw [decide_eq_false h1] at D1
        (repeat (first | ((with_reducible apply rwp_seq)) | ((with_reducible apply rthen_normal)) | ((with_reducible apply rwp_region)) | ((with_reducible apply hs_nil)) | ((with_reducible apply rwp_skip)) | ((with_reducible apply rwp_block)) | ((with_reducible apply rwp_cond_1); exact rfl; (first | assumption | exact decide_eq_true (by omega) | (simp only [Bool.not_eq_true', decide_eq_false_iff_not, decide_eq_true_eq, Bool.not_eq_false']; (first | done | omega)) | exact rfl)) | ((with_reducible apply hs_c); exact rfl; (repeat (first | ((with_reducible apply al_q); exact rfl) | ((with_reducible apply al_loadPN); (iterate 5 exact rfl)) | ((with_reducible apply al_idxS); (iterate 3 exact rfl); (first | decide | omega); (first | decide | omega); (first | assumption | rfl); exact rfl))); (with_reducible apply al_nil))))
        refine hs_t1 0 rfl rfl rfl rfl D1 rfl rfl rfl (fun v S1 hpost => ?_)
        obtain ⟨j, rfl, hj, hS1⟩ := hpost
        have D2 := cl r L b S1 hS1 (by omega)
        (repeat (first | ((with_reducible apply rwp_seq)) | ((with_reducible apply rthen_normal)) | ((with_reducible apply rwp_region)) | ((with_reducible apply hs_nil)) | ((with_reducible apply hs_c); exact rfl; (repeat (first | ((with_reducible apply al_q); exact rfl) | ((with_reducible apply al_nilckX); (iterate 3 exact rfl)) | ((with_reducible apply al_fldX); (iterate 3 exact rfl)))); (with_reducible apply al_nil))))
        refine hs_t1 0 rfl rfl rfl rfl D2 rfl rfl rfl (fun v S2 hpost => ?_)
        obtain ⟨rfl, hS2⟩ := hpost
        have C3 := ca r L b S2 x y hS2 (by omega)
        rw [h3, h4] at C3
        (repeat (first | ((with_reducible apply rwp_seq)) | ((with_reducible apply rthen_normal)) | ((with_reducible apply rwp_region)) | ((with_reducible apply hs_nil)) | ((with_reducible apply hs_c); exact rfl; (repeat (first | ((with_reducible apply al_q); exact rfl))); (with_reducible apply al_nil))))
        refine hs_t1 0 rfl rfl rfl rfl C3 rfl rfl rfl (fun v S3 hpost => ?_)
        obtain ⟨rfl, hS3⟩ := hpost
        generalize addL r L x y = L' at *
        have D3 := cl r L' b S3 hS3 (by omega)
        (repeat (first | ((with_reducible apply rwp_seq)) | ((with_reducible apply rthen_normal)) | ((with_reducible apply rwp_region)) | ((with_reducible apply hs_nil)) | ((with_reducible apply hs_c); exact rfl; (repeat (first | ((with_reducible apply al_q); exact rfl) | ((with_reducible apply al_nilckX); (iterate 3 exact rfl)) | ((with_reducible apply al_fldX); (iterate 3 exact rfl)) | ((with_reducible apply al_bin); (iterate 5 exact rfl); (intro W; go_simp; try rfl); (intro W; go_simp; try rfl); exact rfl; exact rfl))); (with_reducible apply al_nil))))
        refine hs_t1 0 rfl rfl rfl rfl D3 rfl rfl rfl (fun v S4 hpost => ?_)
        obtain ⟨rfl, hS4⟩ := hpost
        (repeat (first | ((with_reducible apply rthen_normal)) | ((with_reducible apply rwp_region)) | ((with_reducible apply hs_nil)) | ((with_reducible apply rwp_skip)) | ((with_reducible apply rblock_normal)) | ((with_reducible apply rwp_cond_0); exact rfl; (first | assumption | exact decide_eq_false (by omega) | (simp only [Bool.not_eq_true', decide_eq_false_iff_not, decide_eq_true_eq, Bool.not_eq_false']; (first | done | omega)) | exact rfl)) | ((with_reducible apply hs_c); exact rfl; (repeat (first | ((with_reducible apply al_q); exact rfl) | ((with_reducible apply al_add); (iterate 3 exact rfl); (first | exact i64_wrap (by omega) | assumption | rfl); exact rfl))); (with_reducible apply al_nil))))
        exact ⟨l.length - (k + 1), row1 0 (ob (ptrV b) S4), _, [], by omega, ⟨k + 1, b, S4, ki + 1, L', by omega, rfl, by omega, by omega, by omega, hS4, rfl, rfl, rfl⟩, fun i q h => (by obtain ⟨rfl, rfl⟩ := row1_iff h; rfl), rfl, ⟨rfl, rfl, rfl, rfl, rfl, trivial⟩, trivial, rfl⟩
    · have q2 : ¬ ki < (l.length : Int) := by omega
      have D4 := cr r L b S hS (by omega)
      (repeat (first | ((with_reducible apply rwp_seq)) | ((with_reducible apply rthen_normal)) | ((with_reducible apply rwp_region)) | ((with_reducible apply hs_nil)) | ((with_reducible apply rblock_same)) | ((with_reducible apply rwp_exit)) | ((with_reducible apply rthen_exit)) | ((with_reducible apply rwp_cond_0); exact rfl; (first | assumption | exact decide_eq_false (by omega) | (simp only [Bool.not_eq_true', decide_eq_false_iff_not, decide_eq_true_eq, Bool.not_eq_false']; (first | done | omega)) | exact rfl)) | ((with_reducible apply hs_c); exact rfl; (repeat (first | ((with_reducible apply al_q); exact rfl) | (refine al_call0 rfl rfl (by (first | exact hal)) rfl ?_))); (with_reducible apply al_nil))))
      refine hs_t1 0 rfl rfl rfl rfl D4 rfl rfl rfl (fun v S4 hpost => ?_)
      obtain ⟨rfl, hS4⟩ := hpost
      (repeat (first | ((with_reducible apply rthen_normal)) | ((with_reducible apply hs_nil)) | ((with_reducible apply rwp_ret)) | ((with_reducible apply hs_c); exact rfl; (repeat (first | ((with_reducible apply al_q); exact rfl))); (with_reducible apply al_nil))))
      (first | (refine apost_ret rfl (resl_tmp rfl resl_nil) ?_))
      exact AV.Le.of_eq (by rw [hrr]; rfl)
end Go.Proofs.Ytaennpehlhgggaa

namespace Go.Proofs.Ytaennpehlhgggaa
open Go.RowKit
set_option linter.unusedVariables false
set_option linter.unusedSimpArgs false
set_option maxRecDepth 100000 in
set_option maxHeartbeats 16000000 in
theorem p_alive9 {SI : SIT} (cn : CNew9 SI) (ca : CAdd9 SI) (cu : CNum9 SI) (cA : CAll9 SI) (cc : CCopy9 SI) (cl : CLen9 SI) (cr : CRoom9 SI) (cm : CMet9 SI) (ce : CNear9 SI) : PCall Try.prog 9 [] (vB true) := by
  have C0 := cn 3
  rw [show room9 3 = 3 by decide] at C0
  have C1 := fun b S hS => ca 3 [] b S 0 0 hS (by decide)
  rw [show addL 3 [] 0 0 = [(0, 0)] by decide, show addB 3 [] 0 0 = true by decide, show addE 3 [] 0 0 = 0 by decide] at C1
  have C2 := fun b S hS => ca 3 [(0, 0)] b S 2 0 hS (by decide)
  rw [show addL 3 [(0, 0)] 2 0 = [(0, 0), (2, 0)] by decide] at C2
  have C3 := fun b S hS => ca 3 [(0, 0), (2, 0)] b S 2 0 hS (by decide)
  rw [show addL 3 [(0, 0), (2, 0)] 2 0 = [(0, 0), (2, 0)] by decide, show addB 3 [(0, 0), (2, 0)] 2 0 = false by decide, show addE 3 [(0, 0), (2, 0)] 2 0 = 0 by decide] at C3
  have C4 := fun b S hS => ca 3 [(0, 0), (2, 0)] b S 5 5 hS (by decide)
  rw [show addL 3 [(0, 0), (2, 0)] 5 5 = [(0, 0), (2, 0), (5, 5)] by decide] at C4
  have C5 := fun b S hS => ca 3 [(0, 0), (2, 0), (5, 5)] b S 9 0 hS (by decide)
  rw [show addL 3 [(0, 0), (2, 0), (5, 5)] 9 0 = [(0, 0), (2, 0), (5, 5)] by decide, show addB 3 [(0, 0), (2, 0), (5, 5)] 9 0 = false by decide, show addE 3 [(0, 0), (2, 0), (5, 5)] 9 0 = 90 by decide] at C5
  have hin : ∀ p ∈ ([(0, 0), (2, 0), (5, 5)] : List Px), InI p := by unfold InI; decide
  have C6 := fun b S hS => cm 3 [(0, 0), (2, 0), (5, 5)] b S 4 0 0 0 0 hS (by decide) (by decide) hin (by unfold InI; decide) (by decide) (by decide)
  rw [show sortI (decide ((0 : Int) < 4)) (decide ((0 : Int) < 0)) (metF 4 0 0 0 0) [(0, 0), (2, 0), (5, 5)] = [(2, 0), (0, 0)] by decide] at C6
  have C7 := fun b S hS => ce 3 [(0, 0), (2, 0), (5, 5)] b S 0 0 9 9 0 0 hS (by decide) (by decide) hin (by unfold IsR; decide) (by decide) (by decide)
  rw [show sortI (decide ((9 : Int) < 0)) (decide ((9 : Int) < 0)) (nearF 0 0 9 9 0) [(0, 0), (2, 0), (5, 5)] = [(0, 0), (2, 0), (5, 5)] by decide] at C7
  have C8 := fun b S hS => cu 3 [(0, 0), (2, 0), (5, 5)] b S 5 5 hS (by decide)
  rw [show numI [(0, 0), (2, 0), (5, 5)] 5 5 = 2 by decide] at C8
  have C9 := fun b S hS => cc 3 [(0, 0), (2, 0), (5, 5)] b S hS (by decide)
  have CL := fun b S hS => cl 3 [(0, 0), (2, 0), (5, 5)] b S hS (by decide)
  have CR := fun b S hS => cr 3 [(0, 0), (2, 0), (5, 5)] b S hS (by decide)
  have CA := fun b S hS => cA 3 [(0, 0), (2, 0), (5, 5)] b S hS (by decide)
  clear cn ca cu cA cc cl cr cm ce hin
  refine pcall_body (f := 9) Try.func9 rfl rfl rfl rfl ?_
  refine awp_rows ?_
  (repeat (first | ((with_reducible apply rwp_seq)) | ((with_reducible apply rthen_normal)) | ((with_reducible apply rwp_region)) | ((with_reducible apply hs_nil)) | ((with_reducible apply hs_c); exact rfl; (repeat (first | ((with_reducible apply al_q); exact rfl))); (with_reducible apply al_nil))))
  refine hs_tn 0 rfl rfl rfl rfl C0 rfl rfl (fun p S hpost => ?_)
  obtain ⟨b, rfl, hS⟩ := hpost
  (repeat (first | ((with_reducible apply rwp_seq)) | ((with_reducible apply rthen_normal)) | ((with_reducible apply rwp_region)) | ((with_reducible apply hs_nil)) | ((with_reducible apply rwp_skip)) | ((with_reducible apply rwp_cond_0); exact rfl; (first | assumption | exact decide_eq_false (by omega) | (simp only [Bool.not_eq_true', decide_eq_false_iff_not, decide_eq_true_eq, Bool.not_eq_false']; (first | done | omega)) | exact rfl)) | ((with_reducible apply hs_c); exact rfl; (repeat (first | ((with_reducible apply al_q); exact rfl) | ((with_reducible apply al_eqptr); exact rfl; exact rfl; kernel_rfl; exact rfl))); (with_reducible apply al_nil))))
  refine hs_t1 0 rfl rfl rfl rfl (C1 b S hS) rfl rfl rfl (fun v S1 hpost => ?_)
  obtain ⟨rfl, hS1⟩ := hpost
  (repeat (first | ((with_reducible apply rwp_seq)) | ((with_reducible apply rthen_normal)) | ((with_reducible apply rwp_region)) | ((with_reducible apply hs_nil)) | ((with_reducible apply hs_c); exact rfl; (repeat (first | ((with_reducible apply al_q); exact rfl))); (with_reducible apply al_nil))))
  refine hs_t1 0 rfl rfl rfl rfl (C2 b S1 hS1) rfl rfl rfl (fun v S2 hpost => ?_)
  obtain ⟨rfl, hS2⟩ := hpost
  (repeat (first | ((with_reducible apply rwp_seq)) | ((with_reducible apply rthen_normal)) | ((with_reducible apply rwp_region)) | ((with_reducible apply hs_nil)) | ((with_reducible apply hs_c); exact rfl; (repeat (first | ((with_reducible apply al_q); exact rfl))); (with_reducible apply al_nil))))
  refine hs_t1 0 rfl rfl rfl rfl (C3 b S2 hS2) rfl rfl rfl (fun v S3 hpost => ?_)
  obtain ⟨rfl, hS3⟩ := hpost
  (repeat (first | ((with_reducible apply rwp_seq)) | ((with_reducible apply rthen_normal)) | ((with_reducible apply rwp_region)) | ((with_reducible apply hs_nil)) | ((with_reducible apply hs_c); exact rfl; (repeat (first | ((with_reducible apply al_q); exact rfl))); (with_reducible apply al_nil))))
  refine hs_t1 0 rfl rfl rfl rfl (C4 b S3 hS3) rfl rfl rfl (fun v S4 hpost => ?_)
  obtain ⟨rfl, hS4⟩ := hpost
  (repeat (first | ((with_reducible apply rwp_seq)) | ((with_reducible apply rthen_normal)) | ((with_reducible apply rwp_region)) | ((with_reducible apply hs_nil)) | ((with_reducible apply hs_c); exact rfl; (repeat (first | ((with_reducible apply al_q); exact rfl))); (with_reducible apply al_nil))))
  refine hs_t1 0 rfl rfl rfl rfl (C5 b S4 hS4) rfl rfl rfl (fun v S5 hpost => ?_)
  obtain ⟨rfl, hS5⟩ := hpost
  (repeat (first | ((with_reducible apply rwp_seq)) | ((with_reducible apply rthen_normal)) | ((with_reducible apply rwp_region)) | ((with_reducible apply hs_nil)) | ((with_reducible apply hs_c); exact rfl; (repeat (first | ((with_reducible apply al_q); exact rfl))); (with_reducible apply al_nil))))
  refine hs_t2c 0 2 (by decide) rfl rfl rfl rfl (C6 b S5 hS5) rfl rfl rfl (fun v S6 q hpost => ?_)
  obtain ⟨w1, rfl, rfl, hS6⟩ := hpost
  refine ⟨rfl, ?_⟩
  change hList _ _ _ _ _ _ (AS.put _ _ (vIt [(2, 0), (0, 0)]))
  (repeat (first | ((with_reducible apply rwp_seq)) | ((with_reducible apply rthen_normal)) | ((with_reducible apply rwp_region)) | ((with_reducible apply hs_nil)) | ((with_reducible apply hs_c); exact rfl; (repeat (first | ((with_reducible apply al_q); exact rfl))); (with_reducible apply al_nil))))
  refine hs_t1 0 rfl rfl rfl rfl (C7 b S6 hS6) rfl rfl rfl (fun v S7 hpost => ?_)
  obtain ⟨rfl, hS7⟩ := hpost
  (repeat (first | ((with_reducible apply rwp_seq)) | ((with_reducible apply rthen_normal)) | ((with_reducible apply rwp_region)) | ((with_reducible apply hs_nil)) | ((with_reducible apply hs_c); exact rfl; (repeat (first | ((with_reducible apply al_q); exact rfl))); (with_reducible apply al_nil))))
  refine hs_t1 0 rfl rfl rfl rfl (C8 b S7 hS7) rfl rfl rfl (fun v S8 hpost => ?_)
  obtain ⟨j, rfl, hj, hS8⟩ := hpost
  have hj := hj (by decide)
  subst hj
  (repeat (first | ((with_reducible apply rwp_seq)) | ((with_reducible apply rthen_normal)) | ((with_reducible apply rwp_region)) | ((with_reducible apply hs_nil)) | ((with_reducible apply hs_c); exact rfl; (repeat (first | ((with_reducible apply al_q); exact rfl))); (with_reducible apply al_nil))))
  refine hs_t3 0 1 (by decide) rfl rfl rfl rfl (C9 b S8 hS8) rfl rfl rfl (fun S9 p2 T hpost => ?_)
  obtain ⟨b2, rfl, hS9, hT⟩ := hpost
  (repeat (first | ((with_reducible apply rwp_seq)) | ((with_reducible apply rthen_normal)) | ((with_reducible apply rwp_region)) | ((with_reducible apply hs_nil)) | ((with_reducible apply hs_c); exact rfl; (repeat (first | ((with_reducible apply al_q); exact rfl) | ((with_reducible apply al_loadPN); (iterate 5 exact rfl)) | ((with_reducible apply al_idxS); (iterate 3 exact rfl); (first | decide | omega); (first | decide | omega); (first | assumption | rfl); exact rfl) | ((with_reducible apply al_eqP); (iterate 4 exact rfl)) | ((with_reducible apply al_len); (iterate 3 exact rfl)) | ((with_reducible apply al_nilckX); (iterate 3 exact rfl)) | ((with_reducible apply al_fldX); (iterate 3 exact rfl)) | ((with_reducible apply al_guard_b (c := true)); exact rfl; exact rfl; (first | assumption | exact decide_eq_true (by omega) | (simp only [Bool.not_eq_true', decide_eq_false_iff_not, decide_eq_true_eq, Bool.not_eq_false']; (first | done | omega)))))); (with_reducible apply al_nil))))
  refine hs_t1 0 rfl rfl rfl rfl (CL b S9 hS9) rfl rfl rfl (fun v S10 hpost => ?_)
  obtain ⟨rfl, hS10⟩ := hpost
  (repeat (first | ((with_reducible apply hs_c); exact rfl; (repeat (first | ((with_reducible apply al_q); exact rfl))); (with_reducible apply al_nil))))
  refine hs_t1 0 rfl rfl rfl rfl (CR b S10 hS10) rfl rfl rfl (fun v S11 hpost => ?_)
  obtain ⟨rfl, hS11⟩ := hpost
  (repeat (first | ((with_reducible apply hs_c); exact rfl; (repeat (first | ((with_reducible apply al_q); exact rfl) | ((with_reducible apply al_neptr); exact rfl; exact rfl; kernel_rfl; exact rfl))); (with_reducible apply al_nil))))
  refine hs_t2c 1 2 (by decide) rfl rfl rfl rfl (CA b2 T hT) rfl rfl rfl (fun v S12 q hpost => ?_)
  obtain ⟨w3, rfl, rfl, hS12⟩ := hpost
  refine ⟨rfl, ?_⟩
  change hList _ _ _ _ _ _ (AS.put _ _ (vIt [(0, 0), (2, 0), (5, 5)]))
  (repeat (first | ((with_reducible apply rthen_normal)) | ((with_reducible apply hs_nil)) | ((with_reducible apply rwp_ret)) | ((with_reducible apply hs_c); exact rfl; (repeat (first | ((with_reducible apply al_q); exact rfl) | ((with_reducible apply al_len); (iterate 3 exact rfl)))); (with_reducible apply al_nil))))
  (first | (refine apost_ret rfl (resl_tmp rfl resl_nil) ?_))
  exact AV.Le.refl _
end Go.Proofs.Ytaennpehlhgggaa

namespace Go.Proofs.Ytaennpehlhgggaa
open Go.ChangeShapes Go.WideShapes Go.ChangeAt Go.RowKit Go.Joins
set_option linter.unusedVariables false
set_option linter.unusedSimpArgs false
theorem laidOut : laidOutB Try.prog = true := by kernel_rfl
theorem cell_lt {W : World} {b : Addr} {v : Value} (h : W.cell? b = some v) : b.block < W.heap.size := by
  unfold World.cell? at h
  split at h
  · rename_i hh; exact (Array.getElem?_eq_some_iff.1 hh).1
  · cases h
theorem wf_i64 {n : Int} (h : (Lit.int .i64 n).wf = true) : -9223372036854775808 ≤ n ∧ n ≤ 9223372036854775807 := by
  simpa [Lit.wf, IntKind.min, IntKind.max, IntKind.signed, IntKind.bits] using h
/-- a row of things of two numbers as an argument: what it reads as. -/
theorem open_pxs {H : Type} {enc : TypeId × Value → H} {P : Program} {W : World} {t e : TypeId} {f0 f1 : Field} (ht : P.underlying t = some (.slice e)) (he : P.underlying e = some (.struct #[f0, f1])) (ce : P.cellsOf e = 2) (o0 : f0.offset = 0) (o1 : f1.offset = 1) (c0 : P.cellsOf f0.type = 1) (c1 : P.cellsOf f1.type = 1) (k0 : P.underlying f0.type = some (.int .i64)) (k1 : P.underlying f1.type = some (.int .i64))
    {v : Value} {d : DataW H} {p : List MemPlace} (hv : ∃ a len cap, v = .slice a len cap) (h0 : DataW.Trod enc P W 0 (fun _ => true) true t v d p) :
    ∃ l : List (Int × Int), (l.length : Int) ≤ 9223372036854775807 ∧ (∀ p ∈ l, InI p) ∧ RpV (fun _ => True) id W (vIt l) v := by
  obtain ⟨a0, len0, cap0, rfl⟩ := hv
  obtain ⟨fuel, hf⟩ := h0
  rcases Go.Deep.open_slice_pairs ht he ce o0 o1 c0 c1 hf with ⟨hcs, hx⟩ | ⟨a, len, cap, m, n, V0, V1, D0, D1, P0, P1, hcs, hb, hl, hm, hmm, hx, hi⟩
  · simp [Value.cells] at hcs
    obtain ⟨rfl, rfl, rfl⟩ := hcs
    exact ⟨[], by decide, fun p hp => (by cases hp), ⟨none, 0, rfl, Nat.le_refl _, rfl, fun h => absurd h (Nat.lt_irrefl _)⟩, fun _ _ => trivial⟩
  · simp [Value.cells] at hcs
    obtain ⟨rfl, rfl, rfl⟩ := hcs
    simp only [if_true] at hmm
    subst hmm
    simp only [Prod.mk.injEq] at hx
    obtain ⟨_, rfl⟩ := hx
    have each : ∀ i, i < m → ∃ q : Int × Int, V0 i = .int .i64 q.1 ∧ V1 i = .int .i64 q.2 ∧ InI q := fun i h => by
      obtain ⟨_, _, g0, g1⟩ := hi i h
      obtain ⟨x, hx, _, wx⟩ := DataW.trod_int k0 g0
      obtain ⟨y, hy, _, wy⟩ := DataW.trod_int k1 g1
      simp at hx hy
      exact ⟨(x, y), hx, hy, wf_i64 wx, wf_i64 wy⟩
    obtain ⟨q, hq⟩ := Go.Deep.choose_lt each
    have hcells : ∀ (l : List (Int × Int)) (k : Nat), (∀ i (p : Int × Int), l[i]? = some p → W.cell? (a.add ((k + i) * 2)) = some (.int .i64 p.1) ∧ W.cell? (a.add ((k + i) * 2 + 1)) = some (.int .i64 p.2)) →
        ∃ vs : List Value, RpL (fun _ => True) id W (itC l) vs ∧ ∀ (j : Nat) v, vs[j]? = some v → W.cell? (a.add (k * 2 + j)) = some v := by
      intro l
      induction l with
      | nil => intro k _; exact ⟨[], ⟨rfl, fun i x v h => by simp [itC] at h⟩, fun j v h => by simp at h⟩
      | cons p l ih =>
        intro k h
        obtain ⟨vs, g1, g2⟩ := ih (k + 1) (fun i p' hp' => by
          have := h (i + 1) p' (by simpa using hp')
          rw [show k + (i + 1) = k + 1 + i by omega] at this
          exact this)
        obtain ⟨h1, h2⟩ := h 0 p rfl
        refine ⟨.int .i64 p.1 :: .int .i64 p.2 :: vs, ⟨by simp [itC, g1.1], fun i x v hx hv => ?_⟩, fun j v hv => ?_⟩
        · match i with
          | 0 => simp [itC] at hx hv; subst hx; subst hv; exact ⟨rfl, rfl⟩
          | 1 => simp [itC] at hx hv; subst hx; subst hv; exact ⟨rfl, rfl⟩
          | i + 2 => exact g1.2 i x v (by simpa [itC] using hx) (by simpa using hv)
        · match j with
          | 0 => simp at hv; subst hv; simpa using h1
          | 1 => simp at hv; subst hv; simpa using h2
          | j + 2 =>
            have := g2 j v (by simpa using hv)
            rw [show (k + 1) * 2 + j = k * 2 + (j + 2) by omega] at this
            exact this
    obtain ⟨vs, g1, g2⟩ := hcells ((List.range len0).map q) 0 (fun i p hp => by
      rw [List.getElem?_map] at hp
      cases hr : (List.range len0)[i]? with
      | none => rw [hr] at hp; cases hp
      | some j =>
        rw [hr] at hp
        cases hp
        obtain ⟨h3, h4⟩ := List.getElem?_eq_some_iff.1 hr
        simp at h3 h4
        subst h4
        obtain ⟨e0, e1, _⟩ := hi i (by omega)
        obtain ⟨f0, f1, _⟩ := hq i (by omega)
        rw [f0] at e0
        rw [f1] at e1
        simpa using ⟨e0, e1⟩)
    have hlen : ∀ l : List (Int × Int), (itC l).length = l.length * 2 := fun l => by
      induction l with
      | nil => rfl
      | cons p l ih => simp [itC, ih]; omega
    have hclo : ∀ l : List (Int × Int), ∀ y ∈ itC l, y.closedB = true := fun l => by
      induction l with
      | nil => intro y hy; cases hy
      | cons p l ih =>
        intro y hy
        simp only [itC, List.mem_cons] at hy
        rcases hy with rfl | rfl | hy
        · rfl
        · rfl
        · exact ih y hy
    refine ⟨(List.range len0).map q, by simp; unfold maxLen at hm; omega, fun p hp => ?_, ?_⟩
    · obtain ⟨i, hi1, rfl⟩ := List.mem_map.1 hp
      have h5 : i < len0 := by simpa using hi1
      exact (hq i (by omega)).2.2
    refine ⟨⟨some a, m, by simp, by simpa using hl, hlen _, fun hn => ⟨a, vs, rfl, ?_, g1, fun j v hv => by have := g2 j v hv; rwa [Nat.zero_mul, Nat.zero_add] at this, hclo _⟩⟩, fun _ _ => trivial⟩
    have hn' : 0 < len0 := by simpa using hn
    have := cell_lt (hi 0 (by omega)).1
    rwa [block_add] at this
/-- a call that returns true, at values that are told. -/
theorem pcall_true' {P : Program} {f : FuncId} {args : List AV} (h : PCall P f args (vB true)) (vals : List Value) (W : World) (hl : args.length = vals.length) (hr : ∀ (i : Nat) (x : AV) (v : Value), args[i]? = some x → vals[i]? = some v → RpV (fun _ => True) id W x v) :
    Calls P f vals.toArray W fun e W' => e = .returned (.bool true) ∧ Below W.heap.size W W' :=
  (h.call (fun _ => True) W vals ⟨hl, hr⟩).mono fun e W' ⟨v, he, ⟨hv, _⟩, hb⟩ => by subst hv; exact ⟨he, hb⟩
theorem k_alive9 : PCall Try.prog 9 [] (vB true) := p_alive9 k_New9 k_Add9 k_Num9 k_All9 k_Copy9 k_Len9 k_Room9 k_Met9 k_Near9
theorem room_walk (n : Int) (l : List Px) (_ : -9223372036854775808 ≤ n ∧ n ≤ 9223372036854775807) (_ : (l.length : Int) ≤ 9223372036854775807) (hin : ∀ p ∈ l, InI p) : PCall Try.prog 6 [vI n, vIt l] (vB true) := law_Room9 k_New9 k_Add9 k_Room9 k_Len9 k_Num9 k_alive9
end Go.Proofs.Ytaennpehlhgggaa

