/-
  My own texts, without what this claim does not need. My own text.
-/
import Derived.Test.YtaennpehlhgggaaProg
import Derived.ProofKit
import Derived.OpenShut
import Derived.Deep.DeepHandedRow
import Derived.Lib.LaidTab
import Derived.Lib.SmallJoins
import Derived.Laws.BytesArg
import Derived.Test.YtaennpehlhgggaaHotOnK3
namespace Go.Proofs.Ytaennpehlhgggaa
open Go.RowKit
set_option linter.unusedVariables false
set_option linter.unusedSimpArgs false
/-- what Meets answers. -/
def cutV (a1 a2 b1 b2 l1 l2 h1 h2 k : Int) : Pa := cut4 (2 * a1 - l1) (2 * b1 - l1) (2 * a2 - l2) (2 * b2 - l2) (h1 - 2 * a1) (h1 - 2 * b1) (h2 - 2 * a2) (h2 - 2 * b2) (!decide (k = 2)) (decide (k = 1))
def meR (a1 a2 b1 b2 l1 l2 h1 h2 k : Int) : Bool := rB5 a1 a2 && rB5 b1 b2 && co6 l1 l2 && co6 h1 h2 && kd6 k
def meB (a1 a2 b1 b2 l1 l2 h1 h2 k : Int) : Bool := meR a1 a2 b1 b2 l1 l2 h1 h2 k && anB (cutV a1 a2 b1 b2 l1 l2 h1 h2 k)
set_option maxRecDepth 100000 in
set_option maxHeartbeats 8000000 in
theorem p_Meets_no {a1 a2 b1 b2 l1 l2 h1 h2 k : Int} {r1 r2 r3 r4 r5 : Bool} (R1 : PCall Try.prog 75 [vP a1 a2] (vB r1)) (R2 : PCall Try.prog 75 [vP b1 b2] (vB r2)) (K1 : PCall Try.prog 76 [vP l1 l2] (vB r3)) (K2 : PCall Try.prog 76 [vP h1 h2] (vB r4)) (K3 : PCall Try.prog 77 [vI k] (vB r5)) (h : (r1 && r2 && r3 && r4 && r5) = false) :
    PCall Try.prog 60 [vP a1 a2, vP b1 b2, vP l1 l2, vP h1 h2, vI k] (vB false) := by
  have cs : r1 = false ∨ (r1 = true ∧ r2 = false) ∨ (r1 = true ∧ r2 = true ∧ r3 = false) ∨ (r1 = true ∧ r2 = true ∧ r3 = true ∧ r4 = false) ∨ (r1 = true ∧ r2 = true ∧ r3 = true ∧ r4 = true ∧ r5 = false) := by
    cases r1 <;> cases r2 <;> cases r3 <;> cases r4 <;> cases r5 <;> simp_all
  clear h
  rcases cs with rfl | ⟨rfl, rfl⟩ | ⟨rfl, rfl, rfl⟩ | ⟨rfl, rfl, rfl, rfl⟩ | ⟨rfl, rfl, rfl, rfl, rfl⟩
  all_goals
    refine pcall_body (f := 60) Try.func60 rfl rfl rfl rfl ?_
    (repeat (first | ((with_reducible apply al_q); exact rfl) | (refine al_call1 rfl rfl rfl (by (first | exact R1 | exact R2 | exact K1 | exact K2 | exact K3)) rfl ?_) | ((with_reducible apply awp_seq)) | ((with_reducible apply athen_normal)) | ((with_reducible apply awp_region)) | ((with_reducible apply al_nil)) | ((with_reducible apply awp_ret)) | ((with_reducible apply athen_ret)) | ((with_reducible apply awp_cond_t); exact rfl)))
    (first | (refine apost_ret rfl (resl_tmp rfl resl_nil) ?_))
    exact AV.Le.refl _
theorem alB_ok : PaOK alB := ⟨⟨by decide, by decide⟩, ⟨by decide, by decide⟩⟩
theorem p_Meets {a1 a2 b1 b2 l1 l2 h1 h2 k : Int} : PCall Try.prog 60 [vP a1 a2, vP b1 b2, vP l1 l2, vP h1 h2, vI k] (vB (meB a1 a2 b1 b2 l1 l2 h1 h2 k)) := by
  unfold meB
  cases hr : meR a1 a2 b1 b2 l1 l2 h1 h2 k with
  | false => exact p_Meets_no (p_cRight rfl) (p_cRight rfl) (p_isCorner rfl) (p_isCorner rfl) (p_isKind rfl) hr
  | true =>
    rw [Bool.true_and]
    unfold meR at hr
    simp only [Bool.and_eq_true] at hr
    obtain ⟨⟨⟨⟨ra, rb⟩, rl⟩, rh⟩, rk⟩ := hr
    have ia := rB5_iff.1 ra
    have ib := rB5_iff.1 rb
    have il := co6_iff.1 rl
    have ih := co6_iff.1 rh
    unfold cutV cut4
    have o1 := kp_ok (u := 2 * a1 - l1) (v := 2 * b1 - l1) (w := !decide (k = 2)) alB_ok (by omega) (by omega)
    have o2 := kp_ok (u := 2 * a2 - l2) (v := 2 * b2 - l2) (w := !decide (k = 2)) o1 (by omega) (by omega)
    have o3 := kp_ok (u := h1 - 2 * a1) (v := h1 - 2 * b1) (w := decide (k = 1)) o2 (by omega) (by omega)
    have o4 := kp_ok (u := h2 - 2 * a2) (v := h2 - 2 * b2) (w := decide (k = 1)) o3 (by omega) (by omega)
    exact p_Meets' (p_cRight ra) (p_cRight rb) (p_isCorner rl) (p_isCorner rh) (p_isKind rk) rfl rfl p_allOf (p_cutLeft ia.1 ib.1 il.1 (p_keep alB_ok (by omega) (by omega))) (p_cutBelow ia.2 ib.2 il.2 (p_keep o1 (by omega) (by omega))) (p_cutRight ia.1 ib.1 ih.1 (p_keep o2 (by omega) (by omega))) (p_cutAbove ia.2 ib.2 ih.2 (p_keep o3 (by omega) (by omega))) (p_hasAny o4)
set_option maxRecDepth 100000 in
set_option maxHeartbeats 8000000 in
theorem p_Hits_no {a1 a2 b1 b2 x y k : Int} {r1 r2 : Bool} (G1 : PCall Try.prog 57 [vI k] (vB r1)) (G2 : PCall Try.prog 58 [vP x y, vI k] (vB r2)) (h : (r1 && r2) = false) : PCall Try.prog 43 [vP a1 a2, vP b1 b2, vP x y, vI k] (vB false) := by
  have cs : r1 = false ∨ (r1 = true ∧ r2 = false) := by cases r1 <;> cases r2 <;> simp_all
  clear h
  rcases cs with rfl | ⟨rfl, rfl⟩
  all_goals
    refine pcall_body (f := 43) Try.func43 rfl rfl rfl rfl ?_
    (repeat (first | ((with_reducible apply al_q); exact rfl) | (refine al_call1 rfl rfl rfl (by (first | exact G1 | exact G2)) rfl ?_) | (refine al_call2 rfl rfl rfl rfl (by (first | exact G1 | exact G2)) rfl ?_) | ((with_reducible apply awp_seq)) | ((with_reducible apply athen_normal)) | ((with_reducible apply awp_region)) | ((with_reducible apply al_nil)) | ((with_reducible apply awp_ret)) | ((with_reducible apply athen_ret)) | ((with_reducible apply awp_cond_t); exact rfl)))
    (first | (refine apost_ret rfl (resl_tmp rfl resl_nil) ?_))
    exact AV.Le.refl _
set_option maxRecDepth 100000 in
set_option maxHeartbeats 8000000 in
theorem p_Hits_yes {a1 a2 b1 b2 x y k l1 l2 h1 h2 : Int} {r : Bool} (G1 : PCall Try.prog 57 [vI k] (vB true)) (G2 : PCall Try.prog 58 [vP x y, vI k] (vB true)) (G3 : PCall Try.prog 59 [vP x y, vI k] (.tup [.agg [.c (.int .i64 l1), .c (.int .i64 l2)], .agg [.c (.int .i64 h1), .c (.int .i64 h2)]])) (M : PCall Try.prog 60 [vP a1 a2, vP b1 b2, vP l1 l2, vP h1 h2, vI 0] (vB r)) : PCall Try.prog 43 [vP a1 a2, vP b1 b2, vP x y, vI k] (vB r) := by
  refine pcall_body (f := 43) Try.func43 rfl rfl rfl rfl ?_
  (repeat (first | ((with_reducible apply al_q); exact rfl) | (refine al_call1 rfl rfl rfl (by (first | exact G1 | exact G2 | exact G3 | exact M)) rfl ?_) | (refine al_call2 rfl rfl rfl rfl (by (first | exact G1 | exact G2 | exact G3 | exact M)) rfl ?_) | (refine al_call5 rfl rfl rfl rfl rfl rfl rfl (by (first | exact G1 | exact G2 | exact G3 | exact M)) rfl ?_) | ((with_reducible apply awp_seq)) | ((with_reducible apply athen_normal)) | ((with_reducible apply awp_region)) | ((with_reducible apply al_nil)) | ((with_reducible apply awp_ret)) | ((with_reducible apply awp_skip)) | ((with_reducible apply awp_cond_f); exact rfl)))
  (first | (refine apost_ret rfl (resl_tmp rfl resl_nil) ?_))
  exact AV.Le.refl _
/-- what Hits answers. -/
def hiB (a1 a2 b1 b2 x y k : Int) : Bool := decide (0 ≤ k) && decide (k ≤ 28) && inB k.toNat x y && meB a1 a2 b1 b2 (2 * (2 ^ k.toNat * x) - 2 ^ k.toNat) (2 * (2 ^ k.toNat * y) - 2 ^ k.toNat) (2 * (2 ^ k.toNat * x) + 2 ^ k.toNat) (2 * (2 ^ k.toNat * y) + 2 ^ k.toNat) 0
theorem isR_toNat {k : Int} (h : (decide (0 ≤ k) && decide (k ≤ 28)) = true) : IsR k k.toNat := by
  simp only [Bool.and_eq_true, decide_eq_true_eq] at h
  unfold IsR
  omega
theorem p_Hits {a1 a2 b1 b2 x y k : Int} : PCall Try.prog 43 [vP a1 a2, vP b1 b2, vP x y, vI k] (vB (hiB a1 a2 b1 b2 x y k)) := by
  unfold hiB
  have G1 := p_gRight (k := k)
  cases hk : (decide (0 ≤ k) && decide (k ≤ 28)) with
  | false =>
    rw [hk] at G1
    obtain ⟨r, hr⟩ := isR_ex k
    exact p_Hits_no G1 (p_In hr rfl) rfl
  | true =>
    rw [hk] at G1
    have hr := isR_toNat hk
    cases hi : inB k.toNat x y with
    | false => exact p_Hits_no G1 (p_In hr hi) rfl
    | true => exact p_Hits_yes G1 (p_In hr hi) (p_Sides hr hi) p_Meets
/-- what Near answers. -/
def neB (a1 a2 b1 b2 p1 p2 f : Int) : Bool := rB5 p1 p2 && !decide (f < 0) && !decide (268435456 < f) && meB a1 a2 b1 b2 (2 * p1 - f) (2 * p2 - f) (2 * p1 + f) (2 * p2 + f) 1
end Go.Proofs.Ytaennpehlhgggaa

namespace Go.Proofs.Ytaennpehlhgggaa
set_option linter.unusedVariables false
def MetB (a1 a2 b1 b2 l1 l2 h1 h2 k : Int) : Prop := Met (2 * a1 - l1) (2 * b1 - l1) (2 * a2 - l2) (2 * b2 - l2) (h1 - 2 * a1) (h1 - 2 * b1) (h2 - 2 * a2) (h2 - 2 * b2) (!decide (k = 2)) (decide (k = 1))
theorem meB_iff {a1 a2 b1 b2 l1 l2 h1 h2 k : Int} : meB a1 a2 b1 b2 l1 l2 h1 h2 k = true ↔ meR a1 a2 b1 b2 l1 l2 h1 h2 k = true ∧ MetB a1 a2 b1 b2 l1 l2 h1 h2 k := by
  unfold meB cutV MetB
  rw [Bool.and_eq_true, cut4_any]
/-- between. -/
theorem hol_no {u v n d : Int} {o : Bool} (hd : 0 < d) (hn : 0 ≤ n ∧ n ≤ d) (hu : u < 0 ∨ (u ≤ 0 ∧ o = false)) (hv : v < 0 ∨ (v ≤ 0 ∧ o = false)) : ¬ Hol u v o n d := by
  unfold Hol
  have a1 : u * (d - n) ≤ 0 := Int.mul_nonpos_of_nonpos_of_nonneg (by omega) (by omega)
  have a2 : v * n ≤ 0 := Int.mul_nonpos_of_nonpos_of_nonneg (by omega) (by omega)
  rintro (h | ⟨ho, h⟩)
  · omega
  · have hu' : u < 0 := by rcases hu with h | ⟨_, h⟩; exact h; rw [h] at ho; cases ho
    have hv' : v < 0 := by rcases hv with h | ⟨_, h⟩; exact h; rw [h] at ho; cases ho
    by_cases h0 : n = 0
    · subst h0
      have := Int.mul_neg_of_neg_of_pos hu' (by omega : 0 < d - 0)
      omega
    · have := Int.mul_neg_of_neg_of_pos hv' (by omega : 0 < n)
      omega
theorem met_sides {u1 v1 u2 v2 u3 v3 u4 v4 : Int} (h : Met u1 v1 u2 v2 u3 v3 u4 v4 true false) : (0 ≤ u1 ∨ 0 ≤ v1) ∧ (0 ≤ u2 ∨ 0 ≤ v2) ∧ (0 < u3 ∨ 0 < v3) ∧ (0 < u4 ∨ 0 < v4) := by
  obtain ⟨n, d, hd, hn, g1, g2, g3, g4⟩ := h
  refine ⟨Classical.byContradiction fun k => ?_, Classical.byContradiction fun k => ?_, Classical.byContradiction fun k => ?_, Classical.byContradiction fun k => ?_⟩
  · exact hol_no hd hn (.inl (by omega)) (.inl (by omega)) g1
  · exact hol_no hd hn (.inl (by omega)) (.inl (by omega)) g2
  · exact hol_no hd hn (.inr ⟨by omega, rfl⟩) (.inr ⟨by omega, rfl⟩) g3
  · exact hol_no hd hn (.inr ⟨by omega, rfl⟩) (.inr ⟨by omega, rfl⟩) g4
end Go.Proofs.Ytaennpehlhgggaa

namespace Go.Proofs.Ytaennpehlhgggaa
open Go.RowKit
set_option linter.unusedVariables false
set_option linter.unusedSimpArgs false
def basL (a1 a2 b1 b2 l1 l2 h1 h2 : Int) : List (Int × Int) := [(0, 1), (1, 1)] ++ waV a1 b1 l1 ++ waV a1 b1 h1 ++ waV a2 b2 l2 ++ waV a2 b2 h2
def allF (a1 a2 b1 b2 l1 l2 h1 h2 : Int) : List (Int × Int) := basL a1 a2 b1 b2 l1 l2 h1 h2 ++ midsN (basL a1 a2 b1 b2 l1 l2 h1 h2) (basL a1 a2 b1 b2 l1 l2 h1 h2).length
def gooF (a1 a2 b1 b2 l1 l2 h1 h2 kind : Int) (p : Int × Int) : Bool := wiB (2 * a1 * p.2 + p.1 * (2 * (b1 - a1)) * 1) (1 * p.2) l1 h1 kind && wiB (2 * a2 * p.2 + p.1 * (2 * (b2 - a2)) * 1) (1 * p.2) l2 h2 kind
/-- how far a place can be: its numbers. -/
def Goo (p : Int × Int) : Prop := 0 < p.2 ∧ 0 ≤ p.1 ∧ p.1 ≤ p.2
/-- where bounds come from. -/
def Cnd (u v n d : Int) : Prop := (0 < v - u ∧ n = -u ∧ d = v - u) ∨ (v - u < 0 ∧ n = u ∧ d = -(v - u))
end Go.Proofs.Ytaennpehlhgggaa

namespace Go.Proofs.Ytaennpehlhgggaa
open Go.ChangeShapes Go.WideShapes Go.ChangeAt Go.RowKit Go.Joins
set_option linter.unusedVariables false
set_option linter.unusedSimpArgs false
theorem own3 : ownKnob Try.prog.godebug = none := by kernel_rfl
/-- a type of plain values. -/
def flatB (P : Program) : Nat → TypeId → Bool
  | 0, _ => false
  | d + 1, t => match P.underlying t with
    | some .bool | some (.int _) | some .string => true
    | some (.struct fs) => fs.toList.all fun f => flatB P d f.type
    | some (.array _ e) => flatB P d e
    | _ => false
theorem mapM_flat {α β : Type} {f g : α → Option (β × List MemPlace)} : ∀ (l : List α) (xs : List (β × List MemPlace)), l.mapM f = some xs → (∀ a ∈ l, ∀ x, f a = some x → x.2 = [] ∧ g a = some (x.1, [])) → xs.flatMap (·.2) = [] ∧ l.mapM g = some xs
  | [], xs, h, _ => by cases h; exact ⟨rfl, rfl⟩
  | a :: l, xs, h, hk => by
    rw [List.mapM_cons] at h
    cases ha : f a with
    | none => rw [ha] at h; cases h
    | some b =>
      rw [ha] at h
      cases hl : l.mapM f with
      | none => rw [hl] at h; cases h
      | some bs =>
        rw [hl] at h
        cases h
        obtain ⟨h1, h2⟩ := hk a (by simp) b ha
        obtain ⟨h3, h4⟩ := mapM_flat l bs hl fun a' ha' => hk a' (by simp [ha'])
        refine ⟨by simp [h1]; intro a' b' hab; have := List.flatMap_eq_nil_iff.1 h3 _ hab; exact this, ?_⟩
        rw [List.mapM_cons, h2, h4]
        obtain ⟨b1, b2⟩ := b
        simp only at h1
        subst h1
        rfl
section
variable {H : Type} {enc : TypeId × Value → H} {P : Program}
theorem flat_trod : ∀ (d : Nat) (t : TypeId), flatB P d t = true → ∀ (fuel : Nat) (w : World) (base : Nat) (sp : Nat → Bool) (held : Bool) (cs : List Value) (x : DataW H × List MemPlace), DataW.trod enc P w base sp held fuel t cs = some x →
    x.2 = [] ∧ ∀ (w' : World) (base' : Nat) (sp' : Nat → Bool) (held' : Bool), DataW.trod enc P w' base' sp' held' fuel t cs = some (x.1, [])
  | 0, _, h, _, _, _, _, _, _, _, _ => by cases h
  | d + 1, t, hf, 0, _, _, _, _, _, _, h => by simp [DataW.trod] at h
  | d + 1, t, hf, fuel + 1, w, base, sp, held, cs, x, h => by
    have ih := fun t' (ht' : flatB P d t' = true) => flat_trod d t' ht' fuel
    rw [DataW.trod_step] at h
    simp only [DataW.trod_step]
    unfold flatB at hf
    unfold DataW.trodStep at h ⊢
    cases hu : P.underlying t with
    | none => rw [hu] at hf; cases hf
    | some D =>
      rw [hu] at hf h
      cases D with
      | bool =>
        match cs, h with
        | [.bool b], h => cases h; exact ⟨rfl, fun _ _ _ _ => rfl⟩
      | int k =>
        match cs, h with
        | [.int k' n], h =>
          simp only at h ⊢
          split at h
          · rename_i hc; cases h; exact ⟨rfl, fun _ _ _ _ => by rw [if_pos hc]⟩
          · cases h
      | string =>
        match cs, h with
        | [.string s], h =>
          simp only at h ⊢
          split at h
          · rename_i hc; cases h; exact ⟨rfl, fun _ _ _ _ => by rw [if_pos hc]⟩
          · cases h
      | struct fs =>
        simp only at h ⊢ hf
        split at h
        · rename_i hc
          simp only [Option.map_eq_some_iff] at h
          obtain ⟨xs, hx, rfl⟩ := h
          have hall := List.all_eq_true.1 hf
          refine ⟨?_, fun w' base' sp' held' => ?_⟩
          · exact (mapM_flat (g := fun f => DataW.trod enc P w base sp held fuel f.type ((cs.drop f.offset).take (P.cellsOf f.type))) _ _ hx fun f hf' y hy => ⟨(ih f.type (hall f hf') w base sp held _ y hy).1, (ih f.type (hall f hf') w base sp held _ y hy).2 w base sp held⟩).1
          · have := mapM_flat (g := fun f => DataW.trod enc P w' base' sp' held' fuel f.type ((cs.drop f.offset).take (P.cellsOf f.type))) _ _ hx fun f hf' y hy => ⟨(ih f.type (hall f hf') w base sp held _ y hy).1, (ih f.type (hall f hf') w base sp held _ y hy).2 w' base' sp' held'⟩
            rw [if_pos hc, this.2]
            simp only [Option.map_some, this.1]
        · cases h
      | array n e =>
        simp only at h ⊢ hf
        split at h
        · rename_i hc
          simp only [Option.map_eq_some_iff] at h
          obtain ⟨xs, hx, rfl⟩ := h
          refine ⟨?_, fun w' base' sp' held' => ?_⟩
          · exact (mapM_flat (g := fun i => DataW.trod enc P w base sp held fuel e ((cs.drop (i * P.cellsOf e)).take (P.cellsOf e))) _ _ hx fun f _ y hy => ⟨(ih e hf w base sp held _ y hy).1, (ih e hf w base sp held _ y hy).2 w base sp held⟩).1
          · have := mapM_flat (g := fun i => DataW.trod enc P w' base' sp' held' fuel e ((cs.drop (i * P.cellsOf e)).take (P.cellsOf e))) _ _ hx fun f _ y hy => ⟨(ih e hf w base sp held _ y hy).1, (ih e hf w base sp held _ y hy).2 w' base' sp' held'⟩
            rw [if_pos hc, this.2]
            simp only [Option.map_some, this.1]
        · cases h
      | _ => cases hf
theorem flat_arg {d : Nat} {t : TypeId} (hf : flatB P d t = true) {w : World} {base : Nat} {sp : Nat → Bool} {held : Bool} {v : Value} {D : DataW H} {p : List MemPlace} (h : DataW.Trod enc P w base sp held t v D p) :
    p = [] ∧ ∀ (w' : World) (base' : Nat) (sp' : Nat → Bool) (held' : Bool), DataW.Trod enc P w' base' sp' held' t v D [] := by
  obtain ⟨fuel, h⟩ := h
  obtain ⟨h1, h2⟩ := flat_trod d t hf fuel w base sp held _ _ h
  exact ⟨h1, fun w' base' sp' held' => ⟨fuel, h2 w' base' sp' held'⟩⟩
end
section
variable {P : Program} {W : World} {r : Reach} {b : Nat} {t : TypeId} {v : Value}
theorem okw_int {k : IntKind} (hu : P.underlying t = some (.int k)) (h : Cell.okWide P W r b t v) : ∃ n, v = .int k n ∧ k.min ≤ n ∧ n ≤ k.max := by
  unfold Cell.okWide Cell.ok at h
  rw [hu] at h
  cases v <;> simp only at h
  rename_i k' n
  obtain ⟨rfl, h⟩ := h
  exact ⟨n, rfl, by simpa [IntKind.has] using h⟩
def aggB (P : Program) (t : TypeId) (n : Nat) (ts : List TypeId) : Bool :=
  (match P.underlying t with | some (.struct _) | some (.array _ _) => true | _ => false) && (P.cellsOf t == n) && (P.cellTypes P.depth t == some ts) && (ts.length == n) && (0 < n)
theorem okw_agg {n : Nat} {ts : List TypeId} (hB : aggB P t n ts = true) (h : Value.okWide P W r b t v) : ∃ cs : List Value, v = .agg cs.toArray ∧ cs.length = n ∧ ∀ (i : Nat) (u : TypeId) (c : Value), ts[i]? = some u → cs[i]? = some c → Cell.okWide P W r b u c := by
  unfold aggB at hB
  simp only [Bool.and_eq_true, beq_iff_eq, decide_eq_true_eq] at hB
  obtain ⟨⟨⟨⟨h1, h2⟩, h3⟩, h4⟩, h5⟩ := hB
  have key : ∃ cs : Array Value, v = .agg cs ∧ cs.size = P.cellsOf t ∧ Row.okWide P W r b t cs := by
    unfold Value.okWide at h
    split at h
    · exact h
    · exact h
    · exfalso
      split at h1
      · rename_i hu; rename_i h6 _ _ ; exact absurd hu (by simp_all)
      · simp_all
      · cases h1
  obtain ⟨cs, rfl, hs, ts', e1, _, hc⟩ := key
  rw [h3] at e1
  cases e1
  refine ⟨cs.toList, by simp, by simp [hs, h2], fun i u c hu hc' => ?_⟩
  have hlt : i < ts.length := (List.getElem?_eq_some_iff.1 hu).1
  obtain ⟨u', q1, q2⟩ := hc i c (by simpa using hc')
  rw [Nat.mod_eq_of_lt hlt, hu] at q1
  cases q1
  exact q2
end
theorem list2 {α : Type} {cs : List α} (h : cs.length = 2) : ∃ a b, cs = [a, b] := by match cs, h with | [a, b], _ => exact ⟨a, b, rfl⟩
end Go.Proofs.Ytaennpehlhgggaa

namespace Go.Proofs.Ytaennpehlhgggaa
open Go.RowKit
set_option linter.unusedVariables false
set_option linter.unusedSimpArgs false
/-- two points; a box. -/
abbrev v2 (a1 a2 b1 b2 : Int) : AV := .w (.agg [.c (.int .i64 a1), .c (.int .i64 a2), .c (.int .i64 b1), .c (.int .i64 b2)])
end Go.Proofs.Ytaennpehlhgggaa

namespace Go.Proofs.Ytaennpehlhgggaa
open Go.RowKit
set_option linter.unusedVariables false
set_option linter.unusedSimpArgs false
/-- what holds ahead of each round of Size's loop. -/
def SzI (k : Int) (r : Nat) (m : Nat) (ts : List (Nat × AV)) (ms : List (Nat × List AC)) : Prop :=
  ∃ (i : Nat) (v j : Int), i ≤ r ∧ m = r - i ∧ v = 2 ^ i ∧ j = i ∧ ms = [] ∧ ts = [(0, vI k), (3, vI v), (4, vI j)]
theorem gsn_spec {P v : Int} (hP : 0 < P) : 2 * ((2 * v + P) / (2 * P) * P) ≤ 2 * v + P ∧ 2 * v + P < 2 * ((2 * v + P) / (2 * P) * P) + 2 * P := by
  have h1 := Int.mul_ediv_add_emod (2 * v + P) (2 * P)
  have h2 := Int.emod_nonneg (2 * v + P) (show 2 * P ≠ 0 by omega)
  have h3 := Int.emod_lt_of_pos (2 * v + P) (show 0 < 2 * P by omega)
  have e : 2 * P * ((2 * v + P) / (2 * P)) = 2 * ((2 * v + P) / (2 * P) * P) := by rw [Int.mul_assoc, Int.mul_comm P]
  omega
end Go.Proofs.Ytaennpehlhgggaa

namespace Go.Proofs.Ytaennpehlhgggaa
open Go.RowKit
set_option linter.unusedVariables false
set_option linter.unusedSimpArgs false
abbrev v3 (k x y : Int) : AV := .w (.agg [.c (.int .i64 k), .c (.int .i64 x), .c (.int .i64 y)])
end Go.Proofs.Ytaennpehlhgggaa

namespace Go.Proofs.Ytaennpehlhgggaa
open Go.RowKit
set_option linter.unusedVariables false
set_option linter.unusedSimpArgs false
instance iPixF_1 : IPart Try.prog 52 2 true 2 := ⟨by kernel_rfl⟩
def MvI (a1 a2 b1 b2 q1 q2 k x y S X Y : Int) (r1 r2 r3 r4 : Bool) (m : Nat) (ts : List (Nat × AV)) (ms : List (Nat × List AC)) : Prop :=
  ∃ (i : Int) (t1 t2 t3 t4 : Int), ((m = 2 ∧ i = 0 ∧ t1 = 0 ∧ t2 = 0 ∧ t3 = 0 ∧ t4 = 0) ∨ (m = 1 ∧ i = 1 ∧ t1 = a1 + X ∧ t2 = a2 + Y ∧ t3 = 0 ∧ t4 = 0 ∧ r1 = true ∧ r2 = true) ∨ (m = 0 ∧ i = 2 ∧ t1 = a1 + X ∧ t2 = a2 + Y ∧ t3 = b1 + X ∧ t4 = b2 + Y ∧ r1 = true ∧ r2 = true ∧ r3 = true ∧ r4 = true))
    ∧ ts = [(3, vO 3 0), (4, vO 4 0), (7, vI k), (8, vI x), (9, vI y), (10, vI S), (11, vO 11 0), (50, v2 a1 a2 b1 b2), (51, vI i)]
    ∧ ms = [(3, [.c (.int .i64 a1), .c (.int .i64 a2), .c (.int .i64 b1), .c (.int .i64 b2)]), (4, [.c (.int .i64 q1), .c (.int .i64 q2)]), (11, [.c (.int .i64 t1), .c (.int .i64 t2), .c (.int .i64 t3), .c (.int .i64 t4)])]
end Go.Proofs.Ytaennpehlhgggaa

namespace Go.Proofs.Ytaennpehlhgggaa
open Go.RowKit
set_option linter.unusedVariables false
set_option linter.unusedSimpArgs false
theorem gsn_up {P v q : Int} (hP : 0 < P) (h : 0 ≤ 2 * v - (2 * (P * q) - P)) : q ≤ (2 * v + P) / (2 * P) := by
  obtain ⟨h1, h2⟩ := gsn_spec (v := v) hP
  generalize (2 * v + P) / (2 * P) = A at *
  have : P * q < P * (A + 1) := by rw [Int.mul_add, Int.mul_comm P A]; omega
  have := Int.lt_of_mul_lt_mul_left this (by omega)
  omega
theorem gsn_dn {P v q : Int} (hP : 0 < P) (h : 0 < 2 * (P * q) + P - 2 * v) : (2 * v + P) / (2 * P) ≤ q := by
  obtain ⟨h1, h2⟩ := gsn_spec (v := v) hP
  generalize (2 * v + P) / (2 * P) = A at *
  have : P * A < P * (q + 1) := by rw [Int.mul_add, Int.mul_comm P A]; omega
  have := Int.lt_of_mul_lt_mul_left this (by omega)
  omega
theorem hiB_iff {a1 a2 b1 b2 q1 q2 : Int} {r : Nat} (hr : r ≤ 28) : hiB a1 a2 b1 b2 q1 q2 r = true ↔ inB r q1 q2 = true ∧ meB a1 a2 b1 b2 (2 * (2 ^ r * q1) - 2 ^ r) (2 * (2 ^ r * q2) - 2 ^ r) (2 * (2 ^ r * q1) + 2 ^ r) (2 * (2 ^ r * q2) + 2 ^ r) 0 = true := by
  unfold hiB
  have g1 : decide ((0 : Int) ≤ (r : Int)) = true := decide_eq_true (by omega)
  have g2 : decide ((r : Int) ≤ 28) = true := decide_eq_true (by omega)
  rw [g1, g2, Int.toNat_natCast, Bool.and_self, Bool.true_and, Bool.and_eq_true]
theorem hiB_between {a1 a2 b1 b2 q1 q2 : Int} {r : Nat} (hr : r ≤ 28) (h : hiB a1 a2 b1 b2 q1 q2 r = true) : ((if gsn b1 r < gsn a1 r then gsn b1 r else gsn a1 r) ≤ q1 ∧ q1 ≤ (if gsn b1 r > gsn a1 r then gsn b1 r else gsn a1 r)) ∧ (if gsn b2 r < gsn a2 r then gsn b2 r else gsn a2 r) ≤ q2 ∧ q2 ≤ (if gsn b2 r > gsn a2 r then gsn b2 r else gsn a2 r) := by
  rw [hiB_iff hr, meB_iff] at h
  obtain ⟨_, _, h⟩ := h
  have hP : (0 : Int) < 2 ^ r := by have := pow28 hr; omega
  obtain ⟨s1, s2, s3, s4⟩ := met_sides h
  have u1 : q1 ≤ gsn a1 r ∨ q1 ≤ gsn b1 r := s1.elim (fun k => .inl (gsn_up hP k)) fun k => .inr (gsn_up hP k)
  have u2 : q2 ≤ gsn a2 r ∨ q2 ≤ gsn b2 r := s2.elim (fun k => .inl (gsn_up hP k)) fun k => .inr (gsn_up hP k)
  have u3 : gsn a1 r ≤ q1 ∨ gsn b1 r ≤ q1 := s3.elim (fun k => .inl (gsn_dn hP k)) fun k => .inr (gsn_dn hP k)
  have u4 : gsn a2 r ≤ q2 ∨ gsn b2 r ≤ q2 := s4.elim (fun k => .inl (gsn_dn hP k)) fun k => .inr (gsn_dn hP k)
  refine ⟨⟨?_, ?_⟩, ?_, ?_⟩ <;> split <;> omega
end Go.Proofs.Ytaennpehlhgggaa

namespace Go.Proofs.Ytaennpehlhgggaa
open Go.RowKit
set_option linter.unusedVariables false
set_option linter.unusedSimpArgs false
abbrev vAdd9 (r : Int) (l : List Px) (b : Bool) (e : Int) : AV := .tup [.agg [.c (.int .i64 r), .p (SlP 2 l.length (itC l))], .one (.c (.bool b)), .one (.c (.int .i64 e))]
set_option maxRecDepth 100000 in
set_option maxHeartbeats 8000000 in
theorem p_Add9_had {r : Int} {l : List Px} (hl : l.length ≤ 100000) {x y : Int} (h : 0 ≤ numI l x y) : PCall Try.prog 13 [vSet9 r l, vP x y] (vAdd9 r l false 0) := by
  have C1 := p_Num9 (r := r) hl (x := x) (y := y)
  have h' : numI l x y ≥ 0 := h
  generalize numI l x y = k at *
  refine pcall_body (f := 13) Try.func13 rfl rfl rfl rfl ?_
  (repeat (first | ((with_reducible apply al_q); exact rfl) | (refine al_call2 rfl rfl rfl rfl (by (first | exact C1)) rfl ?_) | ((with_reducible apply awp_seq)) | ((with_reducible apply athen_normal)) | ((with_reducible apply awp_region)) | ((with_reducible apply al_nil)) | ((with_reducible apply awp_ret)) | ((with_reducible apply athen_ret)) | ((with_reducible apply awp_cond_1); exact rfl; (first | assumption | exact decide_eq_true (by omega) | (simp only [Bool.not_eq_true', decide_eq_false_iff_not, decide_eq_true_eq, Bool.not_eq_false']; (first | done | omega))))))
  (first | (refine apost_ret rfl (resl_agg rfl rfl rfl (resl_tmp rfl (resl_tmp rfl resl_nil))) ?_) | (refine apost_ret rfl (resl_one rfl rfl rfl (resl_tmp rfl (resl_tmp rfl resl_nil))) ?_))
  exact AV.Le.refl _
set_option maxRecDepth 100000 in
set_option maxHeartbeats 8000000 in
theorem p_Add9_full {r : Int} {l : List Px} (hl : l.length ≤ 100000) {x y : Int} (h : ¬ 0 ≤ numI l x y) (hr : r ≤ (l.length : Int)) : PCall Try.prog 13 [vSet9 r l, vP x y] (vAdd9 r l false 90) := by
  have C1 := p_Num9 (r := r) hl (x := x) (y := y)
  have h' : ¬ numI l x y ≥ 0 := h
  have hr' : (l.length : Int) ≥ r := hr
  generalize numI l x y = k at *
  refine pcall_body (f := 13) Try.func13 rfl rfl rfl rfl ?_
  (repeat (first | ((with_reducible apply al_q); exact rfl) | ((with_reducible apply al_len); (iterate 3 exact rfl)) | (refine al_call2 rfl rfl rfl rfl (by (first | exact C1)) rfl ?_) | ((with_reducible apply awp_seq)) | ((with_reducible apply athen_normal)) | ((with_reducible apply awp_region)) | ((with_reducible apply al_nil)) | ((with_reducible apply awp_ret)) | ((with_reducible apply awp_skip)) | ((with_reducible apply athen_ret)) | ((with_reducible apply awp_cond_1); exact rfl; (first | assumption | exact decide_eq_true (by omega) | (simp only [Bool.not_eq_true', decide_eq_false_iff_not, decide_eq_true_eq, Bool.not_eq_false']; (first | done | omega)))) | ((with_reducible apply awp_cond_0); exact rfl; (first | assumption | exact decide_eq_false (by omega) | (simp only [Bool.not_eq_true', decide_eq_false_iff_not, decide_eq_true_eq, Bool.not_eq_false']; (first | done | omega))))))
  (first | (refine apost_ret rfl (resl_agg rfl rfl rfl (resl_tmp rfl (resl_tmp rfl resl_nil))) ?_) | (refine apost_ret rfl (resl_one rfl rfl rfl (resl_tmp rfl (resl_tmp rfl resl_nil))) ?_))
  exact AV.Le.refl _
set_option maxRecDepth 100000 in
set_option maxHeartbeats 8000000 in
theorem p_Add9_new {r : Int} {l : List Px} (hl : l.length ≤ 100000) {x y : Int} (h : ¬ 0 ≤ numI l x y) (hr : ¬ r ≤ (l.length : Int)) : PCall Try.prog 13 [vSet9 r l, vP x y] (vAdd9 r (l ++ [(x, y)]) true 0) := by
  have C1 := p_Num9 (r := r) hl (x := x) (y := y)
  have h' : ¬ numI l x y ≥ 0 := h
  have hr' : ¬ (l.length : Int) ≥ r := hr
  have e1 : (l ++ [(x, y)]).length = l.length + 1 := by rw [List.length_append]; rfl
  generalize numI l x y = k at *
  unfold vAdd9
  rw [e1, ← itC_one9]
  refine pcall_body (f := 13) Try.func13 rfl rfl rfl rfl ?_
  refine awp_rows ?_
  (repeat (first | ((with_reducible apply rwp_drawH (id := 5) [1,2,4,5,0,3,6,7,8] [3000024]); kernel_rfl; kernel_rfl; exact rfl) | ((with_reducible apply rwp_seq)) | ((with_reducible apply rthen_normal)) | ((with_reducible apply rwp_region)) | ((with_reducible apply hs_nil)) | ((with_reducible apply rwp_skip)) | ((with_reducible apply rwp_cond_0); exact rfl; (first | assumption | exact decide_eq_false (by omega) | (simp only [Bool.not_eq_true', decide_eq_false_iff_not, decide_eq_true_eq, Bool.not_eq_false']; (first | done | omega)) | exact rfl)) | ((with_reducible apply hs_c); exact rfl; (repeat (first | ((with_reducible apply al_q); exact rfl) | ((with_reducible apply al_len); (iterate 3 exact rfl)) | ((with_reducible apply al_bslice); (iterate 10 exact rfl)) | (refine al_call2 rfl rfl rfl rfl (by (first | exact C1)) rfl ?_))); (with_reducible apply al_nil))))
  refine hs_new0 0 rfl rfl rfl rfl rfl (fun v hv => ?_)
  skip
  refine hs_app0 0 rfl rfl rfl rfl ?q1 ?q2 (itC_closed _) rfl (fun v1 hv1 => ?_)
  case q1 => exact le_maxLen (by show 0 + l.length ≤ 1000000; omega)
  case q2 => show (0 + l.length) * 16 ≤ 140737488355328; omega
  skip
  refine hs_app0 0 rfl rfl rfl rfl ?q1 ?q2 rfl rfl (fun v2 hv2 => ?_)
  case q1 => exact le_maxLen (by show 0 + l.length + 1 ≤ 1000000; omega)
  case q2 => show (0 + l.length + 1) * 16 ≤ 140737488355328; omega
  (repeat (first | ((with_reducible apply hs_nilS); kernel_rfl) | ((with_reducible apply rthen_normal)) | ((with_reducible apply hs_c); exact rfl; (repeat (first | ((with_reducible apply al_q); exact rfl))); (with_reducible apply al_nil))))
  refine rwp_coolm 0 25 2 1 _ rfl rfl rfl rfl ?_
  (repeat (first | ((with_reducible apply rwp_seq)) | ((with_reducible apply rthen_normal)) | ((with_reducible apply rwp_region)) | ((with_reducible apply hs_nil)) | ((with_reducible apply rwp_ret)) | ((with_reducible apply hs_c); exact rfl; (repeat (first | ((with_reducible apply al_q); exact rfl))); (with_reducible apply al_nil))))
  (first | (refine apost_ret rfl (resl_agg rfl rfl rfl (resl_tmp rfl (resl_tmp rfl resl_nil))) ?_) | (refine apost_ret rfl (resl_one rfl rfl rfl (resl_tmp rfl (resl_tmp rfl resl_nil))) ?_))
  exact AV.Le.of_eq (by rw [Nat.zero_add]; rfl)
section
variable {P : Program} {ops : Array Oper} {s : AS} {d ty : Nat} {pos : String} {after : Array Edge} {guard : Option (Nat × Bool)} {K : AS → Prop} {rest : List Oper}
end
end Go.Proofs.Ytaennpehlhgggaa

namespace Go.Proofs.Ytaennpehlhgggaa
open Go.RowKit
set_option linter.unusedVariables false
set_option linter.unusedSimpArgs false
/-- whose numbers are numbers. -/
def InI (p : Px) : Prop := (-9223372036854775808 ≤ p.1 ∧ p.1 ≤ 9223372036854775807) ∧ -9223372036854775808 ≤ p.2 ∧ p.2 ≤ 9223372036854775807
/-- is it near? -/
def nearF (a1 a2 b1 b2 : Int) (r : Nat) (p : Px) : Bool := btw9 p.1 (gsn a1 r) (gsn b1 r) && btw9 p.2 (gsn a2 r) (gsn b2 r)
def metF (a1 a2 b1 b2 k : Int) (p : Px) : Bool := hiB a1 a2 b1 b2 p.1 p.2 k
def NR9I (rm : Int) (L : List Px) (a1 a2 b1 b2 k : Int) (f : Px → Bool) (n : Nat) (R : Rws) (ts : List (Nat × AV)) (ms : List (Nat × List AC)) : Prop :=
  ∃ (i : Nat) (ii : Int), i ≤ L.length ∧ n = L.length - i ∧ ii = i ∧ R = noRows ∧ ms = [(4, [.c (.int .i64 rm), .p (SlP 2 L.length (itC L))]), (5, mPx a1 a2), (6, mPx b1 b2)] ∧ ts = [(3, vI k), (4, vOw 4), (5, vOw 5), (6, vOw 6), (9, vIt (sortI (decide (b1 < a1)) (decide (b2 < a2)) f (L.take i))), (10, vI ii)]
def OldI (l : List Px) (n : Nat) (R : Rws) (ts : List (Nat × AV)) (ms : List (Nat × List AC)) : Prop :=
  ∃ (k : Nat) (v : Value) (ki : Int), k ≤ l.length ∧ n = l.length - k ∧ ki = k ∧ R = row1 0 (p9Row v (l.take k)) ∧ ms = [] ∧ ts = [(3, vC v), (6, vIt l), (7, vI l.length), (8, vI ki)]
set_option maxRecDepth 100000 in
set_option maxHeartbeats 8000000 in
theorem p_Olds {l : List Px} (hl : l.length ≤ 50000) : PCall Try.prog 19 [vIt l] (vIt l) := by
  refine pcall_body (f := 19) Try.func19 rfl rfl rfl rfl ?_
  refine awp_rows ?_
  refine rwp_nil 0 36 2 rfl ?_
  (repeat (first | ((with_reducible apply rwp_seq)) | ((with_reducible apply rthen_normal)) | ((with_reducible apply rwp_region)) | ((with_reducible apply hs_nil)) | ((with_reducible apply rwp_block)) | ((with_reducible apply hs_c); exact rfl; (repeat (first | ((with_reducible apply al_q); exact rfl) | ((with_reducible apply al_len); (iterate 3 exact rfl)))); (with_reducible apply al_nil))))
  refine rwp_loopL 18 (OldI l) l.length (row1 0 (p9Row (.slice none 0 0) [])) _ [] ⟨0, .slice none 0 0, 0, Nat.zero_le _, rfl, rfl, rfl, rfl, rfl⟩ (row1_le _ _ _) rfl ⟨rfl, rfl, rfl, rfl, trivial⟩ trivial rfl ?_
  rintro n R ts ms ⟨k, v, ki, hk, rfl, hki, rfl, rfl, rfl⟩ hok
  clear hok
  have htl : (l.take k).length ≤ k := by rw [List.length_take]; omega
  by_cases hq : k < l.length
  · have q2 : ki < (l.length : Int) := by omega
    have q3 : 0 ≤ ki := by omega
    obtain ⟨x, y, g1⟩ : ∃ x y, l[k]? = some (x, y) := ⟨_, _, List.getElem?_eq_getElem hq⟩
    have E1 := itC_xy hki g1
    have ht : l.take (k + 1) = l.take k ++ [(x, y)] := by
      rw [List.take_succ_eq_append_getElem hq, (List.getElem?_eq_some_iff.1 g1).2]
    (repeat (first | ((with_reducible apply rwp_seq)) | ((with_reducible apply rthen_normal)) | ((with_reducible apply rwp_region)) | ((with_reducible apply hs_nil)) | ((with_reducible apply rwp_skip)) | ((with_reducible apply rwp_block)) | ((with_reducible apply rwp_cond_1); exact rfl; (first | assumption | exact decide_eq_true (by omega) | (simp only [Bool.not_eq_true', decide_eq_false_iff_not, decide_eq_true_eq, Bool.not_eq_false']; (first | done | omega)) | exact rfl)) | ((with_reducible apply hs_c); exact rfl; (repeat (first | ((with_reducible apply al_q); exact rfl) | ((with_reducible apply al_loadPN); (iterate 5 exact rfl)) | ((with_reducible apply al_idxS); (iterate 3 exact rfl); (first | decide | omega); (first | decide | omega); (first | assumption | rfl); exact rfl) | ((with_reducible apply al_bslice); (iterate 10 exact rfl)))); (with_reducible apply al_nil))))
    refine hs_app0 0 rfl rfl rfl rfl ?q1 ?q2 rfl rfl (fun v' hv' => ?_)
    case q1 => exact le_maxLen (by show (l.take k).length + 1 ≤ 1000000; omega)
    case q2 => show ((l.take k).length + 1) * 16 ≤ 140737488355328; omega
    (repeat (first | ((with_reducible apply rthen_normal)) | ((with_reducible apply rwp_region)) | ((with_reducible apply hs_nil)) | ((with_reducible apply rblock_normal)) | ((with_reducible apply hs_c); exact rfl; (repeat (first | ((with_reducible apply al_q); exact rfl) | ((with_reducible apply al_add); (iterate 3 exact rfl); (first | exact i64_wrap (by omega) | assumption | rfl); exact rfl))); (with_reducible apply al_nil))))
    refine ⟨l.length - (k + 1), row1 0 (p9Row v' (l.take (k + 1))), _, [], by omega, ⟨k + 1, v', ki + 1, by omega, rfl, by omega, rfl, rfl, rfl⟩, ?_, rfl, ⟨rfl, rfl, rfl, rfl, trivial⟩, trivial, rfl⟩
    rw [ht, p9Row_one]; exact row1_le _ _ _
  · have q2 : ¬ ki < (l.length : Int) := by omega
    have e0 : l.take k = l := List.take_of_length_le (by omega)
    rw [e0]
    refine rwp_cool 0 3 (p9Row v l) rfl rfl ?_
    (repeat (first | ((with_reducible apply rwp_seq)) | ((with_reducible apply rthen_normal)) | ((with_reducible apply rwp_region)) | ((with_reducible apply hs_nil)) | ((with_reducible apply rwp_ret)) | ((with_reducible apply rblock_same)) | ((with_reducible apply rwp_exit)) | ((with_reducible apply rthen_exit)) | ((with_reducible apply rwp_cond_0); exact rfl; (first | assumption | exact decide_eq_false (by omega) | (simp only [Bool.not_eq_true', decide_eq_false_iff_not, decide_eq_true_eq, Bool.not_eq_false']; (first | done | omega)) | exact rfl)) | ((with_reducible apply hs_c); exact rfl; (repeat (first | ((with_reducible apply al_q); exact rfl))); (with_reducible apply al_nil))))
    (first | (refine apost_ret rfl (resl_tmp rfl resl_nil) ?_))
    exact AV.Le.refl _
def Sm9I (l : List Px) (n : Nat) (ts : List (Nat × AV)) (ms : List (Nat × List AC)) : Prop :=
  ∃ (k : Nat) (ki : Int), k ≤ l.length ∧ n = l.length - k ∧ ki = k ∧ ms = [] ∧ ts = [(0, vIt l), (1, vIt l), (5, vI 0), (19, vI l.length), (20, vI ki)]
set_option maxRecDepth 100000 in
set_option maxHeartbeats 8000000 in
theorem p_Same9 {l : List Px} (hl : l.length ≤ 50000) : PCall Try.prog 18 [vIt l, vIt l] (vI 0) := by
  have h1 : (!decide ((l.length : Int) = (l.length : Int))) = false := by simp
  refine pcall_body (f := 18) Try.func18 rfl rfl rfl rfl ?_
  (repeat (first | ((with_reducible apply al_q); exact rfl) | ((with_reducible apply al_len); (iterate 3 exact rfl)) | ((with_reducible apply awp_seq)) | ((with_reducible apply athen_normal)) | ((with_reducible apply awp_region)) | ((with_reducible apply al_nil)) | ((with_reducible apply awp_skip)) | ((with_reducible apply awp_block)) | ((with_reducible apply awp_cond_0); exact rfl; (first | assumption | exact decide_eq_false (by omega) | (simp only [Bool.not_eq_true', decide_eq_false_iff_not, decide_eq_true_eq, Bool.not_eq_false']; (first | done | omega))))))
  refine awp_loopL 36 (Sm9I l) l.length _ [] ⟨0, 0, Nat.zero_le _, rfl, rfl, rfl, rfl⟩ rfl ⟨rfl, rfl, rfl, rfl, rfl, trivial⟩ trivial rfl ?_
  rintro n ts ms ⟨k, ki, hk, rfl, hki, rfl, rfl⟩ hok
  clear hok
  by_cases hq : k < l.length
  · have q2 : ki < (l.length : Int) := by omega
    have q3 : 0 ≤ ki := by omega
    obtain ⟨x, y, g1⟩ : ∃ x y, l[k]? = some (x, y) := ⟨_, _, List.getElem?_eq_getElem hq⟩
    have E1 := itC_xy hki g1
    have he : (!eqP x y x y) = false := by rw [eqP_iff.2 ⟨rfl, rfl⟩]; rfl
    (repeat (first | ((with_reducible apply al_q); exact rfl) | ((with_reducible apply al_loadPN); (iterate 5 exact rfl)) | ((with_reducible apply al_idxS); (iterate 3 exact rfl); (first | decide | omega); (first | decide | omega); (first | assumption | rfl); exact rfl) | ((with_reducible apply al_neqP); (iterate 4 exact rfl)) | ((with_reducible apply al_add); (iterate 3 exact rfl); (first | exact i64_wrap (by omega) | assumption | rfl); exact rfl) | ((with_reducible apply al_nilS); kernel_rfl) | ((with_reducible apply awp_region_draw); kernel_rfl; kernel_rfl; exact rfl) | ((with_reducible apply awp_seq)) | ((with_reducible apply athen_normal)) | ((with_reducible apply awp_region)) | ((with_reducible apply al_nil)) | ((with_reducible apply awp_skip)) | ((with_reducible apply awp_block)) | ((with_reducible apply ablock_normal)) | ((with_reducible apply awp_cond_1); exact rfl; (first | assumption | exact decide_eq_true (by omega) | (simp only [Bool.not_eq_true', decide_eq_false_iff_not, decide_eq_true_eq, Bool.not_eq_false']; (first | done | omega)))) | ((with_reducible apply awp_cond_0); exact rfl; (first | assumption | exact decide_eq_false (by omega) | (simp only [Bool.not_eq_true', decide_eq_false_iff_not, decide_eq_true_eq, Bool.not_eq_false']; (first | done | omega))))))
    exact ⟨l.length - (k + 1), _, [], by omega, ⟨k + 1, ki + 1, by omega, rfl, by omega, rfl, rfl⟩, rfl, ⟨rfl, rfl, rfl, rfl, rfl, trivial⟩, trivial, rfl⟩
  · have q2 : ¬ ki < (l.length : Int) := by omega
    (repeat (first | ((with_reducible apply al_q); exact rfl) | ((with_reducible apply awp_seq)) | ((with_reducible apply athen_normal)) | ((with_reducible apply awp_region)) | ((with_reducible apply al_nil)) | ((with_reducible apply awp_ret)) | ((with_reducible apply ablock_same)) | ((with_reducible apply awp_exit)) | ((with_reducible apply athen_exit)) | ((with_reducible apply awp_cond_0); exact rfl; (first | assumption | exact decide_eq_false (by omega) | (simp only [Bool.not_eq_true', decide_eq_false_iff_not, decide_eq_true_eq, Bool.not_eq_false']; (first | done | omega))))))
    (first | (refine apost_ret rfl (resl_tmp rfl resl_nil) ?_))
    exact AV.Le.refl _
end Go.Proofs.Ytaennpehlhgggaa

namespace Go.Proofs.Ytaennpehlhgggaa
open Go.RowKit
set_option linter.unusedVariables false
set_option linter.unusedSimpArgs false
/-- told by a value, or by a pointer into a block that is held with it. -/
def AC.plainB : AC → Bool
  | .p _ => false
  | _ => true
def plainM (m : Mem) (R : Rws) : Prop := (∀ k cs, m k = some cs → cs.all AC.plainB = true) ∧ ∀ i r, R i = some r → 0 < r.sz ∧ r.ys.all AC.plainB = true
theorem RpL.plain {U U' : Nat → Prop} {ρ : Nat → Nat} {W W' : World} {xs : List AC} {vs : List Value} (h : RpL U ρ W xs vs) (hp : xs.all AC.plainB = true) : RpL U' ρ W' xs vs := by
  refine ⟨h.1, fun i x v hx hv => ?_⟩
  have h1 := h.2 i x v hx hv
  have h2 := List.all_eq_true.1 hp x (List.mem_of_getElem? hx)
  cases x with
  | c u => exact h1
  | own k o => exact h1
  | p S => cases h2
theorem HRow.ok.plain {U U' : Nat → Prop} {ρ : Nat → Nat} {W : World} {r : HRow} (h : r.ok U ρ W) (hs : 0 < r.sz) (hp : r.ys.all AC.plainB = true) : r.ok U' ρ W := by
  obtain ⟨xs, h1, h2⟩ := h.row hs
  exact .inl ⟨hs, xs, h1, h2.plain hp⟩
abbrev ptrO (b off : Nat) : Value := .pointer (some ⟨b, off, none⟩)
abbrev ptrV (b : Nat) : Value := ptrO b 0
abbrev noU : Nat → Prop := fun _ => False
theorem HHeap.lt {U : Nat → Prop} {ρ : Nat → Nat} {W : World} {m : Mem} {R : Rws} (h : HHeap U ρ W m R) {b : Nat} (hb : HotAt ρ m R b) : b < W.heap.size := by
  rcases hb with ⟨k, cs, hk, rfl⟩ | ⟨i, r, hi, hg⟩
  · obtain ⟨vs, ty, h1, _⟩ := h.mm k cs hk
    exact (Array.getElem?_eq_some_iff.1 h1).1
  · exact (h.rows i r hi).1.lt hg
/-- these blocks and rows, as they are, with nothing else that they hang on. -/
def thingSP (ρ : Nat → Nat) (m : Mem) (R : Rws) (k : Nat) : SP where
  holds w v := v = ptrV (ρ k) ∧ HHeap noU ρ w m R ∧ plainM m R
  foot w v b := HotAt ρ m R b
  frame := by
    rintro w w' v ⟨rfl, h, hp⟩ hf
    refine ⟨⟨rfl, ⟨fun j cs hj => ?_, h.mo, h.inj, fun i r hi => ?_, h.apart⟩, hp⟩, fun b hb => hb⟩
    · obtain ⟨vs, ty, h1, h2, h3⟩ := h.mm j cs hj
      exact ⟨vs, ty, by rw [hf _ (.inl ⟨j, cs, hj, rfl⟩)]; exact h1, h2.plain (hp.1 j cs hj), h3⟩
    · obtain ⟨h1, h2, h3⟩ := h.rows i r hi
      obtain ⟨xs, g1, g2⟩ := h1.row (hp.2 i r hi).1
      exact ⟨.inl ⟨(hp.2 i r hi).1, xs, ownsRow_kept g1 fun g q => hf g (.inr ⟨i, r, hi, .inl q⟩), g2.plain (hp.2 i r hi).2⟩, h2, h3⟩
  old := fun w v b ⟨_, h, _⟩ hb => h.lt hb
  cell := fun w v ⟨e, _⟩ => by rw [e]; rfl
/-- such a thing, held beside a state's rows. -/
def obRow (ρ : Nat → Nat) (m : Mem) (R : Rws) (k : Nat) : HRow := ⟨0, 0, ptrV (ρ k), 0, [.p (thingSP ρ m R k)]⟩
theorem obRow_own {ρ : Nat → Nat} {m : Mem} {R : Rws} {k : Nat} {W : World} (h : HHeap noU ρ W m R) (hp : plainM m R) {b : Nat} : (obRow ρ m R k).own b ↔ HotAt ρ m R b := by
  constructor
  · rintro (h1 | ⟨_, S, w, h1, h2, h3⟩)
    · cases h1
    · cases h1; exact h3
  · exact fun h1 => .inr ⟨rfl, thingSP ρ m R k, W, rfl, ⟨rfl, h, hp⟩, h1⟩
theorem obRow_own_of {ρ : Nat → Nat} {m : Mem} {R : Rws} {k : Nat} {b : Nat} (h : (obRow ρ m R k).own b) : HotAt ρ m R b := by
  rcases h with h1 | ⟨_, S, w, h1, h2, h3⟩
  · cases h1
  · cases h1; exact h3
theorem obRow_ok {U : Nat → Prop} {ρ ρ' : Nat → Nat} {m : Mem} {R : Rws} {k : Nat} {W : World} (h : HHeap noU ρ W m R) (hp : plainM m R) : (obRow ρ m R k).ok U ρ' W :=
  .inr ⟨rfl, rfl, rfl, ⟨_, rfl, rfl, h, hp⟩, fun b hb => h.lt (obRow_own_of hb)⟩
theorem obRow_heap {U : Nat → Prop} {ρ ρ' : Nat → Nat} {m : Mem} {R : Rws} {k : Nat} {W : World} (h : (obRow ρ m R k).ok U ρ' W) : HHeap noU ρ W m R ∧ plainM m R := by
  rcases h with ⟨h1, _⟩ | ⟨_, _, _, ⟨S, hS, hh⟩, _⟩
  · cases h1
  · cases hS; exact hh.2
/-- part of what is held, alone. -/
theorem HHeap.sub {U : Nat → Prop} {ρ : Nat → Nat} {W : World} {m m1 : Mem} {R R1 : Rws} (h : HHeap U ρ W m R) (hm : ∀ k cs, m1 k = some cs → m k = some cs) (hr : RLe R1 R) (mo : ∀ k cs x j, m1 k = some cs → x ∈ cs → x.owns j → ∃ cs', m1 j = some cs') : HHeap U ρ W m1 R1 := by
  refine ⟨fun k cs hk => h.mm k cs (hm k cs hk), mo, fun k k' cs cs' hk hk' => h.inj k k' cs cs' (hm k cs hk) (hm k' cs' hk'), fun i r hi => ?_, fun i j r q hi hj => h.apart i j r q (hr i r hi) (hr j q hj)⟩
  obtain ⟨h1, h2, h3⟩ := h.rows i r (hr i r hi)
  exact ⟨h1, h2, fun g hg => ⟨(h3 g hg).1, fun k cs hk => (h3 g hg).2 k cs (hm k cs hk)⟩⟩
theorem HHeap.none {U : Nat → Prop} {ρ : Nat → Nat} {W : World} {m : Mem} {R : Rws} (h : HHeap U ρ W m R) (hp : plainM m R) : HHeap noU ρ W m R := by
  refine ⟨fun k cs hk => ?_, h.mo, h.inj, fun i r hi => ?_, h.apart⟩
  · obtain ⟨vs, ty, h1, h2, _⟩ := h.mm k cs hk
    exact ⟨vs, ty, h1, h2.plain (hp.1 k cs hk), id⟩
  · obtain ⟨h1, h2, h3⟩ := h.rows i r hi
    exact ⟨h1.plain (hp.2 i r hi).1 (hp.2 i r hi).2, h2, fun g hg => ⟨id, (h3 g hg).2⟩⟩
theorem HHeap.more {U : Nat → Prop} {ρ : Nat → Nat} {W : World} {m : Mem} {R : Rws} (h : HHeap noU ρ W m R) (hp : plainM m R) (hU : ∀ b, HotAt ρ m R b → ¬ U b) : HHeap U ρ W m R := by
  refine ⟨fun k cs hk => ?_, h.mo, h.inj, fun i r hi => ?_, h.apart⟩
  · obtain ⟨vs, ty, h1, h2, _⟩ := h.mm k cs hk
    exact ⟨vs, ty, h1, h2.plain (hp.1 k cs hk), hU _ (.inl ⟨k, cs, hk, rfl⟩)⟩
  · obtain ⟨h1, h2, h3⟩ := h.rows i r hi
    exact ⟨h1.plain (hp.2 i r hi).1 (hp.2 i r hi).2, h2, fun g hg => ⟨hU g (.inr ⟨i, r, hi, hg⟩), (h3 g hg).2⟩⟩
theorem HHeap.notU {U : Nat → Prop} {ρ : Nat → Nat} {W : World} {m : Mem} {R : Rws} (h : HHeap U ρ W m R) {b : Nat} (hb : HotAt ρ m R b) : ¬ U b := by
  rcases hb with ⟨k, cs, hk, rfl⟩ | ⟨i, r, hi, hg⟩
  · exact (h.mm k cs hk).choose_spec.choose_spec.2.2
  · exact ((h.rows i r hi).2.2 b hg).1
/-- two parts that have no name in common have no block in common. -/
theorem HHeap.split {U : Nat → Prop} {ρ : Nat → Nat} {W : World} {m m1 m2 : Mem} {R R1 R2 : Rws} (h : HHeap U ρ W m R) (h1 : ∀ k cs, m1 k = some cs → m k = some cs) (h2 : ∀ k cs, m2 k = some cs → m k = some cs) (r1 : RLe R1 R) (r2 : RLe R2 R) (dm : ∀ k cs cs', m1 k = some cs → m2 k = some cs' → False) (dr : ∀ i r q, R1 i = some r → R2 i = some q → False) {b : Nat} (hb : HotAt ρ m1 R1 b) : ¬ HotAt ρ m2 R2 b := by
  rintro (⟨j, ds, hj, e⟩ | ⟨j, q, hj, hq⟩)
  · rcases hb with ⟨k, cs, hk, rfl⟩ | ⟨i, r, hi, hg⟩
    · have := h.inj j k _ _ (h2 j ds hj) (h1 k cs hk) e
      subst this
      exact dm j cs ds hk hj
    · exact ((h.rows i r (r1 i r hi)).2.2 b hg).2 j ds (h2 j ds hj) e
  · rcases hb with ⟨k, cs, hk, rfl⟩ | ⟨i, r, hi, hg⟩
    · exact ((h.rows j q (r2 j q hj)).2.2 _ hq).2 k cs (h1 k cs hk) rfl
    · by_cases e : i = j
      · subst e; exact dr i r q hi hj
      · exact h.apart i j r q (r1 i r hi) (r2 j q hj) e b hg hq
/-- a thing that stands at p, and is what S says. -/
abbrev ob (p : Value) (S : SP) : HRow := ⟨0, 0, p, 0, [.p S]⟩
/-- a method of such a thing. -/
def ThCall (P : Program) (f : FuncId) (args : List AV) (p : Value) (S : SP) (post : AV → SP → Prop) : Prop := ∀ i, HCall P f args noMem (row1 i (ob p S)) fun v m' R' => ∃ S', m' = noMem ∧ R' = row1 i (ob p S') ∧ post v S'
/-- one that makes a row, too. -/
def ThCall2 (P : Program) (f : FuncId) (args : List AV) (p : Value) (S : SP) (post : AV → SP → HRow → Prop) : Prop := ∀ i j, i ≠ j → HCall P f args noMem (row1 i (ob p S)) fun v m' R' => ∃ S' q, m' = noMem ∧ R' = upd (row1 i (ob p S')) j q ∧ 0 < q.sz ∧ post v S' q
/-- one that makes another thing. -/
def ThCall3 (P : Program) (f : FuncId) (args : List AV) (p : Value) (S : SP) (post : SP → Value → SP → Prop) : Prop := ∀ i j, i ≠ j → HCall P f args noMem (row1 i (ob p S)) fun v m' R' => ∃ S' p2 S2, m' = noMem ∧ R' = upd (row1 i (ob p S')) j (ob p2 S2) ∧ v = vC p2 ∧ post S' p2 S2
/-- a function that makes such a thing. -/
def ThNew (P : Program) (f : FuncId) (args : List AV) (post : Value → SP → Prop) : Prop := ∀ i, HCall P f args noMem noRows fun v m' R' => ∃ p S, m' = noMem ∧ R' = row1 i (ob p S) ∧ v = vC p ∧ post p S
theorem ptr_own {U : Nat → Prop} {ρ : Nat → Nat} {W : World} {k off : Nat} {v : Value} (h : v = ptrO (ρ k) off) : RpV U ρ W (.w (.one (.own k off))) v := by subst h; rfl
theorem RpVs.closed {U : Nat → Prop} {ρ ρ' : Nat → Nat} {W : World} {args : List AV} {vs : List Value} (hc : args.all AV.closedB = true) (h : RpVs U ρ W args vs) : RpVs U ρ' W args vs :=
  ⟨h.1, fun i x v hx hv => (h.2 i x v hx hv).map (fun b hb _ => ⟨hb, rfl⟩) fun j hj => absurd hj (AV.closed_of (List.all_eq_true.1 hc x (List.mem_of_getElem? hx)) j)⟩
/-- what is told of a thing's parts, beside those of others: the world's side. Each of the things Ts holds its own names. -/
theorem ob_own {ρ : Nat → Nat} {m : Mem} {R : Rws} {k : Nat} {b : Nat} (h : (ob (ptrV (ρ k)) (thingSP ρ m R k)).own b) : HotAt ρ m R b := obRow_own_of h
/-- a call on a thing's own blocks and rows, seen from without: what comes is told by whatever is made of it (R2), of which each block is one of those that are held then. -/
theorem th_raw {P : Program} {f : FuncId} {args : List AV} {ρ : Nat → Nat} {m : Mem} {R : Rws} {k off : Nat} {Post : AV → Mem → Rws → Prop} {Post2 : AV → Mem → Rws → Prop} (hk : ∃ cs, m k = some cs) (hac : args.all AV.closedB = true) (hc : HCall P f (.w (.one (.own k off)) :: args) m R Post) (i : Nat)
    (hp : ∀ r m1 R1 ρ1 U1 W1 v, Post r m1 R1 → ρ1 k = ρ k → HHeap U1 ρ1 W1 m1 R1 → RpV U1 ρ1 W1 r v → ∃ r2 R2, Post2 r2 noMem R2 ∧ r2.closedB = true ∧ RpV U1 ρ1 W1 r2 v ∧ HHeap U1 ρ1 W1 noMem R2 ∧ (∃ q, R2 i = some q) ∧ ∀ b, HotAt ρ1 noMem R2 b → HotAt ρ1 m1 R1 b) : HCall P f (vC (ptrO (ρ k) off) :: args) noMem (row1 i (ob (ptrV (ρ k)) (thingSP ρ m R k))) Post2 := by
  refine ⟨fun U ρ0 W vs hH hown hvs => ?_⟩
  have hi : row1 i (ob (ptrV (ρ k)) (thingSP ρ m R k)) i = some (ob (ptrV (ρ k)) (thingSP ρ m R k)) := by unfold row1; exact upd_same _ _ _
  obtain ⟨hok, _, hnu⟩ := hH.rows i _ hi
  obtain ⟨hh, hpl⟩ := obRow_heap hok
  have hat : ∀ b, HotAt ρ0 noMem (row1 i (ob (ptrV (ρ k)) (thingSP ρ m R k))) b ↔ HotAt ρ m R b := fun b => by
    constructor
    · rintro (⟨j, cs, hj, _⟩ | ⟨j, q, hj, hg⟩)
      · cases hj
      · obtain ⟨rfl, rfl⟩ := row1_iff hj; exact ob_own hg
    · exact fun h => .inr ⟨i, _, hi, (obRow_own hh hpl).2 h⟩
  have hU : ∀ b, HotAt ρ m R b → ¬ U b := fun b hb => (hnu b ((obRow_own hh hpl).2 hb)).1
  obtain ⟨hlen, hv⟩ := hvs
  match vs, hlen with
  | v0 :: vs, hlen =>
    have hv0 : v0 = ptrO (ρ k) off := (hv 0 _ v0 rfl rfl).1
    have hrest : RpVs U ρ W args vs := RpVs.closed hac ⟨by simpa using hlen, fun j x v hx hv' => hv (j + 1) x v hx hv'⟩
    refine (hc.call U ρ W (v0 :: vs) (hh.more hpl hU) (fun x hx j hj => ?_) ⟨hlen, fun j x v hx hv' => ?_⟩).mono ?_
    · rcases List.mem_cons.1 hx with rfl | hx
      · obtain ⟨y, hy, hj⟩ := hj
        simp [AW.cells] at hy
        subst hy
        cases hj
        exact hk
      · exact absurd hj (AV.closed_of (List.all_eq_true.1 hac x hx) j)
    · match j with
      | 0 => cases hx; cases hv'; exact ptr_own hv0
      | j + 1 => exact hrest.2 j x v hx hv'
    · rintro e W' ⟨v, r, m1, R1, ρ1, U1, rfl, hpost, hH1, hrv, hro, k1, k2, u1, u2, hb⟩
      have hρ : ρ1 k = ρ k := by obtain ⟨cs, h⟩ := hk; exact (k1 k cs h).1
      obtain ⟨r2, R2, q1, q2, q3, q4, q5, q6⟩ := hp r m1 R1 ρ1 U1 W' v hpost hρ hH1 hrv
      refine ⟨v, r2, noMem, R2, ρ1, U1, rfl, q1, q4, q3, fun j hj => absurd hj (AV.closed_of q2 j), fun k cs hk => (by cases hk), fun j q hj => ?_, fun b hb => ?_, fun b hb => ?_, ⟨hb.os, hb.tape, hb.output, hb.size, fun b hf => hb.block b ⟨hf.1, fun hh' => hf.2 ((hat b).2 hh')⟩⟩⟩
      · obtain ⟨rfl, rfl⟩ := row1_iff hj
        exact q5
      · rcases u1 b hb with q | q | q
        · exact .inl q
        · exact .inr (.inl q)
        · exact .inr (.inr ((hat b).2 q))
      · rcases u2 b (q6 b hb) with q | q
        · exact .inl ((hat b).2 q)
        · exact .inr q
theorem ob_rows {U : Nat → Prop} {ρ ρ' : Nat → Nat} {W : World} {m m1 : Mem} {R R1 : Rws} {k : Nat} (h : HHeap U ρ W m R) (hm : ∀ k cs, m1 k = some cs → m k = some cs) (hr : RLe R1 R) (mo : ∀ k cs x j, m1 k = some cs → x ∈ cs → x.owns j → ∃ cs', m1 j = some cs') (hp : plainM m1 R1) :
    (ob (ptrV (ρ k)) (thingSP ρ m1 R1 k)).ok U ρ' W ∧ (∀ y ∈ (ob (ptrV (ρ k)) (thingSP ρ m1 R1 k)).ys, y.closedB = true) ∧ ∀ g, (ob (ptrV (ρ k)) (thingSP ρ m1 R1 k)).own g → ¬ U g ∧ ∀ j cs, noMem j = some cs → ρ' j ≠ g :=
  ⟨obRow_ok ((h.sub hm hr mo).none hp) hp, fun y hy => by simp at hy; subst hy; rfl, fun g hg => ⟨(h.sub hm hr mo).notU (ob_own hg), fun j cs hj => (by cases hj)⟩⟩
/-- what a call on a thing's own blocks and rows tells, told of the thing. -/
theorem th_of {P : Program} {f : FuncId} {args : List AV} {ρ : Nat → Nat} {m : Mem} {R : Rws} {k off : Nat} {Post : AV → Mem → Rws → Prop} {post : AV → SP → Prop} (hk : ∃ cs, m k = some cs) (hac : args.all AV.closedB = true) (hc : HCall P f (.w (.one (.own k off)) :: args) m R Post)
    (hp : ∀ v m1 R1, Post v m1 R1 → v.closedB = true ∧ plainM m1 R1 ∧ ∀ ρ1, ρ1 k = ρ k → post v (thingSP ρ1 m1 R1 k)) : ThCall P f (vC (ptrO (ρ k) off) :: args) (ptrV (ρ k)) (thingSP ρ m R k) post := by
  intro i
  refine th_raw hk hac hc i fun r m1 R1 ρ1 U1 W1 v hpost hρ hH hrv => ?_
  obtain ⟨c1, c2, c3⟩ := hp _ _ _ hpost
  have hb := ob_rows (ρ' := ρ1) (k := k) hH (fun _ _ h => h) (RLe.refl _) hH.mo c2
  refine ⟨r, row1 i (ob (ptrV (ρ k)) (thingSP ρ1 m1 R1 k)), ⟨_, rfl, rfl, c3 ρ1 hρ⟩, c1, hrv, ⟨fun k cs hk => (by cases hk), fun k cs x j hk => (by cases hk), fun k k' cs cs' hk => (by cases hk), fun j q hj => ?_, fun j j' q q' hj hj' hne => ?_⟩, ⟨_, by unfold row1; exact upd_same _ _ _⟩, ?_⟩
  · obtain ⟨rfl, rfl⟩ := row1_iff hj
    rw [← hρ]; exact hb
  · obtain ⟨rfl, _⟩ := row1_iff hj
    obtain ⟨rfl, _⟩ := row1_iff hj'
    exact absurd rfl hne
  · rintro b (⟨j, cs, hj, _⟩ | ⟨j, q, hj, hg⟩)
    · cases hj
    · obtain ⟨rfl, rfl⟩ := row1_iff hj
      rw [← hρ] at hg
      exact ob_own hg
theorem upd_row1 {i j : Nat} {r q : HRow} {x : Nat} {p : HRow} (h : upd (row1 i r) j q x = some p) : (x = j ∧ p = q) ∨ (x = i ∧ p = r) := by
  by_cases e : x = j
  · subst e; rw [upd_same] at h; cases h; exact .inl ⟨rfl, rfl⟩
  · rw [upd_ne _ _ e] at h; exact .inr (row1_iff h)
/-- .. and of a row that is made. -/
theorem th_row {P : Program} {f : FuncId} {args : List AV} {ρ : Nat → Nat} {m : Mem} {R : Rws} {k off : Nat} {Post : AV → Mem → Rws → Prop} {post : AV → SP → HRow → Prop} (hk : ∃ cs, m k = some cs) (hac : args.all AV.closedB = true) (hc : HCall P f (.w (.one (.own k off)) :: args) m R Post)
    (hp : ∀ v m1 R', Post v m1 R' → ∃ R1 n q, v.closedB = true ∧ RLe R1 R' ∧ R1 n = none ∧ R' n = some q ∧ 0 < q.sz ∧ plainM m1 R1 ∧ ∀ ρ1, ρ1 k = ρ k → post v (thingSP ρ1 m1 R1 k) q) : ThCall2 P f (vC (ptrO (ρ k) off) :: args) (ptrV (ρ k)) (thingSP ρ m R k) post := by
  intro i j hij
  refine th_raw hk hac hc i fun r m1 R' ρ1 U1 W1 v hpost hρ hH hrv => ?_
  obtain ⟨R1, n, q, c1, hle, hn, hq, hqz, c2, c3⟩ := hp _ _ _ hpost
  have hb := ob_rows (ρ' := ρ1) (k := k) hH (fun _ _ h => h) hle hH.mo c2
  have hap : ∀ g, (ob (ptrV (ρ1 k)) (thingSP ρ1 m1 R1 k)).own g → ¬ q.own g := fun g hg hg' =>
    hH.split (m1 := m1) (R1 := R1) (m2 := noMem) (R2 := row1 n q) (fun _ _ h => h) (fun _ _ h => by cases h) hle (rle1 hq) (fun _ _ _ _ h => by cases h) (fun x r' q' h1 h2 => by obtain ⟨rfl, rfl⟩ := row1_iff h2; rw [hn] at h1; cases h1) (ob_own hg) (.inr ⟨n, q, by unfold row1; exact upd_same _ _ _, hg'⟩)
  rw [hρ] at hb hap
  have hqr := hH.rows n q hq
  refine ⟨r, upd (row1 i (ob (ptrV (ρ k)) (thingSP ρ1 m1 R1 k))) j q, ⟨_, q, rfl, rfl, hqz, c3 ρ1 hρ⟩, c1, hrv, ⟨fun k cs hk => (by cases hk), fun k cs x j hk => (by cases hk), fun k k' cs cs' hk => (by cases hk), fun x p hx => ?_, fun x y p p' hx hy hne g hg hg' => ?_⟩, ⟨_, by rw [upd_ne _ _ hij]; unfold row1; exact upd_same _ _ _⟩, ?_⟩
  · rcases upd_row1 hx with ⟨rfl, rfl⟩ | ⟨rfl, rfl⟩
    · exact ⟨hqr.1, hqr.2.1, fun g hg => ⟨(hqr.2.2 g hg).1, fun j cs hj => (by cases hj)⟩⟩
    · exact hb
  · rcases upd_row1 hx with ⟨rfl, rfl⟩ | ⟨rfl, rfl⟩
    · rcases upd_row1 hy with ⟨rfl, rfl⟩ | ⟨rfl, rfl⟩
      · exact hne rfl
      · exact hap g hg' hg
    · rcases upd_row1 hy with ⟨rfl, rfl⟩ | ⟨rfl, rfl⟩
      · exact hap g hg hg'
      · exact hne rfl
  · rintro b (⟨x, cs, hx, _⟩ | ⟨x, p, hx, hg⟩)
    · cases hx
    · rcases upd_row1 hx with ⟨rfl, rfl⟩ | ⟨rfl, rfl⟩
      · exact .inr ⟨n, p, hq, hg⟩
      · rw [← hρ] at hg
        rcases ob_own hg with ⟨k', cs, h1, h2⟩ | ⟨i', r', h1, h2⟩
        · exact .inl ⟨k', cs, h1, h2⟩
        · exact .inr ⟨i', r', hle _ _ h1, h2⟩
/-- .. and of another thing that is made. -/
theorem th_two {P : Program} {f : FuncId} {args : List AV} {ρ : Nat → Nat} {m : Mem} {R : Rws} {k off : Nat} {Post : AV → Mem → Rws → Prop} {post : SP → Value → SP → Prop} (hk : ∃ cs, m k = some cs) (hac : args.all AV.closedB = true) (hc : HCall P f (.w (.one (.own k off)) :: args) m R Post)
    (hp : ∀ v m' R', Post v m' R' → ∃ m1 R1 m2 R2 k2, v = .w (.one (.own k2 0)) ∧ (∀ k cs, m1 k = some cs → m' k = some cs) ∧ (∀ k cs, m2 k = some cs → m' k = some cs) ∧ RLe R1 R' ∧ RLe R2 R' ∧ (∀ k cs cs', m1 k = some cs → m2 k = some cs' → False) ∧ (∀ i r q, R1 i = some r → R2 i = some q → False) ∧
      (∀ k cs x j, m1 k = some cs → x ∈ cs → x.owns j → ∃ cs', m1 j = some cs') ∧ (∀ k cs x j, m2 k = some cs → x ∈ cs → x.owns j → ∃ cs', m2 j = some cs') ∧ plainM m1 R1 ∧ plainM m2 R2 ∧ ∀ ρ1, ρ1 k = ρ k → post (thingSP ρ1 m1 R1 k) (ptrV (ρ1 k2)) (thingSP ρ1 m2 R2 k2)) : ThCall3 P f (vC (ptrO (ρ k) off) :: args) (ptrV (ρ k)) (thingSP ρ m R k) post := by
  intro i j hij
  refine th_raw hk hac hc i fun r m' R' ρ1 U1 W1 v hpost hρ hH hrv => ?_
  obtain ⟨m1, R1, m2, R2, k2, rfl, s1, s2, l1, l2, dm, dr, o1, o2, p1, p2, c3⟩ := hp _ _ _ hpost
  have hb := ob_rows (ρ' := ρ1) (k := k) hH s1 l1 o1 p1
  have hb2 := ob_rows (ρ' := ρ1) (k := k2) hH s2 l2 o2 p2
  have hap : ∀ g, (ob (ptrV (ρ1 k)) (thingSP ρ1 m1 R1 k)).own g → ¬ (ob (ptrV (ρ1 k2)) (thingSP ρ1 m2 R2 k2)).own g := fun g hg hg' => hH.split s1 s2 l1 l2 dm dr (ob_own hg) (ob_own hg')
  rw [hρ] at hb hap
  have hv : v = ptrV (ρ1 k2) := hrv
  refine ⟨vC (ptrV (ρ1 k2)), upd (row1 i (ob (ptrV (ρ k)) (thingSP ρ1 m1 R1 k))) j (ob (ptrV (ρ1 k2)) (thingSP ρ1 m2 R2 k2)), ⟨_, _, _, rfl, rfl, rfl, c3 ρ1 hρ⟩, rfl, ⟨hv, rfl⟩, ⟨fun k cs hk => (by cases hk), fun k cs x j hk => (by cases hk), fun k k' cs cs' hk => (by cases hk), fun x p hx => ?_, fun x y p p' hx hy hne g hg hg' => ?_⟩, ⟨_, by rw [upd_ne _ _ hij]; unfold row1; exact upd_same _ _ _⟩, ?_⟩
  · rcases upd_row1 hx with ⟨rfl, rfl⟩ | ⟨rfl, rfl⟩
    · exact hb2
    · exact hb
  · rcases upd_row1 hx with ⟨rfl, rfl⟩ | ⟨rfl, rfl⟩
    · rcases upd_row1 hy with ⟨rfl, rfl⟩ | ⟨rfl, rfl⟩
      · exact hne rfl
      · exact hap g hg' hg
    · rcases upd_row1 hy with ⟨rfl, rfl⟩ | ⟨rfl, rfl⟩
      · exact hap g hg hg'
      · exact hne rfl
  · rintro b (⟨x, cs, hx, _⟩ | ⟨x, p, hx, hg⟩)
    · cases hx
    · rcases upd_row1 hx with ⟨rfl, rfl⟩ | ⟨rfl, rfl⟩
      · rcases ob_own hg with ⟨k', cs, h1, h2⟩ | ⟨i', r', h1, h2⟩
        · exact .inl ⟨k', cs, s2 _ _ h1, h2⟩
        · exact .inr ⟨i', r', l2 _ _ h1, h2⟩
      · rw [← hρ] at hg
        rcases ob_own hg with ⟨k', cs, h1, h2⟩ | ⟨i', r', h1, h2⟩
        · exact .inl ⟨k', cs, s1 _ _ h1, h2⟩
        · exact .inr ⟨i', r', l1 _ _ h1, h2⟩
/-- .. and of a function that makes one. -/
theorem th_new {P : Program} {f : FuncId} {args : List AV} {Post : AV → Mem → Rws → Prop} {post : Value → SP → Prop} (hc : HCall P f args noMem noRows Post)
    (hp : ∀ v m1 R1, Post v m1 R1 → ∃ k, v = .w (.one (.own k 0)) ∧ plainM m1 R1 ∧ ∀ ρ1, post (ptrV (ρ1 k)) (thingSP ρ1 m1 R1 k)) : ThNew P f args post := by
  intro i
  refine ⟨fun U ρ W vs hH hown hvs => (hc.call U ρ W vs hH hown hvs).mono ?_⟩
  rintro e W' ⟨v, r, m1, R1, ρ1, U1, rfl, hpost, hH1, hrv, hro, k1, k2, u1, u2, hb⟩
  obtain ⟨k, rfl, c2, c3⟩ := hp _ _ _ hpost
  have hbb := ob_rows (ρ' := ρ1) (k := k) hH1 (fun _ _ h => h) (RLe.refl _) hH1.mo c2
  have hv : v = ptrV (ρ1 k) := hrv
  refine ⟨v, vC (ptrV (ρ1 k)), noMem, row1 i (ob (ptrV (ρ1 k)) (thingSP ρ1 m1 R1 k)), ρ1, U1, rfl, ⟨_, _, rfl, rfl, rfl, c3 ρ1⟩, ⟨fun k cs hk => (by cases hk), fun k cs x j hk => (by cases hk), fun k k' cs cs' hk => (by cases hk), fun j q hj => ?_, fun j j' q q' hj hj' hne => ?_⟩, ⟨hv, rfl⟩, fun j hj => absurd hj (noown _ j), fun k cs hk => (by cases hk), fun j q hj => (by cases hj), u1, fun b hb => ?_, hb⟩
  · obtain ⟨rfl, rfl⟩ := row1_iff hj
    exact hbb
  · obtain ⟨rfl, _⟩ := row1_iff hj
    obtain ⟨rfl, _⟩ := row1_iff hj'
    exact absurd rfl hne
  · rcases hb with ⟨j, cs, hj, _⟩ | ⟨j, q, hj, hg⟩
    · cases hj
    · obtain ⟨rfl, rfl⟩ := row1_iff hj
      exact u2 b (ob_own hg)
section
variable {P : Program} {R : Rws} {s : AS} {ops : Array Oper} {dr : Option (List Nat)} {ty : Nat} {pos : String} {after : Array Edge} {guard : Option (Nat × Bool)} {K : Rws → AS → Prop} {rest : List Oper}
/-- such calls in a walk. -/
theorem hs_t1 (i : Nat) {dst : Option Nat} {f : FuncId} {g : Operand} {ts : Array TypeId} {l : List Operand} {args : List AV} {p : Value} {S : SP} {post : AV → SP → Prop} [E : Enters P f] (hw : want ops ⟨dst, .call ⟨.value g, l.toArray, ts⟩, ty, pos, after, guard⟩ s = some true) (hm : hotM dr ⟨dst, .call ⟨.value g, l.toArray, ts⟩, ty, pos, after, guard⟩ = true)
    (hg : s.look g = some (vC (.func (.func f) #[] #[]))) (ha : l.map s.look = args.map some) (hp : ThCall P f args p S post) (hi : R i = some (ob p S)) (hac : args.all AV.closedB = true) (hd : dstB dst s.n = true)
    (h : ∀ v S', post v S' → hList P ops dr K rest (upd R i (ob p S')) (s.put dst v)) : hList P ops dr K (⟨dst, .call ⟨.value g, l.toArray, ts⟩, ty, pos, after, guard⟩ :: rest) R s := by
  refine hs_h hw hm hg ha (hp i) (fun x hx j hj => absurd hj (AV.closed_of (List.all_eq_true.1 hac x hx) j)) (fun k' cs' h' => by cases h') (fun i' r' h' => ?_) (fun k' cs' x j h' hx hj => by cases h') hd ?_
  · obtain ⟨rfl, rfl⟩ := row1_iff h'; exact hi
  · rintro v m' R' ⟨S', rfl, rfl, hq⟩
    refine ⟨fun k' c h' => (by cases h'), ?_⟩
    rw [show ovr (row1 i (ob p S')) R = upd R i (ob p S') from ovr_upd R i _, over_noMem]
    exact h v S' hq
theorem ovr_two {R : Rws} {i j : Nat} (hij : i ≠ j) {r q : HRow} : ovr (upd (row1 i r) j q) R = upd (upd R i r) j q := by
  funext x
  unfold row1
  by_cases e : x = j
  · subst e; rw [upd_same]; exact ovr_l (upd_same _ _ _)
  · by_cases e2 : x = i
    · subst e2; rw [upd_ne _ _ e, upd_same]; exact ovr_l (by rw [upd_ne _ _ e, upd_same])
    · rw [upd_ne _ _ e, upd_ne _ _ e2]; exact ovr_r (by rw [upd_ne _ _ e, upd_ne _ _ e2]; rfl)
theorem hs_t2 (i j : Nat) (hij : i ≠ j) {dst : Option Nat} {f : FuncId} {g : Operand} {ts : Array TypeId} {l : List Operand} {args : List AV} {p : Value} {S : SP} {post : AV → SP → HRow → Prop} [E : Enters P f] (hw : want ops ⟨dst, .call ⟨.value g, l.toArray, ts⟩, ty, pos, after, guard⟩ s = some true) (hm : hotM dr ⟨dst, .call ⟨.value g, l.toArray, ts⟩, ty, pos, after, guard⟩ = true)
    (hg : s.look g = some (vC (.func (.func f) #[] #[]))) (ha : l.map s.look = args.map some) (hp : ThCall2 P f args p S post) (hi : R i = some (ob p S)) (hac : args.all AV.closedB = true) (hd : dstB dst s.n = true)
    (h : ∀ v S' q, post v S' q → hList P ops dr K rest (upd (upd R i (ob p S')) j q) (s.put dst v)) : hList P ops dr K (⟨dst, .call ⟨.value g, l.toArray, ts⟩, ty, pos, after, guard⟩ :: rest) R s := by
  refine hs_h hw hm hg ha (hp i j hij) (fun x hx j hj => absurd hj (AV.closed_of (List.all_eq_true.1 hac x hx) j)) (fun k' cs' h' => by cases h') (fun i' r' h' => ?_) (fun k' cs' x j h' hx hj => by cases h') hd ?_
  · obtain ⟨rfl, rfl⟩ := row1_iff h'; exact hi
  · rintro v m' R' ⟨S', q, rfl, rfl, _, hq⟩
    refine ⟨fun k' c h' => (by cases h'), ?_⟩
    rw [ovr_two hij, over_noMem]
    exact h v S' q hq
/-- the row that is made is given up at once. -/
theorem hs_t2c (i j : Nat) (hij : i ≠ j) {d : Nat} {f : FuncId} {g : Operand} {ts : Array TypeId} {l : List Operand} {args : List AV} {p : Value} {S : SP} {post : AV → SP → HRow → Prop} [E : Enters P f] (hw : want ops ⟨some d, .call ⟨.value g, l.toArray, ts⟩, ty, pos, after, guard⟩ s = some true) (hm : hotM dr ⟨some d, .call ⟨.value g, l.toArray, ts⟩, ty, pos, after, guard⟩ = true)
    (hg : s.look g = some (vC (.func (.func f) #[] #[]))) (ha : l.map s.look = args.map some) (hp : ThCall2 P f args p S post) (hi : R i = some (ob p S)) (hac : args.all AV.closedB = true) (hd : Nat.blt d s.n = true)
    (h : ∀ v S' q, post v S' q → v = vC q.v ∧ hList P ops dr K rest (fun x => if x = j then none else upd R i (ob p S') x) (s.put (some d) (vS q.sz q.n q.ys))) : hList P ops dr K (⟨some d, .call ⟨.value g, l.toArray, ts⟩, ty, pos, after, guard⟩ :: rest) R s := by
  refine ⟨true, hw, dst_ok hd, .inr (.inr (.inr (.inr (.inr ⟨rfl, hm, f, args, noMem, row1 i (ob p S), _, ⟨⟨_, g, rfl, rfl, .inl ⟨[], hg, by simpa using ha, rfl⟩⟩, E.h⟩, hp i j hij, fun x hx j hj => absurd hj (AV.closed_of (List.all_eq_true.1 hac x hx) j), fun k' cs' h' => (by cases h'), fun i' r' h' => ?_, fun k' cs' x j h' => (by cases h'), ?_⟩))))⟩
  · obtain ⟨rfl, rfl⟩ := row1_iff h'; exact hi
  · rintro v m' R' ⟨S', q, rfl, rfl, hqz, hq⟩ _ _ _
    refine ⟨fun k' c h' => (by cases h'), ?_⟩
    obtain ⟨rfl, h'⟩ := h v S' q hq
    rw [ovr_two hij, over_noMem]
    refine ⟨j, d, q, rfl, upd_same _ _ _, hqz, upd_same _ _ _, by simpa [Nat.blt_eq, AS.put] using hd, ?_⟩
    have e1 : (fun x => if x = j then none else upd (upd R i (ob p S')) j q x) = fun x => if x = j then none else upd R i (ob p S') x := by
      funext x
      by_cases e : x = j
      · rw [if_pos e, if_pos e]
      · rw [if_neg e, if_neg e, upd_ne _ _ e]
    rw [e1, put_put]
    exact h'
theorem hs_t3 (i j : Nat) (hij : i ≠ j) {dst : Option Nat} {f : FuncId} {g : Operand} {ts : Array TypeId} {l : List Operand} {args : List AV} {p : Value} {S : SP} {post : SP → Value → SP → Prop} [E : Enters P f] (hw : want ops ⟨dst, .call ⟨.value g, l.toArray, ts⟩, ty, pos, after, guard⟩ s = some true) (hm : hotM dr ⟨dst, .call ⟨.value g, l.toArray, ts⟩, ty, pos, after, guard⟩ = true)
    (hg : s.look g = some (vC (.func (.func f) #[] #[]))) (ha : l.map s.look = args.map some) (hp : ThCall3 P f args p S post) (hi : R i = some (ob p S)) (hac : args.all AV.closedB = true) (hd : dstB dst s.n = true)
    (h : ∀ S' p2 S2, post S' p2 S2 → hList P ops dr K rest (upd (upd R i (ob p S')) j (ob p2 S2)) (s.put dst (vC p2))) : hList P ops dr K (⟨dst, .call ⟨.value g, l.toArray, ts⟩, ty, pos, after, guard⟩ :: rest) R s := by
  refine hs_h hw hm hg ha (hp i j hij) (fun x hx j hj => absurd hj (AV.closed_of (List.all_eq_true.1 hac x hx) j)) (fun k' cs' h' => by cases h') (fun i' r' h' => ?_) (fun k' cs' x j h' hx hj => by cases h') hd ?_
  · obtain ⟨rfl, rfl⟩ := row1_iff h'; exact hi
  · rintro v m' R' ⟨S', p2, S2, rfl, rfl, rfl, hq⟩
    refine ⟨fun k' c h' => (by cases h'), ?_⟩
    rw [ovr_two hij, over_noMem]
    exact h S' p2 S2 hq
theorem hs_tn (i : Nat) {dst : Option Nat} {f : FuncId} {g : Operand} {ts : Array TypeId} {l : List Operand} {args : List AV} {post : Value → SP → Prop} [E : Enters P f] (hw : want ops ⟨dst, .call ⟨.value g, l.toArray, ts⟩, ty, pos, after, guard⟩ s = some true) (hm : hotM dr ⟨dst, .call ⟨.value g, l.toArray, ts⟩, ty, pos, after, guard⟩ = true)
    (hg : s.look g = some (vC (.func (.func f) #[] #[]))) (ha : l.map s.look = args.map some) (hp : ThNew P f args post) (hac : args.all AV.closedB = true) (hd : dstB dst s.n = true)
    (h : ∀ p S, post p S → hList P ops dr K rest (upd R i (ob p S)) (s.put dst (vC p))) : hList P ops dr K (⟨dst, .call ⟨.value g, l.toArray, ts⟩, ty, pos, after, guard⟩ :: rest) R s := by
  refine hs_h hw hm hg ha (hp i) (fun x hx j hj => absurd hj (AV.closed_of (List.all_eq_true.1 hac x hx) j)) (fun k' cs' h' => by cases h') (fun i' r' h' => by cases h') (fun k' cs' x j h' hx hj => by cases h') hd ?_
  rintro v m' R' ⟨p, S, rfl, rfl, rfl, hq⟩
  refine ⟨fun k' c h' => (by cases h'), ?_⟩
  rw [show ovr (row1 i (ob p S)) R = upd R i (ob p S) from ovr_upd R i _, over_noMem]
  exact h p S hq
end
end Go.Proofs.Ytaennpehlhgggaa

namespace Go.Proofs.Ytaennpehlhgggaa
open Go.RowKit
set_option linter.unusedVariables false
set_option linter.unusedSimpArgs false
section
variable {P : Program} {s : AS} {ops : Array Oper} {K : AS → Prop} {rest : List Oper} {ty : Nat} {pos : String} {after : Array Edge} {guard : Option (Nat × Bool)} {d : Nat}
theorem al_nilckX {x : Operand} {b off : Nat} (hw : want ops ⟨some d, .nilCheck x, ty, pos, after, guard⟩ s = some true) (hx : s.look x = some (vC (ptrO b off))) (hd : Nat.blt d s.n = true) (h : aList P ops K rest (s.put (some d) (vC (ptrO b off)))) : aList P ops K (⟨some d, .nilCheck x, ty, pos, after, guard⟩ :: rest) s := by
  refine al_quiet hw ⟨fun _ _ h => (by cases h), fun y hy => ?_, fun U ρ W env he => ?_, fun j hj => absurd hj (noown _ j)⟩ hd h
  · simp [Op.operands] at hy
    subst hy
    exact ⟨_, hx⟩
  · have hv : env x = ptrO b off := (he x (by simp [Op.operands]) _ hx).1
    exact ⟨_, by simp only [execOp, hv]; rfl, rfl, rfl⟩
theorem al_fldX {x : Operand} {sty i b off fo : Nat} [F : FldOf P sty i fo] (hw : want ops ⟨some d, .fieldAddr sty x i, ty, pos, after, guard⟩ s = some true) (hx : s.look x = some (vC (ptrO b off))) (hd : Nat.blt d s.n = true) (h : aList P ops K rest (s.put (some d) (vC (ptrO b (off + fo))))) : aList P ops K (⟨some d, .fieldAddr sty x i, ty, pos, after, guard⟩ :: rest) s := by
  refine al_quiet (av := vC (ptrO b (off + fo))) hw ⟨fun _ _ h => (by cases h), fun y hy => ?_, fun U ρ W env he => ?_, fun j hj => absurd hj (noown _ j)⟩ hd h
  · simp [Op.operands] at hy
    subst hy
    exact ⟨_, hx⟩
  · have hp : env x = .pointer (some ⟨b, off, none⟩) := (he x (by simp [Op.operands]) _ hx).1
    have hF := F.h
    unfold fldOf at hF
    split at hF
    · rename_i fs hu
      cases hf : fs[i]? with
      | none => rw [hf] at hF; cases hF
      | some f =>
        rw [hf] at hF
        simp only [Option.bind_some] at hF
        cases hi : P.info? f.type with
        | none => rw [hi] at hF; cases hF
        | some t =>
          rw [hi] at hF
          simp only [Option.bind_some] at hF
          split at hF
          · cases hF
          · rename_i hne
            cases hF
            refine ⟨.pointer (some ⟨b, off + f.offset, none⟩), ?_, rfl, rfl⟩
            have hadd : (⟨b, off, none⟩ : Addr).add f.offset = ⟨b, off + f.offset, none⟩ := by unfold Addr.add; split <;> simp_all
            simp only [execOp, Instr.fieldAt, hp, Instr.sureAddr, Sem.run_bind, Sem.run_pure, Result.andThen_ok, run_underlying hu, hf, fieldPlace, run_sizeOf' hi, if_neg hne, hadd]
    · cases hF
theorem run_equalIn_nilp (n : Nat) {t e : TypeId} (hu : P.underlying t = some (.pointer e)) (a : Addr) (W : World) : (Op.equalIn (n + 1) t (.pointer (some a)) (.pointer none)).run P W = .ok false W := by
  simp [Op.equalIn, run_underlying hu]
theorem run_equal_nilp {t e : TypeId} (hu : P.underlying t = some (.pointer e)) (a : Addr) (W : World) : (Op.equal t (.pointer (some a)) (.pointer none)).run P W = .ok false W := run_equalIn_nilp 9999 hu a W
theorem run_eq_nilp {t e : TypeId} (hu : P.underlying t = some (.pointer e)) (a : Addr) (W : World) : (binOp .eql t (.pointer (some a)) (.pointer none)).run P W = .ok (.bool false) W := by
  simp only [binOp]
  simp [run_equal_nilp hu]
theorem guard_ptr {op : BinOp} {t : TypeId} {x y : Operand} {a : Option Addr} {v : Value} : eqGuard op t x y (.pointer a) v = pure () := by cases op <;> rfl
def isPtr (P : Program) (t : TypeId) : Bool := match P.underlying t with
  | some (.pointer _) => true
  | _ => false
theorem al_eqptr {t yt : Nat} {x : Operand} {b off : Nat} (hw : want ops ⟨some d, .binOp .eql t x (.const (.pointer none)) yt, ty, pos, after, guard⟩ s = some true) (hx : s.look x = some (vC (ptrO b off))) (hu : isPtr P t = true) (hd : Nat.blt d s.n = true) (h : aList P ops K rest (s.put (some d) (vB false))) : aList P ops K (⟨some d, .binOp .eql t x (.const (.pointer none)) yt, ty, pos, after, guard⟩ :: rest) s :=
  by
  obtain ⟨e, he⟩ : ∃ e, P.underlying t = some (.pointer e) := by
    unfold isPtr at hu
    split at hu
    · rename_i e he; exact ⟨e, he⟩
    · cases hu
  exact al_bin hw hx rfl rfl rfl (fun W => by rw [guard_ptr]; rfl) (fun W => run_eq_nilp he _ W) rfl hd h
end
section
variable {P : Program} {s : AS} {ops : Array Oper} {K : AS → Prop} {rest : List Oper} {ty : Nat} {pos : String} {after : Array Edge} {guard : Option (Nat × Bool)} {d : Nat}
theorem run_ne_nilp {t e : TypeId} (hu : P.underlying t = some (.pointer e)) (a : Addr) (W : World) : (binOp .neq t (.pointer (some a)) (.pointer none)).run P W = .ok (.bool true) W := by
  simp only [binOp]
  simp [run_equal_nilp hu]
theorem al_neptr {t yt : Nat} {x : Operand} {b off : Nat} (hw : want ops ⟨some d, .binOp .neq t x (.const (.pointer none)) yt, ty, pos, after, guard⟩ s = some true) (hx : s.look x = some (vC (ptrO b off))) (hu : isPtr P t = true) (hd : Nat.blt d s.n = true) (h : aList P ops K rest (s.put (some d) (vB true))) : aList P ops K (⟨some d, .binOp .neq t x (.const (.pointer none)) yt, ty, pos, after, guard⟩ :: rest) s := by
  obtain ⟨e, he⟩ : ∃ e, P.underlying t = some (.pointer e) := by
    unfold isPtr at hu
    split at hu
    · rename_i e he; exact ⟨e, he⟩
    · cases hu
  exact al_bin hw hx rfl rfl rfl (fun W => by rw [guard_ptr]; rfl) (fun W => run_ne_nilp he _ W) rfl hd h
end
/-- a function that makes a thing, and tells more. -/
def ThNewV (P : Program) (f : FuncId) (args : List AV) (post : AV → Value → SP → Prop) : Prop := ∀ i, HCall P f args noMem noRows fun v m' R' => ∃ p S, m' = noMem ∧ R' = row1 i (ob p S) ∧ v.closedB = true ∧ post v p S
theorem thnew_of {P : Program} {f : FuncId} {args : List AV} {post : AV → Value → SP → Prop} (ha : args.all AV.closedB = true)
    (h : HCall P f args noMem noRows fun v m' R' => ∃ p S, m' = noMem ∧ R' = row1 0 (ob p S) ∧ v.closedB = true ∧ post v p S) : ThNewV P f args post := by
  intro i
  have h1 := h.ren (π := fun j => j) (σ := swp 0 i) (τ := swp 0 i) (fun _ => rfl) (swp_swp _ _) (swp_swp _ _)
  have e2 : args.map (AV.ren fun j => j) = args := by
    rw [List.all_eq_true] at ha
    conv => rhs; rw [← List.map_id args]
    exact List.map_congr_left fun x hx => ren_closedV (ha x hx)
  rw [e2, show Mem.ren (fun j => j) noMem = noMem from rfl, show Rws.ren (swp 0 i) noRows = noRows from rfl] at h1
  refine ⟨fun U ρ W vs hH hown hvs => (h1.call U ρ W vs hH hown hvs).mono ?_⟩
  rintro e W' ⟨v1, r1, m', R', ρ', U', q0, ⟨r2, m2, R2, ⟨p, S, rfl, rfl, hc, hq⟩, rfl, rfl, rfl⟩, q⟩
  rw [show Mem.ren (fun j => j) noMem = noMem from rfl, row1_ren, ren_closedV hc] at q
  exact ⟨v1, r2, noMem, row1 i (ob p S), ρ', U', q0, ⟨p, S, rfl, rfl, hc, hq⟩, q⟩
theorem SP.same {A B : SP} (h1 : A.holds = B.holds) (h2 : A.foot = B.foot) : A = B := by
  cases A; cases B; cases h1; cases h2; rfl
theorem AC.ren_plain {π : Nat → Nat} (x : AC) : (x.ren π).plainB = x.plainB := by cases x <;> rfl
theorem plainM_ren {π σ τ : Nat → Nat} (hπ : ∀ j, π (π j) = j) (hσ : ∀ j, σ (τ j) = j) {m : Mem} {R : Rws} : plainM (m.ren π) (R.ren σ) ↔ plainM m R := by
  constructor
  · rintro ⟨h1, h2⟩
    refine ⟨fun k cs hk => ?_, fun i r hi => h2 (τ i) r (by unfold Rws.ren; rw [hσ]; exact hi)⟩
    have := h1 _ _ (Mem.ren_of hπ hk)
    rw [List.all_map] at this
    rw [List.all_eq_true] at this ⊢
    exact fun x hx => (AC.ren_plain x).symm.trans (this x hx)
  · rintro ⟨h1, h2⟩
    refine ⟨fun k cs hk => ?_, fun i r hi => h2 (σ i) r hi⟩
    obtain ⟨ds, hd, rfl⟩ := Mem.ren_some hk
    have := h1 _ _ hd
    rw [List.all_map]
    rw [List.all_eq_true] at this ⊢
    exact fun x hx => (AC.ren_plain x).trans (this x hx)
/-- the same thing by other names. -/
theorem thingSP_ren {π σ τ : Nat → Nat} (hπ : ∀ j, π (π j) = j) (hσ : ∀ j, σ (τ j) = j) (hτ : ∀ j, τ (σ j) = j) {ρ : Nat → Nat} {m : Mem} {R : Rws} {k : Nat} : thingSP ρ (m.ren π) (R.ren σ) (π k) = thingSP (fun j => ρ (π j)) m R k := by
  refine SP.same ?_ ?_
  · funext w v
    show (v = ptrV (ρ (π k)) ∧ HHeap noU ρ w (m.ren π) (R.ren σ) ∧ plainM (m.ren π) (R.ren σ)) = (v = ptrV (ρ (π k)) ∧ HHeap noU (fun j => ρ (π j)) w m R ∧ plainM m R)
    rw [propext (plainM_ren hπ hσ), propext (HHeap.ren hπ hσ hτ)]
  · funext w v b
    exact propext (HotAt.ren hπ hσ)
/-- the end of a function that is handed a thing's block and rows. -/
theorem hfin_g {P : Program} {fn : Func} {l : List ResultVar} {xs : List AW} {R R0 R1 : Rws} {s : AS} {cs cs' : List AC} {Post : AV → Mem → Rws → Prop} (hr : fn.results = l.toArray) (h : l.map (resOf P s) = xs.map some) (hk : s.mem 1000 = some cs') (hR : RLe R1 R) (hc : cs'.all AC.closedB = true) (hx : (packed xs).closedB = true) (h0 : ∀ i r, R0 i = some r → ∃ r', R1 i = some r')
    (hp : Post (packed xs) (mem1 1000 cs') R1) : hfin P fn (mem1 1000 cs) R0 Post R s := by
  refine ⟨xs, packed xs, mem1 1000 cs', R1, by rw [hr]; exact h, .refl _, hp, fun k c h => ?_, hR, fun j hj => absurd hj (AV.closed_of hx j), fun k c x j h hx hj => ?_, fun k c h => ?_, h0⟩
  · obtain ⟨rfl, rfl⟩ := mem1_iff h; exact hk
  · obtain ⟨rfl, rfl⟩ := mem1_iff h; exact absurd hj (AC.closed_of (List.all_eq_true.1 hc x hx) j)
  · obtain ⟨rfl, rfl⟩ := mem1_iff h; exact ⟨cs', by unfold mem1; exact upd_same _ _ _⟩
/-- the end of a function that makes a thing of block k and some rows. -/
theorem hfin_gn (k : Nat) {P : Program} {fn : Func} {l : List ResultVar} {xs : List AW} {R R1 : Rws} {s : AS} {cs' : List AC} {Post : AV → Mem → Rws → Prop} (hr : fn.results = l.toArray) (h : l.map (resOf P s) = xs.map some) (hk : s.mem k = some cs') (hR : RLe R1 R) (hc : cs'.all AC.closedB = true) (hx : (packed xs).ownB k = true)
    (hp : Post (packed xs) (mem1 k cs') R1) : hfin P fn noMem noRows Post R s := by
  refine ⟨xs, packed xs, mem1 k cs', R1, by rw [hr]; exact h, .refl _, hp, fun k c h => ?_, hR, fun j hj => ?_, fun k c x j h hxc hj => ?_, fun k c h => (by cases h), fun i r h => (by cases h)⟩
  · obtain ⟨rfl, rfl⟩ := mem1_iff h; exact hk
  · rw [AV.ownB_spec hx hj]; exact ⟨cs', by unfold mem1; exact upd_same _ _ _⟩
  · obtain ⟨rfl, rfl⟩ := mem1_iff h; exact absurd hj (AC.closed_of (List.all_eq_true.1 hc x hxc) j)
/-- the end of such a function. -/
theorem hfin_t {P : Program} {fn : Func} {l : List ResultVar} {xs : List AW} {R : Rws} {s : AS} {p : Value} {S : SP} {post : AV → Value → SP → Prop} (hr : fn.results = l.toArray) (h : l.map (resOf P s) = xs.map some) (hi : R 0 = some (ob p S)) (hx : (packed xs).closedB = true)
    (hp : post (packed xs) p S) : hfin P fn noMem noRows (fun v m' R' => ∃ p S, m' = noMem ∧ R' = row1 0 (ob p S) ∧ v.closedB = true ∧ post v p S) R s := by
  refine ⟨xs, packed xs, noMem, row1 0 (ob p S), by rw [hr]; exact h, .refl _, ⟨p, S, rfl, rfl, hx, hp⟩, fun k c h => (by cases h), fun i q h => ?_, fun j hj => absurd hj (AV.closed_of hx j), fun k c x j h => (by cases h), fun k c h => (by cases h), fun i q h => (by cases h)⟩
  obtain ⟨rfl, rfl⟩ := row1_iff h; exact hi
section
variable {P : Program} {R : Rws} {s : AS} {ops : Array Oper} {dr : Option (List Nat)} {ty : Nat} {pos : String} {after : Array Edge} {guard : Option (Nat × Bool)} {K : Rws → AS → Prop} {rest : List Oper}
theorem hs_tv (i : Nat) {dst : Option Nat} {f : FuncId} {g : Operand} {ts : Array TypeId} {l : List Operand} {args : List AV} {post : AV → Value → SP → Prop} [E : Enters P f] (hw : want ops ⟨dst, .call ⟨.value g, l.toArray, ts⟩, ty, pos, after, guard⟩ s = some true) (hm : hotM dr ⟨dst, .call ⟨.value g, l.toArray, ts⟩, ty, pos, after, guard⟩ = true)
    (hg : s.look g = some (vC (.func (.func f) #[] #[]))) (ha : l.map s.look = args.map some) (hp : ThNewV P f args post) (hac : args.all AV.closedB = true) (hd : dstB dst s.n = true)
    (h : ∀ v p S, post v p S → hList P ops dr K rest (upd R i (ob p S)) (s.put dst v)) : hList P ops dr K (⟨dst, .call ⟨.value g, l.toArray, ts⟩, ty, pos, after, guard⟩ :: rest) R s := by
  refine hs_h hw hm hg ha (hp i) (fun x hx j hj => absurd hj (AV.closed_of (List.all_eq_true.1 hac x hx) j)) (fun k' cs' h' => by cases h') (fun i' r' h' => by cases h') (fun k' cs' x j h' hx hj => by cases h') hd ?_
  rintro v m' R' ⟨p, S, rfl, rfl, _, hq⟩
  refine ⟨fun k' c h' => (by cases h'), ?_⟩
  rw [show ovr (row1 i (ob p S)) R = upd R i (ob p S) from ovr_upd R i _, over_noMem]
  exact h v p S hq
end
end Go.Proofs.Ytaennpehlhgggaa

namespace Go.Proofs.Ytaennpehlhgggaa
open Go.RowKit
set_option linter.unusedVariables false
set_option linter.unusedSimpArgs false
/-- what a set is with one more pixel; is it new; what is told. -/
def addL (r : Int) (L : List Px) (x y : Int) : List Px := if 0 ≤ numI L x y then L else if r ≤ (L.length : Int) then L else L ++ [(x, y)]
def addB (r : Int) (L : List Px) (x y : Int) : Bool := if 0 ≤ numI L x y then false else if r ≤ (L.length : Int) then false else true
def addE (r : Int) (L : List Px) (x y : Int) : Int := if 0 ≤ numI L x y then 0 else if r ≤ (L.length : Int) then 90 else 0
theorem addL_len (r : Int) (L : List Px) (x y : Int) : (addL r L x y).length ≤ L.length + 1 := by unfold addL; split <;> (try split) <;> simp
theorem addL_ge (r : Int) (L : List Px) (x y : Int) : L.length ≤ (addL r L x y).length := by unfold addL; split <;> (try split) <;> simp
theorem numI_iff {L : List Px} {x y : Int} : 0 ≤ numI L x y ↔ (x, y) ∈ L := by
  unfold numI
  cases h : L.findIdx? fun e => decide (e.1 = x) && decide (e.2 = y) with
  | none =>
    rw [List.findIdx?_eq_none_iff] at h
    refine ⟨fun h' => absurd h' (by decide), fun h' => ?_⟩
    have := h _ h'
    simp at this
  | some k =>
    obtain ⟨hk, h1, _⟩ := List.findIdx?_eq_some_iff_getElem.1 h
    simp only [Bool.and_eq_true, decide_eq_true_eq] at h1
    refine ⟨fun _ => ?_, fun _ => Int.natCast_nonneg k⟩
    have : L[k] = (x, y) := Prod.ext h1.1 h1.2
    rw [← this]; exact List.getElem_mem hk
theorem p_Add9 {r : Int} {L : List Px} (hl : L.length ≤ 100000) (x y : Int) : PCall Try.prog 13 [vSet9 r L, vP x y] (vAdd9 r (addL r L x y) (addB r L x y) (addE r L x y)) := by
  by_cases h : 0 ≤ numI L x y
  · unfold addL addB addE; rw [if_pos h, if_pos h, if_pos h]; exact p_Add9_had hl h
  · by_cases h2 : r ≤ (L.length : Int)
    · unfold addL addB addE; rw [if_neg h, if_neg h, if_neg h, if_pos h2, if_pos h2, if_pos h2]; exact p_Add9_full hl h h2
    · unfold addL addB addE; rw [if_neg h, if_neg h, if_neg h, if_neg h2, if_neg h2, if_neg h2]; exact p_Add9_new hl h h2
/-- a set of these. -/
def madeS (r : Int) (l : List Px) : List Px := l.foldl (fun L p => addL r L p.1 p.2) []
theorem madeS_append (r : Int) (l : List Px) (x y : Int) : madeS r (l ++ [(x, y)]) = addL r (madeS r l) x y := by unfold madeS; rw [List.foldl_append]; rfl
theorem madeS_len (r : Int) (l : List Px) : (madeS r l).length ≤ l.length := by
  have key : ∀ (l L : List Px), (l.foldl (fun L p => addL r L p.1 p.2) L).length ≤ L.length + l.length := by
    intro l
    induction l with
    | nil => intro L; exact Nat.le_refl _
    | cons p l ih => intro L; have := ih (addL r L p.1 p.2); have := addL_len r L p.1 p.2; simp only [List.foldl_cons, List.length_cons]; omega
  have := key l []
  simpa [madeS] using this
/-- what hot's methods tell of a set that SI tells of. -/
abbrev SIT := Int → List Px → Value → SP → Prop
def CNew9 (SI : SIT) : Prop := ∀ n : Int, ThNew Try.prog 10 [vI n] fun p S => ∃ b, p = ptrV b ∧ SI (room9 n) [] p S
def CAdd9 (SI : SIT) : Prop := ∀ (r : Int) L b S (x y : Int), SI r L (ptrV b) S → L.length ≤ 300 → ThCall Try.prog 14 [vC (ptrV b), vP x y] (ptrV b) S fun v S' => v = .tup [.one (.c (.bool (addB r L x y))), .one (.c (.int .i64 (addE r L x y)))] ∧ SI r (addL r L x y) (ptrV b) S'
/-- made's end. -/
def madeP (SI : SIT) (r : Int) (L : List Px) (v : AV) (p : Value) (S : SP) : Prop := ∃ b, p = ptrV b ∧ v = .tup [.one (.c (ptrV b)), .agg [.c (.int .i64 r), .p (SlP 2 L.length (itC L))]] ∧ SI r L p S
def M9I (SI : SIT) (r : Int) (l : List Px) (n : Nat) (R : Rws) (ts : List (Nat × AV)) (ms : List (Nat × List AC)) : Prop :=
  ∃ (k b : Nat) (S : SP) (ki : Int) (L : List Px), k ≤ l.length ∧ n = l.length - k ∧ ki = k ∧ L = madeS r (l.take k) ∧ SI r L (ptrV b) S ∧ R = row1 0 (ob (ptrV b) S) ∧ ms = [(5, [.c (.int .i64 0), .c (.slice none 0 0)]), (7, [.c (.int .i64 r), .p (SlP 2 L.length (itC L))])] ∧ ts = [(5, vOw 5), (6, vC (ptrV b)), (7, vOw 7), (14, vIt l), (15, vI l.length), (16, vI ki)]
set_option maxRecDepth 100000 in
set_option maxHeartbeats 8000000 in
theorem p_made9 {SI : SIT} (cn : CNew9 SI) (ca : CAdd9 SI) {n : Int} {l : List Px} (hl : l.length ≤ 120) : ThNewV Try.prog 22 [vI n, vIt l] (madeP SI (room9 n) (madeS (room9 n) l)) := by
  refine thnew_of rfl ?_
  have C1 := cn n
  have C2 := p_New9 (n := n)
  generalize room9 n = r at *
  refine hcall_of_body (f := 22) Try.func22 rfl (Nat.le_of_ble_eq_true rfl) (by first | exact big0 | exact big1 rfl) ?_
  (repeat (first | ((with_reducible apply rwp_seq)) | ((with_reducible apply rthen_normal)) | ((with_reducible apply rwp_region)) | ((with_reducible apply hs_nil)) | ((with_reducible apply hs_c); exact rfl; (repeat (first | ((with_reducible apply al_q); exact rfl))); (with_reducible apply al_nil))))
  refine hs_tn 0 rfl rfl rfl rfl C1 rfl rfl (fun p S hpost => ?_)
  obtain ⟨b, rfl, hS⟩ := hpost
  (repeat (first | ((with_reducible apply rwp_seq)) | ((with_reducible apply rthen_normal)) | ((with_reducible apply rwp_region)) | ((with_reducible apply hs_nil)) | ((with_reducible apply rwp_block)) | ((with_reducible apply hs_c); exact rfl; (repeat (first | ((with_reducible apply al_q); exact rfl) | ((with_reducible apply al_len); (iterate 3 exact rfl)) | (refine al_call1 rfl rfl rfl (by (first | exact C2)) rfl ?_))); (with_reducible apply al_nil))))
  refine rwp_loopL 36 (M9I SI r l) l.length (row1 0 (ob (ptrV b) S)) _ [(5, [.c (.int .i64 0), .c (.slice none 0 0)]), (7, [.c (.int .i64 r), .p (SlP 2 0 (itC []))])] ⟨0, b, S, 0, [], Nat.zero_le _, rfl, rfl, rfl, hS, rfl, rfl, rfl⟩ (row1_le _ _ _) rfl ⟨rfl, rfl, rfl, rfl, rfl, rfl, trivial⟩ ⟨rfl, rfl, trivial⟩ rfl ?_
  clear hS b S
  rintro n R ts ms ⟨k, b, S, ki, L, hk, rfl, hki, hL, hS, rfl, rfl, rfl⟩ hok
  clear hok
  have hml := madeS_len r (l.take k)
  have hml2 : (l.take k).length ≤ k := by simp; omega
  rw [← hL] at hml
  by_cases hq : k < l.length
  · have q2 : ki < (l.length : Int) := by omega
    have q3 : 0 ≤ ki := by omega
    obtain ⟨x, y, g1⟩ : ∃ x y, l[k]? = some (x, y) := ⟨_, _, List.getElem?_eq_getElem hq⟩
    have E1 := itC_xy hki g1
    have hm : addL r L x y = madeS r (l.take (k + 1)) := by
      rw [List.take_succ_eq_append_getElem hq, (List.getElem?_eq_some_iff.1 g1).2, madeS_append, hL]
    have C3 := ca r L b S x y hS (by omega)
    have C4 := p_Add9 (r := r) (L := L) (by omega) x y
    clear hL C1 C2
    (repeat (first | ((with_reducible apply rwp_seq)) | ((with_reducible apply rthen_normal)) | ((with_reducible apply rwp_region)) | ((with_reducible apply hs_nil)) | ((with_reducible apply rwp_skip)) | ((with_reducible apply rwp_block)) | ((with_reducible apply rwp_cond_1); exact rfl; (first | assumption | exact decide_eq_true (by omega) | (simp only [Bool.not_eq_true', decide_eq_false_iff_not, decide_eq_true_eq, Bool.not_eq_false']; (first | done | omega)) | exact rfl)) | ((with_reducible apply rwp_cond_0); exact rfl; (first | assumption | exact decide_eq_false (by omega) | (simp only [Bool.not_eq_true', decide_eq_false_iff_not, decide_eq_true_eq, Bool.not_eq_false']; (first | done | omega)) | exact rfl)) | ((with_reducible apply hs_c); exact rfl; (repeat (first | ((with_reducible apply al_q); exact rfl) | ((with_reducible apply al_loadPN); (iterate 5 exact rfl)) | ((with_reducible apply al_idxS); (iterate 3 exact rfl); (first | decide | omega); (first | decide | omega); (first | assumption | rfl); exact rfl) | ((with_reducible apply al_eqptr); exact rfl; exact rfl; kernel_rfl; exact rfl))); (with_reducible apply al_nil))))
    refine hs_t1 0 rfl rfl rfl rfl C3 rfl rfl rfl (fun v S' hpost => ?_)
    obtain ⟨rfl, hS'⟩ := hpost
    (repeat (first | ((with_reducible apply rthen_normal)) | ((with_reducible apply rwp_region)) | ((with_reducible apply hs_nil)) | ((with_reducible apply rblock_normal)) | ((with_reducible apply hs_c); exact rfl; (repeat (first | ((with_reducible apply al_q); exact rfl) | ((with_reducible apply al_add); (iterate 3 exact rfl); (first | exact i64_wrap (by omega) | assumption | rfl); exact rfl) | (refine al_call2 rfl rfl rfl rfl (by (first | exact C4)) rfl ?_))); (with_reducible apply al_nil))))
    exact ⟨l.length - (k + 1), row1 0 (ob (ptrV b) S'), _, [(5, [.c (.int .i64 0), .c (.slice none 0 0)]), (7, [.c (.int .i64 r), .p (SlP 2 (addL r L x y).length (itC (addL r L x y)))])], by omega, ⟨k + 1, b, S', ki + 1, addL r L x y, by omega, rfl, by omega, hm, hS', rfl, rfl, rfl⟩, row1_le _ _ _, rfl, ⟨rfl, rfl, rfl, rfl, rfl, rfl, trivial⟩, ⟨rfl, rfl, trivial⟩, rfl⟩
  · have q2 : ¬ ki < (l.length : Int) := by omega
    have e0 : l.take k = l := List.take_of_length_le (by omega)
    rw [e0] at hL
    (repeat (first | ((with_reducible apply hs_nilS); kernel_rfl) | ((with_reducible apply rwp_draw (id := 10) [0,1,2,3]); kernel_rfl; kernel_rfl; exact rfl) | ((with_reducible apply rwp_seq)) | ((with_reducible apply rthen_normal)) | ((with_reducible apply rwp_region)) | ((with_reducible apply hs_nil)) | ((with_reducible apply rwp_ret)) | ((with_reducible apply rblock_same)) | ((with_reducible apply rwp_exit)) | ((with_reducible apply rthen_exit)) | ((with_reducible apply rwp_cond_0); exact rfl; (first | assumption | exact decide_eq_false (by omega) | (simp only [Bool.not_eq_true', decide_eq_false_iff_not, decide_eq_true_eq, Bool.not_eq_false']; (first | done | omega)) | exact rfl)) | ((with_reducible apply hs_c); exact rfl; (repeat (first | ((with_reducible apply al_q); exact rfl))); (with_reducible apply al_nil))))
    (first | (refine hfin_t rfl (resl_tmp rfl (resl_agg rfl rfl rfl resl_nil)) rfl rfl ?_) | (refine hfin_t rfl (resl_tmp rfl (resl_one rfl rfl rfl resl_nil)) rfl rfl ?_))
    exact ⟨b, rfl, by rw [hL]; rfl, by rw [← hL]; exact hS⟩
end Go.Proofs.Ytaennpehlhgggaa

namespace Go.Proofs.Ytaennpehlhgggaa
open Go.RowKit
set_option linter.unusedVariables false
set_option linter.unusedSimpArgs false
/-- the block that holds the opposite: right, for a way that goes left; up, for one that goes down. -/
abbrev cB (b : Bool) : AC := .p (PtrP [.c (.bool (!b))])
abbrev vAlong (l d : Bool) : AV := .w (.one (.p (FunP (.func 54) [cB l, cB d])))
set_option maxRecDepth 100000 in
set_option maxHeartbeats 4000000 in
theorem p_Along {a1 a2 b1 b2 : Int} : PCall Try.prog 39 [vP a1 a2, vP b1 b2] (vAlong (decide (b1 < a1)) (decide (b2 < a2))) := by
  have e1 : decide (b1 ≥ a1) = !decide (b1 < a1) := by by_cases h : b1 < a1 <;> simp [h] <;> omega
  have e2 : decide (b2 ≥ a2) = !decide (b2 < a2) := by by_cases h : b2 < a2 <;> simp [h] <;> omega
  refine pcall_bodyT (f := 39) Try.func39 rfl rfl rfl rfl ?_
  refine awt_seq (awt_awp ?_)
  (repeat (first | ((with_reducible apply al_q); exact rfl) | ((with_reducible apply athen_normal)) | ((with_reducible apply awp_region)) | ((with_reducible apply al_nil))))
  refine awt_seq (awt_awp ?_)
  (repeat (first | ((with_reducible apply al_q); exact rfl) | ((with_reducible apply al_nilS); kernel_rfl) | ((with_reducible apply awp_region_draw); kernel_rfl; kernel_rfl; exact rfl) | ((with_reducible apply athen_normal))))
  refine awt_freeze 5 _ rfl rfl ?_
  refine awt_freeze 6 _ rfl rfl ?_
  refine awt_awp ?_
  (repeat (first | ((with_reducible apply al_q); exact rfl) | (refine al_mkfnP (xs := [_, _]) (cs := [_, _]) rfl rfl rfl rfl ?_) | ((with_reducible apply awp_seq)) | ((with_reducible apply athen_normal)) | ((with_reducible apply awp_region)) | ((with_reducible apply al_nil)) | ((with_reducible apply awp_ret))))
  (first | (refine apost_ret rfl (resl_tmp rfl resl_nil) ?_))
  exact AV.Le.of_eq (by rw [e1, e2]; rfl)
set_option maxRecDepth 100000 in
set_option maxHeartbeats 4000000 in
theorem p_along1 {x y z w : Int} {l d r : Bool} (hr : ahdN x y z w l d = r) : PCall Try.prog 54 [vP x y, vP z w, .w (.one (cB l)), .w (.one (cB d))] (vB r) := by
  have cs : (¬ x = z ∧ z < x ∧ r = l) ∨ (¬ x = z ∧ ¬ z < x ∧ r = !l) ∨ (x = z ∧ ¬ y = w ∧ w < y ∧ r = d) ∨ (x = z ∧ ¬ y = w ∧ ¬ w < y ∧ r = !d) ∨ (x = z ∧ y = w ∧ r = false) := by
    rw [← hr]; unfold ahdN
    by_cases h1 : x < z <;> by_cases h2 : z < x <;> by_cases h3 : y < w <;> by_cases h4 : w < y <;> simp [h1, h2, h3, h4] <;> omega
  clear hr
  rcases cs with ⟨h1, h2, rfl⟩ | ⟨h1, h2, rfl⟩ | ⟨h1, h3, h2, rfl⟩ | ⟨h1, h3, h2, rfl⟩ | ⟨h1, h3, rfl⟩
  all_goals
    refine pcall_body (f := 54) Try.func54 rfl rfl rfl rfl ?_
    (repeat (first | ((with_reducible apply al_q); exact rfl) | ((with_reducible apply al_loadP1); (iterate 5 exact rfl)) | ((with_reducible apply al_eqT); (iterate 4 exact rfl); kernel_rfl) | ((with_reducible apply al_guard_b (c := true)); exact rfl; exact rfl; (first | assumption | exact decide_eq_true (by omega) | (simp only [Bool.not_eq_true', decide_eq_false_iff_not, decide_eq_true_eq, Bool.not_eq_false']; (first | done | omega)))) | ((with_reducible apply al_guard_b (c := false)); exact rfl; exact rfl; (first | assumption | exact decide_eq_false (by omega) | (simp only [Bool.not_eq_true', decide_eq_false_iff_not, decide_eq_true_eq, Bool.not_eq_false']; (first | done | omega)))) | ((with_reducible apply awp_seq)) | ((with_reducible apply athen_normal)) | ((with_reducible apply awp_region)) | ((with_reducible apply al_nil)) | ((with_reducible apply awp_ret)) | ((with_reducible apply awp_skip)) | ((with_reducible apply athen_ret)) | ((with_reducible apply awp_cond_1); exact rfl; (first | assumption | exact decide_eq_true (by omega) | (simp only [Bool.not_eq_true', decide_eq_false_iff_not, decide_eq_true_eq, Bool.not_eq_false']; (first | done | omega)))) | ((with_reducible apply awp_cond_0); exact rfl; (first | assumption | exact decide_eq_false (by omega) | (simp only [Bool.not_eq_true', decide_eq_false_iff_not, decide_eq_true_eq, Bool.not_eq_false']; (first | done | omega))))))
    (first | (refine apost_ret rfl (resl_tmp rfl resl_nil) ?_))
    first
    | exact AV.Le.refl _
    | exact AV.Le.of_eq (by rw [decide_eq_false (show ¬ x < z by omega), Bool.false_beq, Bool.not_not]; rfl)
    | exact AV.Le.of_eq (by rw [decide_eq_true (show x < z by omega), Bool.true_beq]; rfl)
    | exact AV.Le.of_eq (by rw [decide_eq_false (show ¬ y < w by omega), Bool.false_beq, Bool.not_not]; rfl)
    | exact AV.Le.of_eq (by rw [decide_eq_true (show y < w by omega), Bool.true_beq]; rfl)
end Go.Proofs.Ytaennpehlhgggaa

namespace Go.Proofs.Ytaennpehlhgggaa
open Go.RowKit
set_option linter.unusedVariables false
set_option linter.unusedSimpArgs false
section
variable {P : Program} {s : AS} {ops : Array Oper} {K : AS → Prop} {rest : List Oper} {ty : Nat} {pos : String} {after : Array Edge} {guard : Option (Nat × Bool)} {d : Nat}
theorem al_quo {xt yt : Nat} {x y : Operand} {a b : Int} (hw : want ops ⟨some d, .binOp .quo xt x y yt, ty, pos, after, guard⟩ s = some true) (hx : s.look x = some (vC (.int .i64 a))) (hy : s.look y = some (vC (.int .i64 b))) (h0 : 0 ≤ a) (h1 : 0 < b) (h2 : a ≤ 9223372036854775807) (hd : Nat.blt d s.n = true) (h : aList P ops K rest (s.put (some d) (vC (.int .i64 (a / b))))) : aList P ops K (⟨some d, .binOp .quo xt x y yt, ty, pos, after, guard⟩ :: rest) s := by
  refine al_int hw hx hy (fun W => ?_) rfl hd h
  have hb : b ≠ 0 := by omega
  have e : a.tdiv b = a / b := Int.tdiv_eq_ediv_of_nonneg h0
  have e2 : IntKind.i64.wrap (a / b) = a / b := i64_wrap (by
    have := Int.ediv_nonneg h0 (show 0 ≤ b by omega)
    have := Int.ediv_le_self b h0
    omega)
  simp [binOp, Op.intDiv, hb, e, e2]
def byT (P : Program) (t : TypeId) : Bool := match P.underlying t with
  | some (.slice e) => (match P.underlying e with | some (.int .u8) => true | _ => false)
  | _ => false
def strT (P : Program) (t : TypeId) : Bool := match P.underlying t with
  | some .string => true
  | _ => false
class ByT (P : Program) (t : TypeId) : Prop where
  h : byT P t = true
class StrT (P : Program) (t : TypeId) : Prop where
  h : strT P t = true
end
end Go.Proofs.Ytaennpehlhgggaa

namespace Go.Proofs.Ytaennpehlhgggaa
open Go.RowKit
set_option linter.unusedVariables false
set_option linter.unusedSimpArgs false
theorem itC_nil : itC [] = [] := rfl
theorem itC_tail (p : Int × Int) (l : List (Int × Int)) : ((itC (p :: l)).drop ((1 : Int).toNat * 2)).take (l.length * 2) = itC l := by
  show ((itC (p :: l)).drop 2).take (l.length * 2) = itC l
  rw [← itC_len]
  simp [itC]
theorem itC_one (p : Int × Int) (l : List (Int × Int)) : itC l ++ [.c (.int .i64 p.1), .c (.int .i64 p.2)] = itC (l ++ [p]) := by rw [itC_append]; rfl
theorem itC_take (l : List (Int × Int)) (k : Nat) : ((itC l).drop (0 * 2)).take ((l.take k).length * 2) = itC (l.take k) := by
  have e : itC l = itC (l.take k) ++ itC (l.drop k) := by rw [← itC_append, List.take_append_drop]
  rw [e, Nat.zero_mul, List.drop_zero, ← itC_len]
  simp
theorem itC_drop (l : List (Int × Int)) (k : Nat) (hk : k ≤ l.length) : ((itC l).drop (k * 2)).take ((l.drop k).length * 2) = itC (l.drop k) := by
  have e : itC l = itC (l.take k) ++ itC (l.drop k) := by rw [← itC_append, List.take_append_drop]
  have e2 : k * 2 = (itC (l.take k)).length := by rw [itC_len, List.length_take, Nat.min_eq_left hk]
  rw [e, e2, List.drop_left, ← itC_len, List.take_length]
/-- what is handed to a function that tells what comes ahead; the function, and no more. -/
abbrev pxRow (v : Value) (l : List (Int × Int)) : HRow := ⟨32, 2, v, l.length, itC l⟩
instance iHotI_1 : RowTy Try.prog 22 32 2 16 := ⟨by kernel_rfl⟩
def MgP (M : List (Int × Int)) (lt : Int × Int → Int × Int → Bool) (lv : AV) (K : Nat) (m : Nat) (R : Rws) (ts : List (Nat × AV)) (ms : List (Nat × List AC)) : Prop :=
  ∃ (a b out : List (Int × Int)) (v : Value), m = a.length + b.length ∧ out ++ mrgL lt a b = M ∧ out.length + m = K ∧ R = row1 0 (pxRow v out) ∧ ts = [(0, vIt a), (1, vIt b), (2, lv), (7, vC v)] ∧ ms = []
set_option maxRecDepth 100000 in
set_option maxHeartbeats 8000000 in
theorem p_mergeP {fx fy : Bool} {a b : List (Int × Int)} (ha : a.length ≤ 100000) (hb : b.length ≤ 100000) :
    PCall Try.prog 53 [vIt a, vIt b, vAlong fx fy] (vIt (mrgL (ahP fx fy) a b)) := by
  refine pcall_body (f := 53) Try.func53 rfl rfl rfl rfl ?_
  refine awp_rows ?_
  (repeat (first | ((with_reducible apply rwp_seq)) | ((with_reducible apply rthen_normal)) | ((with_reducible apply rwp_region)) | ((with_reducible apply hs_nil)) | ((with_reducible apply hs_c); exact rfl; (repeat (first | ((with_reducible apply al_q); exact rfl) | ((with_reducible apply al_add); (iterate 3 exact rfl); (first | exact i64_wrap (by omega) | assumption | rfl); exact rfl) | ((with_reducible apply al_len); (iterate 3 exact rfl)))); (with_reducible apply al_nil))))
  refine hs_make (l := 0) (c' := a.length + b.length) 0 rfl rfl rfl rfl (Nat.zero_le _) rfl rfl ?h2 (le_maxLen (by omega)) rfl (fun v hv => ?_)
  case h2 => omega
  (repeat (first | ((with_reducible apply rwp_seq)) | ((with_reducible apply rthen_normal)) | ((with_reducible apply hs_nil)) | ((with_reducible apply rwp_block)) | ((with_reducible apply hs_c); exact rfl; (repeat (first | ((with_reducible apply al_q); exact rfl))); (with_reducible apply al_nil))))
  refine rwp_loopL 52 (MgP (mrgL (ahP fx fy) a b) (ahP fx fy) (vAlong fx fy) (a.length + b.length)) (a.length + b.length) (row1 0 (pxRow v [])) _ _ ⟨a, b, [], v, rfl, rfl, Nat.zero_add _, rfl, rfl, rfl⟩ (row1_le _ _ _) rfl ⟨rfl, rfl, rfl, rfl, trivial⟩ trivial rfl ?_
  rintro m R ts ms ⟨a', b', out, v, rfl, hM, hK, rfl, rfl, rfl⟩ hok
  clear hok hv
  by_cases qa : 0 < a'.length
  · by_cases qb : 0 < b'.length
    · have qa' : (a'.length : Int) > 0 := by omega
      have qb' : (b'.length : Int) > 0 := by omega
      obtain ⟨⟨x, n⟩, a2, rfl⟩ := List.exists_cons_of_length_pos qa
      obtain ⟨⟨y, m⟩, b2, rfl⟩ := List.exists_cons_of_length_pos qb
      have E1 : ((itC ((x, n) :: a2)).drop ((0 : Int).toNat * 2)).take 2 = [.c (.int .i64 x), .c (.int .i64 n)] := itC_xy (j := 0) (i := 0) rfl rfl
      have E2 : ((itC ((y, m) :: b2)).drop ((0 : Int).toNat * 2)).take 2 = [.c (.int .i64 y), .c (.int .i64 m)] := itC_xy (j := 0) (i := 0) rfl rfl
      have C1 := p_along1 (x := y) (y := m) (z := x) (w := n) (l := fx) (d := fy) rfl
      rw [show ahdN y m x n fx fy = ahP fx fy (y, m) (x, n) from rfl] at C1
      cases hlt : ahP fx fy (y, m) (x, n) with
      | true =>
        rw [hlt] at C1
        have e1 : ((y, m) :: b2).length - (1 : Int).toNat = b2.length := rfl
        have e2 := itC_tail (y, m) b2
        have hM' : (out ++ [(y, m)]) ++ mrgL (ahP fx fy) ((x, n) :: a2) b2 = mrgL (ahP fx fy) a b := by
          rw [← hM, mrgL, if_pos hlt, List.append_assoc]; rfl
        have hl1 : (out ++ [(y, m)]).length = out.length + 1 := List.length_append
        have hl2 : ((y, m) :: b2).length = b2.length + 1 := rfl
        have hl3 : ((x, n) :: a2).length = a2.length + 1 := rfl
        (repeat (first | ((with_reducible apply hs_nilS); kernel_rfl) | ((with_reducible apply rwp_draw (id := 3) [0,1,2,3,4,5,6,7]); kernel_rfl; kernel_rfl; exact rfl) | ((with_reducible apply rwp_draw (id := 4) [0,1,2,3,6,7,4,5,8,9]); kernel_rfl; kernel_rfl; exact rfl) | ((with_reducible apply rwp_seq)) | ((with_reducible apply rthen_normal)) | ((with_reducible apply rwp_region)) | ((with_reducible apply hs_nil)) | ((with_reducible apply rwp_skip)) | ((with_reducible apply rwp_block)) | ((with_reducible apply rwp_cond_1); exact rfl; (first | assumption | exact decide_eq_true (by omega) | (simp only [Bool.not_eq_true', decide_eq_false_iff_not, decide_eq_true_eq, Bool.not_eq_false']; (first | done | omega)) | exact rfl)) | ((with_reducible apply hs_c); exact rfl; (repeat (first | ((with_reducible apply al_q); exact rfl) | ((with_reducible apply al_loadPN); (iterate 5 exact rfl)) | ((with_reducible apply al_idxS); (iterate 3 exact rfl); (first | decide | omega); (first | decide | omega); (first | assumption | rfl); exact rfl) | ((with_reducible apply al_len); (iterate 3 exact rfl)) | ((with_reducible apply al_sl_l); (iterate 3 exact rfl); (first | assumption | omega); (first | assumption | omega); (first | assumption | rfl); (first | assumption | rfl); exact rfl) | ((with_reducible apply al_bslice); (iterate 10 exact rfl)) | (refine al_callF (args := [_, _]) rfl rfl rfl (by (first | exact C1)) rfl ?_) | ((with_reducible apply al_guard_b (c := true)); exact rfl; exact rfl; (first | assumption | exact decide_eq_true (by omega) | (simp only [Bool.not_eq_true', decide_eq_false_iff_not, decide_eq_true_eq, Bool.not_eq_false']; (first | done | omega)))))); (with_reducible apply al_nil))))
        refine hs_app0 0 rfl rfl rfl rfl ?q1 ?q2 rfl rfl (fun v' hv' => ?_)
        case q1 => exact le_maxLen (by show out.length + 1 ≤ 1000000; omega)
        case q2 => show (out.length + 1) * 16 ≤ 140737488355328; omega
        (repeat (first | ((with_reducible apply hs_nilS); kernel_rfl) | ((with_reducible apply rthen_normal)) | ((with_reducible apply rblock_normal)) | ((with_reducible apply hs_c); exact rfl; (repeat (first | ((with_reducible apply al_q); exact rfl))); (with_reducible apply al_nil))))
        have e3 : pxRow v' (out ++ [(y, m)]) = ⟨32, 2, v', out.length + 1, itC out ++ [.c (.int .i64 y), .c (.int .i64 m)]⟩ := by
          unfold pxRow; rw [← itC_one, List.length_append]; rfl
        refine ⟨_, row1 0 (pxRow v' (out ++ [(y, m)])), _, _, ?_, ⟨(x, n) :: a2, b2, out ++ [(y, m)], v', rfl, hM', ?_, rfl, rfl, rfl⟩, by rw [e3]; exact row1_le _ _ _, rfl, ⟨rfl, rfl, rfl, rfl, trivial⟩, trivial, rfl⟩
        · omega
        · omega
      | false =>
        rw [hlt] at C1
        have e1 : ((x, n) :: a2).length - (1 : Int).toNat = a2.length := rfl
        have e2 := itC_tail (x, n) a2
        have hM' : (out ++ [(x, n)]) ++ mrgL (ahP fx fy) a2 ((y, m) :: b2) = mrgL (ahP fx fy) a b := by
          rw [← hM, mrgL, if_neg (by rw [hlt]; decide), List.append_assoc]; rfl
        have hl1 : (out ++ [(x, n)]).length = out.length + 1 := List.length_append
        have hl2 : ((y, m) :: b2).length = b2.length + 1 := rfl
        have hl3 : ((x, n) :: a2).length = a2.length + 1 := rfl
        (repeat (first | ((with_reducible apply hs_nilS); kernel_rfl) | ((with_reducible apply rwp_draw (id := 3) [0,1,2,3,4,5,6,7]); kernel_rfl; kernel_rfl; exact rfl) | ((with_reducible apply rwp_draw (id := 5) [0,1,2,3,6,7,4,5,8,9]); kernel_rfl; kernel_rfl; exact rfl) | ((with_reducible apply rwp_seq)) | ((with_reducible apply rthen_normal)) | ((with_reducible apply rwp_region)) | ((with_reducible apply hs_nil)) | ((with_reducible apply rwp_skip)) | ((with_reducible apply rwp_block)) | ((with_reducible apply rwp_cond_1); exact rfl; (first | assumption | exact decide_eq_true (by omega) | (simp only [Bool.not_eq_true', decide_eq_false_iff_not, decide_eq_true_eq, Bool.not_eq_false']; (first | done | omega)) | exact rfl)) | ((with_reducible apply rwp_cond_0); exact rfl; (first | assumption | exact decide_eq_false (by omega) | (simp only [Bool.not_eq_true', decide_eq_false_iff_not, decide_eq_true_eq, Bool.not_eq_false']; (first | done | omega)) | exact rfl)) | ((with_reducible apply hs_c); exact rfl; (repeat (first | ((with_reducible apply al_q); exact rfl) | ((with_reducible apply al_loadPN); (iterate 5 exact rfl)) | ((with_reducible apply al_idxS); (iterate 3 exact rfl); (first | decide | omega); (first | decide | omega); (first | assumption | rfl); exact rfl) | ((with_reducible apply al_len); (iterate 3 exact rfl)) | ((with_reducible apply al_sl_l); (iterate 3 exact rfl); (first | assumption | omega); (first | assumption | omega); (first | assumption | rfl); (first | assumption | rfl); exact rfl) | ((with_reducible apply al_bslice); (iterate 10 exact rfl)) | (refine al_callF (args := [_, _]) rfl rfl rfl (by (first | exact C1)) rfl ?_) | ((with_reducible apply al_guard_b (c := true)); exact rfl; exact rfl; (first | assumption | exact decide_eq_true (by omega) | (simp only [Bool.not_eq_true', decide_eq_false_iff_not, decide_eq_true_eq, Bool.not_eq_false']; (first | done | omega)))))); (with_reducible apply al_nil))))
        refine hs_app0 0 rfl rfl rfl rfl ?q1 ?q2 rfl rfl (fun v' hv' => ?_)
        case q1 => exact le_maxLen (by show out.length + 1 ≤ 1000000; omega)
        case q2 => show (out.length + 1) * 16 ≤ 140737488355328; omega
        (repeat (first | ((with_reducible apply hs_nilS); kernel_rfl) | ((with_reducible apply rthen_normal)) | ((with_reducible apply rblock_normal)) | ((with_reducible apply hs_c); exact rfl; (repeat (first | ((with_reducible apply al_q); exact rfl))); (with_reducible apply al_nil))))
        have e3 : pxRow v' (out ++ [(x, n)]) = ⟨32, 2, v', out.length + 1, itC out ++ [.c (.int .i64 x), .c (.int .i64 n)]⟩ := by
          unfold pxRow; rw [← itC_one, List.length_append]; rfl
        refine ⟨_, row1 0 (pxRow v' (out ++ [(x, n)])), _, _, ?_, ⟨a2, (y, m) :: b2, out ++ [(x, n)], v', rfl, hM', ?_, rfl, rfl, rfl⟩, by rw [e3]; exact row1_le _ _ _, rfl, ⟨rfl, rfl, rfl, rfl, trivial⟩, trivial, rfl⟩
        · omega
        · omega
    · have qa' : (a'.length : Int) > 0 := by omega
      have qb' : ¬ (b'.length : Int) > 0 := by omega
      have hb0 : b' = [] := List.length_eq_zero_iff.1 (by omega)
      have hz : (a'.length : Int) = a'.length := rfl
      (repeat (first | ((with_reducible apply rwp_seq)) | ((with_reducible apply rthen_normal)) | ((with_reducible apply rwp_region)) | ((with_reducible apply hs_nil)) | ((with_reducible apply rblock_same)) | ((with_reducible apply rwp_exit)) | ((with_reducible apply rthen_exit)) | ((with_reducible apply rwp_cond_0); exact rfl; (first | assumption | exact decide_eq_false (by omega) | (simp only [Bool.not_eq_true', decide_eq_false_iff_not, decide_eq_true_eq, Bool.not_eq_false']; (first | done | omega)) | exact rfl)) | ((with_reducible apply hs_c); exact rfl; (repeat (first | ((with_reducible apply al_q); exact rfl) | ((with_reducible apply al_len); (iterate 3 exact rfl)) | ((with_reducible apply al_guard_b (c := true)); exact rfl; exact rfl; (first | assumption | exact decide_eq_true (by omega) | (simp only [Bool.not_eq_true', decide_eq_false_iff_not, decide_eq_true_eq, Bool.not_eq_false']; (first | done | omega)))))); (with_reducible apply al_nil))))
      refine hs_app0 0 rfl rfl rfl rfl ?q1 ?q2 (itC_closed _) rfl (fun v' hv' => ?_)
      case q1 => exact le_maxLen (by show out.length + a'.length ≤ 1000000; omega)
      case q2 => show (out.length + a'.length) * 16 ≤ 140737488355328; omega
      (repeat (first | ((with_reducible apply rwp_seq)) | ((with_reducible apply rthen_normal)) | ((with_reducible apply rwp_region)) | ((with_reducible apply hs_nil)) | ((with_reducible apply hs_c); exact rfl; (repeat (first | ((with_reducible apply al_q); exact rfl))); (with_reducible apply al_nil))))
      refine hs_appC (k := (mrgL (ahP fx fy) a b).length) (zs := itC (mrgL (ahP fx fy) a b)) 0 rfl rfl rfl rfl ?p1 ?p2 ?p3 ?p4 (itC_closed _) rfl ?_
      case p1 => exact le_maxLen (by show (out.length + a'.length) + b'.length ≤ 1000000; omega)
      case p2 => show ((out.length + a'.length) + b'.length) * 16 ≤ 140737488355328; omega
      case p3 => show (out.length + a'.length) + b'.length = (mrgL (ahP fx fy) a b).length; rw [mrgL_len]; omega
      case p4 => show (itC out ++ itC a') ++ itC b' = itC (mrgL (ahP fx fy) a b); rw [← hM, hb0, mrgL_nil, ← itC_append, itC_nil, List.append_nil]
      (repeat (first | ((with_reducible apply rthen_normal)) | ((with_reducible apply hs_nil)) | ((with_reducible apply rwp_ret)) | ((with_reducible apply hs_c); exact rfl; (repeat (first | ((with_reducible apply al_q); exact rfl))); (with_reducible apply al_nil))))
      (first | (refine apost_ret rfl (resl_tmp rfl resl_nil) ?_))
      exact AV.Le.refl _
  · have qa' : ¬ (a'.length : Int) > 0 := by omega
    have ha0 : a' = [] := List.length_eq_zero_iff.1 (by omega)
    (repeat (first | ((with_reducible apply rwp_seq)) | ((with_reducible apply rthen_normal)) | ((with_reducible apply rwp_region)) | ((with_reducible apply hs_nil)) | ((with_reducible apply rblock_same)) | ((with_reducible apply rwp_exit)) | ((with_reducible apply rthen_exit)) | ((with_reducible apply rwp_cond_0); exact rfl; (first | assumption | exact decide_eq_false (by omega) | (simp only [Bool.not_eq_true', decide_eq_false_iff_not, decide_eq_true_eq, Bool.not_eq_false']; (first | done | omega)) | exact rfl)) | ((with_reducible apply hs_c); exact rfl; (repeat (first | ((with_reducible apply al_q); exact rfl) | ((with_reducible apply al_len); (iterate 3 exact rfl)) | ((with_reducible apply al_guard_b (c := false)); exact rfl; exact rfl; (first | assumption | exact decide_eq_false (by omega) | (simp only [Bool.not_eq_true', decide_eq_false_iff_not, decide_eq_true_eq, Bool.not_eq_false']; (first | done | omega)))))); (with_reducible apply al_nil))))
    refine hs_app0 0 rfl rfl rfl rfl ?q1 ?q2 (itC_closed _) rfl (fun v' hv' => ?_)
    case q1 => exact le_maxLen (by show out.length + a'.length ≤ 1000000; omega)
    case q2 => show (out.length + a'.length) * 16 ≤ 140737488355328; omega
    (repeat (first | ((with_reducible apply rwp_seq)) | ((with_reducible apply rthen_normal)) | ((with_reducible apply rwp_region)) | ((with_reducible apply hs_nil)) | ((with_reducible apply hs_c); exact rfl; (repeat (first | ((with_reducible apply al_q); exact rfl))); (with_reducible apply al_nil))))
    refine hs_appC (k := (mrgL (ahP fx fy) a b).length) (zs := itC (mrgL (ahP fx fy) a b)) 0 rfl rfl rfl rfl ?p1 ?p2 ?p3 ?p4 (itC_closed _) rfl ?_
    case p1 => exact le_maxLen (by show (out.length + a'.length) + b'.length ≤ 1000000; omega)
    case p2 => show ((out.length + a'.length) + b'.length) * 16 ≤ 140737488355328; omega
    case p3 => show (out.length + a'.length) + b'.length = (mrgL (ahP fx fy) a b).length; rw [mrgL_len]; omega
    case p4 => show (itC out ++ itC a') ++ itC b' = itC (mrgL (ahP fx fy) a b); rw [← hM, ha0, mrgL_nil', itC_nil, List.append_nil, ← itC_append]
    (repeat (first | ((with_reducible apply rthen_normal)) | ((with_reducible apply hs_nil)) | ((with_reducible apply rwp_ret)) | ((with_reducible apply hs_c); exact rfl; (repeat (first | ((with_reducible apply al_q); exact rfl))); (with_reducible apply al_nil))))
    (first | (refine apost_ret rfl (resl_tmp rfl resl_nil) ?_))
    exact AV.Le.refl _
set_option maxRecDepth 100000 in
set_option maxHeartbeats 8000000 in
theorem p_SortP {fx fy : Bool} :
    ∀ (N : Nat) (l : List (Int × Int)), l.length ≤ N → N ≤ 100000 → PCall Try.prog 37 [vIt l, vAlong fx fy] (vIt (srtL (ahP fx fy) l)) := by
  intro N
  induction N with
  | zero =>
    intro l h1 h2
    have C0 := p_mergeP (fx := fx) (fy := fy) (a := l) (b := []) (by omega) (by simp)
    rw [mrgL_nil] at C0
    have C1 : PCall Try.prog 53 [vIt l, vNil, vAlong fx fy] (vIt l) := pcall_le C0 rfl rfl (by
      intro i x y hx hy
      match i with
      | 0 => cases hx; cases hy; exact .refl _
      | 1 => cases hx; cases hy; exact nil_le 2
      | 2 => cases hx; cases hy; exact .refl _
      | i + 3 => simp at hx)
    have q1 : (l.length : Int) < 2 := by omega
    have e : srtL (ahP fx fy) l = l := by rw [srtL, dif_pos (by omega)]
    rw [e]
    clear C0
    refine pcall_body (f := 37) Try.func37 rfl rfl rfl rfl ?_
    (repeat (first | ((with_reducible apply al_q); exact rfl) | ((with_reducible apply al_len); (iterate 3 exact rfl)) | (refine al_call3 rfl rfl rfl rfl rfl (by (first | exact C1)) rfl ?_) | ((with_reducible apply awp_seq)) | ((with_reducible apply athen_normal)) | ((with_reducible apply awp_region)) | ((with_reducible apply al_nil)) | ((with_reducible apply awp_ret)) | ((with_reducible apply athen_ret)) | ((with_reducible apply awp_cond_1); exact rfl; (first | assumption | exact decide_eq_true (by omega) | (simp only [Bool.not_eq_true', decide_eq_false_iff_not, decide_eq_true_eq, Bool.not_eq_false']; (first | done | omega))))))
    (first | (refine apost_ret rfl (resl_tmp rfl resl_nil) ?_))
    exact AV.Le.refl _
  | succ N ih =>
    intro l h1 h2
    by_cases q : l.length < 2
    · have C0 := p_mergeP (fx := fx) (fy := fy) (a := l) (b := []) (by omega) (by simp)
      rw [mrgL_nil] at C0
      have C1 : PCall Try.prog 53 [vIt l, vNil, vAlong fx fy] (vIt l) := pcall_le C0 rfl rfl (by
        intro i x y hx hy
        match i with
        | 0 => cases hx; cases hy; exact .refl _
        | 1 => cases hx; cases hy; exact nil_le 2
        | 2 => cases hx; cases hy; exact .refl _
        | i + 3 => simp at hx)
      have q1 : (l.length : Int) < 2 := by omega
      have e : srtL (ahP fx fy) l = l := by rw [srtL, dif_pos (by omega)]
      rw [e]
      clear C0 ih
      refine pcall_body (f := 37) Try.func37 rfl rfl rfl rfl ?_
      (repeat (first | ((with_reducible apply al_q); exact rfl) | ((with_reducible apply al_len); (iterate 3 exact rfl)) | (refine al_call3 rfl rfl rfl rfl rfl (by (first | exact C1)) rfl ?_) | ((with_reducible apply awp_seq)) | ((with_reducible apply athen_normal)) | ((with_reducible apply awp_region)) | ((with_reducible apply al_nil)) | ((with_reducible apply awp_ret)) | ((with_reducible apply athen_ret)) | ((with_reducible apply awp_cond_1); exact rfl; (first | assumption | exact decide_eq_true (by omega) | (simp only [Bool.not_eq_true', decide_eq_false_iff_not, decide_eq_true_eq, Bool.not_eq_false']; (first | done | omega))))))
      (first | (refine apost_ret rfl (resl_tmp rfl resl_nil) ?_))
      exact AV.Le.refl _
    · have q1 : ¬ (l.length : Int) < 2 := by omega
      have e : srtL (ahP fx fy) l = mrgL (ahP fx fy) (srtL (ahP fx fy) (l.take (l.length / 2))) (srtL (ahP fx fy) (l.drop (l.length / 2))) := by rw [srtL, dif_neg q]
      have C1 := ih (l.take (l.length / 2)) (by simp; omega) (by omega)
      have C2 := ih (l.drop (l.length / 2)) (by simp; omega) (by omega)
      have l1 := srtL_len (ahP fx fy) _ (l.take (l.length / 2)) (Nat.le_refl _)
      have l2 := srtL_len (ahP fx fy) _ (l.drop (l.length / 2)) (Nat.le_refl _)
      have C3 := p_mergeP (fx := fx) (fy := fy) (a := srtL (ahP fx fy) (l.take (l.length / 2))) (b := srtL (ahP fx fy) (l.drop (l.length / 2))) (by rw [l1]; simp; omega) (by rw [l2]; simp; omega)
      have hh : ((l.length : Int) / 2).toNat = l.length / 2 := by omega
      have e1 : ((l.length : Int) / 2).toNat - 0 = (l.take (l.length / 2)).length := by rw [hh]; simp; omega
      have e2 := itC_take l (l.length / 2)
      have e3 : ((l.length : Int)).toNat - ((l.length : Int) / 2).toNat = (l.drop (l.length / 2)).length := by rw [hh]; simp
      have e4 := itC_drop l (l.length / 2) (by omega)
      have e5 : ((itC l).drop (((l.length : Int) / 2).toNat * 2)).take ((l.drop (l.length / 2)).length * 2) = itC (l.drop (l.length / 2)) := by rw [hh]; exact e4
      rw [e]
      clear ih l1 l2 e e4 hh
      refine pcall_body (f := 37) Try.func37 rfl rfl rfl rfl ?_
      (repeat (first | ((with_reducible apply al_q); exact rfl) | ((with_reducible apply al_len); (iterate 3 exact rfl)) | ((with_reducible apply al_sl_hm); (iterate 4 exact rfl); (first | assumption | omega); (first | assumption | omega); (first | assumption | omega); (first | assumption | rfl); (first | assumption | rfl); exact rfl) | ((with_reducible apply al_sl_lhm); (iterate 5 exact rfl); (first | assumption | omega); (first | assumption | omega); (first | assumption | omega); (first | assumption | omega); (first | assumption | rfl); (first | assumption | rfl); exact rfl) | ((with_reducible apply al_quo); (iterate 3 exact rfl); omega; omega; omega; exact rfl) | (refine al_call2 rfl rfl rfl rfl (by (first | exact C1 | exact C2 | exact C3)) rfl ?_) | (refine al_call3 rfl rfl rfl rfl rfl (by (first | exact C1 | exact C2 | exact C3)) rfl ?_) | ((with_reducible apply al_nilS); kernel_rfl) | ((with_reducible apply awp_region_draw); kernel_rfl; kernel_rfl; exact rfl) | ((with_reducible apply awp_seq)) | ((with_reducible apply athen_normal)) | ((with_reducible apply awp_region)) | ((with_reducible apply al_nil)) | ((with_reducible apply awp_ret)) | ((with_reducible apply awp_skip)) | ((with_reducible apply awp_cond_0); exact rfl; (first | assumption | exact decide_eq_false (by omega) | (simp only [Bool.not_eq_true', decide_eq_false_iff_not, decide_eq_true_eq, Bool.not_eq_false']; (first | done | omega))))))
      (first | (refine apost_ret rfl (resl_tmp rfl resl_nil) ?_))
      exact AV.Le.refl _
end Go.Proofs.Ytaennpehlhgggaa

namespace Go.Proofs.Ytaennpehlhgggaa
open Go.RowKit
set_option linter.unusedVariables false
set_option linter.unusedSimpArgs false
abbrev vSeg9 (a1 a2 b1 b2 : Int) : AV := .w (.agg [.c (.int .i64 a1), .c (.int .i64 a2), .c (.int .i64 b1), .c (.int .i64 b2)])
def CNear9 (SI : SIT) : Prop := ∀ (s : Int) L b S (a1 a2 b1 b2 k : Int) (r : Nat), SI s L (ptrV b) S → L.length ≤ 300 → L.Nodup → (∀ p ∈ L, InI p) → IsR k r → rB5 a1 a2 = true → rB5 b1 b2 = true → ThCall Try.prog 23 [vC (ptrV b), vP a1 a2, vP b1 b2, vI k] (ptrV b) S fun v S' => v = vIt (sortI (decide (b1 < a1)) (decide (b2 < a2)) (nearF a1 a2 b1 b2 r) L) ∧ SI s L (ptrV b) S'
end Go.Proofs.Ytaennpehlhgggaa

namespace Go.Proofs.Ytaennpehlhgggaa
open Go.RowKit
set_option linter.unusedVariables false
set_option linter.unusedSimpArgs false
def CRoom9 (SI : SIT) : Prop := ∀ (r : Int) L b S, SI r L (ptrV b) S → L.length ≤ 300 → ThCall Try.prog 12 [vC (ptrV b)] (ptrV b) S fun v S' => v = vI r ∧ SI r L (ptrV b) S'
def CLen9 (SI : SIT) : Prop := ∀ (r : Int) L b S, SI r L (ptrV b) S → L.length ≤ 300 → ThCall Try.prog 17 [vC (ptrV b)] (ptrV b) S fun v S' => v = vI L.length ∧ SI r L (ptrV b) S'
def CNum9 (SI : SIT) : Prop := ∀ (r : Int) L b S (x y : Int), SI r L (ptrV b) S → L.length ≤ 300 → ThCall Try.prog 15 [vC (ptrV b), vP x y] (ptrV b) S fun v S' => ∃ k : Int, v = .tup [.one (.c (.int .i64 k)), .one (.c (.bool (decide (0 ≤ numI L x y))))] ∧ (0 ≤ numI L x y → k = numI L x y) ∧ SI r L (ptrV b) S'
def CAll9 (SI : SIT) : Prop := ∀ (r : Int) L b S, SI r L (ptrV b) S → L.length ≤ 300 → ThCall2 Try.prog 20 [vC (ptrV b)] (ptrV b) S fun v S' q => ∃ v', v = vC v' ∧ q = pxRow v' L ∧ SI r L (ptrV b) S'
def A9I (SI : SIT) (r : Int) (l : List Px) (n : Nat) (R : Rws) (ts : List (Nat × AV)) (ms : List (Nat × List AC)) : Prop :=
  ∃ (k b : Nat) (S : SP) (ki : Int) (L : List Px), k ≤ l.length ∧ n = l.length - k ∧ ki = k ∧ L.length ≤ k ∧ SI r L (ptrV b) S ∧ R = row1 0 (ob (ptrV b) S) ∧ ms = [(6, [.c (.int .i64 r), .p (SlP 2 L.length (itC L))])] ∧ ts = [(5, vC (ptrV b)), (6, vOw 6), (34, vIt l), (35, vI l.length), (36, vI ki)]
end Go.Proofs.Ytaennpehlhgggaa

namespace Go.Proofs.Ytaennpehlhgggaa
open Go.RowKit
set_option linter.unusedVariables false
set_option linter.unusedSimpArgs false
def CMet9 (SI : SIT) : Prop := ∀ (s : Int) L b S (a1 a2 b1 b2 k : Int), SI s L (ptrV b) S → L.length ≤ 300 → L.Nodup → (∀ p ∈ L, InI p) → InI (k, k) → rB5 a1 a2 = true → rB5 b1 b2 = true → ThCall2 Try.prog 25 [vC (ptrV b), vP a1 a2, vP b1 b2, vI k] (ptrV b) S fun v S' q => ∃ v', v = vC v' ∧ q = pxRow v' (sortI (decide (b1 < a1)) (decide (b2 < a2)) (metF a1 a2 b1 b2 k) L) ∧ SI s L (ptrV b) S'
/-- how often. -/
def cntP (x y : Int) (l : List Px) : Int := (l.countP fun e => eqP e.1 e.2 x y : Nat)
theorem hiB_rung {a1 a2 b1 b2 x y k : Int} {r : Nat} (hr : IsR k r) (h : hiB a1 a2 b1 b2 x y k = true) : k = r := by
  have := hr
  unfold hiB at h
  simp only [Bool.and_eq_true, decide_eq_true_eq] at h
  unfold IsR at hr
  omega
theorem met_near {a1 a2 b1 b2 k : Int} {r : Nat} (hr : IsR k r) (p : Px) (h : metF a1 a2 b1 b2 k p = true) : nearF a1 a2 b1 b2 r p = true := by
  have hk := hiB_rung hr h
  unfold metF at h
  rw [hk] at h
  obtain ⟨⟨h1, h2⟩, h3, h4⟩ := hiB_between hr.1 h
  unfold nearF btw9
  simp only [Bool.and_eq_true, Bool.or_eq_true, decide_eq_true_eq]
  constructor
  · by_cases q : gsn b1 r < gsn a1 r
    · rw [if_pos q] at h1; rw [if_neg (by omega)] at h2; omega
    · rw [if_neg q] at h1
      by_cases q2 : gsn b1 r > gsn a1 r
      · rw [if_pos q2] at h2; omega
      · rw [if_neg q2] at h2; omega
  · by_cases q : gsn b2 r < gsn a2 r
    · rw [if_pos q] at h3; rw [if_neg (by omega)] at h4; omega
    · rw [if_neg q] at h3
      by_cases q2 : gsn b2 r > gsn a2 r
      · rw [if_pos q2] at h4; omega
      · rw [if_neg q2] at h4; omega
end Go.Proofs.Ytaennpehlhgggaa

namespace Go.Proofs.Ytaennpehlhgggaa
open Go.RowKit
set_option linter.unusedVariables false
set_option linter.unusedSimpArgs false
def T9O (T U V : List Px) (n : Nat) (R : Rws) (ts : List (Nat × AV)) (ms : List (Nat × List AC)) : Prop :=
  ∃ (k : Nat) (ki : Int), k ≤ T.length ∧ n = T.length - k ∧ ki = k ∧ R = noRows ∧ ms = [] ∧ ts = [(10, vIt U), (11, vIt V), (80, vIt T), (81, vI T.length), (82, vI ki)]
def T9V (T U V : List Px) (x y ki : Int) (n : Nat) (R : Rws) (ts : List (Nat × AV)) (ms : List (Nat × List AC)) : Prop :=
  ∃ (i : Nat) (ii c : Int), i ≤ V.length ∧ n = V.length - i ∧ ii = i ∧ c = cntP x y (V.take i) ∧ R = noRows ∧ ms = [(13, mPx x y)] ∧ ts = [(10, vIt U), (11, vIt V), (13, vOw 13), (14, vI c), (15, vI 0), (80, vIt T), (81, vI T.length), (82, vI ki), (86, vIt V), (87, vI V.length), (88, vI ii)]
def T9U (T U V : List Px) (x y ki : Int) (n : Nat) (R : Rws) (ts : List (Nat × AV)) (ms : List (Nat × List AC)) : Prop :=
  ∃ (i : Nat) (ii c : Int), i ≤ U.length ∧ n = U.length - i ∧ ii = i ∧ c = cntP x y (U.take i) ∧ R = noRows ∧ ms = [(13, mPx x y)] ∧ ts = [(10, vIt U), (11, vIt V), (13, vOw 13), (14, vI 1), (15, vI c), (80, vIt T), (81, vI T.length), (82, vI ki), (98, vIt U), (99, vI U.length), (100, vI ii)]
end Go.Proofs.Ytaennpehlhgggaa

namespace Go.Proofs.Ytaennpehlhgggaa
open Go.RowKit
set_option linter.unusedVariables false
set_option linter.unusedSimpArgs false
theorem addL_has {r : Int} {L : List Px} (h : (L.length : Int) < r) (x y : Int) : (x, y) ∈ addL r L x y := by
  unfold addL
  by_cases h1 : 0 ≤ numI L x y
  · rw [if_pos h1]; exact numI_iff.1 h1
  · rw [if_neg h1, if_neg (by omega)]; simp
end Go.Proofs.Ytaennpehlhgggaa

namespace Go.Proofs.Ytaennpehlhgggaa
open Go.RowKit
set_option linter.unusedVariables false
set_option linter.unusedSimpArgs false
def CCopy9 (SI : SIT) : Prop := ∀ (r : Int) L b S, SI r L (ptrV b) S → L.length ≤ 300 → ThCall3 Try.prog 27 [vC (ptrV b)] (ptrV b) S fun S' p2 S2 => ∃ b2, p2 = ptrV b2 ∧ SI r L (ptrV b) S' ∧ SI r L p2 S2
def IntC (ys : List AC) : Prop := ∀ c ∈ ys, ∃ a : Int, c = .c (.int .i64 a)
theorem itC_intC : ∀ l, IntC (itC l)
  | [] => fun c h => by cases h
  | p :: l => fun c h => by
    simp only [itC, List.mem_cons] at h
    rcases h with h | h | h
    · exact ⟨_, h⟩
    · exact ⟨_, h⟩
    · exact itC_intC l c h
theorem IntC.splice {ys : List AC} (h : IntC ys) (off : Nat) (a : Int) : IntC (splice ys off [.c (.int .i64 a)]) := fun c hc => by
  unfold Go.Proofs.Ytaennpehlhgggaa.splice at hc
  simp only [List.mem_append, List.mem_singleton] at hc
  rcases hc with (hc | hc) | hc
  · exact h c (List.mem_of_mem_take hc)
  · exact ⟨a, hc⟩
  · exact h c (List.mem_of_mem_drop hc)
theorem splice_len {ys : List AC} {off : Nat} {c : AC} (h : off + 1 ≤ ys.length) : (splice ys off [c]).length = ys.length := by
  unfold splice; simp; omega
theorem row3_le {R : Rws} {a b c : HRow} (h0 : R 0 = some a) (h1 : R 1 = some b) (h2 : R 2 = some c) : RLe (upd (upd (row1 0 a) 1 b) 2 c) R := fun i q h => by
  by_cases e : i = 2
  · subst e; rw [upd_same] at h; cases h; exact h2
  · rw [upd_ne _ _ e] at h
    by_cases e : i = 1
    · subst e; rw [upd_same] at h; cases h; exact h1
    · rw [upd_ne _ _ e] at h; obtain ⟨rfl, rfl⟩ := row1_iff h; exact h0
abbrev anyRow (v : Value) (n : Nat) (ys : List AC) : HRow := ⟨32, 2, v, n, ys⟩
def O9I (r : Int) (L : List Px) (b b2 : Nat) (S S2 : SP) (v : Value) (n : Nat) (R : Rws) (ts : List (Nat × AV)) (ms : List (Nat × List AC)) : Prop :=
  ∃ (k : Nat) (ki : Int) (ys : List AC), k ≤ L.length ∧ n = L.length - k ∧ ki = k ∧ IntC ys ∧ ys.length = L.length * 2 ∧ R = upd (upd (row1 0 (ob (ptrV b) S)) 1 (ob (ptrV b2) S2)) 2 (anyRow v L.length ys) ∧ ms = [(6, [.c (.int .i64 r), .p (SlP 2 L.length (itC L))])] ∧ ts = [(5, vC (ptrV b)), (6, vOw 6), (7, vC (ptrV b2)), (8, vC v), (38, vI L.length), (39, vI ki)]
set_option maxRecDepth 100000 in
set_option maxHeartbeats 16000000 in
theorem law_Own9 {SI : SIT} (cn : CNew9 SI) (ca : CAdd9 SI) (cu : CNum9 SI) (cA : CAll9 SI) (cc : CCopy9 SI) {l : List Px} (hin : ∀ p ∈ l, InI p) {q1 q2 : Int} (hal : PCall Try.prog 9 [] (vB true)) : PCall Try.prog 7 [vIt l, vP q1 q2] (vB true) := by
  by_cases hl : 100 < (l.length : Int)
  · refine pcall_body (f := 7) Try.func7 rfl rfl rfl rfl ?_
    (repeat (first | ((with_reducible apply al_q); exact rfl) | ((with_reducible apply al_len); (iterate 3 exact rfl)) | (refine al_call0 rfl rfl (by (first | exact hal)) rfl ?_) | ((with_reducible apply awp_seq)) | ((with_reducible apply athen_normal)) | ((with_reducible apply awp_region)) | ((with_reducible apply al_nil)) | ((with_reducible apply awp_ret)) | ((with_reducible apply athen_ret)) | ((with_reducible apply awp_cond_1); exact rfl; (first | assumption | exact decide_eq_true (by omega) | (simp only [Bool.not_eq_true', decide_eq_false_iff_not, decide_eq_true_eq, Bool.not_eq_false']; (first | done | omega))))))
    (first | (refine apost_ret rfl (resl_tmp rfl resl_nil) ?_))
    exact AV.Le.refl _
  · have M1 := p_made9 cn ca (n := 1000) (l := l) (by omega)
    have hml := madeS_len (room9 1000) l
    have h1000 : room9 1000 = 1000 := by decide
    rw [h1000] at M1 hml
    generalize madeS 1000 l = L at *
    have l1 := addL_len 1000 L q1 q2
    have l2 := addL_len 1000 (addL 1000 L q1 q2) 1099511627776 0
    have g1 := addL_ge 1000 L q1 q2
    have g2 := addL_ge 1000 (addL 1000 L q1 q2) 1099511627776 0
    have hfar : 0 ≤ numI (addL 1000 (addL 1000 L q1 q2) 1099511627776 0) 1099511627776 0 := numI_iff.2 (addL_has (by omega) _ _)
    obtain ⟨z, hz⟩ : ∃ z, addL 1000 (addL 1000 L q1 q2) 1099511627776 0 = L ++ z := by
      have one : ∀ (L : List Px) x y, ∃ z, addL 1000 L x y = L ++ z := fun L x y => by
        unfold addL
        split
        · exact ⟨[], by simp⟩
        · split
          · exact ⟨[], by simp⟩
          · exact ⟨[(x, y)], rfl⟩
      obtain ⟨z1, h1⟩ := one L q1 q2
      obtain ⟨z2, h2⟩ := one (addL 1000 L q1 q2) 1099511627776 0
      exact ⟨z1 ++ z2, by rw [h2, h1, List.append_assoc]⟩
    have A1 := fun b S hS => ca 1000 L b S q1 q2 hS (by omega)
    have A2 := fun b S hS => ca 1000 (addL 1000 L q1 q2) b S 1099511627776 0 hS (by omega)
    have A3 := fun b S hS => cu 1000 (addL 1000 (addL 1000 L q1 q2) 1099511627776 0) b S 1099511627776 0 hS (by omega)
    rw [decide_eq_true hfar] at A3
    generalize addL 1000 (addL 1000 L q1 q2) 1099511627776 0 = L2 at *
    generalize addL 1000 L q1 q2 = L1 at *
    clear hin hfar
    have hsl : List.take (L.length * 2) (itC L2) = itC L := by rw [hz, itC_append, ← itC_len]; simp
    have hll : (L.length : Int) ≤ (L2.length : Int) := by omega
    have O1 := p_Olds (l := L) (by omega)
    have Z1 := p_Same9 (l := L) (by omega)
    clear hz
    refine pcall_body (f := 7) Try.func7 rfl rfl rfl rfl ?_
    refine awp_rows ?_
    (repeat (first | ((with_reducible apply rwp_seq)) | ((with_reducible apply rthen_normal)) | ((with_reducible apply rwp_region)) | ((with_reducible apply hs_nil)) | ((with_reducible apply rwp_skip)) | ((with_reducible apply rwp_cond_0); exact rfl; (first | assumption | exact decide_eq_false (by omega) | (simp only [Bool.not_eq_true', decide_eq_false_iff_not, decide_eq_true_eq, Bool.not_eq_false']; (first | done | omega)) | exact rfl)) | ((with_reducible apply hs_c); exact rfl; (repeat (first | ((with_reducible apply al_q); exact rfl) | ((with_reducible apply al_len); (iterate 3 exact rfl)))); (with_reducible apply al_nil))))
    refine hs_tv 0 rfl rfl rfl rfl M1 rfl rfl (fun v p S hpost => ?_)
    obtain ⟨b, rfl, rfl, hS⟩ := hpost
    have D1 := cc 1000 L b S hS (by omega)
    (repeat (first | ((with_reducible apply rwp_seq)) | ((with_reducible apply rthen_normal)) | ((with_reducible apply rwp_region)) | ((with_reducible apply hs_nil)) | ((with_reducible apply rwp_skip)) | ((with_reducible apply rwp_cond_0); exact rfl; (first | assumption | exact decide_eq_false (by omega) | (simp only [Bool.not_eq_true', decide_eq_false_iff_not, decide_eq_true_eq, Bool.not_eq_false']; (first | done | omega)) | exact rfl)) | ((with_reducible apply hs_c); exact rfl; (repeat (first | ((with_reducible apply al_q); exact rfl) | ((with_reducible apply al_eqptr); exact rfl; exact rfl; kernel_rfl; exact rfl))); (with_reducible apply al_nil))))
    refine hs_t3 0 1 (by decide) rfl rfl rfl rfl D1 rfl rfl rfl (fun S1 p2 S2 hpost => ?_)
    obtain ⟨b2, rfl, hS1, hS2⟩ := hpost
    have D2 := cA 1000 L b S1 hS1 (by omega)
    (repeat (first | ((with_reducible apply hs_c); exact rfl; (repeat (first | ((with_reducible apply al_q); exact rfl))); (with_reducible apply al_nil))))
    refine hs_t2 0 2 (by decide) rfl rfl rfl rfl D2 rfl rfl rfl (fun v S3 q hpost => ?_)
    obtain ⟨v', rfl, rfl, hS3⟩ := hpost
    (repeat (first | ((with_reducible apply rwp_seq)) | ((with_reducible apply rthen_normal)) | ((with_reducible apply rwp_region)) | ((with_reducible apply hs_nil)) | ((with_reducible apply rwp_skip)) | ((with_reducible apply rwp_cond_0); exact rfl; (first | assumption | exact decide_eq_false (by omega) | (simp only [Bool.not_eq_true', decide_eq_false_iff_not, decide_eq_true_eq, Bool.not_eq_false']; (first | done | omega)) | exact rfl)) | ((with_reducible apply hs_c); exact rfl; (repeat (first | ((with_reducible apply al_q); exact rfl) | ((with_reducible apply al_eqptr); exact rfl; exact rfl; kernel_rfl; exact rfl))); (with_reducible apply al_nil))))
    refine hs_t1 0 rfl rfl rfl rfl (A1 b S3 hS3) rfl rfl rfl (fun v S4 hpost => ?_)
    obtain ⟨rfl, hS4⟩ := hpost
    (repeat (first | ((with_reducible apply rwp_seq)) | ((with_reducible apply rthen_normal)) | ((with_reducible apply rwp_region)) | ((with_reducible apply hs_nil)) | ((with_reducible apply hs_c); exact rfl; (repeat (first | ((with_reducible apply al_q); exact rfl))); (with_reducible apply al_nil))))
    refine hs_t1 0 rfl rfl rfl rfl (A2 b S4 hS4) rfl rfl rfl (fun v S5 hpost => ?_)
    obtain ⟨rfl, hS5⟩ := hpost
    clear A1 A2 D1 D2 M1 hS hS1 hS3 hS4 cn ca
    (repeat (first | ((with_reducible apply rwp_seq)) | ((with_reducible apply rthen_normal)) | ((with_reducible apply rwp_region)) | ((with_reducible apply hs_nil)) | ((with_reducible apply rwp_block)) | ((with_reducible apply hs_c); exact rfl; (repeat (first | ((with_reducible apply al_q); exact rfl))); (with_reducible apply al_nil)) | ((with_reducible apply hs_len 2); (iterate 4 exact rfl); kernel_rfl; exact rfl)))
    refine rwp_loopL 93 (O9I 1000 L b b2 S5 S2 v') L.length (upd (upd (row1 0 (ob (ptrV b) S5)) 1 (ob (ptrV b2) S2)) 2 (anyRow v' L.length (itC L))) _ [(6, [.c (.int .i64 1000), .p (SlP 2 L.length (itC L))])] ⟨0, 0, itC L, Nat.zero_le _, rfl, rfl, itC_intC L, itC_len L, rfl, rfl, rfl⟩ (row3_le rfl rfl rfl) rfl ⟨rfl, rfl, rfl, rfl, rfl, rfl, trivial⟩ ⟨rfl, trivial⟩ rfl ?_
    rintro n R ts ms ⟨k, ki, ys, hk, rfl, hki, hys, hyl, rfl, rfl, rfl⟩ hok
    clear hok
    by_cases hq : k < L.length
    · have p2 : ki < (L.length : Int) := by omega
      have p3 : 0 ≤ ki := by omega
      have p4 : 0 < L.length := by omega
      have hoff : ki.toNat * 2 + 0 + 1 ≤ ys.length := by omega
      obtain ⟨c, hc⟩ : ∃ c, ys[ki.toNat * 2 + 0]? = some c := ⟨_, List.getElem?_eq_getElem (by omega)⟩
      obtain ⟨x, rfl⟩ := hys c (List.mem_of_getElem? hc)
      (repeat (first | ((with_reducible apply rwp_seq)) | ((with_reducible apply rthen_normal)) | ((with_reducible apply rwp_region)) | ((with_reducible apply hs_nil)) | ((with_reducible apply rwp_skip)) | ((with_reducible apply rwp_block)) | ((with_reducible apply rwp_cond_1); exact rfl; (first | assumption | exact decide_eq_true (by omega) | (simp only [Bool.not_eq_true', decide_eq_false_iff_not, decide_eq_true_eq, Bool.not_eq_false']; (first | done | omega)) | exact rfl)) | ((with_reducible apply hs_c); exact rfl; (repeat (first | ((with_reducible apply al_q); exact rfl) | ((with_reducible apply al_add); (iterate 3 exact rfl); (first | exact i64_wrap (by omega) | assumption | rfl); exact rfl))); (with_reducible apply al_nil)) | ((with_reducible apply hs_idx 2); (iterate 4 exact rfl); (first | omega); (first | assumption | omega); exact rfl; kernel_rfl; exact rfl) | ((with_reducible apply hs_fld 2); (iterate 3 exact rfl); (first | assumption | omega); kernel_rfl; exact rfl) | ((with_reducible apply hs_load1 2); (iterate 3 exact rfl); (first | assumption | omega); assumption; exact rfl; kernel_rfl; exact rfl)))
      refine hs_store 2 rfl rfl rfl rfl p4 rfl rfl hoff rfl ?_
      (repeat (first | ((with_reducible apply rthen_normal)) | ((with_reducible apply rwp_region)) | ((with_reducible apply hs_nil)) | ((with_reducible apply rblock_normal)) | ((with_reducible apply hs_c); exact rfl; (repeat (first | ((with_reducible apply al_q); exact rfl) | ((with_reducible apply al_add); (iterate 3 exact rfl); (first | exact i64_wrap (by omega) | assumption | rfl); exact rfl))); (with_reducible apply al_nil))))
      exact ⟨L.length - (k + 1), upd (upd (row1 0 (ob (ptrV b) S5)) 1 (ob (ptrV b2) S2)) 2 (anyRow v' L.length (splice ys (ki.toNat * 2 + 0) [.c (.int .i64 (IntKind.i64.wrap (x + 1)))])), _, [(6, [.c (.int .i64 1000), .p (SlP 2 L.length (itC L))])], by omega, ⟨k + 1, ki + 1, _, by omega, rfl, by omega, hys.splice _ _, (splice_len hoff).trans hyl, rfl, rfl, rfl⟩, row3_le rfl rfl rfl, rfl, ⟨rfl, rfl, rfl, rfl, rfl, rfl, trivial⟩, ⟨rfl, trivial⟩, rfl⟩
    · have p2 : ¬ ki < (L.length : Int) := by omega
      clear hys hyl
      (repeat (first | ((with_reducible apply rwp_seq)) | ((with_reducible apply rthen_normal)) | ((with_reducible apply rwp_region)) | ((with_reducible apply hs_nil)) | ((with_reducible apply rblock_same)) | ((with_reducible apply rwp_exit)) | ((with_reducible apply rthen_exit)) | ((with_reducible apply rwp_cond_0); exact rfl; (first | assumption | exact decide_eq_false (by omega) | (simp only [Bool.not_eq_true', decide_eq_false_iff_not, decide_eq_true_eq, Bool.not_eq_false']; (first | done | omega)) | exact rfl)) | ((with_reducible apply hs_c); exact rfl; (repeat (first | ((with_reducible apply al_q); exact rfl))); (with_reducible apply al_nil))))
      refine hs_t2c 1 3 (by decide) rfl rfl rfl rfl (cA 1000 L b2 S2 hS2 (by omega)) rfl rfl rfl (fun v S6 q hpost => ?_)
      obtain ⟨w1, rfl, rfl, hS6⟩ := hpost
      refine ⟨rfl, ?_⟩
      change hList _ _ _ _ _ _ (AS.put _ _ (vIt L))
      (repeat (first | ((with_reducible apply rwp_seq)) | ((with_reducible apply rthen_normal)) | ((with_reducible apply rwp_region)) | ((with_reducible apply hs_nil)) | ((with_reducible apply hs_c); exact rfl; (repeat (first | ((with_reducible apply al_q); exact rfl))); (with_reducible apply al_nil))))
      refine hs_t2c 0 3 (by decide) rfl rfl rfl rfl (cA 1000 L2 b S5 hS5 (by omega)) rfl rfl rfl (fun v S7 q hpost => ?_)
      obtain ⟨w2, rfl, rfl, hS7⟩ := hpost
      refine ⟨rfl, ?_⟩
      change hList _ _ _ _ _ _ (AS.put _ _ (vIt L2))
      (repeat (first | ((with_reducible apply rwp_seq)) | ((with_reducible apply rthen_normal)) | ((with_reducible apply rwp_region)) | ((with_reducible apply hs_nil)) | ((with_reducible apply hs_c); exact rfl; (repeat (first | ((with_reducible apply al_q); exact rfl))); (with_reducible apply al_nil))))
      refine hs_t1 0 rfl rfl rfl rfl (A3 b S7 hS7) rfl rfl rfl (fun v S8 hpost => ?_)
      obtain ⟨j, rfl, hj, hS8⟩ := hpost
      clear A3 cA cc cu
      (repeat (first | ((with_reducible apply hs_nilS); kernel_rfl) | ((with_reducible apply rwp_draw (id := 19) [0,1,2,3,4,5,6,7,8,9,10,11,12,13,14,15,16,17,18,19,20,21,22,23,24,25,26,27,28,29,30,31,32]); kernel_rfl; kernel_rfl; exact rfl) | ((with_reducible apply rwp_seq)) | ((with_reducible apply rthen_normal)) | ((with_reducible apply hs_nil)) | ((with_reducible apply rwp_ret)) | ((with_reducible apply hs_c); exact rfl; (repeat (first | ((with_reducible apply al_q); exact rfl) | ((with_reducible apply al_len); (iterate 3 exact rfl)) | ((with_reducible apply al_sl_h); (iterate 3 exact rfl); (first | assumption | omega); (first | assumption | omega); (first | assumption | rfl); (first | assumption | rfl); exact rfl) | (refine al_call0 rfl rfl (by (first | exact hal | exact O1 | exact Z1)) rfl ?_) | (refine al_call1 rfl rfl rfl (by (first | exact hal | exact O1 | exact Z1)) rfl ?_) | (refine al_call2 rfl rfl rfl rfl (by (first | exact hal | exact O1 | exact Z1)) rfl ?_) | ((with_reducible apply al_guard_b (c := true)); exact rfl; exact rfl; (first | assumption | exact decide_eq_true (by omega) | (simp only [Bool.not_eq_true', decide_eq_false_iff_not, decide_eq_true_eq, Bool.not_eq_false']; (first | done | omega)))))); (with_reducible apply al_nil))))
      (first | (refine apost_ret rfl (resl_tmp rfl resl_nil) ?_))
      exact AV.Le.refl _
end Go.Proofs.Ytaennpehlhgggaa

namespace Go.Proofs.Ytaennpehlhgggaa
set_option linter.unusedVariables false
/-- how many come ahead of a pixel. -/
def posE (l : List Ent) (x y : Int) : Nat := (putA l x y).length
theorem posE_len (l : List Ent) (x y : Int) : posE l x y ≤ l.length := putA_len l x y
theorem posE_spec : ∀ {l : List Ent} (h : Rises l) (x y : Int) (k : Nat) (e : Ent), l[k]? = some e → (k < posE l x y ↔ pLt e.1 e.2.1 x y = true)
  | [], _, _, _, k, e, hk => by simp at hk
  | f :: l, h, x, y, k, e, hk => by
    have hc := List.pairwise_cons.1 h
    by_cases hf : pLt f.1 f.2.1 x y = true
    · have hp : posE (f :: l) x y = posE l x y + 1 := by
        unfold posE putA
        rw [List.filter_cons, if_pos hf]; rfl
      rw [hp]
      cases k with
      | zero => simp at hk; subst hk; simp [hf]
      | succ k =>
        have := posE_spec hc.2 x y k e (by simpa using hk)
        rw [← this]; omega
    · have hall : ∀ g ∈ f :: l, ¬ pLt g.1 g.2.1 x y = true := by
        intro g hg
        rcases List.mem_cons.1 hg with rfl | hg
        · exact hf
        · have h1 := hc.1 g hg
          rw [pLt_iff] at h1 hf ⊢
          omega
      have hp : posE (f :: l) x y = 0 := by
        unfold posE putA
        rw [List.filter_eq_nil_iff.2 hall]; rfl
      rw [hp]
      have := hall e (List.mem_of_getElem? hk)
      simp [this]
theorem take_lt {l : List Ent} (h : Rises l) {x y : Int} : ∀ e ∈ l.take (posE l x y), pLt e.1 e.2.1 x y = true := by
  intro e he
  obtain ⟨k, hk⟩ := List.getElem?_of_mem he
  have hlt := (List.getElem?_eq_some_iff.1 hk).1
  rw [List.length_take] at hlt
  rw [List.getElem?_take_of_lt (by omega)] at hk
  exact (posE_spec h x y k e hk).1 (by omega)
theorem drop_ge {l : List Ent} (h : Rises l) {x y : Int} : ∀ e ∈ l.drop (posE l x y), ¬ pLt e.1 e.2.1 x y = true := by
  intro e he
  obtain ⟨k, hk⟩ := List.getElem?_of_mem he
  rw [List.getElem?_drop] at hk
  intro hlt
  have := (posE_spec h x y _ e hk).2 hlt
  omega
theorem putA_pos {l : List Ent} (h : Rises l) {x y : Int} : putA l x y = l.take (posE l x y) := by
  conv => lhs; rw [← List.take_append_drop (posE l x y) l]
  unfold putA
  rw [List.filter_append, List.filter_eq_self.2 (take_lt h), List.filter_eq_nil_iff.2 (drop_ge h), List.append_nil]
/-- is the pixel there? -/
theorem has_pos {l : List Ent} (h : Rises l) {x y : Int} : hasE l x y = true ↔ ∃ u, l[posE l x y]? = some (x, y, u) := by
  constructor
  · intro hh
    unfold hasE at hh
    rw [List.any_eq_true] at hh
    obtain ⟨e, he, hq⟩ := hh
    simp only [Bool.and_eq_true, decide_eq_true_eq] at hq
    obtain ⟨k, hk⟩ := List.getElem?_of_mem he
    have h1 := posE_spec h x y k e hk
    have h2 : ¬ k < posE l x y := by rw [h1, pLt_iff]; omega
    have hkl := (List.getElem?_eq_some_iff.1 hk).1
    have hpl : posE l x y < l.length := by omega
    have hp := List.getElem?_eq_getElem hpl
    have h3 := posE_spec h x y _ _ hp
    by_cases e' : k = posE l x y
    · refine ⟨e.2.2, ?_⟩
      rw [← e', hk]
      exact congrArg some (Prod.ext hq.1 (Prod.ext hq.2 rfl))
    · exfalso
      have h4 := List.pairwise_iff_getElem.1 h (posE l x y) k hpl hkl (by omega)
      have ek : l[k] = e := (List.getElem?_eq_some_iff.1 hk).2
      rw [ek, pLt_iff] at h4
      have h5 : pLt l[posE l x y].1 l[posE l x y].2.1 x y = true := by rw [pLt_iff]; omega
      have := h3.2 h5
      omega
  · rintro ⟨u, hu⟩
    exact List.any_eq_true.2 ⟨_, List.mem_of_getElem? hu, by simp⟩
theorem drop_gt {l : List Ent} (h : Rises l) {x y : Int} (hn : hasE l x y = false) : ∀ e ∈ l.drop (posE l x y), pLt x y e.1 e.2.1 = true := by
  intro e he
  have h1 := drop_ge h e he
  have h2 : ¬ (e.1 = x ∧ e.2.1 = y) := by
    rintro ⟨h3, h4⟩
    have : hasE l x y = true := List.any_eq_true.2 ⟨_, List.mem_of_mem_drop he, by simp [h3, h4]⟩
    rw [hn] at this; cases this
  rw [pLt_iff] at *
  omega
theorem putL_new {l : List Ent} (h : Rises l) {x y v : Int} (hn : hasE l x y = false) : putL l x y v = l.take (posE l x y) ++ (x, y, v) :: l.drop (posE l x y) := by
  unfold putL
  rw [putA_pos h]
  congr 2
  conv => lhs; rw [← List.take_append_drop (posE l x y) l]
  unfold putZ
  rw [List.filter_append, List.filter_eq_self.2 (drop_gt h hn), List.filter_eq_nil_iff.2 fun e he => ?_, List.nil_append]
  have := take_lt h e he
  rw [pLt_iff] at *
  omega
theorem putL_has {l : List Ent} (h : Rises l) {x y v u : Int} (hp : l[posE l x y]? = some (x, y, u)) : putL l x y v = l.take (posE l x y) ++ (x, y, v) :: l.drop (posE l x y + 1) := by
  unfold putL
  rw [putA_pos h]
  congr 2
  have hl := (List.getElem?_eq_some_iff.1 hp).1
  have he := (List.getElem?_eq_some_iff.1 hp).2
  conv => lhs; rw [← List.take_append_drop (posE l x y) l]
  unfold putZ
  rw [List.filter_append, List.filter_eq_nil_iff.2 (fun e he => by have := take_lt h e he; rw [pLt_iff] at *; omega), List.nil_append, List.drop_eq_getElem_cons hl, he, List.filter_cons_of_neg (by rw [pLt_iff]; simp)]
  refine List.filter_eq_self.2 fun e hm => ?_
  obtain ⟨k, hk⟩ := List.getElem?_of_mem hm
  rw [List.getElem?_drop] at hk
  have hkl := (List.getElem?_eq_some_iff.1 hk).1
  have h4 := List.pairwise_iff_getElem.1 h (posE l x y) _ hl hkl (by omega)
  rw [he, (List.getElem?_eq_some_iff.1 hk).2] at h4
  exact h4
theorem valE_pos {l : List Ent} (h : Rises l) {x y u : Int} (hp : l[posE l x y]? = some (x, y, u)) : hasE l x y = true ∧ valE l x y = u := valE_mem h (List.mem_of_getElem? hp)
/-- a box's part: all behind the first one that is not ahead of its low corner. -/
theorem inL_drop {l : List Ent} (h : Rises l) (a b c d : Int) : inL l a b c d = inL (l.drop (posE l a b)) a b c d := by
  conv => lhs; rw [← List.take_append_drop (posE l a b) l]
  unfold inL
  rw [List.filter_append, List.filter_eq_nil_iff.2 (fun e he => ?_), List.nil_append]
  have := take_lt h e he
  rw [pLt_iff] at this
  simp
  intros
  omega
/-- .. until the first one that is right of it. -/
theorem inL_stop {l : List Ent} (h : Rises l) {a b c d : Int} {k : Nat} {e : Ent} (hk : l[k]? = some e) (he : c < e.1) : inL l a b c d = inL (l.take k) a b c d := by
  conv => lhs; rw [← List.take_append_drop k l]
  unfold inL
  rw [List.filter_append, show (l.drop k).filter _ = [] from List.filter_eq_nil_iff.2 (fun f hf => ?_), List.append_nil]
  obtain ⟨j, hj⟩ := List.getElem?_of_mem hf
  rw [List.getElem?_drop] at hj
  have hjl := (List.getElem?_eq_some_iff.1 hj).1
  have hkl := (List.getElem?_eq_some_iff.1 hk).1
  have hc : c < f.1 := by
    by_cases e0 : j = 0
    · subst e0
      rw [Nat.add_zero, hk] at hj; cases hj; exact he
    · have h4 := List.pairwise_iff_getElem.1 h k (k + j) hkl hjl (by omega)
      rw [(List.getElem?_eq_some_iff.1 hk).2, (List.getElem?_eq_some_iff.1 hj).2, pLt_iff] at h4
      omega
  simp
  intros
  omega
theorem inL_step {l : List Ent} {a b c d : Int} {k : Nat} {x y v : Int} (hk : l[k]? = some (x, y, v)) (ha : a ≤ x) (hc : x ≤ c) : inL (l.take (k + 1)) a b c d = inL (l.take k) a b c d ++ if b ≤ y ∧ y ≤ d then [(x, y, v)] else [] := by
  unfold inL
  rw [take_filter hk]
  congr 1
  by_cases q : b ≤ y ∧ y ≤ d
  · rw [if_pos q, if_pos]
    simp [ha, hc, q.1, q.2]
  · rw [if_neg q, if_neg]
    simp [ha, hc]
    omega
theorem Rises.drop {l : List Ent} (h : Rises l) (k : Nat) : Rises (l.drop k) := List.Pairwise.sublist (List.drop_sublist k l) h
theorem drop_low {l : List Ent} (h : Rises l) {a b : Int} {k : Nat} {e : Ent} (hk : (l.drop (posE l a b))[k]? = some e) : a ≤ e.1 := by
  have := drop_ge h e (List.mem_of_getElem? hk)
  rw [pLt_iff] at this
  omega
end Go.Proofs.Ytaennpehlhgggaa

namespace Go.Proofs.Ytaennpehlhgggaa
set_option linter.unusedVariables false
set_option linter.unusedSimpArgs false
/-- an entry's pixel. -/
abbrev pixE (e : Ent) : Px := (e.1, e.2.1)
/-- pixels with their numbers, from k on. -/
def numF : Nat → List Px → List Ent
  | _, [] => []
  | k, p :: l => (p.1, p.2, (k : Int)) :: numF (k + 1) l
theorem numF_app : ∀ (k : Nat) (l : List Px) (p : Px), numF k (l ++ [p]) = numF k l ++ [(p.1, p.2, ((k + l.length : Nat) : Int))]
  | k, [], p => by simp [numF]
  | k, q :: l, p => by
    simp only [List.cons_append, numF, numF_app (k + 1) l p, List.length_cons]
    rw [show k + 1 + l.length = k + (l.length + 1) by omega]
theorem numF_pix : ∀ (k : Nat) (l : List Px), (numF k l).map pixE = l
  | _, [] => rfl
  | k, p :: l => by simp only [numF, List.map_cons, numF_pix (k + 1) l]
theorem numF_len (k : Nat) (l : List Px) : (numF k l).length = l.length := by
  have := congrArg List.length (numF_pix k l)
  rwa [List.length_map] at this
theorem numF_mem : ∀ (k : Nat) (l : List Px) (x y w : Int), (x, y, w) ∈ numF k l ↔ ∃ i : Nat, l[i]? = some (x, y) ∧ w = ((k + i : Nat) : Int)
  | k, [], x, y, w => by simp [numF]
  | k, p :: l, x, y, w => by
    rw [numF, List.mem_cons, numF_mem (k + 1) l x y w]
    constructor
    · rintro (h | ⟨i, h1, h2⟩)
      · simp only [Prod.mk.injEq] at h
        exact ⟨0, by rw [List.getElem?_cons_zero, h.1, h.2.1], by rw [h.2.2]; rfl⟩
      · exact ⟨i + 1, by rw [List.getElem?_cons_succ]; exact h1, by rw [h2]; omega⟩
    · rintro ⟨i, h1, h2⟩
      match i with
      | 0 => rw [List.getElem?_cons_zero] at h1; cases h1; exact .inl (by rw [h2]; rfl)
      | i + 1 => rw [List.getElem?_cons_succ] at h1; exact .inr ⟨i, h1, by rw [h2]; omega⟩
abbrev leV (a b : Ent) : Prop := a.2.2 ≤ b.2.2
theorem numF_ge : ∀ (k : Nat) (l : List Px) (e : Ent), e ∈ numF k l → (k : Int) ≤ e.2.2
  | k, p :: l, e, h => by
    rcases List.mem_cons.1 h with h | h
    · rw [h]; exact Int.le_refl _
    · have := numF_ge (k + 1) l e h; omega
theorem numF_sorted : ∀ (k : Nat) (l : List Px), (numF k l).Pairwise leV
  | _, [] => .nil
  | k, p :: l => List.pairwise_cons.2 ⟨fun e h => by have := numF_ge (k + 1) l e h; show (k : Int) ≤ e.2.2; omega, numF_sorted (k + 1) l⟩
/-- rows of entries, put together, put in order. -/
abbrev ltV (a b : Ent) : Bool := decide (a.2.2 < b.2.2)
def mrgE : List Ent → List Ent → List Ent
  | [], b => b
  | x :: a, [] => x :: a
  | x :: a, y :: b => if ltV y x then y :: mrgE (x :: a) b else x :: mrgE a (y :: b)
termination_by a b => a.length + b.length
theorem mrgE_nil (a : List Ent) : mrgE a [] = a := by cases a <;> simp [mrgE]
theorem mrgE_nil' (a : List Ent) : mrgE [] a = a := by simp [mrgE]
theorem mrgE_perm : ∀ a b, (mrgE a b).Perm (a ++ b) := by
  intro a b
  induction a, b using mrgE.induct with
  | case1 b => simp [mrgE]
  | case2 x a => simp [mrgE]
  | case3 x a y b h ih =>
    rw [mrgE, if_pos h]
    exact (ih.cons y).trans List.perm_middle.symm
  | case4 x a y b h ih =>
    rw [mrgE, if_neg h]
    exact ih.cons x
theorem mrgE_len (a b : List Ent) : (mrgE a b).length = a.length + b.length := by rw [(mrgE_perm a b).length_eq, List.length_append]
theorem mrgE_sorted : ∀ a b, a.Pairwise leV → b.Pairwise leV → (mrgE a b).Pairwise leV := by
  intro a b
  induction a, b using mrgE.induct with
  | case1 b => intro _ h; simpa [mrgE] using h
  | case2 x a => intro h _; simpa [mrgE] using h
  | case3 x a y b h ih =>
    intro ha hb
    rw [mrgE, if_pos h]
    have hbc := List.pairwise_cons.1 hb
    have hac := List.pairwise_cons.1 ha
    have hlt := of_decide_eq_true h
    refine List.pairwise_cons.2 ⟨fun r hr => ?_, ih ha hbc.2⟩
    rcases List.mem_append.1 ((mrgE_perm _ _).mem_iff.1 hr) with hr | hr
    · rcases List.mem_cons.1 hr with rfl | hr
      · exact Int.le_of_lt hlt
      · exact Int.le_trans (Int.le_of_lt hlt) (hac.1 r hr)
    · exact hbc.1 r hr
  | case4 x a y b h ih =>
    intro ha hb
    rw [mrgE, if_neg h]
    have hbc := List.pairwise_cons.1 hb
    have hac := List.pairwise_cons.1 ha
    have hle : x.2.2 ≤ y.2.2 := by
      have : ¬ y.2.2 < x.2.2 := fun h' => h (decide_eq_true h')
      omega
    refine List.pairwise_cons.2 ⟨fun r hr => ?_, ih hac.2 hb⟩
    rcases List.mem_append.1 ((mrgE_perm _ _).mem_iff.1 hr) with hr | hr
    · exact hac.1 r hr
    · rcases List.mem_cons.1 hr with rfl | hr
      · exact hle
      · exact Int.le_trans hle (hbc.1 r hr)
def srtE (l : List Ent) : List Ent :=
  if h : l.length < 2 then l else mrgE (srtE (l.take (l.length / 2))) (srtE (l.drop (l.length / 2)))
termination_by l.length
decreasing_by all_goals (simp; omega)
theorem srtE_perm : ∀ (N : Nat) (l : List Ent), l.length ≤ N → (srtE l).Perm l
  | N, l, h => by
    by_cases q : l.length < 2
    · rw [srtE, dif_pos q]
    · match N with
      | 0 => omega
      | N + 1 =>
        rw [srtE, dif_neg q]
        have h1 := srtE_perm N (l.take (l.length / 2)) (by simp; omega)
        have h2 := srtE_perm N (l.drop (l.length / 2)) (by simp; omega)
        refine (mrgE_perm _ _).trans ((h1.append h2).trans ?_)
        rw [List.take_append_drop]
theorem srtE_len (l : List Ent) : (srtE l).length = l.length := (srtE_perm _ l (Nat.le_refl _)).length_eq
theorem srtE_sorted : ∀ (N : Nat) (l : List Ent), l.length ≤ N → (srtE l).Pairwise leV
  | N, l, h => by
    by_cases q : l.length < 2
    · rw [srtE, dif_pos q]
      match l, q with
      | [], _ => exact .nil
      | [a], _ => exact List.pairwise_singleton _ _
    · match N with
      | 0 => omega
      | N + 1 =>
        rw [srtE, dif_neg q]
        exact mrgE_sorted _ _ (srtE_sorted N _ (by simp; omega)) (srtE_sorted N _ (by simp; omega))
/-- the index of these pixels. -/
def IdxOf (L : List Px) (es : List Ent) : Prop := Rises es ∧ es.Perm (numF 0 L) ∧ L.Nodup
theorem IdxOf.len {L : List Px} {es : List Ent} (h : IdxOf L es) : es.length = L.length := by rw [h.2.1.length_eq, numF_len]
theorem IdxOf.srt {L : List Px} {es : List Ent} (h : IdxOf L es) : srtE es = numF 0 L := by
  refine List.Perm.eq_of_pairwise (le := leV) (fun a b ha hb h1 h2 => ?_) (srtE_sorted _ es (Nat.le_refl _)) (numF_sorted 0 L) ((srtE_perm _ es (Nat.le_refl _)).trans h.2.1)
  have ha' := ((srtE_perm _ es (Nat.le_refl _)).trans h.2.1).mem_iff.1 ha
  obtain ⟨x, y, w⟩ := a
  obtain ⟨x', y', w'⟩ := b
  obtain ⟨i, p1, p2⟩ := (numF_mem 0 L x y w).1 ha'
  obtain ⟨j, q1, q2⟩ := (numF_mem 0 L x' y' w').1 hb
  have hw : w = w' := Int.le_antisymm h1 h2
  have hij : i = j := by omega
  subst hij
  rw [p1] at q1
  cases q1
  rw [hw]
theorem numI_at {L : List Px} (hn : L.Nodup) {i : Nat} {x y : Int} (h : L[i]? = some (x, y)) : numI L x y = (i : Int) := by
  have h0 : 0 ≤ numI L x y := numI_iff.2 (List.mem_of_getElem? h)
  unfold numI at h0 ⊢
  cases hf : L.findIdx? fun e => decide (e.1 = x) && decide (e.2 = y) with
  | none => rw [hf] at h0; exact absurd h0 (by decide)
  | some k =>
    obtain ⟨hk, h1, _⟩ := List.findIdx?_eq_some_iff_getElem.1 hf
    simp only [Bool.and_eq_true, decide_eq_true_eq] at h1
    have e1 : L[k] = (x, y) := Prod.ext h1.1 h1.2
    obtain ⟨hi, e2⟩ := List.getElem?_eq_some_iff.1 h
    have := (List.getElem_inj (h₀ := hk) (h₁ := hi) hn).1 (e1.trans e2.symm)
    rw [this]
theorem hasE_iff {es : List Ent} {a b : Int} : hasE es a b = true ↔ ∃ w, (a, b, w) ∈ es := by
  unfold hasE
  rw [List.any_eq_true]
  constructor
  · rintro ⟨⟨p, q, w⟩, h1, h2⟩
    simp only [Bool.and_eq_true, decide_eq_true_eq] at h2
    exact ⟨w, by rw [← h2.1, ← h2.2]; exact h1⟩
  · rintro ⟨w, h⟩
    exact ⟨_, h, by simp⟩
theorem IdxOf.num {L : List Px} {es : List Ent} (h : IdxOf L es) (x y : Int) : hasE es x y = decide (0 ≤ numI L x y) ∧ (0 ≤ numI L x y → valE es x y = numI L x y) := by
  by_cases hh : 0 ≤ numI L x y
  · obtain ⟨i, hi⟩ := List.getElem?_of_mem (numI_iff.1 hh)
    have hm : (x, y, ((0 + i : Nat) : Int)) ∈ es := h.2.1.mem_iff.2 ((numF_mem 0 L x y _).2 ⟨i, hi, rfl⟩)
    have h1 := valE_mem h.1 hm
    exact ⟨by rw [h1.1, decide_eq_true hh], fun _ => by rw [h1.2, numI_at h.2.2 hi, Nat.zero_add]⟩
  · refine ⟨?_, fun h' => absurd h' hh⟩
    rw [decide_eq_false hh]
    cases he : hasE es x y with
    | false => rfl
    | true =>
      obtain ⟨w, hw⟩ := hasE_iff.1 he
      obtain ⟨i, hi, _⟩ := (numF_mem 0 L x y w).1 (h.2.1.mem_iff.1 hw)
      exact absurd (numI_iff.2 (List.mem_of_getElem? hi)) hh
theorem IdxOf.add {L : List Px} {es : List Ent} (h : IdxOf L es) {x y : Int} (hn : ¬ 0 ≤ numI L x y) : IdxOf (L ++ [(x, y)]) (putL es x y L.length) := by
  have hne : hasE es x y = false := by rw [(h.num x y).1]; exact decide_eq_false hn
  refine ⟨putL_rises h.1 x y L.length, ?_, ?_⟩
  · rw [putL_new h.1 hne, numF_app, Nat.zero_add]
    refine List.perm_middle.trans ?_
    rw [List.take_append_drop]
    refine (h.2.1.cons _).trans ?_
    exact (List.perm_append_singleton _ _).symm
  · rw [List.nodup_append]
    refine ⟨h.2.2, by simp, fun a ha b hb e => ?_⟩
    rw [List.mem_singleton] at hb
    subst hb; subst e
    exact hn (numI_iff.2 ha)
theorem IdxOf.nil : IdxOf [] [] := ⟨.nil, .refl _, .nil⟩
/-- those that stand in a box, put in order by halves. -/
theorem IdxOf.box {L : List Px} {es : List Ent} (h : IdxOf L es) (a b c d : Int) : ((inL es a b c d).map pixE).Perm (L.filter fun p => decide (a ≤ p.1) && decide (p.1 ≤ c) && decide (b ≤ p.2) && decide (p.2 ≤ d)) := by
  have h1 : (inL es a b c d).Perm (inL (numF 0 L) a b c d) := h.2.1.filter _
  have h2 := h1.map pixE
  have h3 : ((inL (numF 0 L) a b c d).map pixE) = ((numF 0 L).map pixE).filter fun p => decide (a ≤ p.1) && decide (p.1 ≤ c) && decide (b ≤ p.2) && decide (p.2 ≤ d) := by
    unfold inL
    rw [List.filter_map]
    rfl
  rw [h3, numF_pix] at h2
  exact h2
theorem addL_had {r : Int} {L : List Px} {x y : Int} (h : 0 ≤ numI L x y) : addL r L x y = L ∧ addB r L x y = false ∧ addE r L x y = 0 := by unfold addL addB addE; rw [if_pos h, if_pos h, if_pos h]; exact ⟨rfl, rfl, rfl⟩
theorem addL_full {r : Int} {L : List Px} {x y : Int} (h : ¬ 0 ≤ numI L x y) (h2 : r ≤ (L.length : Int)) : addL r L x y = L ∧ addB r L x y = false ∧ addE r L x y = 90 := by unfold addL addB addE; rw [if_neg h, if_neg h, if_neg h, if_pos h2, if_pos h2, if_pos h2]; exact ⟨rfl, rfl, rfl⟩
theorem addL_new {r : Int} {L : List Px} {x y : Int} (h : ¬ 0 ≤ numI L x y) (h2 : ¬ r ≤ (L.length : Int)) : addL r L x y = L ++ [(x, y)] ∧ addB r L x y = true ∧ addE r L x y = 0 := by unfold addL addB addE; rw [if_neg h, if_neg h, if_neg h, if_neg h2, if_neg h2, if_neg h2]; exact ⟨rfl, rfl, rfl⟩
end Go.Proofs.Ytaennpehlhgggaa

namespace Go.Proofs.Ytaennpehlhgggaa
open Go.RowKit
set_option linter.unusedVariables false
set_option linter.unusedSimpArgs false
abbrev inB8 (a b c d x y : Int) : Bool := decide (a ≤ x) && decide (x ≤ c) && decide (b ≤ y) && decide (y ≤ d)
def S8I (l m : List Ent) (k : Nat) (ts : List (Nat × AV)) (ms : List (Nat × List AC)) : Prop :=
  ∃ i : Nat, i ≤ l.length ∧ k = l.length - i ∧ (∀ j, j < i → l[j]? = m[j]?) ∧ ms = [] ∧ ts = [(0, vEn l), (1, vEn m), (12, vEn l), (13, vI l.length), (14, vI i)]
end Go.Proofs.Ytaennpehlhgggaa

namespace Go.Proofs.Ytaennpehlhgggaa
open Go.RowKit
set_option linter.unusedVariables false
set_option linter.unusedSimpArgs false
/-- an index's row. -/
abbrev nxRow (v : Value) (l : List Ent) : HRow := ⟨69, 3, v, l.length, enC l⟩
instance iNearC_1 : RowTy Try.prog 42 69 3 24 := ⟨by kernel_rfl⟩
/-- what is known of Put, of any program whose index is a row alone. -/
def CPut (n : Nat) : Prop := ∀ l v (x y w : Int), v.oneCell' = true → Rises l → l.length ≤ n → OCall Try.prog 31 [vP x y, vI w] [.c v] (nxRow v l) fun r cs' r' => r = vB (!hasE l x y) ∧ ∃ v', v'.oneCell' = true ∧ cs' = [.c v'] ∧ r' = nxRow v' (putL l x y w)
def M8I (es : List Ent) (n : Nat) (R : Rws) (ts : List (Nat × AV)) (ms : List (Nat × List AC)) : Prop :=
  ∃ (k : Nat) (v : Value) (ki : Int), k ≤ es.length ∧ n = es.length - k ∧ ki = k ∧ v.oneCell' = true ∧ R = row1 0 (nxRow v (madeL [] (es.take k))) ∧ ms = [(9, [.c v])] ∧ ts = [(4, vOw 9), (5, vEn (madeL [] (es.take k))), (10, vEn es), (11, vI es.length), (12, vI ki)]
end Go.Proofs.Ytaennpehlhgggaa

namespace Go.Proofs.Ytaennpehlhgggaa
open Go.RowKit
set_option linter.unusedVariables false
set_option linter.unusedSimpArgs false
/-- such a function. -/
def ACall (P : Program) (f : FuncId) (args : List AV) (post : AV → HRow → Prop) : Prop :=
  ∀ i, HCall P f args noMem noRows fun v m' R' => ∃ q, m' = noMem ∧ R' = row1 i q ∧ 0 < q.sz ∧ post v q
theorem acall_of {P : Program} {f : FuncId} {args : List AV} {post : AV → HRow → Prop} (ha : args.all AV.closedB = true) (hp : ∀ v q, post v q → v.closedB = true)
    (h : HCall P f args noMem noRows fun v m' R' => ∃ q, m' = noMem ∧ R' = row1 0 q ∧ 0 < q.sz ∧ post v q) : ACall P f args post := by
  intro i
  have h1 := h.ren (π := fun j => j) (σ := swp 0 i) (τ := swp 0 i) (fun _ => rfl) (swp_swp _ _) (swp_swp _ _)
  rw [renId ha, show Mem.ren (fun j => j) noMem = noMem from rfl, show Rws.ren (swp 0 i) noRows = noRows from rfl] at h1
  refine ⟨fun U ρ W vs hH hown hvs => (h1.call U ρ W vs hH hown hvs).mono ?_⟩
  rintro e W' ⟨v1, r1, m', R', ρ', U', q0, ⟨r2, m2, R2, ⟨q, rfl, rfl, hz, hq⟩, rfl, rfl, rfl⟩, qq⟩
  rw [show Mem.ren (fun j => j) noMem = noMem from rfl, row1_ren, ren_closedV (hp _ _ hq)] at qq
  exact ⟨v1, r2, noMem, row1 i q, ρ', U', q0, ⟨q, rfl, rfl, hz, hq⟩, qq⟩
/-- its end. -/
theorem hfin_a {P : Program} {fn : Func} {l : List ResultVar} {xs : List AW} {R : Rws} {s : AS} {q : HRow} {post : AV → HRow → Prop} (hr : fn.results = l.toArray) (h : l.map (resOf P s) = xs.map some) (hi : R 0 = some q) (hx : (packed xs).closedB = true) (hqz : 0 < q.sz)
    (hp : post (packed xs) q) : hfin P fn noMem noRows (fun v m' R' => ∃ q, m' = noMem ∧ R' = row1 0 q ∧ 0 < q.sz ∧ post v q) R s := by
  refine ⟨xs, packed xs, noMem, row1 0 q, by rw [hr]; exact h, .refl _, ⟨q, rfl, rfl, hqz, hp⟩, fun k c h => (by cases h), fun i r h => ?_, fun j hj => absurd hj (AV.closed_of hx j), fun k c x j h => (by cases h), fun k c h => (by cases h), fun i r h => (by cases h)⟩
  obtain ⟨rfl, rfl⟩ := row1_iff h; exact hi
section
variable {P : Program} {R : Rws} {s : AS} {ops : Array Oper} {dr : Option (List Nat)} {ty : Nat} {pos : String} {after : Array Edge} {guard : Option (Nat × Bool)} {K : Rws → AS → Prop} {rest : List Oper}
theorem hs_a (i : Nat) {dst : Option Nat} {f : FuncId} {g : Operand} {ts : Array TypeId} {l : List Operand} {args : List AV} {post : AV → HRow → Prop} [E : Enters P f] (hw : want ops ⟨dst, .call ⟨.value g, l.toArray, ts⟩, ty, pos, after, guard⟩ s = some true) (hm : hotM dr ⟨dst, .call ⟨.value g, l.toArray, ts⟩, ty, pos, after, guard⟩ = true)
    (hg : s.look g = some (vC (.func (.func f) #[] #[]))) (ha : l.map s.look = args.map some) (hp : ACall P f args post) (hac : args.all AV.closedB = true) (hd : dstB dst s.n = true)
    (h : ∀ v q, post v q → hList P ops dr K rest (upd R i q) (s.put dst v)) : hList P ops dr K (⟨dst, .call ⟨.value g, l.toArray, ts⟩, ty, pos, after, guard⟩ :: rest) R s := by
  refine hs_h hw hm hg ha (hp i) (fun x hx j hj => absurd hj (AV.closed_of (List.all_eq_true.1 hac x hx) j)) (fun k' cs' h' => by cases h') (fun i' r' h' => by cases h') (fun k' cs' x j h' hx hj => by cases h') hd ?_
  rintro v m' R' ⟨q, rfl, rfl, _, hq⟩
  refine ⟨fun k' c h' => (by cases h'), ?_⟩
  rw [show ovr (row1 i q) R = upd R i q from ovr_upd R i _, over_noMem]
  exact h v q hq
/-- the row that is made is given up at once. -/
theorem hs_ac (j : Nat) {d : Nat} {f : FuncId} {g : Operand} {ts : Array TypeId} {l : List Operand} {args : List AV} {post : AV → HRow → Prop} [E : Enters P f] (hw : want ops ⟨some d, .call ⟨.value g, l.toArray, ts⟩, ty, pos, after, guard⟩ s = some true) (hm : hotM dr ⟨some d, .call ⟨.value g, l.toArray, ts⟩, ty, pos, after, guard⟩ = true)
    (hg : s.look g = some (vC (.func (.func f) #[] #[]))) (ha : l.map s.look = args.map some) (hp : ACall P f args post) (hj : R j = none) (hac : args.all AV.closedB = true) (hd : Nat.blt d s.n = true)
    (h : ∀ v q, post v q → v = vC q.v ∧ hList P ops dr K rest R (s.put (some d) (vS q.sz q.n q.ys))) : hList P ops dr K (⟨some d, .call ⟨.value g, l.toArray, ts⟩, ty, pos, after, guard⟩ :: rest) R s := by
  refine ⟨true, hw, dst_ok hd, .inr (.inr (.inr (.inr (.inr ⟨rfl, hm, f, args, noMem, noRows, _, ⟨⟨_, g, rfl, rfl, .inl ⟨[], hg, by simpa using ha, rfl⟩⟩, E.h⟩, hp j, fun x hx j hj => absurd hj (AV.closed_of (List.all_eq_true.1 hac x hx) j), fun k' cs' h' => (by cases h'), fun i' r' h' => (by cases h'), fun k' cs' x j h' => (by cases h'), ?_⟩))))⟩
  rintro v m' R' ⟨q, rfl, rfl, hqz, hq⟩ _ _ _
  refine ⟨fun k' c h' => (by cases h'), ?_⟩
  obtain ⟨rfl, h'⟩ := h v q hq
  rw [show ovr (row1 j q) R = upd R j q from ovr_upd R j _, over_noMem]
  refine ⟨j, d, q, rfl, upd_same _ _ _, hqz, upd_same _ _ _, by simpa [Nat.blt_eq, AS.put] using hd, ?_⟩
  have e1 : (fun x => if x = j then none else upd R j q x) = R := by
    funext x
    by_cases e : x = j
    · rw [if_pos e, e, hj]
    · rw [if_neg e, upd_ne _ _ e]
  rw [e1, put_put]
  exact h'
end
end Go.Proofs.Ytaennpehlhgggaa

namespace Go.Proofs.Ytaennpehlhgggaa
open Go.RowKit
set_option linter.unusedVariables false
set_option linter.unusedSimpArgs false
theorem enC_nil : enC [] = [] := rfl
theorem enC_tail (p : Ent) (l : List Ent) : ((enC (p :: l)).drop ((1 : Int).toNat * 3)).take (l.length * 3) = enC l := by
  show ((enC (p :: l)).drop 3).take (l.length * 3) = enC l
  rw [← enC_len]
  simp [enC]
theorem enC_takeT (l : List Ent) (k : Nat) : ((enC l).drop (0 * 3)).take ((l.take k).length * 3) = enC (l.take k) := by
  have e : enC l = enC (l.take k) ++ enC (l.drop k) := by rw [← enC_append, List.take_append_drop]
  rw [e, Nat.zero_mul, List.drop_zero, ← enC_len]
  simp
theorem enC_dropT (l : List Ent) (k : Nat) (hk : k ≤ l.length) : ((enC l).drop (k * 3)).take ((l.drop k).length * 3) = enC (l.drop k) := by
  have e : enC l = enC (l.take k) ++ enC (l.drop k) := by rw [← enC_append, List.take_append_drop]
  have e2 : k * 3 = (enC (l.take k)).length := by rw [enC_len, List.length_take, Nat.min_eq_left hk]
  rw [e, e2, List.drop_left, ← enC_len, List.take_length]
abbrev vE (x y v : Int) : AV := .w (.agg [.c (.int .i64 x), .c (.int .i64 y), .c (.int .i64 v)])
set_option maxRecDepth 100000 in
set_option maxHeartbeats 4000000 in
theorem p_came {x y v a b w : Int} : PCall Try.prog 36 [vE x y v, vE a b w] (vB (ltV (x, y, v) (a, b, w))) := by
  refine pcall_body (f := 36) Try.func36 rfl rfl rfl rfl ?_
  (repeat (first | ((with_reducible apply al_q); exact rfl) | ((with_reducible apply awp_seq)) | ((with_reducible apply athen_normal)) | ((with_reducible apply awp_region)) | ((with_reducible apply al_nil)) | ((with_reducible apply awp_ret))))
  (first | (refine apost_ret rfl (resl_tmp rfl resl_nil) ?_))
  exact AV.Le.refl _
/-- what tells which came earlier. -/
abbrev vCame : AV := vC (.func (.func 36) #[] #[])
def MgE (M : List Ent) (lv : AV) (K : Nat) (m : Nat) (R : Rws) (ts : List (Nat × AV)) (ms : List (Nat × List AC)) : Prop :=
  ∃ (a b out : List Ent) (v : Value), m = a.length + b.length ∧ out ++ mrgE a b = M ∧ out.length + m = K ∧ R = row1 0 (nxRow v out) ∧ ts = [(0, vEn a), (1, vEn b), (2, lv), (7, vC v)] ∧ ms = []
set_option maxRecDepth 100000 in
set_option maxHeartbeats 8000000 in
theorem p_mergeE {a b : List Ent} (ha : a.length ≤ 100000) (hb : b.length ≤ 100000) :
    PCall Try.prog 51 [vEn a, vEn b, vCame] (vEn (mrgE a b)) := by
  refine pcall_body (f := 51) Try.func51 rfl rfl rfl rfl ?_
  refine awp_rows ?_
  (repeat (first | ((with_reducible apply rwp_seq)) | ((with_reducible apply rthen_normal)) | ((with_reducible apply rwp_region)) | ((with_reducible apply hs_nil)) | ((with_reducible apply hs_c); exact rfl; (repeat (first | ((with_reducible apply al_q); exact rfl) | ((with_reducible apply al_add); (iterate 3 exact rfl); (first | exact i64_wrap (by omega) | assumption | rfl); exact rfl) | ((with_reducible apply al_len); (iterate 3 exact rfl)))); (with_reducible apply al_nil))))
  refine hs_make (l := 0) (c' := a.length + b.length) 0 rfl rfl rfl rfl (Nat.zero_le _) rfl rfl ?h2 (le_maxLen (by omega)) rfl (fun v hv => ?_)
  case h2 => omega
  (repeat (first | ((with_reducible apply rwp_seq)) | ((with_reducible apply rthen_normal)) | ((with_reducible apply hs_nil)) | ((with_reducible apply rwp_block)) | ((with_reducible apply hs_c); exact rfl; (repeat (first | ((with_reducible apply al_q); exact rfl))); (with_reducible apply al_nil))))
  refine rwp_loopL 52 (MgE (mrgE a b) (vCame) (a.length + b.length)) (a.length + b.length) (row1 0 (nxRow v [])) _ _ ⟨a, b, [], v, rfl, rfl, Nat.zero_add _, rfl, rfl, rfl⟩ (row1_le _ _ _) rfl ⟨rfl, rfl, rfl, rfl, trivial⟩ trivial rfl ?_
  rintro m R ts ms ⟨a', b', out, v, rfl, hM, hK, rfl, rfl, rfl⟩ hok
  clear hok hv
  by_cases qa : 0 < a'.length
  · by_cases qb : 0 < b'.length
    · have qa' : (a'.length : Int) > 0 := by omega
      have qb' : (b'.length : Int) > 0 := by omega
      obtain ⟨⟨x, n, s⟩, a2, rfl⟩ := List.exists_cons_of_length_pos qa
      obtain ⟨⟨y, m, t⟩, b2, rfl⟩ := List.exists_cons_of_length_pos qb
      have E1 : ((enC ((x, n, s) :: a2)).drop ((0 : Int).toNat * 3)).take 3 = [.c (.int .i64 x), .c (.int .i64 n), .c (.int .i64 s)] := enC_xyv (j := 0) (i := 0) rfl rfl
      have E2 : ((enC ((y, m, t) :: b2)).drop ((0 : Int).toNat * 3)).take 3 = [.c (.int .i64 y), .c (.int .i64 m), .c (.int .i64 t)] := enC_xyv (j := 0) (i := 0) rfl rfl
      have C1 := p_came (x := y) (y := m) (v := t) (a := x) (b := n) (w := s)
      cases hlt : ltV (y, m, t) (x, n, s) with
      | true =>
        rw [hlt] at C1
        have e1 : ((y, m, t) :: b2).length - (1 : Int).toNat = b2.length := rfl
        have e2 := enC_tail (y, m, t) b2
        have hM' : (out ++ [(y, m, t)]) ++ mrgE ((x, n, s) :: a2) b2 = mrgE a b := by
          rw [← hM, mrgE, if_pos hlt, List.append_assoc]; rfl
        have hl1 : (out ++ [(y, m, t)]).length = out.length + 1 := List.length_append
        have hl2 : ((y, m, t) :: b2).length = b2.length + 1 := rfl
        have hl3 : ((x, n, s) :: a2).length = a2.length + 1 := rfl
        (repeat (first | ((with_reducible apply hs_nilS); kernel_rfl) | ((with_reducible apply rwp_draw (id := 3) [0,1,2,3,4,5,6,7]); kernel_rfl; kernel_rfl; exact rfl) | ((with_reducible apply rwp_draw (id := 4) [0,1,2,3,6,7,4,5,8,9]); kernel_rfl; kernel_rfl; exact rfl) | ((with_reducible apply rwp_seq)) | ((with_reducible apply rthen_normal)) | ((with_reducible apply rwp_region)) | ((with_reducible apply hs_nil)) | ((with_reducible apply rwp_skip)) | ((with_reducible apply rwp_block)) | ((with_reducible apply rwp_cond_1); exact rfl; (first | assumption | exact decide_eq_true (by omega) | (simp only [Bool.not_eq_true', decide_eq_false_iff_not, decide_eq_true_eq, Bool.not_eq_false']; (first | done | omega)) | exact rfl)) | ((with_reducible apply hs_c); exact rfl; (repeat (first | ((with_reducible apply al_q); exact rfl) | ((with_reducible apply al_loadPN); (iterate 5 exact rfl)) | ((with_reducible apply al_idxS); (iterate 3 exact rfl); (first | decide | omega); (first | decide | omega); (first | assumption | rfl); exact rfl) | ((with_reducible apply al_len); (iterate 3 exact rfl)) | ((with_reducible apply al_sl_l); (iterate 3 exact rfl); (first | assumption | omega); (first | assumption | omega); (first | assumption | rfl); (first | assumption | rfl); exact rfl) | ((with_reducible apply al_bslice); (iterate 10 exact rfl)) | (refine al_call2 rfl rfl rfl rfl (by (first | exact C1)) rfl ?_) | ((with_reducible apply al_guard_b (c := true)); exact rfl; exact rfl; (first | assumption | exact decide_eq_true (by omega) | (simp only [Bool.not_eq_true', decide_eq_false_iff_not, decide_eq_true_eq, Bool.not_eq_false']; (first | done | omega)))))); (with_reducible apply al_nil))))
        refine hs_app0 0 rfl rfl rfl rfl ?q1 ?q2 rfl rfl (fun v' hv' => ?_)
        case q1 => exact le_maxLen (by show out.length + 1 ≤ 1000000; omega)
        case q2 => show (out.length + 1) * 24 ≤ 140737488355328; omega
        (repeat (first | ((with_reducible apply hs_nilS); kernel_rfl) | ((with_reducible apply rthen_normal)) | ((with_reducible apply rblock_normal)) | ((with_reducible apply hs_c); exact rfl; (repeat (first | ((with_reducible apply al_q); exact rfl))); (with_reducible apply al_nil))))
        have e3 : nxRow v' (out ++ [(y, m, t)]) = ⟨69, 3, v', out.length + 1, enC out ++ [.c (.int .i64 y), .c (.int .i64 m), .c (.int .i64 t)]⟩ := by
          unfold nxRow; rw [← enC_one, List.length_append]; rfl
        refine ⟨_, row1 0 (nxRow v' (out ++ [(y, m, t)])), _, _, ?_, ⟨(x, n, s) :: a2, b2, out ++ [(y, m, t)], v', rfl, hM', ?_, rfl, rfl, rfl⟩, by rw [e3]; exact row1_le _ _ _, rfl, ⟨rfl, rfl, rfl, rfl, trivial⟩, trivial, rfl⟩
        · omega
        · omega
      | false =>
        rw [hlt] at C1
        have e1 : ((x, n, s) :: a2).length - (1 : Int).toNat = a2.length := rfl
        have e2 := enC_tail (x, n, s) a2
        have hM' : (out ++ [(x, n, s)]) ++ mrgE a2 ((y, m, t) :: b2) = mrgE a b := by
          rw [← hM, mrgE, if_neg (by rw [hlt]; decide), List.append_assoc]; rfl
        have hl1 : (out ++ [(x, n, s)]).length = out.length + 1 := List.length_append
        have hl2 : ((y, m, t) :: b2).length = b2.length + 1 := rfl
        have hl3 : ((x, n, s) :: a2).length = a2.length + 1 := rfl
        (repeat (first | ((with_reducible apply hs_nilS); kernel_rfl) | ((with_reducible apply rwp_draw (id := 3) [0,1,2,3,4,5,6,7]); kernel_rfl; kernel_rfl; exact rfl) | ((with_reducible apply rwp_draw (id := 5) [0,1,2,3,6,7,4,5,8,9]); kernel_rfl; kernel_rfl; exact rfl) | ((with_reducible apply rwp_seq)) | ((with_reducible apply rthen_normal)) | ((with_reducible apply rwp_region)) | ((with_reducible apply hs_nil)) | ((with_reducible apply rwp_skip)) | ((with_reducible apply rwp_block)) | ((with_reducible apply rwp_cond_1); exact rfl; (first | assumption | exact decide_eq_true (by omega) | (simp only [Bool.not_eq_true', decide_eq_false_iff_not, decide_eq_true_eq, Bool.not_eq_false']; (first | done | omega)) | exact rfl)) | ((with_reducible apply rwp_cond_0); exact rfl; (first | assumption | exact decide_eq_false (by omega) | (simp only [Bool.not_eq_true', decide_eq_false_iff_not, decide_eq_true_eq, Bool.not_eq_false']; (first | done | omega)) | exact rfl)) | ((with_reducible apply hs_c); exact rfl; (repeat (first | ((with_reducible apply al_q); exact rfl) | ((with_reducible apply al_loadPN); (iterate 5 exact rfl)) | ((with_reducible apply al_idxS); (iterate 3 exact rfl); (first | decide | omega); (first | decide | omega); (first | assumption | rfl); exact rfl) | ((with_reducible apply al_len); (iterate 3 exact rfl)) | ((with_reducible apply al_sl_l); (iterate 3 exact rfl); (first | assumption | omega); (first | assumption | omega); (first | assumption | rfl); (first | assumption | rfl); exact rfl) | ((with_reducible apply al_bslice); (iterate 10 exact rfl)) | (refine al_call2 rfl rfl rfl rfl (by (first | exact C1)) rfl ?_) | ((with_reducible apply al_guard_b (c := true)); exact rfl; exact rfl; (first | assumption | exact decide_eq_true (by omega) | (simp only [Bool.not_eq_true', decide_eq_false_iff_not, decide_eq_true_eq, Bool.not_eq_false']; (first | done | omega)))))); (with_reducible apply al_nil))))
        refine hs_app0 0 rfl rfl rfl rfl ?q1 ?q2 rfl rfl (fun v' hv' => ?_)
        case q1 => exact le_maxLen (by show out.length + 1 ≤ 1000000; omega)
        case q2 => show (out.length + 1) * 24 ≤ 140737488355328; omega
        (repeat (first | ((with_reducible apply hs_nilS); kernel_rfl) | ((with_reducible apply rthen_normal)) | ((with_reducible apply rblock_normal)) | ((with_reducible apply hs_c); exact rfl; (repeat (first | ((with_reducible apply al_q); exact rfl))); (with_reducible apply al_nil))))
        have e3 : nxRow v' (out ++ [(x, n, s)]) = ⟨69, 3, v', out.length + 1, enC out ++ [.c (.int .i64 x), .c (.int .i64 n), .c (.int .i64 s)]⟩ := by
          unfold nxRow; rw [← enC_one, List.length_append]; rfl
        refine ⟨_, row1 0 (nxRow v' (out ++ [(x, n, s)])), _, _, ?_, ⟨a2, (y, m, t) :: b2, out ++ [(x, n, s)], v', rfl, hM', ?_, rfl, rfl, rfl⟩, by rw [e3]; exact row1_le _ _ _, rfl, ⟨rfl, rfl, rfl, rfl, trivial⟩, trivial, rfl⟩
        · omega
        · omega
    · have qa' : (a'.length : Int) > 0 := by omega
      have qb' : ¬ (b'.length : Int) > 0 := by omega
      have hb0 : b' = [] := List.length_eq_zero_iff.1 (by omega)
      have hz : (a'.length : Int) = a'.length := rfl
      (repeat (first | ((with_reducible apply rwp_seq)) | ((with_reducible apply rthen_normal)) | ((with_reducible apply rwp_region)) | ((with_reducible apply hs_nil)) | ((with_reducible apply rblock_same)) | ((with_reducible apply rwp_exit)) | ((with_reducible apply rthen_exit)) | ((with_reducible apply rwp_cond_0); exact rfl; (first | assumption | exact decide_eq_false (by omega) | (simp only [Bool.not_eq_true', decide_eq_false_iff_not, decide_eq_true_eq, Bool.not_eq_false']; (first | done | omega)) | exact rfl)) | ((with_reducible apply hs_c); exact rfl; (repeat (first | ((with_reducible apply al_q); exact rfl) | ((with_reducible apply al_len); (iterate 3 exact rfl)) | ((with_reducible apply al_guard_b (c := true)); exact rfl; exact rfl; (first | assumption | exact decide_eq_true (by omega) | (simp only [Bool.not_eq_true', decide_eq_false_iff_not, decide_eq_true_eq, Bool.not_eq_false']; (first | done | omega)))))); (with_reducible apply al_nil))))
      refine hs_app0 0 rfl rfl rfl rfl ?q1 ?q2 (enC_closed _) rfl (fun v' hv' => ?_)
      case q1 => exact le_maxLen (by show out.length + a'.length ≤ 1000000; omega)
      case q2 => show (out.length + a'.length) * 24 ≤ 140737488355328; omega
      (repeat (first | ((with_reducible apply rwp_seq)) | ((with_reducible apply rthen_normal)) | ((with_reducible apply rwp_region)) | ((with_reducible apply hs_nil)) | ((with_reducible apply hs_c); exact rfl; (repeat (first | ((with_reducible apply al_q); exact rfl))); (with_reducible apply al_nil))))
      refine hs_appC (k := (mrgE a b).length) (zs := enC (mrgE a b)) 0 rfl rfl rfl rfl ?p1 ?p2 ?p3 ?p4 (enC_closed _) rfl ?_
      case p1 => exact le_maxLen (by show (out.length + a'.length) + b'.length ≤ 1000000; omega)
      case p2 => show ((out.length + a'.length) + b'.length) * 24 ≤ 140737488355328; omega
      case p3 => show (out.length + a'.length) + b'.length = (mrgE a b).length; rw [mrgE_len]; omega
      case p4 => show (enC out ++ enC a') ++ enC b' = enC (mrgE a b); rw [← hM, hb0, mrgE_nil, ← enC_append, enC_nil, List.append_nil]
      (repeat (first | ((with_reducible apply rthen_normal)) | ((with_reducible apply hs_nil)) | ((with_reducible apply rwp_ret)) | ((with_reducible apply hs_c); exact rfl; (repeat (first | ((with_reducible apply al_q); exact rfl))); (with_reducible apply al_nil))))
      (first | (refine apost_ret rfl (resl_tmp rfl resl_nil) ?_))
      exact AV.Le.refl _
  · have qa' : ¬ (a'.length : Int) > 0 := by omega
    have ha0 : a' = [] := List.length_eq_zero_iff.1 (by omega)
    (repeat (first | ((with_reducible apply rwp_seq)) | ((with_reducible apply rthen_normal)) | ((with_reducible apply rwp_region)) | ((with_reducible apply hs_nil)) | ((with_reducible apply rblock_same)) | ((with_reducible apply rwp_exit)) | ((with_reducible apply rthen_exit)) | ((with_reducible apply rwp_cond_0); exact rfl; (first | assumption | exact decide_eq_false (by omega) | (simp only [Bool.not_eq_true', decide_eq_false_iff_not, decide_eq_true_eq, Bool.not_eq_false']; (first | done | omega)) | exact rfl)) | ((with_reducible apply hs_c); exact rfl; (repeat (first | ((with_reducible apply al_q); exact rfl) | ((with_reducible apply al_len); (iterate 3 exact rfl)) | ((with_reducible apply al_guard_b (c := false)); exact rfl; exact rfl; (first | assumption | exact decide_eq_false (by omega) | (simp only [Bool.not_eq_true', decide_eq_false_iff_not, decide_eq_true_eq, Bool.not_eq_false']; (first | done | omega)))))); (with_reducible apply al_nil))))
    refine hs_app0 0 rfl rfl rfl rfl ?q1 ?q2 (enC_closed _) rfl (fun v' hv' => ?_)
    case q1 => exact le_maxLen (by show out.length + a'.length ≤ 1000000; omega)
    case q2 => show (out.length + a'.length) * 24 ≤ 140737488355328; omega
    (repeat (first | ((with_reducible apply rwp_seq)) | ((with_reducible apply rthen_normal)) | ((with_reducible apply rwp_region)) | ((with_reducible apply hs_nil)) | ((with_reducible apply hs_c); exact rfl; (repeat (first | ((with_reducible apply al_q); exact rfl))); (with_reducible apply al_nil))))
    refine hs_appC (k := (mrgE a b).length) (zs := enC (mrgE a b)) 0 rfl rfl rfl rfl ?p1 ?p2 ?p3 ?p4 (enC_closed _) rfl ?_
    case p1 => exact le_maxLen (by show (out.length + a'.length) + b'.length ≤ 1000000; omega)
    case p2 => show ((out.length + a'.length) + b'.length) * 24 ≤ 140737488355328; omega
    case p3 => show (out.length + a'.length) + b'.length = (mrgE a b).length; rw [mrgE_len]; omega
    case p4 => show (enC out ++ enC a') ++ enC b' = enC (mrgE a b); rw [← hM, ha0, mrgE_nil', enC_nil, List.append_nil, ← enC_append]
    (repeat (first | ((with_reducible apply rthen_normal)) | ((with_reducible apply hs_nil)) | ((with_reducible apply rwp_ret)) | ((with_reducible apply hs_c); exact rfl; (repeat (first | ((with_reducible apply al_q); exact rfl))); (with_reducible apply al_nil))))
    (first | (refine apost_ret rfl (resl_tmp rfl resl_nil) ?_))
    exact AV.Le.refl _
set_option maxRecDepth 100000 in
set_option maxHeartbeats 8000000 in
theorem p_SortE :
    ∀ (N : Nat) (l : List Ent), l.length ≤ N → N ≤ 100000 → PCall Try.prog 34 [vEn l, vCame] (vEn (srtE l)) := by
  intro N
  induction N with
  | zero =>
    intro l h1 h2
    have C0 := p_mergeE (a := l) (b := []) (by omega) (by simp)
    rw [mrgE_nil] at C0
    have C1 : PCall Try.prog 51 [vEn l, vNil, vCame] (vEn l) := pcall_le C0 rfl rfl (by
      intro i x y hx hy
      match i with
      | 0 => cases hx; cases hy; exact .refl _
      | 1 => cases hx; cases hy; exact nil_le 3
      | 2 => cases hx; cases hy; exact .refl _
      | i + 3 => simp at hx)
    have q1 : (l.length : Int) < 2 := by omega
    have e : srtE l = l := by rw [srtE, dif_pos (by omega)]
    rw [e]
    clear C0
    refine pcall_body (f := 34) Try.func34 rfl rfl rfl rfl ?_
    (repeat (first | ((with_reducible apply al_q); exact rfl) | ((with_reducible apply al_len); (iterate 3 exact rfl)) | (refine al_call3 rfl rfl rfl rfl rfl (by (first | exact C1)) rfl ?_) | ((with_reducible apply awp_seq)) | ((with_reducible apply athen_normal)) | ((with_reducible apply awp_region)) | ((with_reducible apply al_nil)) | ((with_reducible apply awp_ret)) | ((with_reducible apply athen_ret)) | ((with_reducible apply awp_cond_1); exact rfl; (first | assumption | exact decide_eq_true (by omega) | (simp only [Bool.not_eq_true', decide_eq_false_iff_not, decide_eq_true_eq, Bool.not_eq_false']; (first | done | omega))))))
    (first | (refine apost_ret rfl (resl_tmp rfl resl_nil) ?_))
    exact AV.Le.refl _
  | succ N ih =>
    intro l h1 h2
    by_cases q : l.length < 2
    · have C0 := p_mergeE (a := l) (b := []) (by omega) (by simp)
      rw [mrgE_nil] at C0
      have C1 : PCall Try.prog 51 [vEn l, vNil, vCame] (vEn l) := pcall_le C0 rfl rfl (by
        intro i x y hx hy
        match i with
        | 0 => cases hx; cases hy; exact .refl _
        | 1 => cases hx; cases hy; exact nil_le 3
        | 2 => cases hx; cases hy; exact .refl _
        | i + 3 => simp at hx)
      have q1 : (l.length : Int) < 2 := by omega
      have e : srtE l = l := by rw [srtE, dif_pos (by omega)]
      rw [e]
      clear C0 ih
      refine pcall_body (f := 34) Try.func34 rfl rfl rfl rfl ?_
      (repeat (first | ((with_reducible apply al_q); exact rfl) | ((with_reducible apply al_len); (iterate 3 exact rfl)) | (refine al_call3 rfl rfl rfl rfl rfl (by (first | exact C1)) rfl ?_) | ((with_reducible apply awp_seq)) | ((with_reducible apply athen_normal)) | ((with_reducible apply awp_region)) | ((with_reducible apply al_nil)) | ((with_reducible apply awp_ret)) | ((with_reducible apply athen_ret)) | ((with_reducible apply awp_cond_1); exact rfl; (first | assumption | exact decide_eq_true (by omega) | (simp only [Bool.not_eq_true', decide_eq_false_iff_not, decide_eq_true_eq, Bool.not_eq_false']; (first | done | omega))))))
      (first | (refine apost_ret rfl (resl_tmp rfl resl_nil) ?_))
      exact AV.Le.refl _
    · have q1 : ¬ (l.length : Int) < 2 := by omega
      have e : srtE l = mrgE (srtE (l.take (l.length / 2))) (srtE (l.drop (l.length / 2))) := by rw [srtE, dif_neg q]
      have C1 := ih (l.take (l.length / 2)) (by simp; omega) (by omega)
      have C2 := ih (l.drop (l.length / 2)) (by simp; omega) (by omega)
      have l1 := srtE_len (l.take (l.length / 2))
      have l2 := srtE_len (l.drop (l.length / 2))
      have C3 := p_mergeE (a := srtE (l.take (l.length / 2))) (b := srtE (l.drop (l.length / 2))) (by rw [l1]; simp; omega) (by rw [l2]; simp; omega)
      have hh : ((l.length : Int) / 2).toNat = l.length / 2 := by omega
      have e1 : ((l.length : Int) / 2).toNat - 0 = (l.take (l.length / 2)).length := by rw [hh]; simp; omega
      have e2 := enC_takeT l (l.length / 2)
      have e3 : ((l.length : Int)).toNat - ((l.length : Int) / 2).toNat = (l.drop (l.length / 2)).length := by rw [hh]; simp
      have e4 := enC_dropT l (l.length / 2) (by omega)
      have e5 : ((enC l).drop (((l.length : Int) / 2).toNat * 3)).take ((l.drop (l.length / 2)).length * 3) = enC (l.drop (l.length / 2)) := by rw [hh]; exact e4
      rw [e]
      clear ih l1 l2 e e4 hh
      refine pcall_body (f := 34) Try.func34 rfl rfl rfl rfl ?_
      (repeat (first | ((with_reducible apply al_q); exact rfl) | ((with_reducible apply al_len); (iterate 3 exact rfl)) | ((with_reducible apply al_sl_hm); (iterate 4 exact rfl); (first | assumption | omega); (first | assumption | omega); (first | assumption | omega); (first | assumption | rfl); (first | assumption | rfl); exact rfl) | ((with_reducible apply al_sl_lhm); (iterate 5 exact rfl); (first | assumption | omega); (first | assumption | omega); (first | assumption | omega); (first | assumption | omega); (first | assumption | rfl); (first | assumption | rfl); exact rfl) | ((with_reducible apply al_quo); (iterate 3 exact rfl); omega; omega; omega; exact rfl) | (refine al_call2 rfl rfl rfl rfl (by (first | exact C1 | exact C2 | exact C3)) rfl ?_) | (refine al_call3 rfl rfl rfl rfl rfl (by (first | exact C1 | exact C2 | exact C3)) rfl ?_) | ((with_reducible apply al_nilS); kernel_rfl) | ((with_reducible apply awp_region_draw); kernel_rfl; kernel_rfl; exact rfl) | ((with_reducible apply awp_seq)) | ((with_reducible apply athen_normal)) | ((with_reducible apply awp_region)) | ((with_reducible apply al_nil)) | ((with_reducible apply awp_ret)) | ((with_reducible apply awp_skip)) | ((with_reducible apply awp_cond_0); exact rfl; (first | assumption | exact decide_eq_false (by omega) | (simp only [Bool.not_eq_true', decide_eq_false_iff_not, decide_eq_true_eq, Bool.not_eq_false']; (first | done | omega))))))
      (first | (refine apost_ret rfl (resl_tmp rfl resl_nil) ?_))
      exact AV.Le.refl _
end Go.Proofs.Ytaennpehlhgggaa

namespace Go.Proofs.Ytaennpehlhgggaa
open Go.RowKit
set_option linter.unusedVariables false
set_option linter.unusedSimpArgs false
/-- what is known of the methods that read. -/
def CGet (n : Nat) : Prop := ∀ l v (x y : Int), v.oneCell' = true → Rises l → l.length ≤ n → OCall Try.prog 32 [vP x y] [.c v] (nxRow v l) fun r cs' r' => r = .tup [.one (.c (.int .i64 (valE l x y))), .one (.c (.bool (hasE l x y)))] ∧ cs' = [.c v] ∧ r' = nxRow v l
def CLen (n : Nat) : Prop := ∀ l v, v.oneCell' = true → Rises l → l.length ≤ n → OCall Try.prog 17 [] [.c v] (nxRow v l) fun r cs' r' => r = vI l.length ∧ cs' = [.c v] ∧ r' = nxRow v l
def CAll (n : Nat) : Prop := ∀ l v, v.oneCell' = true → Rises l → l.length ≤ n → OCall2 Try.prog 35 [] [.c v] (nxRow v l) fun r cs' r' q => cs' = [.c v] ∧ r' = nxRow v l ∧ r = vC q.v ∧ q = nxRow q.v l
def CIn (n : Nat) : Prop := ∀ l v (a b c d : Int), v.oneCell' = true → Rises l → l.length ≤ n → OCall2 Try.prog 38 [vP a b, vP c d] [.c v] (nxRow v l) fun r cs' r' q => cs' = [.c v] ∧ r' = nxRow v l ∧ r = vC q.v ∧ q = nxRow q.v (inL l a b c d)
def CCopy (n : Nat) : Prop := ∀ l v, v.oneCell' = true → Rises l → l.length ≤ n → OCall2 Try.prog 45 [] [.c v] (nxRow v l) fun r cs' r' q => cs' = [.c v] ∧ r' = nxRow v l ∧ r = .w (.agg [.c q.v]) ∧ q = nxRow q.v l ∧ q.v.oneCell' = true
end Go.Proofs.Ytaennpehlhgggaa

namespace Go.Proofs.Ytaennpehlhgggaa
open Go.RowKit
set_option linter.unusedVariables false
set_option linter.unusedSimpArgs false
def R9I (SI : SIT) (r : Int) (l : List Px) (n : Nat) (R : Rws) (ts : List (Nat × AV)) (ms : List (Nat × List AC)) : Prop :=
  ∃ (k b : Nat) (S : SP) (ki : Int) (L : List Px), k ≤ l.length ∧ n = l.length - k ∧ ki = k ∧ L.length ≤ k ∧ (L.length : Int) ≤ r ∧ SI r L (ptrV b) S ∧ R = row1 0 (ob (ptrV b) S) ∧ ms = [] ∧ ts = [(5, vC (ptrV b)), (6, vI r), (26, vIt l), (27, vI l.length), (28, vI ki)]
end Go.Proofs.Ytaennpehlhgggaa

namespace Go.Proofs.Ytaennpehlhgggaa
open Go.RowKit
set_option linter.unusedVariables false
set_option linter.unusedSimpArgs false
set_option maxRecDepth 100000 in
set_option maxHeartbeats 16000000 in
theorem p_alive9 {SI : SIT} (cn : CNew9 SI) (ca : CAdd9 SI) (cu : CNum9 SI) (cA : CAll9 SI) (cc : CCopy9 SI) (cl : CLen9 SI) (cr : CRoom9 SI) (cm : CMet9 SI) (ce : CNear9 SI) : PCall Try.prog 9 [] (vB true) := by
  have C0 := cn 3
  rw [show room9 3 = 3 by decide] at C0
  have C1 := fun b S hS => ca 3 [] b S 0 0 hS (by decide)
  rw [show addL 3 [] 0 0 = [(0, 0)] by decide, show addB 3 [] 0 0 = true by decide, show addE 3 [] 0 0 = 0 by decide] at C1
  have C2 := fun b S hS => ca 3 [(0, 0)] b S 2 0 hS (by decide)
  rw [show addL 3 [(0, 0)] 2 0 = [(0, 0), (2, 0)] by decide] at C2
  have C3 := fun b S hS => ca 3 [(0, 0), (2, 0)] b S 2 0 hS (by decide)
  rw [show addL 3 [(0, 0), (2, 0)] 2 0 = [(0, 0), (2, 0)] by decide, show addB 3 [(0, 0), (2, 0)] 2 0 = false by decide, show addE 3 [(0, 0), (2, 0)] 2 0 = 0 by decide] at C3
  have C4 := fun b S hS => ca 3 [(0, 0), (2, 0)] b S 5 5 hS (by decide)
  rw [show addL 3 [(0, 0), (2, 0)] 5 5 = [(0, 0), (2, 0), (5, 5)] by decide] at C4
  have C5 := fun b S hS => ca 3 [(0, 0), (2, 0), (5, 5)] b S 9 0 hS (by decide)
  rw [show addL 3 [(0, 0), (2, 0), (5, 5)] 9 0 = [(0, 0), (2, 0), (5, 5)] by decide, show addB 3 [(0, 0), (2, 0), (5, 5)] 9 0 = false by decide, show addE 3 [(0, 0), (2, 0), (5, 5)] 9 0 = 90 by decide] at C5
  have hin : ∀ p ∈ ([(0, 0), (2, 0), (5, 5)] : List Px), InI p := by unfold InI; decide
  have C6 := fun b S hS => cm 3 [(0, 0), (2, 0), (5, 5)] b S 4 0 0 0 0 hS (by decide) (by decide) hin (by unfold InI; decide) (by decide) (by decide)
  rw [show sortI (decide ((0 : Int) < 4)) (decide ((0 : Int) < 0)) (metF 4 0 0 0 0) [(0, 0), (2, 0), (5, 5)] = [(2, 0), (0, 0)] by decide] at C6
  have C7 := fun b S hS => ce 3 [(0, 0), (2, 0), (5, 5)] b S 0 0 9 9 0 0 hS (by decide) (by decide) hin (by unfold IsR; decide) (by decide) (by decide)
  rw [show sortI (decide ((9 : Int) < 0)) (decide ((9 : Int) < 0)) (nearF 0 0 9 9 0) [(0, 0), (2, 0), (5, 5)] = [(0, 0), (2, 0), (5, 5)] by decide] at C7
  have C8 := fun b S hS => cu 3 [(0, 0), (2, 0), (5, 5)] b S 5 5 hS (by decide)
  rw [show numI [(0, 0), (2, 0), (5, 5)] 5 5 = 2 by decide] at C8
  have C9 := fun b S hS => cc 3 [(0, 0), (2, 0), (5, 5)] b S hS (by decide)
  have CL := fun b S hS => cl 3 [(0, 0), (2, 0), (5, 5)] b S hS (by decide)
  have CR := fun b S hS => cr 3 [(0, 0), (2, 0), (5, 5)] b S hS (by decide)
  have CA := fun b S hS => cA 3 [(0, 0), (2, 0), (5, 5)] b S hS (by decide)
  clear cn ca cu cA cc cl cr cm ce hin
  refine pcall_body (f := 9) Try.func9 rfl rfl rfl rfl ?_
  refine awp_rows ?_
  (repeat (first | ((with_reducible apply rwp_seq)) | ((with_reducible apply rthen_normal)) | ((with_reducible apply rwp_region)) | ((with_reducible apply hs_nil)) | ((with_reducible apply hs_c); exact rfl; (repeat (first | ((with_reducible apply al_q); exact rfl))); (with_reducible apply al_nil))))
  refine hs_tn 0 rfl rfl rfl rfl C0 rfl rfl (fun p S hpost => ?_)
  obtain ⟨b, rfl, hS⟩ := hpost
  (repeat (first | ((with_reducible apply rwp_seq)) | ((with_reducible apply rthen_normal)) | ((with_reducible apply rwp_region)) | ((with_reducible apply hs_nil)) | ((with_reducible apply rwp_skip)) | ((with_reducible apply rwp_cond_0); exact rfl; (first | assumption | exact decide_eq_false (by omega) | (simp only [Bool.not_eq_true', decide_eq_false_iff_not, decide_eq_true_eq, Bool.not_eq_false']; (first | done | omega)) | exact rfl)) | ((with_reducible apply hs_c); exact rfl; (repeat (first | ((with_reducible apply al_q); exact rfl) | ((with_reducible apply al_eqptr); exact rfl; exact rfl; kernel_rfl; exact rfl))); (with_reducible apply al_nil))))
  refine hs_t1 0 rfl rfl rfl rfl (C1 b S hS) rfl rfl rfl (fun v S1 hpost => ?_)
  obtain ⟨rfl, hS1⟩ := hpost
  (repeat (first | ((with_reducible apply rwp_seq)) | ((with_reducible apply rthen_normal)) | ((with_reducible apply rwp_region)) | ((with_reducible apply hs_nil)) | ((with_reducible apply hs_c); exact rfl; (repeat (first | ((with_reducible apply al_q); exact rfl))); (with_reducible apply al_nil))))
  refine hs_t1 0 rfl rfl rfl rfl (C2 b S1 hS1) rfl rfl rfl (fun v S2 hpost => ?_)
  obtain ⟨rfl, hS2⟩ := hpost
  (repeat (first | ((with_reducible apply rwp_seq)) | ((with_reducible apply rthen_normal)) | ((with_reducible apply rwp_region)) | ((with_reducible apply hs_nil)) | ((with_reducible apply hs_c); exact rfl; (repeat (first | ((with_reducible apply al_q); exact rfl))); (with_reducible apply al_nil))))
  refine hs_t1 0 rfl rfl rfl rfl (C3 b S2 hS2) rfl rfl rfl (fun v S3 hpost => ?_)
  obtain ⟨rfl, hS3⟩ := hpost
  (repeat (first | ((with_reducible apply rwp_seq)) | ((with_reducible apply rthen_normal)) | ((with_reducible apply rwp_region)) | ((with_reducible apply hs_nil)) | ((with_reducible apply hs_c); exact rfl; (repeat (first | ((with_reducible apply al_q); exact rfl))); (with_reducible apply al_nil))))
  refine hs_t1 0 rfl rfl rfl rfl (C4 b S3 hS3) rfl rfl rfl (fun v S4 hpost => ?_)
  obtain ⟨rfl, hS4⟩ := hpost
  (repeat (first | ((with_reducible apply rwp_seq)) | ((with_reducible apply rthen_normal)) | ((with_reducible apply rwp_region)) | ((with_reducible apply hs_nil)) | ((with_reducible apply hs_c); exact rfl; (repeat (first | ((with_reducible apply al_q); exact rfl))); (with_reducible apply al_nil))))
  refine hs_t1 0 rfl rfl rfl rfl (C5 b S4 hS4) rfl rfl rfl (fun v S5 hpost => ?_)
  obtain ⟨rfl, hS5⟩ := hpost
  (repeat (first | ((with_reducible apply rwp_seq)) | ((with_reducible apply rthen_normal)) | ((with_reducible apply rwp_region)) | ((with_reducible apply hs_nil)) | ((with_reducible apply hs_c); exact rfl; (repeat (first | ((with_reducible apply al_q); exact rfl))); (with_reducible apply al_nil))))
  refine hs_t2c 0 2 (by decide) rfl rfl rfl rfl (C6 b S5 hS5) rfl rfl rfl (fun v S6 q hpost => ?_)
  obtain ⟨w1, rfl, rfl, hS6⟩ := hpost
  refine ⟨rfl, ?_⟩
  change hList _ _ _ _ _ _ (AS.put _ _ (vIt [(2, 0), (0, 0)]))
  (repeat (first | ((with_reducible apply rwp_seq)) | ((with_reducible apply rthen_normal)) | ((with_reducible apply rwp_region)) | ((with_reducible apply hs_nil)) | ((with_reducible apply hs_c); exact rfl; (repeat (first | ((with_reducible apply al_q); exact rfl))); (with_reducible apply al_nil))))
  refine hs_t1 0 rfl rfl rfl rfl (C7 b S6 hS6) rfl rfl rfl (fun v S7 hpost => ?_)
  obtain ⟨rfl, hS7⟩ := hpost
  (repeat (first | ((with_reducible apply rwp_seq)) | ((with_reducible apply rthen_normal)) | ((with_reducible apply rwp_region)) | ((with_reducible apply hs_nil)) | ((with_reducible apply hs_c); exact rfl; (repeat (first | ((with_reducible apply al_q); exact rfl))); (with_reducible apply al_nil))))
  refine hs_t1 0 rfl rfl rfl rfl (C8 b S7 hS7) rfl rfl rfl (fun v S8 hpost => ?_)
  obtain ⟨j, rfl, hj, hS8⟩ := hpost
  have hj := hj (by decide)
  subst hj
  (repeat (first | ((with_reducible apply rwp_seq)) | ((with_reducible apply rthen_normal)) | ((with_reducible apply rwp_region)) | ((with_reducible apply hs_nil)) | ((with_reducible apply hs_c); exact rfl; (repeat (first | ((with_reducible apply al_q); exact rfl))); (with_reducible apply al_nil))))
  refine hs_t3 0 1 (by decide) rfl rfl rfl rfl (C9 b S8 hS8) rfl rfl rfl (fun S9 p2 T hpost => ?_)
  obtain ⟨b2, rfl, hS9, hT⟩ := hpost
  (repeat (first | ((with_reducible apply rwp_seq)) | ((with_reducible apply rthen_normal)) | ((with_reducible apply rwp_region)) | ((with_reducible apply hs_nil)) | ((with_reducible apply hs_c); exact rfl; (repeat (first | ((with_reducible apply al_q); exact rfl) | ((with_reducible apply al_loadPN); (iterate 5 exact rfl)) | ((with_reducible apply al_idxS); (iterate 3 exact rfl); (first | decide | omega); (first | decide | omega); (first | assumption | rfl); exact rfl) | ((with_reducible apply al_eqP); (iterate 4 exact rfl)) | ((with_reducible apply al_len); (iterate 3 exact rfl)) | ((with_reducible apply al_nilckX); (iterate 3 exact rfl)) | ((with_reducible apply al_fldX); (iterate 3 exact rfl)) | ((with_reducible apply al_guard_b (c := true)); exact rfl; exact rfl; (first | assumption | exact decide_eq_true (by omega) | (simp only [Bool.not_eq_true', decide_eq_false_iff_not, decide_eq_true_eq, Bool.not_eq_false']; (first | done | omega)))))); (with_reducible apply al_nil))))
  refine hs_t1 0 rfl rfl rfl rfl (CL b S9 hS9) rfl rfl rfl (fun v S10 hpost => ?_)
  obtain ⟨rfl, hS10⟩ := hpost
  (repeat (first | ((with_reducible apply hs_c); exact rfl; (repeat (first | ((with_reducible apply al_q); exact rfl))); (with_reducible apply al_nil))))
  refine hs_t1 0 rfl rfl rfl rfl (CR b S10 hS10) rfl rfl rfl (fun v S11 hpost => ?_)
  obtain ⟨rfl, hS11⟩ := hpost
  (repeat (first | ((with_reducible apply hs_c); exact rfl; (repeat (first | ((with_reducible apply al_q); exact rfl) | ((with_reducible apply al_neptr); exact rfl; exact rfl; kernel_rfl; exact rfl))); (with_reducible apply al_nil))))
  refine hs_t2c 1 2 (by decide) rfl rfl rfl rfl (CA b2 T hT) rfl rfl rfl (fun v S12 q hpost => ?_)
  obtain ⟨w3, rfl, rfl, hS12⟩ := hpost
  refine ⟨rfl, ?_⟩
  change hList _ _ _ _ _ _ (AS.put _ _ (vIt [(0, 0), (2, 0), (5, 5)]))
  (repeat (first | ((with_reducible apply rthen_normal)) | ((with_reducible apply hs_nil)) | ((with_reducible apply rwp_ret)) | ((with_reducible apply hs_c); exact rfl; (repeat (first | ((with_reducible apply al_q); exact rfl) | ((with_reducible apply al_len); (iterate 3 exact rfl)))); (with_reducible apply al_nil))))
  (first | (refine apost_ret rfl (resl_tmp rfl resl_nil) ?_))
  exact AV.Le.refl _
end Go.Proofs.Ytaennpehlhgggaa

