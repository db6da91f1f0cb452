/-
  slices.Insert and slices.Clone, as calls on rows. My own text.
-/
import Derived.Test.YtpopeipcjpfbaaaNearV
import Derived.Test.YtpopeipcjpfbaaaNearC
namespace Go.Proofs.Ytpopeipcjpfbaaa
open Go.RowKit Go.Lib
set_option linter.unusedVariables false
set_option linter.unusedSimpArgs false
theorem enC_take : ∀ (l : List Ent) (i : Nat), (enC l).take (i * 3) = enC (l.take i)
  | [], i => by simp [enC]
  | e :: l, 0 => by simp [enC]
  | e :: l, i + 1 => by
    rw [show (i + 1) * 3 = i * 3 + 1 + 1 + 1 by omega]
    simp only [enC, List.take_succ_cons, enC_take l i]
theorem enC_drop : ∀ (l : List Ent) (i : Nat), (enC l).drop (i * 3) = enC (l.drop i)
  | [], i => by simp [enC]
  | e :: l, 0 => by simp
  | e :: l, i + 1 => by
    rw [show (i + 1) * 3 = i * 3 + 1 + 1 + 1 by omega]
    simp only [enC, List.drop_succ_cons, enC_drop l i]
theorem RpL.take {U : Nat → Prop} {ρ : Nat → Nat} {W : World} {xs : List AC} {vs : List Value} (h : RpL U ρ W xs vs) (k : Nat) : RpL U ρ W (xs.take k) (vs.take k) := by
  have := h.sub 0 k
  simpa using this
theorem RpL.drop {U : Nat → Prop} {ρ : Nat → Nat} {W : World} {xs : List AC} {vs : List Value} (h : RpL U ρ W xs vs) (k : Nat) : RpL U ρ W (xs.drop k) (vs.drop k) := by
  refine ⟨by rw [List.length_drop, List.length_drop, h.1], fun i x v hx hv => ?_⟩
  rw [List.getElem?_drop] at hx hv
  exact h.2 _ x v hx hv
theorem RpL.ones {U : Nat → Prop} {ρ : Nat → Nat} {W : World} {xs : List AC} {vs : List Value} (h : RpL U ρ W xs vs) : ∀ v ∈ vs, v.oneCell' = true := fun v hv => by
  obtain ⟨j, hj⟩ := List.getElem?_of_mem hv
  have hlt : j < xs.length := by rw [h.1]; exact (List.getElem?_eq_some_iff.1 hj).1
  exact (h.2 j _ v (List.getElem?_eq_getElem hlt) hj).cell
theorem own_one {W : World} {b e sz n : Nat} {v : Value} {xs : List Value} (h : W.ownsRow b e sz v n xs) : v.oneCell' = true := by
  rcases h.2 with ⟨rfl, _⟩ | ⟨g, cap, cur, rfl, _⟩ <;> rfl
/-- the row with one thing put in. -/
abbrev insE (l : List Ent) (i : Nat) (e : Ent) : List Ent := l.take i ++ e :: l.drop i
theorem insE_len {l : List Ent} {i : Nat} {e : Ent} (hi : i ≤ l.length) : (insE l i e).length = l.length + 1 := by
  unfold insE; rw [List.length_append, List.length_cons, List.length_take, List.length_drop]; omega
theorem insE_rp {U : Nat → Prop} {ρ : Nat → Nat} {W : World} {l : List Ent} {xs news : List Value} {e : Ent} (i : Nat) (h : RpL U ρ W (enC l) xs) (hn : RpL U ρ W (enC [e]) news) : RpL U ρ W (enC (insE l i e)) (xs.take (i * 3) ++ news ++ xs.drop (i * 3)) := by
  have : enC (insE l i e) = (enC l).take (i * 3) ++ enC [e] ++ (enC l).drop (i * 3) := by
    rw [enC_take, enC_drop, ← enC_append, ← enC_append, List.append_assoc]; rfl
  rw [this]
  exact ((h.take _).append hn).append (h.drop _)
theorem enC_c : ∀ (l : List Ent) (y : AC), y ∈ enC l → ∃ u, y = .c u
  | [], y, h => by cases h
  | e :: l, y, h => by
    simp only [enC, List.mem_cons] at h
    rcases h with h | h | h | h
    · exact ⟨_, h⟩
    · exact ⟨_, h⟩
    · exact ⟨_, h⟩
    · exact enC_c l y h
/-- numbers alone: told of any memory. -/
theorem enC_any {U U' : Nat → Prop} {ρ ρ' : Nat → Nat} {W W' : World} {l : List Ent} {vs : List Value} (h : RpL U ρ W (enC l) vs) : RpL U' ρ' W' (enC l) vs := by
  refine ⟨h.1, fun i x v hx hv => ?_⟩
  have := h.2 i x v hx hv
  obtain ⟨u, rfl⟩ := enC_c l x (List.mem_of_getElem? hx)
  exact this
set_option maxRecDepth 100000 in
theorem c_Insert {l : List Ent} {v : Value} {i : Nat} {x y w : Int} (hi : i ≤ l.length) (hl : l.length ≤ 1000000) :
    RCall Try.prog 22 [vC v, vI i, vS 3 1 [.c (.int .i64 x), .c (.int .i64 y), .c (.int .i64 w)]] (nxRow v l) fun rv r' => ∃ v', v'.oneCell' = true ∧ rv = vC v' ∧ r' = nxRow v' (insE l i (x, y, w)) := by
  refine rcall_world rfl ?_
  intro U W vs xs ho hrl hcl hnu hvs
  obtain ⟨hlen, hv⟩ := hvs
  match vs, hlen with
  | [a, b, c], _ =>
    have e0 : a = v := (hv 0 _ a rfl rfl).1
    have e1 : b = .int .i64 i := (hv 1 _ b rfl rfl).1
    obtain ⟨⟨A, cc, e2, hc1, hc2, hc3⟩, hfoot⟩ := hv 2 _ c rfl rfl
    obtain ⟨vb, news, rfl, hat⟩ := hc3 (by decide)
    subst e0 e1 e2
    have hnl : news.length = 3 := hat.rp.1.symm
    have hnw : RpL U id W (enC [(x, y, w)]) news := enC_any (U := fun _ => True) (ρ := id) (W := W) hat.rp
    have hnew := insE_rp i hrl hnw
    have hll : (insE l i (x, y, w)).length = l.length + 1 := insE_len hi
    have hxl : xs.length = l.length * 3 := ho.1
    have hvb : U vb.block := hfoot _ ⟨cc, vb, rfl, by decide, .inl rfl⟩
    have hcl' : ∀ q ∈ enC (insE l i (x, y, w)), q.closedB = true := fun q hq => List.all_eq_true.1 (enC_closed _) q hq
    have fin : ∀ (e : Ending) (W' : World) (v' : Value), e = .returned v' → W'.ownsRow 0 52 3 v' (l.length + 1) (xs.take (i * 3) ++ news ++ xs.drop (i * 3)) → W.grownBy W' a.ownBlock → (∀ g, v'.ownBlock = some g → a.ownBlock = some g ∨ W.heap.size ≤ g) →
        ∃ u rv r', e = .returned u ∧ (∃ v', v'.oneCell' = true ∧ rv = vC v' ∧ r' = nxRow v' (insE l i (x, y, w))) ∧ RowTo W W' (nxRow a l) r' U ∧ RpV U id W rv u ∧ rv.closedB = true := by
      rintro e W' v' rfl h1 h2 h3
      have h1c := own_one h1
      refine ⟨v', _, _, rfl, ⟨v', h1c, rfl, rfl⟩, ⟨h2, ⟨_, ?_, hnew⟩, hcl', h3⟩, ⟨rfl, h1c⟩, rfl⟩
      show W'.ownsRow 0 52 3 v' (insE l i (x, y, w)).length _
      rw [hll]; exact h1
    by_cases hend : i = l.length
    · subst hend
      refine (ins_end W a l.length xs news vb cc ho (by omega) hnl hat.at_ hnw.ones).mono ?_
      rintro e W' ⟨v', rfl, h1, h2, h3, _⟩
      refine fin _ _ v' rfl ?_ h2 h3
      rw [List.take_of_length_le (by omega), List.drop_of_length_le (by omega), List.append_nil]
      exact h1
    · have hlt : i < l.length := by omega
      obtain ⟨g, cap, cur, rfl, hbg, hg, hnc, hcm, hcs, htake⟩ : ∃ g cap cur, a = .slice (some ⟨g, 0, none⟩) l.length cap ∧ 0 ≤ g ∧ W.heap[g]? = some (.cells cur 52 (0, 0)) ∧ l.length ≤ cap ∧ cap ≤ maxLen ∧ cur.size = cap * 3 ∧ cur.toList.take (l.length * 3) = xs := by
        rcases ho.2 with ⟨_, h0⟩ | h
        · have : l.length = 0 := h0
          omega
        · exact h
      have hgne : vb.block ≠ g := fun e => hnu g rfl (by rw [← e]; exact hvb)
      by_cases hroom : l.length + 1 ≤ cap
      · refine (ins_room W g l.length cap i cur news vb cc hg hlt hroom (by unfold maxLen at hcm; omega) hcs (by rw [htake]; exact hrl.ones) hnl hat.at_ hnw.ones hgne).mono ?_
        rintro e W' ⟨rfl, cur', rfl, k1, k2⟩
        rw [htake] at k2
        have hh := setRow_heap W.drew g cur cur' _ (0, 0) hg
        refine fin _ _ _ rfl ⟨?_, .inr ⟨g, cap, cur', rfl, Nat.zero_le _, hh, hroom, hcm, k1, k2⟩⟩ ⟨rfl, rfl, rfl, by (show W.heap.size ≤ (Array.modify W.heap g _).size; rw [Array.size_modify]; exact Nat.le_refl _), fun k _ hk => ?_⟩ fun g' hg' => .inl hg'
        · simp only [List.length_append, List.length_take, List.length_drop, hnl]; omega
        · show (Array.modify W.heap g _)[k]? = _
          rw [Array.getElem?_modify]
          rw [if_neg (fun e => hk (by rw [e]; rfl))]
      · refine (ins_grow W g l.length cap i cur news vb cc xs hg htake hxl hlt hnc (by omega) (by omega) hrl.ones hnl hat.at_ hnw.ones).mono ?_
        rintro e W' ⟨G, cur', o, rfl, q1, q2, q3, q4, ⟨c0, rfl⟩, k1, k2, k3, k4⟩
        have hn0 : (W.alloc (.cells c0 52 (0, 0))).heap[W.heap.size]? = some (.cells c0 52 (0, 0)) := by show (W.heap.push _)[W.heap.size]? = _; simp
        have hh := setRow_heap _ W.heap.size c0 cur' _ (0, 0) hn0
        rw [← q1] at hh
        refine fin _ _ _ rfl ⟨?_, .inr ⟨W.heap.size, G, cur', rfl, Nat.zero_le _, hh, k1, k2, k3, k4⟩⟩ ⟨q2, q3, q4, ?_, fun k hk _ => ?_⟩ fun g' hg' => .inr (by simp [Value.ownBlock] at hg'; omega)
        · simp only [List.length_append, List.length_take, List.length_drop, hnl]; omega
        · rw [q1]
          show W.heap.size ≤ (Array.modify (W.heap.push _) _ _).size
          rw [Array.size_modify, Array.size_push]; omega
        · rw [q1]
          simp only [World.setRow, Array.getElem?_modify]
          rw [if_neg (by omega)]
          show (W.heap.push _)[k]? = _
          rw [Array.getElem?_push_lt hk, Array.getElem?_eq_getElem hk]
set_option maxRecDepth 100000 in
theorem c_Clone {l : List Ent} {v : Value} (hl : l.length ≤ 1000000) :
    RCall2 Try.prog 23 [vC v] (nxRow v l) fun rv q => ∃ v', v'.oneCell' = true ∧ rv = vC v' ∧ q = nxRow v' l := by
  refine rcall2_world rfl ?_
  intro U W vs xs ho hrl hcl hvs
  obtain ⟨hlen, hv⟩ := hvs
  match vs, hlen with
  | [a], _ =>
    have e0 : a = v := (hv 0 _ a rfl rfl).1
    subst e0
    refine (w_Clone W a l.length xs ho (by omega) hrl.ones).mono ?_
    rintro e W' ⟨v', rfl, h1, h2, h3, h4⟩
    exact ⟨v', vC v', nxRow v' l, rfl, ⟨v', h4, rfl, rfl⟩, ⟨h2, ⟨xs, h1, hrl⟩, hcl, h3⟩, ⟨rfl, h4⟩, rfl⟩
end Go.Proofs.Ytpopeipcjpfbaaa
