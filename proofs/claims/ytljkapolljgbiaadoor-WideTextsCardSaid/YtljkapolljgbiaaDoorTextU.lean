/-
  The digits of numbers, four by four. My own text.
-/
import Derived.Test.YtljkapolljgbiaaDoorTextM
import Derived.Test.YtljkapolljgbiaaDoorRefM
namespace Go.Proofs.YtljkapolljgbiaaDoor
open Go.Lib
set_option linter.unusedVariables false
set_option linter.unusedSimpArgs false
/-- the digits of a row: the highest one's own, and four of each other one's. -/
def txtL : List Int → List UInt8
  | [] => []
  | [d] => decDigits d.toNat
  | d :: e :: ds => txtL (e :: ds) ++ padD 4 d.toNat
theorem isD_tail {d : Int} {ds : List Int} (h : IsD (d :: ds)) : IsD ds := fun x hx => h x (List.mem_cons_of_mem _ hx)
theorem noZ_tail {d e : Int} {ds : List Int} (h : NoZ (d :: e :: ds)) : NoZ (e :: ds) := fun _ => by
  have := h (by simp)
  simpa [List.getD] using this
theorem dval_pos : ∀ (ds : List Int), IsD ds → NoZ ds → ds ≠ [] → 0 < dval ds
  | [], _, _, h => absurd rfl h
  | [d], hd, hn, _ => by
    have h1 := hd d (by simp)
    have h2 := hn (by simp)
    simp [List.getD] at h2
    rw [dval_cons]
    have : dval [] = 0 := rfl
    omega
  | d :: e :: ds, hd, hn, _ => by
    have h1 := hd d (by simp)
    have h2 := dval_pos (e :: ds) (isD_tail hd) (noZ_tail hn) (by simp)
    rw [dval_cons]
    omega
theorem txtL_eq : ∀ (ds : List Int), IsD ds → NoZ ds → ds ≠ [] → txtL ds = decDigits (dval ds).toNat
  | [], _, _, h => absurd rfl h
  | [d], _, _, _ => by
    rw [dval_cons]
    have : dval [] = 0 := rfl
    rw [this]
    simp [txtL]
  | d :: e :: ds, hd, hn, _ => by
    have h1 := hd d (by simp)
    have h2 := dval_pos (e :: ds) (isD_tail hd) (noZ_tail hn) (by simp)
    have ih := txtL_eq (e :: ds) (isD_tail hd) (noZ_tail hn) (by simp)
    have e1 : (dval (d :: e :: ds)).toNat = (dval (e :: ds)).toNat * 10 ^ 4 + d.toNat := by
      rw [dval_cons]; omega
    rw [e1, dec_pad 4 _ _ (by omega) (by omega), ← ih]
    rfl
theorem dec_lt {u : Nat} (h : u < 10) : decDigits u = [UInt8.ofNat (48 + u)] := by rw [decDigits, dif_pos h]
/-- what of a digit's text is still to come. -/
def tgt (top : Bool) (i : Nat) (d : Int) : List UInt8 := if top = true then (if d = 0 then [] else decDigits d.toNat) else padD (4 - i) d.toNat
theorem tgt_step {top : Bool} {i : Nat} {d : Int} (h0 : 0 ≤ d) (hi : i < 4) (ht : top = true → 0 < d) : tgt top i d = tgt top (i + 1) (d / 10) ++ [UInt8.ofNat (48 + d % 10).toNat] := by
  have e : (48 + d % 10).toNat = 48 + d.toNat % 10 := by omega
  have e2 : (d / 10).toNat = d.toNat / 10 := by omega
  unfold tgt
  cases top with
  | false =>
    simp only [Bool.false_eq_true, if_false]
    rw [show 4 - i = (4 - (i + 1)) + 1 by omega, e, e2]
    rfl
  | true =>
    simp only [if_true]
    have hd := ht rfl
    rw [if_neg (by omega), e, e2]
    by_cases q : d.toNat < 10
    · rw [if_pos (by omega), dec_lt q, Nat.mod_eq_of_lt q]
      rfl
    · rw [if_neg (by omega), dec_step q]
theorem tgt_end {top : Bool} {i : Nat} {d : Int} (h : (top = true ∧ d = 0) ∨ (top = false ∧ i = 4)) : tgt top i d = [] := by
  unfold tgt
  rcases h with ⟨rfl, rfl⟩ | ⟨rfl, rfl⟩ <;> rfl
/-- the digits from k on, and what is told already. -/
theorem txtL_drop {ds : List Int} {k : Nat} {d : Int} (h : ds[k]? = some d) (hd0 : d ≠ 0 ∨ k + 1 < ds.length) : txtL (ds.drop k) = txtL (ds.drop (k + 1)) ++ tgt (decide (¬ k + 1 < ds.length)) 0 d := by
  have hk : k < ds.length := (List.getElem?_eq_some_iff.1 h).1
  have e : ds.drop k = d :: ds.drop (k + 1) := by
    rw [List.drop_eq_getElem_cons hk]
    have := List.getElem?_eq_some_iff.1 h
    rw [this.2]
  rw [e]
  by_cases q : k + 1 < ds.length
  · have : ds.drop (k + 1) = ds[k + 1] :: ds.drop (k + 2) := List.drop_eq_getElem_cons q
    rw [this]
    simp only [txtL, tgt, q, not_true_eq_false, decide_false, Bool.false_eq_true, if_false]
  · have : ds.drop (k + 1) = [] := List.drop_eq_nil_of_le (by omega)
    rw [this]
    have h0 : d ≠ 0 := by rcases hd0 with h | h; exact h; exact absurd h q
    simp [txtL, tgt, q, h0]
end Go.Proofs.YtljkapolljgbiaaDoor
