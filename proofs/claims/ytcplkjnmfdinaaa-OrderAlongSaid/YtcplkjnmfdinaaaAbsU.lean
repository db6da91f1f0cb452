/-
  States without addresses: strings; the quotient of numbers. My own text.
-/
import Derived.Test.YtcplkjnmfdinaaaAbsS
import Derived.Laws.BytesArg
namespace Go.Proofs.Ytcplkjnmfdinaaa
open Go.RowKit
set_option linter.unusedVariables false
set_option linter.unusedSimpArgs false
section
variable {P : Program} {s : AS} {ops : Array Oper} {K : AS → Prop} {rest : List Oper} {ty : Nat} {pos : String} {after : Array Edge} {guard : Option (Nat × Bool)} {d : Nat}
theorem al_cat {xt yt : Nat} {x y : Operand} {a b c : ByteArray} (hw : want ops ⟨some d, .binOp .add xt x y yt, ty, pos, after, guard⟩ s = some true) (hx : s.look x = some (vC (.string a))) (hy : s.look y = some (vC (.string b))) (hl : ((a.size + b.size : Nat) : Int) ≤ 9223372036854775807) (he : a ++ b = c) (hd : Nat.blt d s.n = true) (h : aList P ops K rest (s.put (some d) (vC (.string c)))) : aList P ops K (⟨some d, .binOp .add xt x y yt, ty, pos, after, guard⟩ :: rest) s := by
  subst he
  refine al_bin hw hx hy rfl rfl (fun W => rfl) (fun W => ?_) rfl hd h
  have hn : ¬ (((a.size + b.size : Nat) : Int) > IntKind.i64.max) := by
    have : IntKind.i64.max = 9223372036854775807 := by decide
    rw [this]; omega
  show (Op.stringOp .add a b).run P W = _
  unfold Op.stringOp
  simp only [if_neg hn]
  rfl
theorem al_quo {xt yt : Nat} {x y : Operand} {a b : Int} (hw : want ops ⟨some d, .binOp .quo xt x y yt, ty, pos, after, guard⟩ s = some true) (hx : s.look x = some (vC (.int .i64 a))) (hy : s.look y = some (vC (.int .i64 b))) (h0 : 0 ≤ a) (h1 : 0 < b) (h2 : a ≤ 9223372036854775807) (hd : Nat.blt d s.n = true) (h : aList P ops K rest (s.put (some d) (vC (.int .i64 (a / b))))) : aList P ops K (⟨some d, .binOp .quo xt x y yt, ty, pos, after, guard⟩ :: rest) s := by
  refine al_int hw hx hy (fun W => ?_) rfl hd h
  have hb : b ≠ 0 := by omega
  have e : a.tdiv b = a / b := Int.tdiv_eq_ediv_of_nonneg h0
  have e2 : IntKind.i64.wrap (a / b) = a / b := i64_wrap (by
    have := Int.ediv_nonneg h0 (show 0 ≤ b by omega)
    have := Int.ediv_le_self b h0
    omega)
  simp [binOp, Op.intDiv, hb, e, e2]
def byT (P : Program) (t : TypeId) : Bool := match P.underlying t with
  | some (.slice e) => (match P.underlying e with | some (.int .u8) => true | _ => false)
  | _ => false
def strT (P : Program) (t : TypeId) : Bool := match P.underlying t with
  | some .string => true
  | _ => false
class ByT (P : Program) (t : TypeId) : Prop where
  h : byT P t = true
class StrT (P : Program) (t : TypeId) : Prop where
  h : strT P t = true
/-- one byte as a string. -/
theorem al_convB {src dst : Nat} {x : Operand} {m : Int} {b : ByteArray} [B : ByT P src] [S : StrT P dst] (hw : want ops ⟨some d, .convert src dst x, ty, pos, after, guard⟩ s = some true) (hx : s.look x = some (vS 1 1 [.c (.int .u8 m)])) (he : strOfNums [m] = b) (hd : Nat.blt d s.n = true) (h : aList P ops K rest (s.put (some d) (vC (.string b)))) : aList P ops K (⟨some d, .convert src dst x, ty, pos, after, guard⟩ :: rest) s := by
  subst he
  refine al_quiet (av := vC (.string (strOfNums [m]))) hw ⟨fun _ _ h => (by cases h), fun z hz => ?_, fun U ρ W env he => ⟨.string (strOfNums [m]), ?_, ⟨rfl, rfl⟩⟩, fun j hj => absurd hj (noown _ j)⟩ hd h
  · simp [Op.operands] at hz; subst hz; exact ⟨_, hx⟩
  · obtain ⟨⟨A, c, e1, hc, hl, hA⟩, hU⟩ := he x (by simp [Op.operands]) _ hx
    obtain ⟨a, vs, rfl, hcs⟩ := hA (by decide)
    have hB := B.h
    have hS := S.h
    unfold byT at hB
    unfold strT at hS
    split at hB
    · rename_i e hu
      split at hB
      · rename_i hue
        split at hS
        · rename_i hd'
          have hv0 : vs[0]? = some (.int .u8 m) := by
            have hlt : 0 < vs.length := by rw [← hcs.rp.1]; exact Nat.one_pos
            have h1 := hcs.rp.2 0 _ vs[0] rfl (List.getElem?_eq_getElem hlt)
            rw [List.getElem?_eq_getElem hlt, h1.1]
          have h0 := hcs.at_ 0 _ hv0
          have hsp : a = ⟨a.block, a.off, none⟩ := by
            have h0' : W.cell? a = some (.int .u8 m) := h0
            unfold World.cell? at h0'
            split at h0'
            · split at h0'
              · cases h0'
              · rename_i q
                obtain ⟨bb, oo, ss⟩ := a
                cases ss with
                | none => rfl
                | some z => simp at q
            · cases h0'
          have := run_convert_bytes_arg (P := P) W src e hu hue a.block a.off 1 c [m] rfl (fun i hi => by
            have : i = 0 := by omega
            subst this
            rw [hsp] at h0
            exact h0) dst hd'
          simp only [execOp, e1, Sem.run_bind]
          rw [hsp, this]
          rfl
        · cases hS
      · cases hB
    · cases hB
end
end Go.Proofs.Ytcplkjnmfdinaaa
