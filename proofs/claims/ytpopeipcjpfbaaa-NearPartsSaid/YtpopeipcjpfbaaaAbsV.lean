/-
  States without addresses: a field of a value, a thing of an array's value; meetings that are compared. My own text.
-/
import Derived.Test.YtpopeipcjpfbaaaAbsE
import Derived.Test.YtpopeipcjpfbaaaAbsX
import Derived.Test.YtpopeipcjpfbaaaAbsP
namespace Go.Proofs.Ytpopeipcjpfbaaa
open Go.RowKit
set_option linter.unusedVariables false
set_option linter.unusedSimpArgs false
def typB (P : Program) (ft : TypeId) (agg : Bool) (n : Nat) : Bool := match tyOf P ft with
  | some (b, m) => Bool.beq b agg && Nat.beq m n
  | none => false
where Bool.beq : Bool → Bool → Bool
  | true, true => true
  | false, false => true
  | _, _ => false
def fpartB (P : Program) (ty i off : Nat) (agg : Bool) (n : Nat) : Bool := match P.underlying ty with
  | some (.struct fs) => match fs[i]? with
    | some f => Nat.beq f.offset off && typB P f.type agg n
    | none => false
  | _ => false
def ipartB (P : Program) (ty len : Nat) (agg : Bool) (n : Nat) : Bool := match P.underlying ty with
  | some (.array l e) => Nat.beq l len && typB P e agg n && (match P.info? e with | some t => Nat.beq t.size n | none => false)
  | _ => false
class FPart (P : Program) (ty i : Nat) (off : outParam Nat) (agg : outParam Bool) (n : outParam Nat) : Prop where
  h : fpartB P ty i off agg n = true
class IPart (P : Program) (ty : Nat) (len : outParam Nat) (agg : outParam Bool) (n : outParam Nat) : Prop where
  h : ipartB P ty len agg n = true
section
variable {P : Program}
theorem typB_spec {ft n : Nat} {agg : Bool} (h : typB P ft agg n = true) : tyOf P ft = some (agg, n) := by
  unfold typB at h
  split at h
  · rename_i b m hb
    rw [Bool.and_eq_true] at h
    have e := Nat.eq_of_beq_eq_true h.2
    have e2 : b = agg := by cases b <;> cases agg <;> simp [typB.Bool.beq] at h ⊢
    rw [hb, e, e2]
  · cases h
theorem run_part1 {ft n off : Nat} {cs : List Value} {v : Value} {W : World} (h : tyOf P ft = some (false, n)) (hv : cs[off]? = some v) : (part ft cs.toArray off).run P W = .ok v W := by
  unfold tyOf at h
  cases hu : P.underlying ft with
  | none => rw [hu] at h; cases h
  | some D =>
    have h1 : (isAgg ft).run P W = .ok false W := by
      unfold isAgg
      simp only [Sem.run_bind, run_underlying hu, Result.andThen_ok]
      cases hi : P.info? ft with
      | none => rw [hu, hi] at h; cases D <;> first | rfl | (cases h)
      | some ti => rw [hu, hi] at h; cases D <;> first | rfl | (cases h)
    unfold part
    simp only [Sem.run_bind, h1, Result.andThen_ok, Bool.false_eq_true, if_false, List.getElem?_toArray, hv, Sem.run_pure]
theorem run_partN {ft n off : Nat} {cs : List Value} {W : World} (h : tyOf P ft = some (true, n)) : (part ft cs.toArray off).run P W = .ok (.agg ((cs.drop off).take n).toArray) W := by
  unfold tyOf at h
  cases hu : P.underlying ft with
  | none => rw [hu] at h; cases h
  | some D =>
    cases hi : P.info? ft with
    | none => rw [hu, hi] at h; cases D <;> cases h
    | some ti =>
      rw [hu, hi] at h
      have key : ((∃ fs, D = .struct fs) ∨ ∃ n e, D = .array n e) ∧ ti.size = n := by cases D <;> simp at h <;> simp [h]
      have h1 : (isAgg ft).run P W = .ok true W := by
        unfold isAgg
        simp only [Sem.run_bind, run_underlying hu, Result.andThen_ok]
        rcases key.1 with ⟨fs, rfl⟩ | ⟨n, e, rfl⟩ <;> rfl
      unfold part
      simp only [Sem.run_bind, h1, Result.andThen_ok, if_true, run_sizeOf' hi, key.2, Sem.run_pure]
      congr 2
      simp [List.extract_eq_take_drop]
variable {s : AS} {ops : Array Oper} {K : AS → Prop} {rest : List Oper} {ty : Nat} {pos : String} {after : Array Edge} {guard : Option (Nat × Bool)} {d : Nat}
theorem fpartB_spec {xt i off n : Nat} {agg : Bool} (h : fpartB P xt i off agg n = true) : ∃ fs f, P.underlying xt = some (.struct fs) ∧ fs[i]? = some f ∧ f.offset = off ∧ tyOf P f.type = some (agg, n) := by
  unfold fpartB at h
  split at h
  · rename_i fs hu
    split at h
    · rename_i f hf
      rw [Bool.and_eq_true] at h
      exact ⟨fs, f, hu, hf, Nat.eq_of_beq_eq_true h.1, typB_spec h.2⟩
    · cases h
  · cases h
theorem ipartB_spec {xt len n : Nat} {agg : Bool} (h : ipartB P xt len agg n = true) : ∃ e t, P.underlying xt = some (.array len e) ∧ P.info? e = some t ∧ t.size = n ∧ tyOf P e = some (agg, n) := by
  unfold ipartB at h
  split at h
  · rename_i l e hu
    simp only [Bool.and_eq_true] at h
    obtain ⟨⟨h1, h2⟩, h3⟩ := h
    split at h3
    · rename_i t ht
      exact ⟨e, t, by rw [hu, Nat.eq_of_beq_eq_true h1], ht, Nat.eq_of_beq_eq_true h3, typB_spec h2⟩
    · cases h3
  · cases h
theorem al_fieldV1 {x : Operand} {xt i off n : Nat} {xs : List AC} {y : AC} [F : FPart P xt i off false n] (hw : want ops ⟨some d, .field xt x i, ty, pos, after, guard⟩ s = some true) (hx : s.look x = some (.w (.agg xs))) (hc : xs[off]? = some y) (hd : Nat.blt d s.n = true) (h : aList P ops K rest (s.put (some d) (.w (.one y)))) : aList P ops K (⟨some d, .field xt x i, ty, pos, after, guard⟩ :: rest) s := by
  refine al_quiet hw ⟨fun _ _ h => (by cases h), fun z hz => ?_, fun U ρ W env he => ?_, fun j hj => ⟨x, by simp [Op.operands], _, hx, ?_⟩⟩ hd h
  · simp [Op.operands] at hz
    subst hz
    exact ⟨_, hx⟩
  · obtain ⟨vs, e1, hl⟩ := he x (by simp [Op.operands]) _ hx
    obtain ⟨fs, f, hu, hf, ho, hT⟩ := fpartB_spec F.h
    have hlt : off < vs.length := by rw [← hl.1]; exact (List.getElem?_eq_some_iff.1 hc).1
    refine ⟨vs[off], ?_, hl.2 off y _ hc (List.getElem?_eq_getElem hlt)⟩
    simp only [execOp, Instr.field, e1, Sem.run_bind, run_underlying hu, Result.andThen_ok, hf, asAgg, Sem.run_pure, ho, run_part1 hT (List.getElem?_eq_getElem hlt)]
  · obtain ⟨z, hz, hzj⟩ := hj
    simp [AW.cells] at hz
    subst hz
    exact ⟨z, List.mem_of_getElem? hc, hzj⟩
theorem al_fieldVN {x : Operand} {xt i off n : Nat} {xs ys : List AC} [F : FPart P xt i off true n] (hw : want ops ⟨some d, .field xt x i, ty, pos, after, guard⟩ s = some true) (hx : s.look x = some (.w (.agg xs))) (hc : takeN xs off n = some ys) (hd : Nat.blt d s.n = true) (h : aList P ops K rest (s.put (some d) (.w (.agg ys)))) : aList P ops K (⟨some d, .field xt x i, ty, pos, after, guard⟩ :: rest) s := by
  obtain ⟨q1, q2⟩ := takeN_spec _ _ _ _ hc
  refine al_quiet hw ⟨fun _ _ h => (by cases h), fun z hz => ?_, fun U ρ W env he => ?_, fun j hj => ⟨x, by simp [Op.operands], _, hx, ?_⟩⟩ hd h
  · simp [Op.operands] at hz
    subst hz
    exact ⟨_, hx⟩
  · obtain ⟨vs, e1, hl⟩ := he x (by simp [Op.operands]) _ hx
    obtain ⟨fs, f, hu, hf, ho, hT⟩ := fpartB_spec F.h
    have hr := hl.sub off n
    rw [q2] at hr
    refine ⟨.agg ((vs.drop off).take n).toArray, ?_, _, rfl, hr⟩
    simp only [execOp, Instr.field, e1, Sem.run_bind, run_underlying hu, Result.andThen_ok, hf, asAgg, Sem.run_pure, ho, run_partN hT]
  · obtain ⟨z, hz, hzj⟩ := hj
    simp [AW.cells] at hz
    rw [← q2] at hz
    exact ⟨z, List.mem_of_mem_drop (List.mem_of_mem_take hz), hzj⟩
theorem al_indexVN {x y : Operand} {xt len n : Nat} {ik : IntKind} {i : Int} {xs ys : List AC} [A : IPart P xt len true n] (hw : want ops ⟨some d, .index xt x y, ty, pos, after, guard⟩ s = some true) (hx : s.look x = some (.w (.agg xs))) (hy : s.look y = some (vC (.int ik i))) (h0 : 0 ≤ i) (h1 : i < len) (hc : takeN xs (i.toNat * n) n = some ys) (hd : Nat.blt d s.n = true) (h : aList P ops K rest (s.put (some d) (.w (.agg ys)))) : aList P ops K (⟨some d, .index xt x y, ty, pos, after, guard⟩ :: rest) s := by
  obtain ⟨q1, q2⟩ := takeN_spec _ _ _ _ hc
  refine al_quiet hw ⟨fun _ _ h => (by cases h), fun z hz => ?_, fun U ρ W env he => ?_, fun j hj => ⟨x, by simp [Op.operands], _, hx, ?_⟩⟩ hd h
  · simp [Op.operands] at hz
    rcases hz with rfl | rfl
    · exact ⟨_, hx⟩
    · exact ⟨_, hy⟩
  · obtain ⟨vs, e1, hl⟩ := he x (by simp [Op.operands]) _ hx
    have hi : env y = .int ik i := (he y (by simp [Op.operands]) _ hy).1
    obtain ⟨e, t, hu, ht, hs, hT⟩ := ipartB_spec A.h
    have hr := hl.sub (i.toNat * n) n
    rw [q2] at hr
    refine ⟨.agg ((vs.drop (i.toNat * n)).take n).toArray, ?_, _, rfl, hr⟩
    simp only [execOp, Instr.index, e1, hi, asIntOf, Sem.run_bind, Sem.run_pure, Result.andThen_ok, run_underlying hu, if_pos (And.intro h0 h1), run_sizeOf' ht, hs, run_partN hT]
  · obtain ⟨z, hz, hzj⟩ := hj
    simp [AW.cells] at hz
    rw [← q2] at hz
    exact ⟨z, List.mem_of_mem_drop (List.mem_of_mem_take hz), hzj⟩
theorem al_indexV1 {x y : Operand} {xt len n : Nat} {ik : IntKind} {i : Int} {xs : List AC} {z : AC} [A : IPart P xt len false n] (hw : want ops ⟨some d, .index xt x y, ty, pos, after, guard⟩ s = some true) (hx : s.look x = some (.w (.agg xs))) (hy : s.look y = some (vC (.int ik i))) (h0 : 0 ≤ i) (h1 : i < len) (hc : xs[i.toNat * n]? = some z) (hd : Nat.blt d s.n = true) (h : aList P ops K rest (s.put (some d) (.w (.one z)))) : aList P ops K (⟨some d, .index xt x y, ty, pos, after, guard⟩ :: rest) s := by
  refine al_quiet hw ⟨fun _ _ h => (by cases h), fun z hz => ?_, fun U ρ W env he => ?_, fun j hj => ⟨x, by simp [Op.operands], _, hx, ?_⟩⟩ hd h
  · simp [Op.operands] at hz
    rcases hz with rfl | rfl
    · exact ⟨_, hx⟩
    · exact ⟨_, hy⟩
  · obtain ⟨vs, e1, hl⟩ := he x (by simp [Op.operands]) _ hx
    have hi : env y = .int ik i := (he y (by simp [Op.operands]) _ hy).1
    obtain ⟨e, t, hu, ht, hs, hT⟩ := ipartB_spec A.h
    have hlt : i.toNat * n < vs.length := by rw [← hl.1]; exact (List.getElem?_eq_some_iff.1 hc).1
    refine ⟨vs[i.toNat * n], ?_, hl.2 _ z _ hc (List.getElem?_eq_getElem hlt)⟩
    simp only [execOp, Instr.index, e1, hi, asIntOf, Sem.run_bind, Sem.run_pure, Result.andThen_ok, run_underlying hu, if_pos (And.intro h0 h1), run_sizeOf' ht, hs, run_part1 hT (List.getElem?_eq_getElem hlt)]
  · obtain ⟨u, hu, huj⟩ := hj
    simp [AW.cells] at hu
    subst hu
    exact ⟨u, List.mem_of_getElem? hc, huj⟩
/-- two truths compared. -/
theorem al_eqT {xt yt : Nat} {x y : Operand} {a b : Bool} (hw : want ops ⟨some d, .binOp .eql xt x y yt, ty, pos, after, guard⟩ s = some true) (hx : s.look x = some (vB a)) (hy : s.look y = some (vB b)) (hd : Nat.blt d s.n = true) (hu : P.underlying xt = some .bool) (h : aList P ops K rest (s.put (some d) (vB (a == b)))) : aList P ops K (⟨some d, .binOp .eql xt x y yt, ty, pos, after, guard⟩ :: rest) s :=
  al_bin hw hx hy rfl rfl (fun W => rfl) (fun W => run_eql_bool W xt a b hu) rfl hd h
theorem al_neT {xt yt : Nat} {x y : Operand} {a b : Bool} (hw : want ops ⟨some d, .binOp .neq xt x y yt, ty, pos, after, guard⟩ s = some true) (hx : s.look x = some (vB a)) (hy : s.look y = some (vB b)) (hd : Nat.blt d s.n = true) (hu : P.underlying xt = some .bool) (h : aList P ops K rest (s.put (some d) (vB (!(a == b))))) : aList P ops K (⟨some d, .binOp .neq xt x y yt, ty, pos, after, guard⟩ :: rest) s :=
  al_bin hw hx hy rfl rfl (fun W => rfl) (fun W => run_neq_bool W xt a b hu) rfl hd h
/-- a quotient that is known to be whole. -/
theorem al_quoX {xt yt : Nat} {x y : Operand} {a b c : Int} (hw : want ops ⟨some d, .binOp .quo xt x y yt, ty, pos, after, guard⟩ s = some true) (hx : s.look x = some (vC (.int .i64 a))) (hy : s.look y = some (vC (.int .i64 b))) (hd : Nat.blt d s.n = true) (e : a = b * c) (h1 : 0 < b) (h2 : -9223372036854775808 ≤ c ∧ c < 9223372036854775808) (h : aList P ops K rest (s.put (some d) (vC (.int .i64 c)))) : aList P ops K (⟨some d, .binOp .quo xt x y yt, ty, pos, after, guard⟩ :: rest) s := by
  refine al_int hw hx hy (fun W => ?_) rfl hd h
  have hb : b ≠ 0 := by omega
  have e1 : a.tdiv b = c := by rw [e]; exact Int.mul_tdiv_cancel_left c hb
  have e2 : IntKind.i64.wrap c = c := i64_wrap h2
  simp [binOp, Op.intDiv, hb, e1, e2]
end
end Go.Proofs.Ytpopeipcjpfbaaa
