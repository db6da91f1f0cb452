/-
  My own texts, without what this claim does not need. My own text.
-/
import Derived.Deep.RegionHeld3
import Derived.StillTail
import Derived.WalkKit
import Derived.Deep.QuietTactic
import Derived.OwnWalk
import Derived.Laws.OwnMore
import Derived.Maps.AppendAt
import Derived.IntWalk
import Derived.Deep.DrawnRows
import Derived.Deep.LoopGhost
import Derived.Shelf.Bits.Mul64
import Derived.Test.YtlglajaonmpljaaProg
import Derived.Lib.ItoaNum
import Derived.Deep.DeepCutAuto
import Derived.Deep.CutBlock
import Derived.RegionTactic
import Derived.Test.YtlglajaonmpljaaChDriftK2
namespace Go.Proofs.Ytlglajaonmpljaa
open Go.RowKit
set_option linter.unusedVariables false
set_option linter.unusedSimpArgs false
/-- does the pixel of x, y come ahead of the one of z, w, on a way with x falling, or not, and y falling, or not? -/
def ahdN (x y z w : Int) (fx fy : Bool) : Bool := if x < z then !fx else if z < x then fx else if y < w then !fy else decide (w < y) && fy
set_option maxRecDepth 100000 in
set_option maxHeartbeats 4000000 in
theorem p_Ahead7 {x y z w : Int} {fx fy r : Bool} (hr : ahdN x y z w fx fy = r) : PCall Try.prog 54 [vP x y, vP z w, vB fx, vB fy] (vB r) := by
  have cs : (x < z ∧ r = !fx) ∨ (¬ x < z ∧ z < x ∧ r = fx) ∨ (¬ x < z ∧ ¬ z < x ∧ y < w ∧ r = !fy) ∨ (¬ x < z ∧ ¬ z < x ∧ ¬ y < w ∧ w < y ∧ r = fy) ∨ (¬ x < z ∧ ¬ z < x ∧ ¬ y < w ∧ ¬ w < y ∧ r = false) := by
    rw [← hr]; unfold ahdN
    by_cases h1 : x < z <;> by_cases h2 : z < x <;> by_cases h3 : y < w <;> by_cases h4 : w < y <;> simp [h1, h2, h3, h4] <;> omega
  clear hr
  rcases cs with ⟨h1, rfl⟩ | ⟨h1, h2, rfl⟩ | ⟨h1, h2, h3, rfl⟩ | ⟨h1, h2, h3, h4, rfl⟩ | ⟨h1, h2, h3, h4, rfl⟩
  all_goals
    refine pcall_body (f := 54) Try.func54 rfl rfl rfl rfl ?_
    (repeat (first | ((with_reducible apply al_q); exact rfl) | ((with_reducible apply al_guard_b (c := true)); exact rfl; exact rfl; (first | assumption | exact decide_eq_true (by omega) | (simp only [Bool.not_eq_true', decide_eq_false_iff_not, decide_eq_true_eq, Bool.not_eq_false']; (first | done | omega)))) | ((with_reducible apply al_guard_b (c := false)); exact rfl; exact rfl; (first | assumption | exact decide_eq_false (by omega) | (simp only [Bool.not_eq_true', decide_eq_false_iff_not, decide_eq_true_eq, Bool.not_eq_false']; (first | done | omega)))) | ((with_reducible apply awp_seq)) | ((with_reducible apply athen_normal)) | ((with_reducible apply awp_region)) | ((with_reducible apply al_nil)) | ((with_reducible apply awp_ret)) | ((with_reducible apply awp_skip)) | ((with_reducible apply athen_ret)) | ((with_reducible apply awp_cond_1); exact rfl; (first | assumption | exact decide_eq_true (by omega) | (simp only [Bool.not_eq_true', decide_eq_false_iff_not, decide_eq_true_eq, Bool.not_eq_false']; (first | done | omega)))) | ((with_reducible apply awp_cond_0); exact rfl; (first | assumption | exact decide_eq_false (by omega) | (simp only [Bool.not_eq_true', decide_eq_false_iff_not, decide_eq_true_eq, Bool.not_eq_false']; (first | done | omega))))))
    (first | (refine apost_ret rfl (resl_tmp rfl resl_nil) ?_))
    first | exact AV.Le.refl _ | exact AV.Le.of_eq (by rw [decide_eq_true h4]; rfl) | exact AV.Le.of_eq (by rw [decide_eq_false h4]; rfl)
/-- what holds ahead of each round of same's loop. -/
def SmI (l m : List (Int × Int)) (k : Nat) (ts : List (Nat × AV)) (ms : List (Nat × List AC)) : Prop :=
  ∃ i : Nat, i ≤ l.length ∧ k = l.length - i ∧ (∀ j, j < i → l[j]? = m[j]?) ∧ ms = [] ∧ ts = [(0, vIt l), (1, vIt m), (12, vI l.length), (13, vI i)]
end Go.Proofs.Ytlglajaonmpljaa

namespace Go.Proofs.Ytlglajaonmpljaa
set_option linter.unusedVariables false
set_option linter.unusedSimpArgs false
abbrev Px := Int × Int
/-- does a way, with x falling or not, and y, come to p ahead of q? -/
def ahP (fx fy : Bool) (p q : Px) : Bool := ahdN p.1 p.2 q.1 q.2 fx fy
theorem ahP_iff {fx fy : Bool} {p q : Px} : ahP fx fy p q = true ↔ (if fx then q.1 < p.1 else p.1 < q.1) ∨ (p.1 = q.1 ∧ if fy then q.2 < p.2 else p.2 < q.2) := by
  unfold ahP ahdN
  by_cases h1 : p.1 < q.1
  · cases fx <;> simp [h1] <;> omega
  · by_cases h2 : q.1 < p.1
    · cases fx <;> simp [h1, h2] <;> omega
    · have e : p.1 = q.1 := by omega
      by_cases h3 : p.2 < q.2
      · cases fx <;> cases fy <;> simp [h1, h2, h3, e] <;> omega
      · cases fx <;> cases fy <;> simp [h1, h2, h3, e] <;> omega
theorem ahP_trans {fx fy : Bool} {p q r : Px} (h1 : ahP fx fy p q = true) (h2 : ahP fx fy q r = true) : ahP fx fy p r = true := by
  rw [ahP_iff] at *
  cases fx <;> cases fy <;> simp at * <;> omega
theorem ahP_irr {fx fy : Bool} {p : Px} : ahP fx fy p p = false := by
  cases h : ahP fx fy p p with
  | false => rfl
  | true => rw [ahP_iff] at h; cases fx <;> cases fy <;> simp at h
theorem ahP_asym {fx fy : Bool} {p q : Px} (h1 : ahP fx fy p q = true) : ahP fx fy q p = false := by
  cases h : ahP fx fy q p with
  | false => rfl
  | true => have := ahP_trans h1 h; rw [ahP_irr] at this; cases this
theorem ahP_total {fx fy : Bool} {p q : Px} (h : p ≠ q) : ahP fx fy p q = true ∨ ahP fx fy q p = true := by
  rw [ahP_iff, ahP_iff]
  have : p.1 ≠ q.1 ∨ p.2 ≠ q.2 := by
    by_cases h1 : p.1 = q.1
    · exact .inr fun h2 => h (Prod.ext h1 h2)
    · exact .inl h1
  cases fx <;> cases fy <;> simp <;> omega
/-- in order. -/
def Asc (fx fy : Bool) (l : List Px) : Prop := l.Pairwise fun p q => ahP fx fy p q = true
/-- a row in order, with one more. -/
def insQ (fx fy : Bool) (q : Px) : List Px → List Px
  | [] => [q]
  | p :: l => if ahP fx fy q p then q :: p :: l else p :: insQ fx fy q l
theorem insQ_perm (fx fy : Bool) (q : Px) : ∀ l, (insQ fx fy q l).Perm (q :: l)
  | [] => .refl _
  | p :: l => by
    unfold insQ
    split
    · exact .refl _
    · exact ((insQ_perm fx fy q l).cons p).trans (.swap q p l)
theorem insQ_none {fx fy : Bool} {q : Px} : ∀ {l : List Px}, l.any (ahP fx fy q) = false → insQ fx fy q l = l ++ [q]
  | [], _ => rfl
  | p :: l, h => by
    simp only [List.any_cons, Bool.or_eq_false_iff] at h
    unfold insQ
    rw [if_neg (by rw [h.1]; decide), insQ_none h.2]; rfl
theorem insQ_some {fx fy : Bool} {q : Px} (m : List Px) : ∀ {l : List Px}, l.any (ahP fx fy q) = true → insQ fx fy q (l ++ m) = insQ fx fy q l ++ m
  | [], h => by simp at h
  | p :: l, h => by
    simp only [List.cons_append, insQ]
    split
    · rfl
    · rename_i hq
      simp only [List.any_cons, Bool.or_eq_true] at h
      rcases h with h | h
      · exact absurd h hq
      · rw [insQ_some m h]; rfl
theorem insQ_at {fx fy : Bool} {q e : Px} (he : ahP fx fy q e = true) : ∀ {l : List Px}, l.any (ahP fx fy q) = false → insQ fx fy q (l ++ [e]) = l ++ [q, e]
  | [], _ => by simp [insQ, he]
  | p :: l, h => by
    simp only [List.any_cons, Bool.or_eq_false_iff] at h
    simp only [List.cons_append, insQ]
    rw [if_neg (by rw [h.1]; decide), insQ_at he h.2]
/-- those that are wanted, put in one by one. -/
def sortI (fx fy : Bool) (f : Px → Bool) (l : List Px) : List Px := l.foldl (fun out q => if f q then insQ fx fy q out else out) []
theorem sortI_app (fx fy : Bool) (f : Px → Bool) (l : List Px) (q : Px) : sortI fx fy f (l ++ [q]) = if f q then insQ fx fy q (sortI fx fy f l) else sortI fx fy f l := by
  unfold sortI; rw [List.foldl_append]; rfl
theorem sortI_perm (fx fy : Bool) (f : Px → Bool) (l : List Px) : (sortI fx fy f l).Perm (l.filter f) := by
  have key : ∀ (l out : List Px), (l.foldl (fun out q => if f q then insQ fx fy q out else out) out).Perm (out ++ l.filter f) := by
    intro l
    induction l with
    | nil => intro out; simp
    | cons q l ih =>
      intro out
      rw [List.foldl_cons, List.filter_cons]
      by_cases hq : f q = true
      · rw [if_pos hq, if_pos hq]
        refine (ih _).trans ?_
        refine ((insQ_perm fx fy q out).append_right _).trans ?_
        exact List.perm_middle.symm
      · rw [if_neg hq, if_neg hq]; exact ih out
  exact key l []
theorem sortI_len (fx fy : Bool) (f : Px → Bool) (l : List Px) : (sortI fx fy f l).length ≤ l.length := by
  rw [(sortI_perm fx fy f l).length_eq]; exact List.length_filter_le _ _
theorem Asc.filter {fx fy : Bool} {l : List Px} (h : Asc fx fy l) (f : Px → Bool) : Asc fx fy (l.filter f) := List.Pairwise.filter f h
end Go.Proofs.Ytlglajaonmpljaa

namespace Go.Proofs.Ytlglajaonmpljaa
open Go.RowKit
set_option linter.unusedVariables false
set_option linter.unusedSimpArgs false
def typB (P : Program) (ft : TypeId) (agg : Bool) (n : Nat) : Bool := match tyOf P ft with
  | some (b, m) => Bool.beq b agg && Nat.beq m n
  | none => false
where Bool.beq : Bool → Bool → Bool
  | true, true => true
  | false, false => true
  | _, _ => false
def fpartB (P : Program) (ty i off : Nat) (agg : Bool) (n : Nat) : Bool := match P.underlying ty with
  | some (.struct fs) => match fs[i]? with
    | some f => Nat.beq f.offset off && typB P f.type agg n
    | none => false
  | _ => false
def ipartB (P : Program) (ty len : Nat) (agg : Bool) (n : Nat) : Bool := match P.underlying ty with
  | some (.array l e) => Nat.beq l len && typB P e agg n && (match P.info? e with | some t => Nat.beq t.size n | none => false)
  | _ => false
class FPart (P : Program) (ty i : Nat) (off : outParam Nat) (agg : outParam Bool) (n : outParam Nat) : Prop where
  h : fpartB P ty i off agg n = true
class IPart (P : Program) (ty : Nat) (len : outParam Nat) (agg : outParam Bool) (n : outParam Nat) : Prop where
  h : ipartB P ty len agg n = true
section
variable {P : Program}
theorem typB_spec {ft n : Nat} {agg : Bool} (h : typB P ft agg n = true) : tyOf P ft = some (agg, n) := by
  unfold typB at h
  split at h
  · rename_i b m hb
    rw [Bool.and_eq_true] at h
    have e := Nat.eq_of_beq_eq_true h.2
    have e2 : b = agg := by cases b <;> cases agg <;> simp [typB.Bool.beq] at h ⊢
    rw [hb, e, e2]
  · cases h
theorem run_part1 {ft n off : Nat} {cs : List Value} {v : Value} {W : World} (h : tyOf P ft = some (false, n)) (hv : cs[off]? = some v) : (part ft cs.toArray off).run P W = .ok v W := by
  unfold tyOf at h
  cases hu : P.underlying ft with
  | none => rw [hu] at h; cases h
  | some D =>
    have h1 : (isAgg ft).run P W = .ok false W := by
      unfold isAgg
      simp only [Sem.run_bind, run_underlying hu, Result.andThen_ok]
      cases hi : P.info? ft with
      | none => rw [hu, hi] at h; cases D <;> first | rfl | (cases h)
      | some ti => rw [hu, hi] at h; cases D <;> first | rfl | (cases h)
    unfold part
    simp only [Sem.run_bind, h1, Result.andThen_ok, Bool.false_eq_true, if_false, List.getElem?_toArray, hv, Sem.run_pure]
variable {s : AS} {ops : Array Oper} {K : AS → Prop} {rest : List Oper} {ty : Nat} {pos : String} {after : Array Edge} {guard : Option (Nat × Bool)} {d : Nat}
theorem ipartB_spec {xt len n : Nat} {agg : Bool} (h : ipartB P xt len agg n = true) : ∃ e t, P.underlying xt = some (.array len e) ∧ P.info? e = some t ∧ t.size = n ∧ tyOf P e = some (agg, n) := by
  unfold ipartB at h
  split at h
  · rename_i l e hu
    simp only [Bool.and_eq_true] at h
    obtain ⟨⟨h1, h2⟩, h3⟩ := h
    split at h3
    · rename_i t ht
      exact ⟨e, t, by rw [hu, Nat.eq_of_beq_eq_true h1], ht, Nat.eq_of_beq_eq_true h3, typB_spec h2⟩
    · cases h3
  · cases h
theorem al_indexV1 {x y : Operand} {xt len n : Nat} {ik : IntKind} {i : Int} {xs : List AC} {z : AC} [A : IPart P xt len false n] (hw : want ops ⟨some d, .index xt x y, ty, pos, after, guard⟩ s = some true) (hx : s.look x = some (.w (.agg xs))) (hy : s.look y = some (vC (.int ik i))) (h0 : 0 ≤ i) (h1 : i < len) (hc : xs[i.toNat * n]? = some z) (hd : Nat.blt d s.n = true) (h : aList P ops K rest (s.put (some d) (.w (.one z)))) : aList P ops K (⟨some d, .index xt x y, ty, pos, after, guard⟩ :: rest) s := by
  refine al_quiet hw ⟨fun _ _ h => (by cases h), fun z hz => ?_, fun U ρ W env he => ?_, fun j hj => ⟨x, by simp [Op.operands], _, hx, ?_⟩⟩ hd h
  · simp [Op.operands] at hz
    rcases hz with rfl | rfl
    · exact ⟨_, hx⟩
    · exact ⟨_, hy⟩
  · obtain ⟨vs, e1, hl⟩ := he x (by simp [Op.operands]) _ hx
    have hi : env y = .int ik i := (he y (by simp [Op.operands]) _ hy).1
    obtain ⟨e, t, hu, ht, hs, hT⟩ := ipartB_spec A.h
    have hlt : i.toNat * n < vs.length := by rw [← hl.1]; exact (List.getElem?_eq_some_iff.1 hc).1
    refine ⟨vs[i.toNat * n], ?_, hl.2 _ z _ hc (List.getElem?_eq_getElem hlt)⟩
    simp only [execOp, Instr.index, e1, hi, asIntOf, Sem.run_bind, Sem.run_pure, Result.andThen_ok, run_underlying hu, if_pos (And.intro h0 h1), run_sizeOf' ht, hs, run_part1 hT (List.getElem?_eq_getElem hlt)]
  · obtain ⟨u, hu, huj⟩ := hj
    simp [AW.cells] at hu
    subst hu
    exact ⟨u, List.mem_of_getElem? hc, huj⟩
end
end Go.Proofs.Ytlglajaonmpljaa

namespace Go.Proofs.Ytlglajaonmpljaa
open Go.RowKit
set_option linter.unusedVariables false
set_option linter.unusedSimpArgs false
def srtN (l : List (Int × Int)) (k : Nat) : Bool := (List.range k).all fun i => decide ((l.getD i (0, 0)).1 ≤ (l.getD (i + 1) (0, 0)).1)
def sortedB (l : List (Int × Int)) : Bool := srtN l (l.length - 1)
def OsI (l : List (Int × Int)) (s : List (Int × Int)) (n : Nat) (ts : List (Nat × AV)) (ms : List (Nat × List AC)) : Prop :=
  ∃ (k : Nat) (ki : Int) (b : Bool), (k + 1 ≤ l.length ∨ k = 0) ∧ n = l.length - k ∧ ki = k + 1 ∧ b = srtN l k ∧ ms = [] ∧ ts = [(0, vIt l), (3, vIt l), (4, vIt s), (5, vB b), (6, vI ki)]
end Go.Proofs.Ytlglajaonmpljaa

namespace Go.Proofs.Ytlglajaonmpljaa
open Go.RowKit
set_option linter.unusedVariables false
set_option linter.unusedSimpArgs false
theorem pcall_le {P : Program} {f : FuncId} {args args' : List AV} {r : AV} (h : PCall P f args r) (ca : args'.all AV.closedB = true) (hl : args'.length = args.length) (hle : ∀ (i : Nat) x y, args'[i]? = some x → args[i]? = some y → x.Le y) : PCall P f args' r :=
  ⟨fun x hx => AV.closed_of (List.all_eq_true.1 ca x hx), h.cr, fun U W vs hvs => h.call U W vs ⟨by rw [← hl]; exact hvs.1, fun i y v hy hv => by
    have hi : i < args'.length := by rw [hl]; exact (List.getElem?_eq_some_iff.1 hy).1
    exact hle i _ y (List.getElem?_eq_getElem hi) hy U id W v (hvs.2 i _ v (List.getElem?_eq_getElem hi) hv)⟩⟩
abbrev vNil : AV := vC (.slice none 0 0)
theorem IsSort.behind {l s t : List (Int × Int)} {x : Int × Int} (h : IsSort l s) (h2 : IsSort (s ++ [x]) t) : IsSort (l ++ [x]) t :=
  ⟨h2.1, fun c => by rw [h2.2, List.filter_append, List.filter_append, h.2]⟩
end Go.Proofs.Ytlglajaonmpljaa

namespace Go.Proofs.Ytlglajaonmpljaa
open Go.RowKit
set_option linter.unusedVariables false
set_option linter.unusedSimpArgs false
def mem1 (k : Nat) (cs : List AC) : Mem := upd noMem k cs
/-- the state in which a function begins that is handed blocks. -/
def startM (n : Nat) (args : List AV) (m : Mem) : AS := ⟨n, fun t => args[t]?, m⟩
def hfin (P : Program) (fn : Func) (m0 : Mem) (R0 : Rws) (Post : AV → Mem → Rws → Prop) (R : Rws) (s : AS) : Prop :=
  ∃ xs r m' R', fn.results.toList.map (resOf P s) = xs.map some ∧ (packed xs).Le r ∧ Post r m' R' ∧ (∀ k cs, m' k = some cs → s.mem k = some cs) ∧ RLe R' R ∧ (∀ j, r.owns j → ∃ cs, m' j = some cs) ∧ (∀ k cs x j, m' k = some cs → x ∈ cs → x.owns j → ∃ cs', m' j = some cs') ∧ (∀ k cs, m0 k = some cs → ∃ cs', m' k = some cs') ∧ ∀ i r, R0 i = some r → ∃ r', R' i = some r'
def hpost (P : Program) (fn : Func) (m0 : Mem) (R0 : Rws) (Post : AV → Mem → Rws → Prop) : Exit → Rws → AS → Prop
  | .normal, R, s | .ret, R, s => hfin P fn m0 R0 Post R s
  | _, _, _ => False
section
variable {P : Program}
end
/-- other names. -/
def AC.ren (π : Nat → Nat) : AC → AC
  | .own k o => .own (π k) o
  | .c v => .c v
  | .p R => .p R
def AW.ren (π : Nat → Nat) : AW → AW
  | .one x => .one (x.ren π)
  | .agg xs => .agg (xs.map (AC.ren π))
def AV.ren (π : Nat → Nat) : AV → AV
  | .w x => .w (x.ren π)
  | .tup xs => .tup (xs.map (AW.ren π))
def Mem.ren (π : Nat → Nat) (m : Mem) : Mem := fun j => (m (π j)).map fun cs => cs.map (AC.ren π)
def Rws.ren (σ : Nat → Nat) (R : Rws) : Rws := fun j => R (σ j)
section
variable {P : Program} {U : Nat → Prop} {ρ : Nat → Nat} {W : World} {π σ τ : Nat → Nat}
theorem RpC.ren {x : AC} {v : Value} : RpC U ρ W (x.ren π) v ↔ RpC U (fun k => ρ (π k)) W x v := by cases x <;> exact Iff.rfl
theorem RpL.ren {xs : List AC} {vs : List Value} : RpL U ρ W (xs.map (AC.ren π)) vs ↔ RpL U (fun k => ρ (π k)) W xs vs := by
  constructor
  · rintro ⟨h1, h2⟩
    refine ⟨by simpa using h1, fun i x v hx hv => RpC.ren.1 (h2 i (x.ren π) v (by rw [List.getElem?_map, hx]; rfl) hv)⟩
  · rintro ⟨h1, h2⟩
    refine ⟨by simpa using h1, fun i x v hx hv => ?_⟩
    rw [List.getElem?_map] at hx
    cases hy : xs[i]? with
    | none => rw [hy] at hx; cases hx
    | some y => rw [hy] at hx; cases hx; exact RpC.ren.2 (h2 i y v hy hv)
theorem RpW.ren {x : AW} {v : Value} : RpW U ρ W (x.ren π) v ↔ RpW U (fun k => ρ (π k)) W x v := by
  cases x with
  | one x => exact RpC.ren
  | agg xs =>
    constructor
    · rintro ⟨vs, e, h⟩; exact ⟨vs, e, RpL.ren.1 h⟩
    · rintro ⟨vs, e, h⟩; exact ⟨vs, e, RpL.ren.2 h⟩
theorem RpV.ren {x : AV} {v : Value} : RpV U ρ W (x.ren π) v ↔ RpV U (fun k => ρ (π k)) W x v := by
  cases x with
  | w x => exact RpW.ren
  | tup xs =>
    constructor
    · rintro ⟨vs, e, hl, h⟩
      exact ⟨vs, e, by simpa using hl, fun i x v hx hv => RpW.ren.1 (h i (x.ren π) v (by rw [List.getElem?_map, hx]; rfl) hv)⟩
    · rintro ⟨vs, e, hl, h⟩
      refine ⟨vs, e, by simpa using hl, fun i x v hx hv => ?_⟩
      rw [List.getElem?_map] at hx
      cases hy : xs[i]? with
      | none => rw [hy] at hx; cases hx
      | some y => rw [hy] at hx; cases hx; exact RpW.ren.2 (h i y v hy hv)
theorem AC.ren_owns {x : AC} {j : Nat} (h : (x.ren π).owns j) : ∃ i, x.owns i ∧ j = π i := by
  cases x with
  | own k o => exact ⟨k, rfl, h⟩
  | c v => cases h
  | p R => cases h
theorem AC.owns_ren {x : AC} {j : Nat} (h : x.owns j) : (x.ren π).owns (π j) := by
  cases x with
  | own k o => cases h; rfl
  | c v => cases h
  | p R => cases h
theorem AW.cells_ren (x : AW) : (x.ren π).cells = x.cells.map (AC.ren π) := by cases x <;> rfl
theorem AV.ren_owns {x : AV} {j : Nat} (h : (x.ren π).owns j) : ∃ i, x.owns i ∧ j = π i := by
  have key : ∀ y : AW, (y.ren π).owns j → ∃ i, y.owns i ∧ j = π i := by
    rintro y ⟨z, hz, hj⟩
    rw [AW.cells_ren] at hz
    obtain ⟨u, hu, rfl⟩ := List.mem_map.1 hz
    obtain ⟨i, h1, h2⟩ := AC.ren_owns hj
    exact ⟨i, ⟨u, hu, h1⟩, h2⟩
  cases x with
  | w x => exact key x h
  | tup xs =>
    obtain ⟨y, hy, hj⟩ := h
    obtain ⟨u, hu, rfl⟩ := List.mem_map.1 hy
    obtain ⟨i, h1, h2⟩ := key u hj
    exact ⟨i, ⟨u, hu, h1⟩, h2⟩
theorem AV.owns_ren {x : AV} {j : Nat} (h : x.owns j) : (x.ren π).owns (π j) := by
  have key : ∀ y : AW, y.owns j → (y.ren π).owns (π j) := by
    rintro y ⟨z, hz, hj⟩
    exact ⟨z.ren π, by rw [AW.cells_ren]; exact List.mem_map.2 ⟨z, hz, rfl⟩, AC.owns_ren hj⟩
  cases x with
  | w x => exact key x h
  | tup xs =>
    obtain ⟨y, hy, hj⟩ := h
    exact ⟨y.ren π, List.mem_map.2 ⟨y, hy, rfl⟩, key y hj⟩
theorem Mem.ren_some {m : Mem} {j : Nat} {cs : List AC} (h : Mem.ren π m j = some cs) : ∃ ds, m (π j) = some ds ∧ cs = ds.map (AC.ren π) := by
  unfold Mem.ren at h
  cases hm : m (π j) with
  | none => rw [hm] at h; cases h
  | some ds => rw [hm] at h; exact ⟨ds, rfl, (Option.some.inj h).symm⟩
theorem Mem.ren_of (hπ : ∀ j, π (π j) = j) {m : Mem} {k : Nat} {cs : List AC} (h : m k = some cs) : Mem.ren π m (π k) = some (cs.map (AC.ren π)) := by
  unfold Mem.ren; rw [hπ, h]; rfl
theorem HotAt.ren (hπ : ∀ j, π (π j) = j) (hσ : ∀ j, σ (τ j) = j) {m : Mem} {R : Rws} {b : Nat} : HotAt ρ (m.ren π) (R.ren σ) b ↔ HotAt (fun k => ρ (π k)) m R b := by
  constructor
  · rintro (⟨k, cs, hk, e⟩ | ⟨i, r, hi, hg⟩)
    · obtain ⟨ds, h1, _⟩ := Mem.ren_some hk
      exact .inl ⟨π k, ds, h1, by simp only [hπ]; exact e⟩
    · exact .inr ⟨σ i, r, hi, hg⟩
  · rintro (⟨k, cs, hk, e⟩ | ⟨i, r, hi, hg⟩)
    · exact .inl ⟨π k, _, Mem.ren_of hπ hk, e⟩
    · exact .inr ⟨τ i, r, by unfold Rws.ren; rw [hσ]; exact hi, hg⟩
theorem HHeap.ren (hπ : ∀ j, π (π j) = j) (hσ : ∀ j, σ (τ j) = j) (hτ : ∀ j, τ (σ j) = j) {m : Mem} {R : Rws} : HHeap U ρ W (m.ren π) (R.ren σ) ↔ HHeap U (fun k => ρ (π k)) W m R := by
  have inj2 : ∀ {a b : Nat}, π a = π b → a = b := fun {a b} h => by rw [← hπ a, h, hπ]
  have injs : ∀ {a b : Nat}, σ a = σ b → a = b := fun {a b} h => by rw [← hτ a, h, hτ]
  have injt : ∀ {a b : Nat}, τ a = τ b → a = b := fun {a b} h => by rw [← hσ a, h, hσ]
  constructor
  · intro h
    refine ⟨fun k cs hk => ?_, fun k cs x j hk hx hj => ?_, fun k k' cs cs' hk hk' e => ?_, fun i r hi => ?_, fun i j r q hi hj hij g hg => h.apart (τ i) (τ j) r q (by unfold Rws.ren; rw [hσ]; exact hi) (by unfold Rws.ren; rw [hσ]; exact hj) (fun e => hij (injt e)) g hg⟩
    · obtain ⟨vs, ty, h1, h2, h3⟩ := h.mm (π k) _ (Mem.ren_of hπ hk)
      exact ⟨vs, ty, h1, RpL.ren.1 h2, h3⟩
    · obtain ⟨cs', h1⟩ := h.mo (π k) _ (x.ren π) (π j) (Mem.ren_of hπ hk) (List.mem_map.2 ⟨x, hx, rfl⟩) (AC.owns_ren hj)
      obtain ⟨ds, h2, _⟩ := Mem.ren_some h1
      rw [hπ] at h2
      exact ⟨ds, h2⟩
    · exact inj2 (h.inj (π k) (π k') _ _ (Mem.ren_of hπ hk) (Mem.ren_of hπ hk') e)
    · obtain ⟨h1, h3, h4⟩ := h.rows (τ i) r (by unfold Rws.ren; rw [hσ]; exact hi)
      exact ⟨h1.kept h3 (fun _ _ => rfl) (Nat.le_refl _) (fun b hb _ => ⟨hb, rfl⟩), h3, fun g hg => ⟨(h4 g hg).1, fun k cs hk => (h4 g hg).2 (π k) _ (Mem.ren_of hπ hk)⟩⟩
  · intro h
    refine ⟨fun k cs hk => ?_, fun k cs x j hk hx hj => ?_, fun k k' cs cs' hk hk' e => ?_, fun i r hi => ?_, fun i j r q hi hj hij g hg => h.apart (σ i) (σ j) r q hi hj (fun e => hij (injs e)) g hg⟩
    · obtain ⟨ds, h0, rfl⟩ := Mem.ren_some hk
      obtain ⟨vs, ty, h1, h2, h3⟩ := h.mm (π k) ds h0
      simp only [hπ] at h1 h3
      exact ⟨vs, ty, h1, RpL.ren.2 h2, h3⟩
    · obtain ⟨ds, h0, rfl⟩ := Mem.ren_some hk
      obtain ⟨y, hy, rfl⟩ := List.mem_map.1 hx
      obtain ⟨i, h1, rfl⟩ := AC.ren_owns hj
      obtain ⟨cs', h2⟩ := h.mo (π k) ds y i h0 hy h1
      exact ⟨_, Mem.ren_of hπ h2⟩
    · obtain ⟨ds, h0, _⟩ := Mem.ren_some hk
      obtain ⟨ds', h0', _⟩ := Mem.ren_some hk'
      exact inj2 (h.inj (π k) (π k') _ _ h0 h0' (by simp only [hπ]; exact e))
    · obtain ⟨h1, h3, h4⟩ := h.rows (σ i) r hi
      refine ⟨h1.kept h3 (fun _ _ => rfl) (Nat.le_refl _) (fun b hb _ => ⟨hb, rfl⟩), h3, fun g hg => ⟨(h4 g hg).1, fun k cs hk => ?_⟩⟩
      obtain ⟨ds, h0, _⟩ := Mem.ren_some hk
      have := (h4 g hg).2 (π k) ds h0
      simpa only [hπ] using this
/-- a contract, under other names. -/
theorem HCall.ren (hπ : ∀ j, π (π j) = j) (hσ : ∀ j, σ (τ j) = j) (hτ : ∀ j, τ (σ j) = j) {f : FuncId} {args : List AV} {m0 : Mem} {R0 : Rws} {Post : AV → Mem → Rws → Prop} (h : HCall P f args m0 R0 Post) :
    HCall P f (args.map (AV.ren π)) (m0.ren π) (R0.ren σ) fun r m' R' => ∃ r1 m1 R1, Post r1 m1 R1 ∧ r = r1.ren π ∧ m' = Mem.ren π m1 ∧ R' = Rws.ren σ R1 := by
  refine ⟨fun U ρ W vs hH hown hvs => ?_⟩
  have hvs' : RpVs U (fun k => ρ (π k)) W args vs := ⟨by simpa using hvs.1, fun i x v hx hv => RpV.ren.1 (hvs.2 i (x.ren π) v (by rw [List.getElem?_map, hx]; rfl) hv)⟩
  refine (h.call U (fun k => ρ (π k)) W vs ((HHeap.ren hπ hσ hτ).1 hH) (fun x hx j hj => ?_) hvs').mono ?_
  · obtain ⟨cs, h1⟩ := hown (x.ren π) (List.mem_map.2 ⟨x, hx, rfl⟩) (π j) (AV.owns_ren hj)
    obtain ⟨ds, h2, _⟩ := Mem.ren_some h1
    rw [hπ] at h2
    exact ⟨ds, h2⟩
  · rintro e W' ⟨v, r, m', R', ρ', U', rfl, h1, h2, h3, h4, h5, h6, h7, h8, h9⟩
    have e1 : (fun k => (fun k => ρ' (π k)) (π k)) = ρ' := by funext k; simp only [hπ]
    refine ⟨v, r.ren π, m'.ren π, R'.ren σ, fun k => ρ' (π k), U', rfl, ⟨r, m', R', h1, rfl, rfl, rfl⟩, (HHeap.ren hπ hσ hτ).2 (by rw [e1]; exact h2), RpV.ren.2 (by rw [e1]; exact h3), fun j hj => ?_, fun k cs hk => ?_, fun i q hi => ?_, fun b hb => ?_, fun b hb => ?_, ⟨h9.os, h9.tape, h9.output, h9.size, fun b hb => h9.block b ⟨hb.1, fun hh => hb.2 ((HotAt.ren hπ hσ).2 hh)⟩⟩⟩
    · obtain ⟨i, q1, rfl⟩ := AV.ren_owns hj
      obtain ⟨cs, q2⟩ := h4 i q1
      exact ⟨_, Mem.ren_of hπ q2⟩
    · obtain ⟨ds, q0, _⟩ := Mem.ren_some hk
      obtain ⟨q1, cs', q2⟩ := h5 (π k) ds q0
      refine ⟨by show ρ' (π k) = ρ k; rw [q1, hπ], ?_⟩
      have := Mem.ren_of hπ q2
      rw [hπ] at this
      exact ⟨_, this⟩
    · exact h6 (σ i) q hi
    · rcases h7 b hb with q | q | q
      · exact .inl q
      · exact .inr (.inl q)
      · exact .inr (.inr ((HotAt.ren hπ hσ).2 q))
    · have : HotAt (fun k => (fun k => ρ' (π k)) (π k)) m' R' b := (HotAt.ren hπ hσ).1 hb
      rw [e1] at this
      rcases h8 b this with q | q
      · exact .inl ((HotAt.ren hπ hσ).2 q)
      · exact .inr q
end
/-- two names changed. -/
def swp (a b j : Nat) : Nat := if j = a then b else if j = b then a else j
/-- a method of a thing that is one block, with one row that hangs on it: whatever both are called. -/
def OCall (P : Program) (f : FuncId) (args : List AV) (cs : List AC) (r : HRow) (post : AV → List AC → HRow → Prop) : Prop :=
  ∀ k i, HCall P f (.w (.one (.own k 0)) :: args) (mem1 k cs) (row1 i r) fun v m' R' => ∃ cs' r', m' = mem1 k cs' ∧ R' = row1 i r' ∧ post v cs' r'
/-- from two numbers of rows to two others. -/
def per (i j x : Nat) : Nat := swp 0 i (swp 1 (swp 0 i j) x)
def rep2 (i j x : Nat) : Nat := swp 1 (swp 0 i j) (swp 0 i x)
/-- a method that makes a row, too. -/
def OCall2 (P : Program) (f : FuncId) (args : List AV) (cs : List AC) (r : HRow) (post : AV → List AC → HRow → HRow → Prop) : Prop :=
  ∀ k i j, i ≠ j → HCall P f (.w (.one (.own k 0)) :: args) (mem1 k cs) (row1 i r) fun v m' R' => ∃ cs' r' q, m' = mem1 k cs' ∧ R' = upd (row1 i r') j q ∧ 0 < q.sz ∧ post v cs' r' q
section
variable {P : Program} {R : Rws} {s : AS} {ops : Array Oper} {dr : Option (List Nat)} {ty : Nat} {pos : String} {after : Array Edge} {guard : Option (Nat × Bool)} {K : Rws → AS → Prop} {rest : List Oper}
def dstB (dst : Option Nat) (n : Nat) : Bool := match dst with
  | some d => Nat.blt d n
  | none => true
end
section
variable {P : Program}
/-- does it point to no block of the frame's own but k? -/
def AC.ownB (k : Nat) : AC → Bool
  | .own j _ => Nat.beq j k
  | _ => true
def AV.ownB (k : Nat) : AV → Bool
  | .w x => x.cells.all (AC.ownB k)
  | .tup xs => xs.all fun x => x.cells.all (AC.ownB k)
end
/-- less is told of a slot. -/
theorem rwp_tell (d : Nat) {P : Program} {R : Rws} {s : AS} {c : Code} {Q : Exit → Rws → AS → Prop} {av bv : AV} (hd : s.tmps d = some bv) (hle : bv.Le av) (hc : av.closedB = true) (h : RWp P c Q R (s.put (some d) av)) : RWp P c Q R s := by
  intro ok B0 A0 a w hR
  obtain ⟨A, ρ, hR⟩ := hR
  exact h (ok.put fun j hj => absurd hj (AV.closed_of hc j)) B0 A0 a w ⟨A, ρ, hR.next (hR.rel.retell hd fun v _ hv => hle _ _ _ _ hv)⟩
abbrev vNilS : AV := vC (.slice none 0 0)
theorem nilS_le (z : Nat) : vNilS.Le (vS z 0 []) := fun U ρ W v h => by
  obtain ⟨rfl, _⟩ := h
  exact ⟨⟨none, 0, rfl, Nat.le_refl _, by simp, fun h => absurd h (Nat.lt_irrefl _)⟩, fun b ⟨c, a, q, hn, _⟩ => absurd hn (Nat.lt_irrefl _)⟩
/-- a function that makes a thing: v tells what it hands back, of the thing's name. -/
def NCall (P : Program) (f : FuncId) (args : List AV) (v : Nat → AV) (post : List AC → HRow → Prop) : Prop :=
  ∀ k i, HCall P f args noMem noRows fun r m' R' => ∃ cs' r', m' = mem1 k cs' ∧ R' = row1 i r' ∧ r = v k ∧ post cs' r'
section
variable {P : Program} {R : Rws} {s : AS} {ops : Array Oper} {dr : Option (List Nat)} {ty : Nat} {pos : String} {after : Array Edge} {guard : Option (Nat × Bool)} {K : Rws → AS → Prop} {rest : List Oper}
end
end Go.Proofs.Ytlglajaonmpljaa

namespace Go.Proofs.Ytlglajaonmpljaa
open Go

section
variable {P : Program} {ops : Array Oper} {Q : Exit → Act → World → Prop} {md : Region.Mode} {S : World → Prop} {T : Nat → Bool}

/-- From here on in whatever order; S holds behind each operation but the late ones, which T names. -/
def Late (P : Program) (md : Region.Mode) (ops : Array Oper) (Q : Exit → Act → World → Prop) (S : World → Prop) (T : Nat → Bool) : Nat → Array Bool → Act → World → Prop
  | 0, l, a, w => Region.ready md ops l = [] ∧ Q .normal a w
  | n + 1, l, a, w => (Region.ready md ops l = [] → Q .normal a w) ∧ ∀ i ∈ Region.ready md ops l, wpOp P ops Q i (fun a' w' => (T i = true ∨ S w') ∧ Late P md ops Q S T n (l.setIfInBounds i true) a' w') a w

theorem Late.any {n : Nat} : ∀ {l : Array Bool} {a : Act} {w : World}, Late P md ops Q S T n l a w → wpAny P md ops Q n l a w := by
  induction n with
  | zero => exact fun h => h
  | succ n ih => exact fun h => ⟨h.1, fun i hi => wpOp_mono (fun _ _ k => ih k.2) (h.2 i hi)⟩

/-- What may come up waits for nothing that has not come up. -/
theorem no_wait {l : Array Bool} {i j : Nat} {oj : Oper} {e : Edge} (hun : l.getD i true = false) (hj : j ∈ Region.ready md ops l) (hoj : ops[j]? = some oj) (he : e ∈ oj.after) (hb : Region.binds md e = true) : e.on ≠ i := by
  rintro rfl
  obtain ⟨_, o, ho, hall⟩ := mem_ready.1 hj
  obtain rfl : oj = o := Option.some.inj (hoj.symm.trans ho)
  have h := hall e he hb
  cases hs : l[e.on]? with
  | none => simp [Array.getD_eq_getD_getElem?, hs] at hun
  | some b => simp [Array.getD_eq_getD_getElem?, hs] at hun h; rw [hun] at h; cases h

theorem un_set {l : Array Bool} {j m : Nat} (h : (l.setIfInBounds j true).getD m true = false) : l.getD m true = false := by
  by_cases e : j = m
  · subst e
    rw [Array.getD_eq_getD_getElem?, Array.getElem?_setIfInBounds] at h
    by_cases q : j < l.size
    · simp [q] at h
    · rw [if_pos rfl, if_neg q] at h; cases h
  · rw [getD_set_ne true e] at h; exact h
/-- One that may come up is taken first: every other one waits for it, or is apart from it; the late ones wait for it, or for number k, which waits for it. -/
theorem Late.first {i k : Nat} {oi : Oper} {v : Value} {U : Nat → Prop} (hi : ops[i]? = some oi) (hsel : ∀ (j : Nat) (o : Oper) cs b, ops[j]? = some o → o.op ≠ .select cs b)
    (hQ : ∀ c a w, Q (.panic c) (a.put oi.dst v) w → Q (.panic c) a w)
    (hap : ∀ j oj, U j → ops[j]? = some oj → j ≠ i → (∀ e ∈ oj.after, Region.binds md e = true → e.on ≠ i) → oi.apart ops oj = true)
    (hT : ∀ j oj, U j → T j = true → ops[j]? = some oj → ∃ e ∈ oj.after, Region.binds md e = true ∧ (e.on = i ∨ e.on = k))
    (hk : ∀ ok, ops[k]? = some ok → ∃ e ∈ ok.after, Region.binds md e = true ∧ e.on = i) (n : Nat) :
    ∀ (l : Array Bool) (a : Act) (w : World), (∀ j, l.getD j true = false → U j) → l.getD k true = false → i ∈ Region.ready md ops l → YieldsIf P ops S oi v a → S w →
      Late P md ops Q S T n (l.setIfInBounds i true) (a.put oi.dst v) w → Late P md ops Q S T (n + 1) l a w := by
  induction n with
  | zero =>
    intro l a w _ _ hr hy hS H
    refine ⟨fun h => absurd (h ▸ hr) (List.not_mem_nil), fun j hj => ?_⟩
    by_cases e : j = i
    · exact e ▸ hy.wpOp hi hS ⟨.inr hS, H⟩
    · exact absurd (H.1 ▸ ready_mono hj e) (List.not_mem_nil)
  | succ n ih =>
    intro l a w hU hl hr hy hS H
    have hun : l.getD i true = false := (mem_ready.1 hr).1
    refine ⟨fun h => absurd (h ▸ hr) (List.not_mem_nil), fun j hj => ?_⟩
    by_cases e : j = i
    · exact e ▸ hy.wpOp hi hS ⟨.inr hS, H⟩
    obtain ⟨_, oj, hoj, _⟩ := mem_ready.1 hj
    have hno : ∀ e ∈ oj.after, Region.binds md e = true → e.on ≠ i := fun e he hb => no_wait hun hj hoj he hb
    have hUj : U j := hU j (mem_ready.1 hj).1
    refine wpOp_mono (fun a' w' h => ?_) (wpOp_putIf hoj (hap j oj hUj hoj e hno) (fun cs b => hsel i oi cs b hi) (fun cs b => hsel j oj cs b hoj) hQ hy (H.2 j (ready_mono hj e)))
    obtain ⟨hy', ht | hS', H'⟩ := h
    · obtain ⟨x, hx, hb, hon | hon⟩ := hT j oj hUj ht hoj
      · exact absurd hon (hno x hx hb)
      · exact absurd hon (no_wait hl hj hoj hx hb)
    · have jk : j ≠ k := fun ek => by
        subst ek
        obtain ⟨x, hx, hb, hon⟩ := hk oj hoj
        exact hno x hx hb hon
      refine ⟨.inr hS', ih _ a' w' (fun m hm => hU m (un_set hm)) (by rw [getD_set_ne true jk]; exact hl) (ready_mono hr (Ne.symm e)) hy' hS' ?_⟩
      rw [Array.setIfInBounds_comm _ _ e]
      exact H'

/-- the three conditions, as one Bool. -/
def mayFirst (md : Region.Mode) (ops : Array Oper) (T : Nat → Bool) (l : Array Bool) (oi : Oper) (i k : Nat) : Bool :=
  (List.range ops.size).all (fun j => l.getD j true || (j == i || Region.waitsFor md ops j i || (match ops[j]? with | some oj => oi.apart ops oj | none => true)) && (!T j || Region.waitsFor md ops j i || Region.waitsFor md ops j k)) && Region.waitsFor md ops k i && !l.getD k true
end
end Go.Proofs.Ytlglajaonmpljaa

namespace Go.Proofs.Ytlglajaonmpljaa
set_option linter.unusedVariables false

/-- the number of a row, x standing above its highest digit. -/
def dvx : List Int → Int → Int
  | [], x => x
  | d :: ds, x => d + 10000 * dvx ds x
/-- a row's number. -/
def dval (ds : List Int) : Int := dvx ds 0
/-- all are digits. -/
def IsD (ds : List Int) : Prop := ∀ d ∈ ds, 0 ≤ d ∧ d < 10000
/-- the number of a row's digits from k on. -/
def hi (ds : List Int) (k : Nat) : Int := dval (ds.drop k)
/-- no nought at the high end. -/
def NoZ (ds : List Int) : Prop := 0 < ds.length → ds.getD (ds.length - 1) 0 ≠ 0

theorem dvx_app (a b : List Int) (x : Int) : dvx (a ++ b) x = dvx a (dvx b x) := by
  induction a with
  | nil => rfl
  | cons d ds ih => simp only [List.cons_append, dvx, ih]
theorem dvx_snoc (a : List Int) (d x : Int) : dvx (a ++ [d]) x = dvx a (d + 10000 * x) := dvx_app a [d] x
theorem IsD.tail {d : Int} {ds : List Int} (h : IsD (d :: ds)) : IsD ds := fun x hx => h x (List.mem_cons_of_mem _ hx)
theorem IsD.head {d : Int} {ds : List Int} (h : IsD (d :: ds)) : 0 ≤ d ∧ d < 10000 := h d List.mem_cons_self
theorem IsD.nil : IsD [] := fun d h => by cases h
theorem IsD.snoc {ds : List Int} {d : Int} (h : IsD ds) (h0 : 0 ≤ d) (h1 : d < 10000) : IsD (ds ++ [d]) := by
  intro x hx
  rcases List.mem_append.1 hx with k | k
  · exact h x k
  · obtain rfl : x = d := by simpa using k
    exact ⟨h0, h1⟩
theorem IsD.take {ds : List Int} (h : IsD ds) (k : Nat) : IsD (ds.take k) := fun x hx => h x (List.mem_of_mem_take hx)
theorem IsD.drop {ds : List Int} (h : IsD ds) (k : Nat) : IsD (ds.drop k) := fun x hx => h x (List.mem_of_mem_drop hx)
theorem IsD.set {ds : List Int} (h : IsD ds) (k : Nat) {d : Int} (h0 : 0 ≤ d) (h1 : d < 10000) : IsD (ds.set k d) := by
  intro x hx
  rcases List.mem_or_eq_of_mem_set hx with k | k
  · exact h x k
  · exact k ▸ ⟨h0, h1⟩
theorem IsD.getD {ds : List Int} (h : IsD ds) (k : Nat) : 0 ≤ ds.getD k 0 ∧ ds.getD k 0 < 10000 := by
  by_cases e : k < ds.length
  · rw [List.getD_eq_getElem?_getD, List.getElem?_eq_getElem e]
    exact h _ (List.getElem_mem e)
  · rw [List.getD_eq_getElem?_getD, List.getElem?_eq_none (by omega)]
    exact ⟨by decide, by decide⟩
theorem dvx_neg {a : List Int} (h : IsD a) {x : Int} (hx : x < 0) : dvx a x < 0 := by
  induction a with
  | nil => exact hx
  | cons d ds ih => have := h.head; have := ih h.tail; simp only [dvx]; omega
theorem dvx_nonneg {a : List Int} (h : IsD a) {x : Int} (hx : 0 ≤ x) : 0 ≤ dvx a x := by
  induction a with
  | nil => exact hx
  | cons d ds ih => have := h.head; have := ih h.tail; simp only [dvx]; omega
theorem dval_nonneg {a : List Int} (h : IsD a) : 0 ≤ dval a := dvx_nonneg h (by omega)
theorem hi_nonneg {a : List Int} (h : IsD a) (k : Nat) : 0 ≤ hi a k := dval_nonneg (h.drop k)
theorem dval_cons (d : Int) (ds : List Int) : dval (d :: ds) = d + 10000 * dval ds := rfl
theorem dval_nil : dval [] = 0 := rfl
theorem hi_zero (a : List Int) : hi a 0 = dval a := rfl
theorem hi_step (a : List Int) (k : Nat) : hi a k = a.getD k 0 + 10000 * hi a (k + 1) := by
  unfold hi
  by_cases e : k < a.length
  · rw [List.drop_eq_getElem_cons e, dval_cons, List.getD_eq_getElem?_getD, List.getElem?_eq_getElem e]; rfl
  · rw [List.drop_eq_nil_of_le (by omega), List.drop_eq_nil_of_le (by omega), List.getD_eq_getElem?_getD, List.getElem?_eq_none (by omega)]; rfl
theorem hi_end (a : List Int) {k : Nat} (h : a.length ≤ k) : hi a k = 0 := by
  unfold hi; rw [List.drop_eq_nil_of_le h]; rfl
theorem dval_split (a : List Int) (k : Nat) : dvx (a.take k) (hi a k) = dval a := by
  unfold hi dval; rw [← dvx_app, List.take_append_drop]
theorem dval_lt {ds : List Int} (h : IsD ds) : dval ds < 10000 ^ ds.length := by
  induction ds with
  | nil => decide
  | cons d ds ih => have := h.head; have := ih h.tail; rw [dval_cons, List.length_cons, Int.pow_succ]; omega
theorem pow_pos' (k : Nat) : (0 : Int) < 10000 ^ k := Int.pow_pos (by decide)
theorem pow_mono {k j : Nat} (h : k ≤ j) : (10000 : Int) ^ k ≤ 10000 ^ j := by
  obtain ⟨d, rfl⟩ := Nat.exists_eq_add_of_le h
  clear h
  induction d with
  | zero => exact Int.le_refl _
  | succ d ih => have := pow_pos' (k + d); rw [← Nat.add_assoc, Int.pow_succ]; omega
theorem nm_ge {ds : List Int} (h : IsD ds) (n : NoZ ds) (k : Nat) (e : ds.length = k + 1) : (10000 : Int) ^ k ≤ dval ds := by
  induction ds generalizing k with
  | nil => cases e
  | cons d ds ih =>
    rw [dval_cons]
    have hh := h.head
    cases k with
    | zero =>
      obtain rfl : ds = [] := List.eq_nil_of_length_eq_zero (by simpa using e)
      have := n (by simp)
      simp at this
      show (1 : Int) ≤ _
      rw [dval_nil]
      omega
    | succ k =>
      have hl : ds.length = k + 1 := by simpa using e
      have n' : NoZ ds := by
        intro hp
        have := n (by simp)
        rw [List.length_cons, hl] at this
        rw [hl]
        simpa using this
      have := ih h.tail n' k hl
      rw [Int.pow_succ]
      omega
/-- a row without noughts at its high end is as short as its number. -/
theorem nm_len {ds : List Int} (h : IsD ds) (n : NoZ ds) {k : Nat} (hk : dval ds < 10000 ^ k) : ds.length ≤ k := by
  rcases Nat.lt_or_ge k ds.length with hlt | hge
  · exfalso
    obtain ⟨j, hj⟩ : ∃ j, ds.length = j + 1 := ⟨ds.length - 1, by omega⟩
    have h1 := nm_ge h n j hj
    have h2 : (10000 : Int) ^ k ≤ 10000 ^ j := pow_mono (by omega)
    omega
  · exact hge
theorem nm_zero {ds : List Int} (h : IsD ds) (n : NoZ ds) (e : dval ds = 0) : ds = [] := by
  have := nm_len h n (k := 0) (by rw [e]; decide)
  exact List.eq_nil_of_length_eq_zero (by omega)
theorem nm_nil : NoZ [] := fun h => by cases h

/-- the higher digits alike, the next one less: less. -/
theorem size_lt (k : Nat) : ∀ {a b : List Int}, IsD a → IsD b → a.getD k 0 < b.getD k 0 → hi a (k + 1) = hi b (k + 1) → dval a < dval b := by
  induction k with
  | zero =>
    intro a b ha hb h e
    have h1 := hi_step a 0; have h2 := hi_step b 0
    rw [hi_zero] at h1 h2
    have := ha.getD 0; have := hb.getD 0
    simp only [Nat.zero_add] at *
    omega
  | succ k ih =>
    intro a b ha hb h e
    have h1 := hi_step a 0; have h2 := hi_step b 0
    rw [hi_zero] at h1 h2
    have t1 : hi a (0 + 1) = dval (a.drop 1) := rfl
    have t2 : hi b (0 + 1) = dval (b.drop 1) := rfl
    have := ih (ha.drop 1) (hb.drop 1) (by
      rw [List.getD_eq_getElem?_getD, List.getD_eq_getElem?_getD, List.getElem?_drop, List.getElem?_drop, Nat.add_comm 1 k]
      rw [List.getD_eq_getElem?_getD, List.getD_eq_getElem?_getD] at h
      exact h) (by
      unfold hi at *
      rw [List.drop_drop, List.drop_drop, Nat.add_comm 1 (k + 1)]
      exact e)
    have := ha.getD 0; have := hb.getD 0
    omega
/-- one more digit of a sum. -/
theorem plus_step {out a b : List Int} {k : Nat} {c : Int} {T : Int} (h : dvx out (c + hi a k + hi b k) = T) :
    dvx (out ++ [(c + a.getD k 0 + b.getD k 0) % 10000]) ((c + a.getD k 0 + b.getD k 0) / 10000 + hi a (k + 1) + hi b (k + 1)) = T := by
  rw [dvx_snoc, ← h]
  congr 1
  have := hi_step a k; have := hi_step b k
  omega
theorem minus_step {out a b : List Int} {k : Nat} {c x : Int} {T : Int} (h : dvx out (hi a k - hi b k - c) = T) {c' : Int} (hx : x - 10000 * c' = a.getD k 0 - b.getD k 0 - c) :
    dvx (out ++ [x]) (hi a (k + 1) - hi b (k + 1) - c') = T := by
  rw [dvx_snoc, ← h]
  congr 1
  have := hi_step a k; have := hi_step b k
  omega
theorem minus_end {out a b : List Int} {c : Int} (ho : IsD out) (hb : IsD b) (hc : 0 ≤ c) (hle : dval b ≤ dval a) (h : dvx out (hi a a.length - hi b a.length - c) = dval a - dval b) : dval out = dval a - dval b := by
  rw [hi_end a (Nat.le_refl _)] at h
  have h1 := hi_nonneg hb a.length
  by_cases e : hi b a.length + c = 0
  · rw [show (0 - hi b a.length - c) = 0 by omega] at h
    exact h
  · have := dvx_neg ho (x := 0 - hi b a.length - c) (by omega)
    omega
end Go.Proofs.Ytlglajaonmpljaa
namespace Go.Proofs.Ytlglajaonmpljaa
set_option linter.unusedVariables false

theorem getD_set_self {o : List Int} {k : Nat} (hk : k < o.length) (d : Int) : (o.set k d).getD k 0 = d := by
  rw [List.getD_eq_getElem?_getD, List.getElem?_set_self hk]; rfl
theorem getD_set_ne {o : List Int} {k j : Nat} (h : k ≠ j) (d : Int) : (o.set k d).getD j 0 = o.getD j 0 := by
  rw [List.getD_eq_getElem?_getD, List.getElem?_set_ne h, List.getD_eq_getElem?_getD]
theorem hi_set_lt {o : List Int} {k j : Nat} (h : k < j) (d : Int) : hi (o.set k d) j = hi o j := by
  unfold hi; rw [List.drop_set_of_lt h]
theorem take_set_ge {o : List Int} {k j : Nat} (h : j ≤ k) (d : Int) : (o.set k d).take j = o.take j := by
  rw [List.take_set_of_le h]
theorem take_snoc {o : List Int} {k : Nat} (h : k < o.length) : o.take (k + 1) = o.take k ++ [o.getD k 0] := by
  rw [List.take_succ_eq_append_getElem h, List.getD_eq_getElem?_getD, List.getElem?_eq_getElem h]; rfl

/-- the part of a row from i to i + k. -/
def mid (o : List Int) (i k : Nat) : List Int := (o.drop i).take k
theorem mid_snoc {o : List Int} {i k : Nat} (h : i + k < o.length) : mid o i (k + 1) = mid o i k ++ [o.getD (i + k) 0] := by
  unfold mid
  rw [take_snoc (by rw [List.length_drop]; omega)]
  congr 2
  rw [List.getD_eq_getElem?_getD, List.getElem?_drop, List.getD_eq_getElem?_getD]
theorem mid_set {o : List Int} {i k : Nat} (d : Int) : mid (o.set (i + k) d) i k = mid o i k := by
  unfold mid
  rw [List.drop_set, if_neg (by omega), take_set_ge (by omega)]
theorem mid_zero (o : List Int) (i : Nat) : mid o i 0 = [] := rfl
theorem hi_mid (o : List Int) (i k : Nat) : dvx (mid o i k) (hi o (i + k)) = hi o i := by
  unfold mid hi dval
  rw [← List.drop_drop, ← dvx_app, List.take_append_drop]

/-- What a product's inner round keeps: the row from i on, and what is to come, is what it was at first, and x times b. -/
def MulIn (o : List Int) (i k : Nat) (c x : Int) (b : List Int) (T : Int) : Prop := dvx (mid o i k) (hi o (i + k) + c + x * hi b k) = T
theorem mulIn_start (o : List Int) (i : Nat) (x : Int) (b : List Int) : MulIn o i 0 0 x b (hi o i + x * dval b) := by
  unfold MulIn
  rw [mid_zero, hi_zero]
  show hi o i + 0 + x * dval b = _
  rw [Int.add_zero]
theorem mulIn_step {o : List Int} {i k : Nat} {c x : Int} {b : List Int} {T : Int} (h : MulIn o i k c x b T) (hk : i + k < o.length) {s : Int} (hs : s = c + o.getD (i + k) 0 + x * b.getD k 0) :
    MulIn (o.set (i + k) (s % 10000)) i (k + 1) (s / 10000) x b T := by
  unfold MulIn at *
  rw [mid_snoc (by rw [List.length_set]; exact hk), mid_set, getD_set_self hk, dvx_snoc, ← h, hi_set_lt (by omega)]
  congr 1
  have h1 := hi_step o (i + k)
  have h2 := hi_step b k
  have h3 : x * hi b k = x * b.getD k 0 + 10000 * (x * hi b (k + 1)) := by rw [h2, Int.mul_add, Int.mul_left_comm]
  rw [h3, ← Nat.add_assoc]
  generalize x * hi b (k + 1) = u at *
  generalize x * b.getD k 0 = v at *
  omega
theorem mulIn_end {o : List Int} {i k : Nat} {x : Int} {b : List Int} {T : Int} (h : MulIn o i k 0 x b T) (hk : b.length ≤ k) : hi o i = T := by
  unfold MulIn at h
  rw [hi_end b hk, Int.mul_zero, Int.add_zero, Int.add_zero, hi_mid] at h
  exact h
/-- What a product's outer round keeps. -/
def MulOut (o a b : List Int) (i : Nat) : Prop := dvx (o.take i) (hi o i + hi a i * dval b) = dval a * dval b
theorem mulOut_start {o a b : List Int} (h : dval o = 0) : MulOut o a b 0 := by
  unfold MulOut
  rw [hi_zero, hi_zero, h, Int.zero_add]; rfl
theorem mulOut_step {o o' a b : List Int} {i : Nat} (h : MulOut o a b i) (hl : i < o'.length) (ht : o'.take i = o.take i) (he : hi o' i = hi o i + a.getD i 0 * dval b) : MulOut o' a b (i + 1) := by
  unfold MulOut at *
  rw [take_snoc hl, dvx_snoc, ht, ← h]
  congr 1
  have h1 := hi_step o' i
  have h2 : hi a i * dval b = a.getD i 0 * dval b + 10000 * (hi a (i + 1) * dval b) := by rw [hi_step a i, Int.add_mul, Int.mul_assoc]
  rw [h2]
  generalize hi a (i + 1) * dval b = u at *
  generalize a.getD i 0 * dval b = v at *
  omega
theorem mulOut_end {o a b : List Int} {i : Nat} (h : MulOut o a b i) (hl : a.length ≤ i) : dval o = dval a * dval b := by
  unfold MulOut at h
  rw [hi_end a hl, Int.zero_mul, Int.add_zero, dval_split] at h
  exact h
theorem dval_zeros (n : Nat) : dval (List.replicate n 0) = 0 := by
  induction n with
  | zero => rfl
  | succ n ih => rw [List.replicate_succ, dval_cons, ih]; rfl
theorem isD_zeros (n : Nat) : IsD (List.replicate n 0) := by
  intro d hd
  obtain rfl : d = 0 := List.eq_of_mem_replicate hd
  exact ⟨by decide, by decide⟩
theorem getD_zeros (n k : Nat) : (List.replicate n (0 : Int)).getD k 0 = 0 := by
  rw [List.getD_eq_getElem?_getD, List.getElem?_replicate]
  split <;> rfl
theorem dig_bd {x y : Int} (hx : 0 ≤ x ∧ x < 10000) (hy : 0 ≤ y ∧ y < 10000) : 0 ≤ x * y ∧ x * y ≤ 99980001 := by
  refine ⟨Int.mul_nonneg hx.1 hy.1, ?_⟩
  have h1 : x * y ≤ 9999 * y := Int.mul_le_mul_of_nonneg_right (by omega) hy.1
  omega

/-- a sign and a row: a number. -/
def sg (neg : Bool) (n : Int) : Int := if neg then -n else n
theorem sg_false (n : Int) : sg false n = n := rfl
theorem sg_true (n : Int) : sg true n = -n := rfl
/-- A row of digits, and a sign, that stand for n: no nought at the high end, and 0 has no sign. -/
structure Std (neg : Bool) (ds : List Int) (n : Int) : Prop where
  dg : IsD ds
  nm : NoZ ds
  sign : neg = true → ds ≠ []
  val : n = sg neg (dval ds)
theorem Std.pos {neg : Bool} {ds : List Int} {n : Int} (h : Std neg ds n) (hn : ds ≠ []) : 0 < dval ds := by
  have h1 := dval_nonneg h.dg
  rcases Int.lt_or_eq_of_le h1 with k | k
  · exact k
  · exact absurd (nm_zero h.dg h.nm k.symm) hn
theorem Std.neg_iff {neg : Bool} {ds : List Int} {n : Int} (h : Std neg ds n) : neg = decide (n < 0) := by
  have h1 := dval_nonneg h.dg
  have hv := h.val
  cases neg with
  | false => rw [sg_false] at hv; symm; rw [decide_eq_false_iff_not]; omega
  | true => have := h.pos (h.sign rfl); rw [sg_true] at hv; symm; rw [decide_eq_true_eq]; omega
theorem Std.abs {neg : Bool} {ds : List Int} {n : Int} (h : Std neg ds n) : dval ds = n.natAbs := by
  have h1 := dval_nonneg h.dg
  have hv := h.val
  cases neg with
  | false => rw [sg_false] at hv; omega
  | true => rw [sg_true] at hv; omega
theorem Std.len {neg : Bool} {ds : List Int} {n : Int} (h : Std neg ds n) {k : Nat} (hk : (n.natAbs : Int) < 10000 ^ k) : ds.length ≤ k := nm_len h.dg h.nm (by rw [h.abs]; exact hk)
/-- what trim makes of a sign and a row. -/
theorem std_trim {neg : Bool} {ds : List Int} {k : Nat} (hd : IsD ds) (hv : dval (ds.take k) = dval ds) (hn : NoZ (ds.take k)) : Std (neg && decide (0 < (ds.take k).length)) (ds.take k) (sg neg (dval ds)) := by
  refine ⟨hd.take k, hn, fun h => ?_, ?_⟩
  · simp only [Bool.and_eq_true, decide_eq_true_eq] at h
    intro e
    rw [e] at h
    exact absurd h.2 (by decide)
  · rw [hv]
    by_cases e : 0 < (ds.take k).length
    · rw [decide_eq_true e, Bool.and_true]
    · have : ds.take k = [] := List.eq_nil_of_length_eq_zero (by omega)
      rw [this, dval_nil] at hv
      rw [← hv]
      cases neg <;> simp [sg]
end Go.Proofs.Ytlglajaonmpljaa

namespace Go.Proofs.Ytlglajaonmpljaa
open Go.RowKit
set_option linter.unusedVariables false

/-- a slice of ints that reads as the row ds. -/
def Dg (w : World) (A : Option Addr) (l c : Nat) (ds : List Int) : Prop :=
  ds.length = l ∧ l ≤ c ∧ c ≤ 9223372036854775807 ∧ (0 < l → ∃ g, A = some ⟨g, 0, none⟩ ∧ g < w.heap.size ∧ ∀ j, j < l → w.cell? ⟨g, j, none⟩ = some (.int .i64 (ds.getD j 0)))
theorem Dg.call {w w' : World} {A : Option Addr} {l c : Nat} {ds : List Int} (h : Dg w A l c ds) (hb : Below w.heap.size w w') : Dg w' A l c ds := by
  obtain ⟨h1, h2, h3, k⟩ := h
  refine ⟨h1, h2, h3, fun hne => ?_⟩
  obtain ⟨g, rfl, hg, hc⟩ := k hne
  exact ⟨g, rfl, Nat.lt_of_lt_of_le hg hb.size, fun j hj => (hb.cell (p := ⟨g, j, none⟩) hg).trans (hc j hj)⟩
theorem Dg.alloc {w : World} {A : Option Addr} {l c : Nat} {ds : List Int} (h : Dg w A l c ds) (o : Obj) : Dg (w.alloc o) A l c ds := h.call ((Below.refl _ _).alloc (Nat.le_refl _) o)
theorem Dg.nil {w : World} {A : Option Addr} {c : Nat} (hc : c ≤ 9223372036854775807) : Dg w A 0 c [] := ⟨rfl, Nat.zero_le _, hc, fun h => absurd h (by omega)⟩
theorem Dg.take {w : World} {A : Option Addr} {l c : Nat} {ds : List Int} (h : Dg w A l c ds) {k : Nat} (hk : k ≤ l) : Dg w A k c (ds.take k) := by
  obtain ⟨h1, h2, h3, h4⟩ := h
  refine ⟨by rw [List.length_take]; omega, by omega, h3, fun hp => ?_⟩
  obtain ⟨g, e, hg, hc⟩ := h4 (by omega)
  refine ⟨g, e, hg, fun j hj => ?_⟩
  rw [hc j (by omega), List.getD_eq_getElem?_getD, List.getD_eq_getElem?_getD, List.getElem?_take_of_lt hj]
theorem Dg.own {w : World} {base : Nat} {v : Value} {n : Nat} {ds : List Int} (h : w.ownsRow base 3 1 v n (ds.map (Value.int .i64))) : ∃ A c, v = .slice A n c ∧ Dg w A n c ds := by
  have hl : ds.length = n := by have := h.1; simpa using this
  have hh := h
  rcases h.2 with ⟨rfl, rfl⟩ | ⟨g, cap, cur, rfl, hb, hg, hn, hm, hs, ht⟩
  · exact ⟨none, 0, rfl, hl, Nat.le_refl _, by omega, fun k => absurd k (by omega)⟩
  · refine ⟨_, cap, rfl, hl, hn, by simpa [maxLen] using hm, fun _ => ⟨g, rfl, (Array.getElem?_eq_some_iff.1 hg).1, fun j hj => ?_⟩⟩
    rw [hh.cellAt j (by omega), List.getElem?_map, List.getElem?_eq_getElem (by omega), List.getD_eq_getElem?_getD, List.getElem?_eq_getElem (by omega)]
    rfl
/-- A number of the reference package, in memory w: its sign, its slice; n: the number. -/
def IsN (w : World) (neg : Bool) (A : Option Addr) (l c : Nat) (n : Int) : Prop := ∃ ds, Dg w A l c ds ∧ Std neg ds n
theorem IsN.call {w w' : World} {neg : Bool} {A : Option Addr} {l c : Nat} {n : Int} (h : IsN w neg A l c n) (hb : Below w.heap.size w w') : IsN w' neg A l c n := by
  obtain ⟨ds, h1, h2⟩ := h
  exact ⟨ds, h1.call hb, h2⟩
theorem IsN.neg_iff {w : World} {neg : Bool} {A : Option Addr} {l c : Nat} {n : Int} (h : IsN w neg A l c n) : neg = decide (n < 0) := by
  obtain ⟨ds, h1, h2⟩ := h
  exact h2.neg_iff
theorem IsN.len {w : World} {neg : Bool} {A : Option Addr} {l c : Nat} {n : Int} (h : IsN w neg A l c n) {k : Nat} (hk : (n.natAbs : Int) < 10000 ^ k) : l ≤ k := by
  obtain ⟨ds, h1, h2⟩ := h
  rw [← h1.1]
  exact h2.len hk
/-- the number n comes back, in memory of its own; all elder memory is as it was. -/
def RN (n : Int) (w : World) (e : Ending) (w' : World) : Prop := ∃ neg A l c, e = .returned (.agg #[.bool neg, .slice A l c]) ∧ IsN w' neg A l c n ∧ Below w.heap.size w w'
/-- a row whose number is n comes back. -/
def RD (n : Int) (k : Nat) (w : World) (e : Ending) (w' : World) : Prop := ∃ A l c ds, e = .returned (.slice A l c) ∧ Dg w' A l c ds ∧ IsD ds ∧ dval ds = n ∧ l ≤ k ∧ Below w.heap.size w w'

/-- the slice lies in no block below b. -/
def Fr (b : Nat) (A : Option Addr) : Prop := ∀ a, A = some a → b ≤ a.block
/-- RN, in memory that is new. -/
def RNF (n : Int) (w : World) (e : Ending) (w' : World) : Prop := ∃ neg A l c, e = .returned (.agg #[.bool neg, .slice A l c]) ∧ IsN w' neg A l c n ∧ Below w.heap.size w w' ∧ Fr w.heap.size A
/-- RD, in memory that is new. -/
def RDF (n : Int) (k : Nat) (w : World) (e : Ending) (w' : World) : Prop := ∃ A l c ds, e = .returned (.slice A l c) ∧ Dg w' A l c ds ∧ IsD ds ∧ dval ds = n ∧ l ≤ k ∧ Below w.heap.size w w' ∧ Fr w.heap.size A
/-- RN, in the row that was given. -/
def RT (n : Int) (A : Option Addr) (c : Nat) (w : World) (e : Ending) (w' : World) : Prop := ∃ neg l, e = .returned (.agg #[.bool neg, .slice A l c]) ∧ IsN w' neg A l c n ∧ Below w.heap.size w w'
theorem Fr.own {w : World} {base : Nat} {t : TypeId} {A : Option Addr} {n c : Nat} {xs : List Value} (h : w.ownsRow base t 1 (.slice A n c) n xs) : Fr base A := fun a e => by
  subst e
  exact (h.lt a.block rfl).1
theorem base_any (w : World) : Calls Try.prog 70 #[] w fun e w' => e = .returned (.int .i64 10000) ∧ w = w' := by
  go_enter Try.func70, Try.ntmps70
  go_wp2
  go_ret
  exact ⟨rfl, rfl⟩
set_option maxHeartbeats 400000 in
theorem digit_any (A : Option Addr) (l c : Nat) (ds : List Int) (k : Nat) (w : World) (h : Dg w A l c ds) (hl : l ≤ 1000) (hk : k ≤ 1000) :
    Calls Try.prog 69 #[.slice A l c, .int .i64 k] w fun e w' => e = .returned (.int .i64 (ds.getD k 0)) ∧ w = w' := by
  obtain ⟨h1, h2, h3, h4⟩ := h
  by_cases hlt : k < l
  · obtain ⟨g, rfl, hg, hcell⟩ := h4 (by omega)
    have hk' := hcell k hlt
    generalize ds.getD k 0 = d at *
    clear h4 hcell h1
    go_enter Try.func69, Try.ntmps69
    go_wp2
    go_ret
    exact ⟨rfl, rfl⟩
  · have HR : Hid (ds.getD k 0 = 0) := by unfold Hid; simp [List.getD_eq_getElem?_getD, List.getElem?_eq_none (show ds.length ≤ k by omega)]
    clear h4 h1
    go_enter Try.func69, Try.ntmps69
    go_wp2
    go_ret
    rw [HR.out]
    exact ⟨rfl, rfl⟩
end Go.Proofs.Ytlglajaonmpljaa
namespace Go.Proofs.Ytlglajaonmpljaa
open Go.RowKit
set_option linter.unusedVariables false

def capOf : Value → Nat
  | .slice _ k _ => k
  | _ => 0
theorem rn_trim {neg : Bool} {A : Option Addr} {l c k : Nat} {ds : List Int} {w w' : World} (h : Dg w A l c ds) (hd : IsD ds) (hk : k ≤ l) (hv : dval (ds.take k) = dval ds) (hz : 0 < k → ds.getD (k - 1) 0 ≠ 0)
    (hb : Below w.heap.size w w') {x : Bool} (hx : x = (neg && decide (0 < k))) : RT (sg neg (dval ds)) A c w (.returned (.agg #[.bool x, .slice A k c])) w' := by
  have hl : (ds.take k).length = k := by rw [List.length_take, h.1]; omega
  have hn : NoZ (ds.take k) := by
    intro hp
    rw [hl] at hp ⊢
    rw [List.getD_eq_getElem?_getD, List.getElem?_take_of_lt (by omega), ← List.getD_eq_getElem?_getD]
    exact hz hp
  have hs := std_trim (neg := neg) hd hv hn
  rw [hl] at hs
  exact ⟨_, _, by rw [hx], ⟨_, (h.take hk).call hb, hs⟩, hb⟩
theorem trim_less {ds : List Int} {k l : Nat} (hl : ds.length = l) (hk : k + 1 ≤ l) (hv : dval (ds.take (k + 1)) = dval ds) (hz : ds.getD k 0 = 0) : dval (ds.take k) = dval ds := by
  rw [take_snoc (by omega), hz] at hv
  unfold dval at *
  rw [dvx_snoc] at hv
  simpa using hv
set_option maxHeartbeats 1000000 in
theorem trim_same (neg : Bool) (A : Option Addr) (l c : Nat) (ds : List Int) (w : World) (h : Dg w A l c ds) (hd : IsD ds) (hl : l ≤ 1000) :
    Calls Try.prog 71 #[.agg #[.bool neg, .slice A l c]] w (RT (sg neg (dval ds)) A c w) := by
  obtain ⟨h1, h2, h3, h4⟩ := id h
  have hlt : ∀ k, k + 1 ≤ l → ∃ g, A = some ⟨g, 0, none⟩ ∧ g < w.heap.size ∧ w.cell? ⟨g, k, none⟩ = some (.int .i64 (ds.getD k 0)) := fun k hk => by
    obtain ⟨g, e, hg, hc⟩ := h4 (by omega)
    exact ⟨g, e, hg, hc k (by omega)⟩
  have H1 := Lib.hid h1
  have HL := Lib.hid hlt
  clear h1 hlt h4
  go_enter Try.func71, Try.ntmps71
  go_wp2
  go_loop [3] (fun d => ∃ k : Nat, k ≤ l ∧ d = .slice A k c ∧ Hid (dval (ds.take k) = dval ds)) (fun d => capOf d)
  case atStart => exact ⟨l, Nat.le_refl _, rfl, by unfold Hid; rw [List.take_of_length_le (by rw [H1.out]; omega)]⟩
  case round =>
    obtain ⟨k, hk, rfl, hv⟩ := hrel
    rcases k with _ | k
    · go_wp2
      all_goals
        refine bodyPost_ret (v := .agg #[.bool false, .slice A 0 c]) (by simp only [results, Try.results71]; go_simp) rfl (rn_trim h hd hk hv.out (fun h => absurd h (by omega)) ?_ (by simp))
        (repeat (first | (with_reducible exact Below.refl _ _) | (with_reducible refine below_alloc ?_ _)))
    · obtain ⟨g, rfl, hg, hc⟩ := HL.out k hk
      by_cases hz : ds.getD k 0 = 0
      · have hv' : Hid (dval (ds.take k) = dval ds) := trim_less H1.out hk hv.out hz
        rw [hz] at hc
        clear hz
        go_wp2
        go_round
        case rel => exact ⟨k, by omega, by simp, hv'⟩
        case measure => simp [capOf]
      · have hz' := Lib.hid hz
        have hne : (ds.getD k 0 == 0) = false := by simpa using hz
        clear hz
        generalize hdd : ds.getD k 0 = d at hc hne
        have HD := Lib.hid hdd
        clear hdd
        go_wp2
        · refine bodyPost_ret (v := .agg #[.bool true, .slice (some ⟨g, 0, none⟩) (k + 1) c]) (by simp only [results, Try.results71]; go_simp) rfl (rn_trim (neg := true) h hd hk hv.out (fun _ => hz'.out) ?_ (by simp))
          (repeat (first | (with_reducible exact Below.refl _ _) | (with_reducible refine below_alloc ?_ _)))
        · refine bodyPost_ret (v := .agg #[.bool false, .slice (some ⟨g, 0, none⟩) (k + 1) c]) (by simp only [results, Try.results71]; go_simp) rfl (rn_trim (neg := false) h hd hk hv.out (fun _ => hz'.out) ?_ (by simp))
          (repeat (first | (with_reducible exact Below.refl _ _) | (with_reducible refine below_alloc ?_ _)))
theorem trim_short (neg : Bool) (A : Option Addr) (l c : Nat) (ds : List Int) (w : World) (h : Dg w A l c ds) (hd : IsD ds) (hl : l ≤ 1000) :
    Calls Try.prog 71 #[.agg #[.bool neg, .slice A l c]] w fun e w' => ∃ x l', e = .returned (.agg #[.bool x, .slice A l' c]) ∧ IsN w' x A l' c (sg neg (dval ds)) ∧ l' ≤ l ∧ Below w.heap.size w w' :=
  (trim_same neg A l c ds w h hd hl).mono fun _ _ ⟨x, l', h1, h2, h3⟩ => ⟨x, l', h1, h2, h2.len (by
    have a := dval_lt hd
    have b := dval_nonneg hd
    rw [h.1] at a
    cases neg <;> simp only [sg, if_true, Bool.false_eq_true, if_false] <;> omega), h3⟩
end Go.Proofs.Ytlglajaonmpljaa
namespace Go.Proofs.Ytlglajaonmpljaa
open Go.RowKit
set_option linter.unusedVariables false

theorem icmp_lt {a b : Int} (h : a < b) : icmp a b = -1 := by unfold icmp; rw [if_neg (by omega), if_pos h]
theorem icmp_gt {a b : Int} (h : b < a) : icmp a b = 1 := by unfold icmp; rw [if_neg (by omega), if_neg (by omega)]
theorem icmp_eq {a b : Int} (h : a = b) : icmp a b = 0 := by unfold icmp; rw [if_pos h]
set_option maxHeartbeats 1000000 in
theorem size_any (A B : Option Addr) (l c m d : Nat) (ds es : List Int) (w : World) (h : Dg w A l c ds) (k : Dg w B m d es) (hd : IsD ds) (he : IsD es) (hl : l ≤ 1000) (hm : m ≤ 1000) :
    Calls Try.prog 68 #[.slice A l c, .slice B m d] w fun e w' => e = .returned (.int .i64 (icmp (dval ds) (dval es))) ∧ w = w' := by
  have H1 := Lib.hid h.1
  have H2 := Lib.hid k.1
  have hd' := Lib.hid hd
  have he' := Lib.hid he
  have hs := Lib.hid h
  have ks := Lib.hid k
  clear hd he h k
  go_enter Try.func68, Try.ntmps68
  go_wp2
  all_goals
    go_loop [5] (fun i => ∃ k : Nat, i = .int .i64 ((k : Int) - 1) ∧ k ≤ 1000 ∧ Hid (hi ds k = hi es k)) (fun i => (intOf i + 1).toNat)
    case atStart => first
      | exact ⟨l, rfl, by omega, by unfold Hid; rw [hi_end ds (by rw [H1.out]; omega), hi_end es (by rw [H2.out]; omega)]⟩
      | exact ⟨m, rfl, by omega, by unfold Hid; rw [hi_end ds (by rw [H1.out]; omega), hi_end es (by rw [H2.out]; omega)]⟩
    case round =>
      obtain ⟨k, rfl, hk, hh⟩ := hrel
      rcases k with _ | k
      · rw [show (((0 : Nat) : Int) - 1) = -1 from rfl]
        go_wp2
        go_ret
        exact ⟨ret_int (icmp_eq hh.out).symm, rfl⟩
      · rw [show (((k + 1 : Nat) : Int) - 1) = (k : Int) by omega]
        have g1 := hd'.out.getD k
        have g2 := he'.out.getD k
        have e1 := fun h => size_lt k hd'.out he'.out h hh.out
        have e2 := fun h => size_lt k he'.out hd'.out h hh.out.symm
        have e3 : ds.getD k 0 = es.getD k 0 → hi ds k = hi es k := fun h => by rw [hi_step ds k, hi_step es k, h, hh.out]
        have c1 := fun w h => digit_any A l c ds k w h hl (by omega)
        have c2 := fun w h => digit_any B m d es k w h hm (by omega)
        have E1 := Lib.hid e1
        have E2 := Lib.hid e2
        have E3 := Lib.hid e3
        have C1 := Lib.hid c1
        have C2 := Lib.hid c2
        clear e1 e2 e3 c1 c2
        generalize ds.getD k 0 = x at *
        generalize es.getD k 0 = y at *
        go_wp2_with (go_at_call 69; first | ((with_reducible refine (C1.out _ hs.out).mono ?_); rintro e w' ⟨rfl, rfl⟩) | ((with_reducible refine (C2.out _ ks.out).mono ?_); rintro e w' ⟨rfl, rfl⟩))
        · go_ret
          exact ⟨ret_int (icmp_lt (E1.out (by assumption))).symm, rfl⟩
        · go_ret
          exact ⟨ret_int (icmp_gt (E2.out (by assumption))).symm, rfl⟩
        · go_round
          case rel => exact ⟨k, rfl, by omega, E3.out (by omega)⟩
          case measure => simp [intOf]
end Go.Proofs.Ytlglajaonmpljaa
namespace Go.Proofs.Ytlglajaonmpljaa
open Go.RowKit
set_option linter.unusedVariables false

theorem info_int : (Try.prog.info? 3).map (fun i => (i.zero, i.size, i.bytes)) = some (some (.int .i64 0), 1, 8) := by kernel_rfl
/-- what a sum's round keeps. -/
structure PlusR (w wr : World) (ds es : List Int) (l m : Nat) (v : Value) (c : Int) (k : Nat) (os : List Int) : Prop where
  c0 : 0 ≤ c
  c1 : c ≤ 1
  len : os.length = k
  dg : IsD os
  val : dvx os (c + hi ds k + hi es k) = dval ds + dval es
  more : 0 < c → k ≤ l ∨ k ≤ m
  top : k ≤ l ∨ k ≤ m + 1 ∨ k ≤ l + 1
  own : wr.ownsRow w.heap.size 3 1 v k (os.map (Value.int .i64))
  below : Below w.heap.size w wr
theorem plus_start (w : World) (ds es : List Int) (l m : Nat) : PlusR w w ds es l m (.slice none 0 0) 0 0 [] :=
  ⟨by omega, by omega, rfl, IsD.nil, by show (0 : Int) + _ + _ = _; rw [hi_zero, hi_zero]; omega, fun h => absurd h (by omega), .inl (Nat.zero_le _), World.ownsRow_nil _ _ _ _, Below.refl _ _⟩
theorem plus_round {w wr w1 : World} {ds es os : List Int} {l m k : Nat} {v v' : Value} {c : Int} {o : Obj} (h : PlusR w wr ds es l m v c k os) (hl : ds.length = l) (hm : es.length = m) (hd : IsD ds) (he : IsD es)
    (hgo : k < l ∨ k < m ∨ 0 < c) {s : Int} (hs : s = c + ds.getD k 0 + es.getD k 0)
    (hown : w1.ownsRow w.heap.size 3 1 v' (k + 1) (os.map (Value.int .i64) ++ [.int .i64 (s % 10000)])) (hg : (wr.alloc o).grownBy w1 v.ownBlock) : PlusR w w1 ds es l m v' (s / 10000) (k + 1) (os ++ [s % 10000]) := by
  have g1 := hd.getD k
  have g2 := he.getD k
  have h0 := h.c0; have h1 := h.c1; have hmo := h.more
  have z1 : l ≤ k → ds.getD k 0 = 0 := fun q => by simp [List.getD_eq_getElem?_getD, List.getElem?_eq_none (show ds.length ≤ k by omega)]
  have z2 : m ≤ k → es.getD k 0 = 0 := fun q => by simp [List.getD_eq_getElem?_getD, List.getElem?_eq_none (show es.length ≤ k by omega)]
  refine ⟨by omega, by omega, by rw [List.length_append, h.len]; rfl, h.dg.snoc (by omega) (by omega), by rw [hs]; exact plus_step h.val, fun q => ?_, ?_, by rw [List.map_append]; exact hown, ?_⟩
  · by_cases q1 : k < l
    · exact .inl (by omega)
    · by_cases q2 : k < m
      · exact .inr (by omega)
      · have := z1 (by omega); have := z2 (by omega); omega
  · rcases hgo with q | q | q
    · exact .inl (by omega)
    · exact .inr (.inl (by omega))
    · have := hmo q; omega
  · refine (h.below.alloc h.below.size o).grown hg (by have := h.below.size; simp; omega) (fun j hj => (h.own.lt j hj).1)
theorem plus_end {w wr : World} {ds es os : List Int} {l m k : Nat} {v : Value} {c : Int} (h : PlusR w wr ds es l m v c k os) (hl : ds.length = l) (hm : es.length = m) (h1 : l ≤ k) (h2 : m ≤ k) (h3 : c ≤ 0) : RDF (dval ds + dval es) (max l m + 1) w (.returned v) wr := by
  obtain ⟨A, c', rfl, hD⟩ := Dg.own h.own
  have e : c = 0 := by have := h.c0; omega
  have hv := h.val
  rw [e, hi_end ds (by omega), hi_end es (by omega)] at hv
  exact ⟨A, k, c', os, rfl, hD, h.dg, hv, by have := h.top; omega, h.below, Fr.own h.own⟩
set_option maxHeartbeats 1000000 in
set_option maxRecDepth 100000 in
theorem rplus_new (A B : Option Addr) (l c m d : Nat) (ds es : List Int) (w : World) (h : Dg w A l c ds) (k : Dg w B m d es) (hd : IsD ds) (he : IsD es) (hl : l ≤ 900) (hm : m ≤ 900) :
    Calls Try.prog 85 #[.slice A l c, .slice B m d] w (RDF (dval ds + dval es) (max l m + 1) w) := by
  obtain ⟨i0, hi0, hz0, hz1, hz2⟩ := info_parts info_int
  have H1 := Lib.hid h.1
  have H2 := Lib.hid k.1
  have hd' := Lib.hid hd
  have he' := Lib.hid he
  have hs := Lib.hid h
  have ks := Lib.hid k
  have I0 := Lib.hid hi0
  have I1 := Lib.hid hz0
  have I2 := Lib.hid hz1
  have I3 := Lib.hid hz2
  clear hd he h k hi0 hz0 hz1 hz2
  go_enter Try.func85, Try.ntmps85
  go_wp2
  go_loopw [5, 6, 7] (fun v c i wr => ∃ (k : Nat) (cc : Int) (os : List Int), c = .int .i64 cc ∧ i = .int .i64 k ∧ PlusR w wr ds es l m v cc k os) (fun _ _ i _ => 2000 - (intOf i).toNat)
  case atStart => exact ⟨0, 0, [], rfl, rfl, plus_start w ds es l m⟩
  case round =>
    obtain ⟨k, cc, os, rfl, rfl, hr⟩ := hrel
    have b0 := hr.c0
    have b1 := hr.c1
    have b2 := hr.top
    have b3 := hr.more
    have HR := Lib.hid hr
    have C1 := Lib.hid (fun w h => digit_any A l c ds k w h (by omega) (by omega))
    have C2 := Lib.hid (fun w h => digit_any B m d es k w h (by omega) (by omega))
    have g1 := hd'.out.getD k
    have g2 := he'.out.getD k
    have hD1 := Lib.hid (hs.out.call hr.below)
    have hD2 := Lib.hid (ks.out.call hr.below)
    clear hr
    have N := Lib.hid (fun (w1 : World) (v' : Value) (o : Obj) hgo hown hg => plus_round (w1 := w1) (v' := v') (o := o) HR.out H1.out H2.out hd'.out he'.out hgo rfl hown hg)
    generalize ds.getD k 0 = x at *
    generalize es.getD k 0 = y at *
    by_cases hgo : k < l ∨ k < m ∨ 0 < cc
    · have hgo' := Lib.hid hgo
      have HO := Lib.hid HR.out.own
      have q0 : 0 ≤ cc + x + y := by omega
      have hsz := HR.out.below.size
      have M := Lib.hid (fun w1 v' o => N.out w1 v' o hgo'.out)
      clear N
      have hcs : (l < m ∧ k < m) ∨ (l < m ∧ m ≤ k ∧ 0 < cc) ∨ (m ≤ l ∧ k < l) ∨ (m ≤ l ∧ l ≤ k ∧ 0 < cc) := by omega
      rcases hcs with ⟨t1, t2⟩ | ⟨t1, t2, t3⟩ | ⟨t1, t2⟩ | ⟨t1, t2, t3⟩
      all_goals
        go_wp2_with (first
          | (go_at_call 69; first | ((with_reducible refine (C1.out _ hD1.out).mono ?_); rintro e w' ⟨rfl, rfl⟩) | ((with_reducible refine (C2.out _ hD2.out).mono ?_); rintro e w' ⟨rfl, rfl⟩))
          | (go_at_call 70; (with_reducible refine (base_any _).mono ?_); rintro e w' ⟨rfl, rfl⟩)
          | (at_builtin; refine wpList_append_own _ rfl _ _ 23 rfl w.heap.size 3 i0 (.int .i64 0) 1 8 Try.underlying23 I0.out I1.out I2.out I3.out rfl (by decide) _ _ _ rfl (HO.out.alloc _) ⟨wr.heap.size, 0, none⟩ 1 1 [.int .i64 ((cc + x + y) % 10000)] rfl rfl (cell_one_new _ _ _) (by simp [Value.oneCell']) (by simp only [maxLen]; omega) (by omega) (by simp; omega) ?_; intro v' w1 hown' hgrow hiff; clear hiff; have R := Lib.hid (M.out w1 v' _ hown' hgrow); clear hown' hgrow))
        all_goals first
          | (exfalso; omega)
          | (refine ⟨⟨k + 1, _, _, rfl, by go_num, R.out⟩, ?_⟩; simp [intOf]; omega)
    · clear N
      have t3 : cc ≤ 0 := by omega
      have t4 : l ≤ k := by omega
      have t5 : m ≤ k := by omega
      rcases Nat.lt_or_ge l m with hlm | hlm
      all_goals
        go_wp2
        all_goals first
          | (exfalso; omega)
          | (go_ret; exact plus_end HR.out H1.out H2.out t4 t5 t3)
end Go.Proofs.Ytlglajaonmpljaa
namespace Go.Proofs.Ytlglajaonmpljaa
open Go.RowKit
set_option linter.unusedVariables false

theorem qt_left {P : Program} {f : FuncId} {args : Array Value} {w : World} {n : Nat} {v : Value}
    (h : Calls P f args (w.drewN n) fun e w' => e = .returned v ∧ w.drewN n = w') : Calls P f args (w.drewN n) fun e w'' => e = .returned v ∧ ∃ m, w'' = w.drewN m :=
  h.mono fun _ _ ⟨he, hm⟩ => ⟨he, n, hm.symm⟩
theorem Dg.drewN {w : World} {A : Option Addr} {l c : Nat} {ds : List Int} (h : Dg w A l c ds) (n : Nat) : Dg (w.drewN n) A l c ds := h
theorem bel_drewN {B : Nat} {a w : World} (h : Below B a w) (n : Nat) : Below B a (w.drewN n) := ⟨h.os, h.tape, h.output, h.size, h.block⟩
/-- what a difference's round keeps. -/
structure MinusR (w wr : World) (ds es : List Int) (l : Nat) (v : Value) (c : Int) (k : Nat) (os : List Int) : Prop where
  c0 : 0 ≤ c
  c1 : c ≤ 1
  len : os.length = k
  dg : IsD os
  val : dvx os (hi ds k - hi es k - c) = dval ds - dval es
  top : k ≤ l
  own : wr.ownsRow w.heap.size 3 1 v k (os.map (Value.int .i64))
  below : Below w.heap.size w wr
theorem minus_start (w : World) (ds es : List Int) (l : Nat) : MinusR w w ds es l (.slice none 0 0) 0 0 [] :=
  ⟨by omega, by omega, rfl, IsD.nil, by show hi ds 0 - hi es 0 - 0 = _; rw [hi_zero, hi_zero]; omega, Nat.zero_le _, World.ownsRow_nil _ _ _ _, Below.refl _ _⟩
theorem minus_round {w wr w1 : World} {ds es os : List Int} {l k : Nat} {v v' : Value} {c : Int} {o : Obj} (h : MinusR w wr ds es l v c k os)
    (hgo : k < l) {x c' : Int} (h0 : 0 ≤ x) (h1 : x < 10000) (hc0 : 0 ≤ c') (hc1 : c' ≤ 1) (hs : x - 10000 * c' = ds.getD k 0 - es.getD k 0 - c)
    (hown : w1.ownsRow w.heap.size 3 1 v' (k + 1) (os.map (Value.int .i64) ++ [.int .i64 x])) (hg : (wr.alloc o).grownBy w1 v.ownBlock) : MinusR w w1 ds es l v' c' (k + 1) (os ++ [x]) := by
  refine ⟨hc0, hc1, by rw [List.length_append, h.len]; rfl, h.dg.snoc h0 h1, minus_step h.val hs, by omega, by rw [List.map_append]; exact hown, ?_⟩
  exact (h.below.alloc h.below.size o).grown hg (by have := h.below.size; simp; omega) (fun j hj => (h.own.lt j hj).1)
theorem minus_end' {w wr : World} {ds es os : List Int} {l k : Nat} {v : Value} {c : Int} (h : MinusR w wr ds es l v c k os) (hl : ds.length = l) (he : IsD es) (h1 : l ≤ k) (hle : dval es ≤ dval ds) : RDF (dval ds - dval es) l w (.returned v) wr := by
  obtain ⟨A, c', rfl, hD⟩ := Dg.own h.own
  have hv := h.val
  have ht := h.top
  obtain rfl : k = ds.length := by omega
  exact ⟨A, _, c', os, rfl, hD, h.dg, minus_end h.dg he h.c0 hle hv, by omega, h.below, Fr.own h.own⟩
theorem MinusR.drewN {w wr : World} {ds es os : List Int} {l k : Nat} {v : Value} {c : Int} (h : MinusR w wr ds es l v c k os) (n : Nat) : MinusR w (wr.drewN n) ds es l v c k os :=
  ⟨h.c0, h.c1, h.len, h.dg, h.val, h.top, h.own, bel_drewN h.below n⟩
set_option maxHeartbeats 1000000 in
set_option maxRecDepth 100000 in
theorem rminus_new (A B : Option Addr) (l c m d : Nat) (ds es : List Int) (w : World) (h : Dg w A l c ds) (k : Dg w B m d es) (hd : IsD ds) (he : IsD es) (hl : l ≤ 900) (hm : m ≤ 900) (hle : dval es ≤ dval ds) :
    Calls Try.prog 86 #[.slice A l c, .slice B m d] w (RDF (dval ds - dval es) l w) := by
  obtain ⟨i0, hi0, hz0, hz1, hz2⟩ := info_parts info_int
  have H1 := Lib.hid h.1
  have hd' := Lib.hid hd
  have he' := Lib.hid he
  have hs := Lib.hid h
  have ks := Lib.hid k
  have I0 := Lib.hid hi0
  have I1 := Lib.hid hz0
  have I2 := Lib.hid hz1
  have I3 := Lib.hid hz2
  have HL := Lib.hid hle
  clear hd he h k hi0 hz0 hz1 hz2 hle
  go_enter Try.func86, Try.ntmps86
  go_wp2
  go_loopw [5, 6, 7] (fun v c i wr => ∃ (k : Nat) (cc : Int) (os : List Int), c = .int .i64 cc ∧ i = .int .i64 k ∧ MinusR w wr ds es l v cc k os) (fun _ _ i _ => l - (intOf i).toNat)
  case atStart => exact ⟨0, 0, [], rfl, rfl, minus_start w ds es l⟩
  case round =>
    obtain ⟨k, cc, os, rfl, rfl, hr⟩ := hrel
    have b0 := hr.c0
    have b1 := hr.c1
    have b2 := hr.top
    have HR := Lib.hid hr
    have C2 := Lib.hid (fun w h => digit_any B m d es k w h (by omega) (by omega))
    have g1 := hd'.out.getD k
    have g2 := he'.out.getD k
    have hD2 := Lib.hid (ks.out.call hr.below)
    have hD1 := hs.out.call hr.below
    have HO := Lib.hid hr.own
    have hsz := hr.below.size
    by_cases hgo : k < l
    · obtain ⟨x1, x2, x3, h4⟩ := hD1
      obtain ⟨g, rfl, hg, hcell⟩ := h4 (by omega)
      have hck := hcell k hgo
      clear h4 hcell hr x1 x2 x3
      generalize hX : ds.getD k 0 = x at hck g1
      generalize hY : es.getD k 0 = y at g2 C2
      replace hX := Lib.hid hX
      replace hY := Lib.hid hY
      have k0 : (0 : Int) ≤ (k : Int) := by omega
      have k1 : (k : Int) < (l : Int) := by omega
      have s1 : IntKind.i64.wrap (x - y) = x - y := IntWalk.i64_in _ (by omega)
      have s2 : IntKind.i64.wrap (x - y - cc) = x - y - cc := IntWalk.i64_in _ (by omega)
      go_wp2_with fail
      go_quiet ((go_at_call 69; exact qt_left (C2.out _ (hD2.out.drewN _))))
      clear s1 s2 hck hg
      have HQ := HR.out.drewN nq
      generalize wr.drewN nq = wq at *
      clear HR hD2 HO hsz C2
      have HO := Lib.hid HQ.own
      have hsz := HQ.below.size
      have N := Lib.hid (fun (w1 : World) (v' : Value) (o : Obj) (z c' : Int) h0 h1 hc0 hc1 hs hown hg => minus_round (w1 := w1) (v' := v') (o := o) (x := z) (c' := c') HQ hgo h0 h1 hc0 hc1 hs hown hg)
      clear HQ
      rw [hX.out, hY.out] at N
      by_cases hneg : x - y - cc < 0
      · have M := Lib.hid (fun (w1 : World) (v' : Value) (o : Obj) hown hg => N.out w1 v' o (x - y - cc + 10000) 1 (by omega) (by omega) (by omega) (by omega) (by omega) hown hg)
        clear N
        go_wp2_with (first
          | (go_at_call 70; (with_reducible refine (base_any _).mono ?_); rintro e w' ⟨rfl, rfl⟩)
          | (at_builtin; refine wpList_append_own _ rfl _ _ 23 rfl w.heap.size 3 i0 (.int .i64 0) 1 8 Try.underlying23 I0.out I1.out I2.out I3.out rfl (by decide) _ _ _ rfl (HO.out.alloc _) ⟨wq.heap.size, 0, none⟩ 1 1 [.int .i64 (x - y - cc + 10000)] rfl rfl (cell_one_new _ _ _) (by simp [Value.oneCell']) (by simp only [maxLen]; omega) (by omega) (by simp; omega) ?_; intro v' w1 hown' hgrow hiff; clear hiff; have R := Lib.hid (M.out w1 v' _ hown' hgrow); clear hown' hgrow))
        refine ⟨⟨k + 1, _, _, rfl, by go_num, R.out⟩, ?_⟩
        simp [intOf]; omega
      · have M := Lib.hid (fun (w1 : World) (v' : Value) (o : Obj) hown hg => N.out w1 v' o (x - y - cc) 0 (by omega) (by omega) (by omega) (by omega) (by omega) hown hg)
        clear N
        go_wp2_with (first
          | (go_at_call 70; (with_reducible refine (base_any _).mono ?_); rintro e w' ⟨rfl, rfl⟩)
          | (at_builtin; refine wpList_append_own _ rfl _ _ 23 rfl w.heap.size 3 i0 (.int .i64 0) 1 8 Try.underlying23 I0.out I1.out I2.out I3.out rfl (by decide) _ _ _ rfl (HO.out.alloc _) ⟨wq.heap.size, 0, none⟩ 1 1 [.int .i64 (x - y - cc)] rfl rfl (cell_one_new _ _ _) (by simp [Value.oneCell']) (by simp only [maxLen]; omega) (by omega) (by simp; omega) ?_; intro v' w1 hown' hgrow hiff; clear hiff; have R := Lib.hid (M.out w1 v' _ hown' hgrow); clear hown' hgrow))
        refine ⟨⟨k + 1, _, _, rfl, by go_num, R.out⟩, ?_⟩
        simp [intOf]; omega
    · clear hD1 hr
      go_wp2
      go_ret
      exact minus_end' HR.out H1.out he'.out (by omega) HL.out
end Go.Proofs.Ytlglajaonmpljaa
namespace Go.Proofs.Ytlglajaonmpljaa
open Go.RowKit
set_option linter.unusedVariables false

theorem IsN.alloc {w : World} {neg : Bool} {A : Option Addr} {l c : Nat} {n : Int} (h : IsN w neg A l c n) (o : Obj) : IsN (w.alloc o) neg A l c n := h.call ((Below.refl _ _).alloc (Nat.le_refl _) o)
theorem IsN.drew {w : World} {neg : Bool} {A : Option Addr} {l c : Nat} {n : Int} (h : IsN w neg A l c n) : IsN w.drew neg A l c n := h.call ((Below.refl _ _).drew)
/-- a block of two cells, the first of which holds a bool. -/
def HasBB (w : World) (b : Nat) : Prop := ∃ x u, Box w b (.bool x) u
theorem HasBB.of {w : World} {b : Nat} {x : Bool} {u : Value} (h : Box w b (.bool x) u) : HasBB w b := ⟨x, u, h⟩
theorem HasBB.call {w w1 : World} {b : Nat} (h : HasBB w b) (hb : Below w.heap.size w w1) : HasBB w1 b := by
  obtain ⟨x, u, k⟩ := h
  exact ⟨x, u, k.call hb⟩
theorem HasBB.alloc {w : World} {b : Nat} (h : HasBB w b) (o : Obj) : HasBB (w.alloc o) b := by
  obtain ⟨x, u, k⟩ := h
  exact ⟨x, u, k.alloc o⟩
theorem HasBB.drew {w : World} {b : Nat} (h : HasBB w b) : HasBB w.drew b := by
  obtain ⟨x, u, k⟩ := h
  exact ⟨x, u, k.drew⟩
theorem HasBB.new {w : World} {b : Nat} {x : Bool} {u : Value} {t : TypeId} (e : b = w.heap.size) : HasBB (w.alloc (.cells #[.bool x, u] t)) b := ⟨x, u, Box.new e⟩
theorem HasBB.set {w : World} {b g : Nat} (h : HasBB w b) (o : Nat) {x : Value} (ne : g ≠ b) : HasBB (w.setCell ⟨g, o, none⟩ x) b := by
  obtain ⟨y, u, k⟩ := h
  exact ⟨y, u, k.set o ne⟩
theorem HasBB.put {w : World} {b : Nat} {x : Bool} {u : Value} (h : HasBB w b) : HasBB ((w.setCell ⟨b, 0, none⟩ (.bool x)).setCell ⟨b, 1, none⟩ u) b := by
  obtain ⟨y, v, k⟩ := h
  exact ⟨x, u, Box.put (HasBox.of k)⟩
theorem Dg.set {w : World} {A : Option Addr} {l c : Nat} {ds : List Int} (h : Dg w A l c ds) {b : Nat} {x : Bool} (hb : w.cell? ⟨b, 0, none⟩ = some (.bool x)) (o : Nat) (v : Value) : Dg (w.setCell ⟨b, o, none⟩ v) A l c ds := by
  obtain ⟨h1, h2, h3, h4⟩ := h
  refine ⟨h1, h2, h3, fun hp => ?_⟩
  obtain ⟨g, e, hg, hc⟩ := h4 hp
  have hne : g ≠ b := by
    rintro rfl
    have := hc 0 hp
    rw [hb] at this
    cases this
  refine ⟨g, e, by simpa [World.setCell] using hg, fun j hj => ?_⟩
  rw [World.cell?_setCell_other _ _ _ _ (fun e => hne (congrArg Addr.block e).symm)]
  exact hc j hj
theorem IsN.put {w : World} {neg : Bool} {A : Option Addr} {l c : Nat} {n : Int} {b : Nat} {x : Bool} {u : Value} (h : IsN w neg A l c n) (hb : HasBB w b) : IsN ((w.setCell ⟨b, 0, none⟩ (.bool x)).setCell ⟨b, 1, none⟩ u) neg A l c n := by
  obtain ⟨ds, hD, hS⟩ := h
  obtain ⟨y, v, ⟨k1, k2⟩, k3, k4⟩ := hb
  refine ⟨ds, (hD.set k1 _ _).set (x := x) ?_ _ _, hS⟩
  rw [World.cell?_setCell_same _ _ _ k1]
theorem sg_not (neg : Bool) (n : Int) : sg (!neg) n = -sg neg n := by cases neg <;> simp [sg]
set_option maxHeartbeats 400000 in
theorem rNeg_same (neg : Bool) (A : Option Addr) (l c : Nat) (n : Int) (w : World) (h : IsN w neg A l c n) (hl : l ≤ 1000) :
    Calls Try.prog 67 #[.agg #[.bool neg, .slice A l c]] w fun e w' => ∃ x l', e = .returned (.agg #[.bool x, .slice A l' c]) ∧ IsN w' x A l' c (-n) ∧ l' ≤ l ∧ Below w.heap.size w w' := by
  obtain ⟨ds, hD, hS⟩ := h
  have hv : Hid (sg (!neg) (dval ds) = -n) := by unfold Hid; rw [sg_not, hS.val]
  have hd := Lib.hid hS.dg
  clear hS
  go_enter Try.func67, Try.ntmps67
  go_wp2_with (go_at_call 71; refine (trim_short _ _ _ _ ds _ ((hD.alloc _).alloc _) hd.out hl).mono ?_; rintro e w1 ⟨x1, l1, rfl, h1, hl1, hb⟩; have c_hb_0_0 := Below.cell hb (p := ⟨w.heap.size, 0, none⟩) (by first | (simp; done) | (simp; omega)); have f_hb_0_0 := Below.frozen hb (p := ⟨w.heap.size, 0, none⟩) (by first | (simp; done) | (simp; omega)); have c_hb_0_1 := Below.cell hb (p := ⟨w.heap.size, 1, none⟩) (by first | (simp; done) | (simp; omega)); have f_hb_0_1 := Below.frozen hb (p := ⟨w.heap.size, 1, none⟩) (by first | (simp; done) | (simp; omega)); have c_hb_1_0 := Below.cell hb (p := ⟨w.heap.size + 1, 0, none⟩) (by first | (simp; done) | (simp; omega)); have f_hb_1_0 := Below.frozen hb (p := ⟨w.heap.size + 1, 0, none⟩) (by first | (simp; done) | (simp; omega)); have c_hb_1_1 := Below.cell hb (p := ⟨w.heap.size + 1, 1, none⟩) (by first | (simp; done) | (simp; omega)); have f_hb_1_1 := Below.frozen hb (p := ⟨w.heap.size + 1, 1, none⟩) (by first | (simp; done) | (simp; omega)); have hz_hb := Below.size hb; (try simp at hz_hb); have ne_hb_0 : ¬ w1.heap.size = w.heap.size := (by omega); have ne_hb_1 : ¬ w1.heap.size = w.heap.size + 1 := (by omega))
  rw [hv.out] at h1
  refine bodyPost_ret (v := .agg #[.bool x1, .slice A l1 c]) (by simp only [results, Try.results67]; go_simp) rfl ⟨_, _, rfl, ?_, hl1, ?_⟩
  · (repeat (first | with_reducible assumption | (with_reducible refine IsN.put ?_ ?_) | (focus ((with_reducible refine HasBB.new ?_); simp; done)) | (with_reducible refine HasBB.call ?_ hb)))
  · (repeat (first | (with_reducible exact Below.refl _ _) | (with_reducible refine below_alloc ?_ _) | (focus ((with_reducible refine below_set ?_ _ _ _ ?_); rotate_left; omega)) | (with_reducible refine below_call ?_ hb)))
end Go.Proofs.Ytlglajaonmpljaa
namespace Go.Proofs.Ytlglajaonmpljaa
open Go.RowKit
set_option linter.unusedVariables false

theorem icmp_neg (a b : Int) : icmp (-a) (-b) = icmp b a := by
  unfold icmp
  repeat' split
  all_goals omega
theorem Std.nonneg {ds : List Int} {n : Int} (h : Std false ds n) : 0 ≤ n := by rw [h.val]; exact dval_nonneg h.dg
theorem Std.below {ds : List Int} {n : Int} (h : Std true ds n) : n < 0 := by have := h.pos (h.sign rfl); rw [h.val]; simp [sg]; omega
set_option maxHeartbeats 1000000 in
theorem rCmp_any (x y : Bool) (A B : Option Addr) (l c l' c' : Nat) (n m : Int) (w : World) (h : IsN w x A l c n) (k : IsN w y B l' c' m) (hl : l ≤ 1000) (hl' : l' ≤ 1000) :
    Calls Try.prog 50 #[.agg #[.bool x, .slice A l c], .agg #[.bool y, .slice B l' c']] w (RV (.int .i64 (icmp n m)) w) := by
  obtain ⟨ds, hD, hS⟩ := h
  obtain ⟨es, hE, hT⟩ := k
  have hd := Lib.hid hS.dg
  have he := Lib.hid hT.dg
  have C1 := Lib.hid (fun w h1 h2 => size_any A B l c l' c' ds es w h1 h2 hd.out he.out hl hl')
  have C2 := Lib.hid (fun w h1 h2 => size_any B A l' c' l c es ds w h1 h2 he.out hd.out hl' hl)
  have D1 := Lib.hid hD
  have D2 := Lib.hid hE
  clear hD hE
  cases x <;> cases y
  · have hv : Hid (icmp (dval ds) (dval es) = icmp n m) := by unfold Hid; rw [hS.val, hT.val]; rfl
    clear hS hT
    go_enter Try.func50, Try.ntmps50
    go_wp2_with (go_at_call 68; refine (C1.out _ ((D1.out.alloc _).alloc _) ((D2.out.alloc _).alloc _)).mono ?_; rintro e w1 ⟨rfl, rfl⟩)
    go_ret
    exact ⟨ret_int hv.out, by (repeat (first | (with_reducible exact Below.refl _ _) | (with_reducible refine below_alloc ?_ _)))⟩
  · have hv : Hid (icmp n m = 1) := icmp_gt (by have := hS.nonneg; have := hT.below; omega)
    clear hS hT
    go_enter Try.func50, Try.ntmps50
    go_wp2
    go_ret
    exact ⟨ret_int hv.out.symm, by (repeat (first | (with_reducible exact Below.refl _ _) | (with_reducible refine below_alloc ?_ _)))⟩
  · have hv : Hid (icmp n m = -1) := icmp_lt (by have := hS.below; have := hT.nonneg; omega)
    clear hS hT
    go_enter Try.func50, Try.ntmps50
    go_wp2
    go_ret
    exact ⟨ret_int hv.out.symm, by (repeat (first | (with_reducible exact Below.refl _ _) | (with_reducible refine below_alloc ?_ _)))⟩
  · have hv : Hid (icmp (dval es) (dval ds) = icmp n m) := by unfold Hid; rw [hS.val, hT.val]; simp only [sg_true]; rw [icmp_neg]
    clear hS hT
    go_enter Try.func50, Try.ntmps50
    go_wp2_with (go_at_call 68; refine (C2.out _ ((D2.out.alloc _).alloc _) ((D1.out.alloc _).alloc _)).mono ?_; rintro e w1 ⟨rfl, rfl⟩)
    go_ret
    exact ⟨ret_int hv.out, by (repeat (first | (with_reducible exact Below.refl _ _) | (with_reducible refine below_alloc ?_ _)))⟩
end Go.Proofs.Ytlglajaonmpljaa

namespace Go.Proofs.Ytlglajaonmpljaa
open Go.RowKit
set_option linter.unusedVariables false

theorem icmp_ge {a b : Int} : (icmp a b ≥ 0) ↔ b ≤ a := by
  unfold icmp
  repeat' split
  all_goals omega
set_option maxHeartbeats 2000000 in
theorem rAdd_same (x : Bool) (A B : Option Addr) (l c l' c' : Nat) (n m : Int) (w : World) (h : IsN w x A l c n) (k : IsN w x B l' c' m) (hl : l ≤ 900) (hl' : l' ≤ 900) :
    Calls Try.prog 76 #[.agg #[.bool x, .slice A l c], .agg #[.bool x, .slice B l' c']] w (RNF (n + m) w) := by
  obtain ⟨ds, hD, hS⟩ := h
  obtain ⟨es, hE, hT⟩ := k
  have hv : Hid (sg x (dval ds + dval es) = n + m) := by unfold Hid; rw [hS.val, hT.val]; cases x <;> simp [sg]; omega
  have C1 := Lib.hid (fun w h1 h2 => rplus_new A B l c l' c' ds es w h1 h2 hS.dg hT.dg hl hl')
  have D1 := Lib.hid (((hD.alloc (.cells #[.bool x, .slice A l c] 67)).alloc (.cells #[.bool x, .slice B l' c'] 67)).alloc (.cells #[.bool false, .slice none 0 0] 67))
  have D2 := Lib.hid (((hE.alloc (.cells #[.bool x, .slice A l c] 67)).alloc (.cells #[.bool x, .slice B l' c'] 67)).alloc (.cells #[.bool false, .slice none 0 0] 67))
  clear hD hE hS hT
  have n2 : ¬ (w.heap.size + 1 + 1 = w.heap.size) := by omega
  go_enter Try.func76, Try.ntmps76
  go_wp2_with fail
  go_region_held3 (fun w' => w'.cell? ⟨w.heap.size, 0, none⟩ = some (.bool x) ∧ w'.cell? ⟨w.heap.size, 1, none⟩ = some (.slice A l c) ∧ w'.cell? ⟨w.heap.size + 1, 1, none⟩ = some (.slice B l' c')) (go_keep)
    (first
      | (go_at_call 85; ((with_reducible refine (C1.out _ (D1.out.call ((Below.refl _ _).drew)) (D2.out.call ((Below.refl _ _).drew))).mono ?_); rintro e w1 ⟨A1, l1, c1, os, rfl, hO, hOd, hOv, hOl, hb1, hF⟩; have c_hb1_0_0 := Below.cell hb1 (p := ⟨w.heap.size, 0, none⟩) (by first | (simp; done) | (simp; omega)); have f_hb1_0_0 := Below.frozen hb1 (p := ⟨w.heap.size, 0, none⟩) (by first | (simp; done) | (simp; omega)); have c_hb1_0_1 := Below.cell hb1 (p := ⟨w.heap.size, 1, none⟩) (by first | (simp; done) | (simp; omega)); have f_hb1_0_1 := Below.frozen hb1 (p := ⟨w.heap.size, 1, none⟩) (by first | (simp; done) | (simp; omega)); have c_hb1_1_0 := Below.cell hb1 (p := ⟨w.heap.size + 1, 0, none⟩) (by first | (simp; done) | (simp; omega)); have f_hb1_1_0 := Below.frozen hb1 (p := ⟨w.heap.size + 1, 0, none⟩) (by first | (simp; done) | (simp; omega)); have c_hb1_1_1 := Below.cell hb1 (p := ⟨w.heap.size + 1, 1, none⟩) (by first | (simp; done) | (simp; omega)); have f_hb1_1_1 := Below.frozen hb1 (p := ⟨w.heap.size + 1, 1, none⟩) (by first | (simp; done) | (simp; omega)); have c_hb1_2_0 := Below.cell hb1 (p := ⟨w.heap.size + 1 + 1, 0, none⟩) (by first | (simp; done) | (simp; omega)); have f_hb1_2_0 := Below.frozen hb1 (p := ⟨w.heap.size + 1 + 1, 0, none⟩) (by first | (simp; done) | (simp; omega)); have c_hb1_2_1 := Below.cell hb1 (p := ⟨w.heap.size + 1 + 1, 1, none⟩) (by first | (simp; done) | (simp; omega)); have f_hb1_2_1 := Below.frozen hb1 (p := ⟨w.heap.size + 1 + 1, 1, none⟩) (by first | (simp; done) | (simp; omega)); have hz_hb1 := Below.size hb1; (try simp at hz_hb1); have ne_hb1_0 : ¬ w1.heap.size = w.heap.size := (by omega); have ne_hb1_1 : ¬ w1.heap.size = w.heap.size + 1 := (by omega); have ne_hb1_2 : ¬ w1.heap.size = w.heap.size + 1 + 1 := (by omega); replace hOv := Lib.hid hOv))
      | (go_at_call 71; ((with_reducible refine (trim_same _ _ _ _ os _ hO hOd (by omega)).mono ?_); rintro e w2 ⟨x2, l2, rfl, h2, hb2⟩; rw [hOv.out, hv.out] at h2; have c_hb2_0_0 := Below.cell hb2 (p := ⟨w.heap.size, 0, none⟩) (by first | (simp; done) | (simp; omega)); have f_hb2_0_0 := Below.frozen hb2 (p := ⟨w.heap.size, 0, none⟩) (by first | (simp; done) | (simp; omega)); have c_hb2_0_1 := Below.cell hb2 (p := ⟨w.heap.size, 1, none⟩) (by first | (simp; done) | (simp; omega)); have f_hb2_0_1 := Below.frozen hb2 (p := ⟨w.heap.size, 1, none⟩) (by first | (simp; done) | (simp; omega)); have c_hb2_1_0 := Below.cell hb2 (p := ⟨w.heap.size + 1, 0, none⟩) (by first | (simp; done) | (simp; omega)); have f_hb2_1_0 := Below.frozen hb2 (p := ⟨w.heap.size + 1, 0, none⟩) (by first | (simp; done) | (simp; omega)); have c_hb2_1_1 := Below.cell hb2 (p := ⟨w.heap.size + 1, 1, none⟩) (by first | (simp; done) | (simp; omega)); have f_hb2_1_1 := Below.frozen hb2 (p := ⟨w.heap.size + 1, 1, none⟩) (by first | (simp; done) | (simp; omega)); have c_hb2_2_0 := Below.cell hb2 (p := ⟨w.heap.size + 1 + 1, 0, none⟩) (by first | (simp; done) | (simp; omega)); have f_hb2_2_0 := Below.frozen hb2 (p := ⟨w.heap.size + 1 + 1, 0, none⟩) (by first | (simp; done) | (simp; omega)); have c_hb2_2_1 := Below.cell hb2 (p := ⟨w.heap.size + 1 + 1, 1, none⟩) (by first | (simp; done) | (simp; omega)); have f_hb2_2_1 := Below.frozen hb2 (p := ⟨w.heap.size + 1 + 1, 1, none⟩) (by first | (simp; done) | (simp; omega)); have hz_hb2 := Below.size hb2; (try simp at hz_hb2); have ne_hb2_0 : ¬ w2.heap.size = w.heap.size := (by omega); have ne_hb2_1 : ¬ w2.heap.size = w.heap.size + 1 := (by omega); have ne_hb2_2 : ¬ w2.heap.size = w.heap.size + 1 + 1 := (by omega))))
  go_wp2_with fail
  refine bodyPost_ret (v := .agg #[.bool x2, .slice A1 l2 c1]) (by simp only [results, Try.results76]; go_simp) rfl ⟨_, _, _, _, rfl, ?_, ?_, fun a e => Nat.le_trans (by simp; omega) (hF a e)⟩
  · (repeat (first | with_reducible assumption | (with_reducible refine IsN.put ?_ ?_) | (focus ((with_reducible refine HasBB.new ?_); simp; done)) | (with_reducible refine HasBB.drew ?_) | (with_reducible refine HasBB.call ?_ hb2) | (with_reducible refine HasBB.call ?_ hb1)))
  · (repeat (first | (with_reducible exact Below.refl _ _) | (with_reducible refine below_alloc ?_ _) | (focus ((with_reducible refine below_set ?_ _ _ _ ?_); rotate_left; omega)) | (with_reducible refine Below.drew ?_) | (with_reducible refine below_call ?_ hb2) | (with_reducible refine below_call ?_ hb1)))
set_option maxHeartbeats 2000000 in
theorem rAdd_ge (x y : Bool) (A B : Option Addr) (l c l' c' : Nat) (n m : Int) (w : World) (h : IsN w x A l c n) (k : IsN w y B l' c' m) (hl : l ≤ 900) (hl' : l' ≤ 900) (hxy : (x == y) = false) (hle : m.natAbs ≤ n.natAbs) :
    Calls Try.prog 76 #[.agg #[.bool x, .slice A l c], .agg #[.bool y, .slice B l' c']] w (RNF (n + m) w) := by
  obtain ⟨ds, hD, hS⟩ := h
  obtain ⟨es, hE, hT⟩ := k
  replace hle : dval es ≤ dval ds := by have := hS.abs; have := hT.abs; omega
  have hv : Hid (sg x (dval ds - dval es) = n + m) := by unfold Hid; rw [hS.val, hT.val]; cases x <;> cases y <;> simp [sg] at hxy ⊢ <;> omega
  have C0 := Lib.hid (fun w h1 h2 => size_any A B l c l' c' ds es w h1 h2 hS.dg hT.dg (by omega) (by omega))
  have C1 := Lib.hid (fun w h1 h2 => rminus_new A B l c l' c' ds es w h1 h2 hS.dg hT.dg hl hl' (by omega))
  have HI := icmp_ge (a := dval ds) (b := dval es)
  have D1 := Lib.hid (((hD.alloc (.cells #[.bool x, .slice A l c] 67)).alloc (.cells #[.bool y, .slice B l' c'] 67)).alloc (.cells #[.bool false, .slice none 0 0] 67))
  have D2 := Lib.hid (((hE.alloc (.cells #[.bool x, .slice A l c] 67)).alloc (.cells #[.bool y, .slice B l' c'] 67)).alloc (.cells #[.bool false, .slice none 0 0] 67))
  have n2 : ¬ (w.heap.size + 1 + 1 = w.heap.size) := by omega
  have n3 : ¬ (w.heap.size + 1 = w.heap.size) := by omega
  have I1 : 0 ≤ icmp (dval ds) (dval es) := by omega
  clear hD hE hS hT HI hle
  generalize icmp (dval ds) (dval es) = ic at *
  go_enter Try.func76, Try.ntmps76
  go_wp2_with (go_at_call 68; ((with_reducible refine (C0.out _ D1.out D2.out).mono ?_); rintro e w0 ⟨rfl, rfl⟩))
  go_region_held3 (fun w' => w'.cell? ⟨w.heap.size, 0, none⟩ = some (.bool x) ∧ w'.cell? ⟨w.heap.size, 1, none⟩ = some (.slice A l c) ∧ w'.cell? ⟨w.heap.size + 1, 1, none⟩ = some (.slice B l' c')) (go_keep)
    (first
      | (go_at_call 86; ((with_reducible refine (C1.out _ (D1.out.call ((Below.refl _ _).drew)) (D2.out.call ((Below.refl _ _).drew))).mono ?_); rintro e w1 ⟨A1, l1, c1, os, rfl, hO, hOd, hOv, hOl, hb1, hF⟩; have c_hb1_0_0 := Below.cell hb1 (p := ⟨w.heap.size, 0, none⟩) (by first | (simp; done) | (simp; omega)); have f_hb1_0_0 := Below.frozen hb1 (p := ⟨w.heap.size, 0, none⟩) (by first | (simp; done) | (simp; omega)); have c_hb1_0_1 := Below.cell hb1 (p := ⟨w.heap.size, 1, none⟩) (by first | (simp; done) | (simp; omega)); have f_hb1_0_1 := Below.frozen hb1 (p := ⟨w.heap.size, 1, none⟩) (by first | (simp; done) | (simp; omega)); have c_hb1_1_0 := Below.cell hb1 (p := ⟨w.heap.size + 1, 0, none⟩) (by first | (simp; done) | (simp; omega)); have f_hb1_1_0 := Below.frozen hb1 (p := ⟨w.heap.size + 1, 0, none⟩) (by first | (simp; done) | (simp; omega)); have c_hb1_1_1 := Below.cell hb1 (p := ⟨w.heap.size + 1, 1, none⟩) (by first | (simp; done) | (simp; omega)); have f_hb1_1_1 := Below.frozen hb1 (p := ⟨w.heap.size + 1, 1, none⟩) (by first | (simp; done) | (simp; omega)); have c_hb1_2_0 := Below.cell hb1 (p := ⟨w.heap.size + 1 + 1, 0, none⟩) (by first | (simp; done) | (simp; omega)); have f_hb1_2_0 := Below.frozen hb1 (p := ⟨w.heap.size + 1 + 1, 0, none⟩) (by first | (simp; done) | (simp; omega)); have c_hb1_2_1 := Below.cell hb1 (p := ⟨w.heap.size + 1 + 1, 1, none⟩) (by first | (simp; done) | (simp; omega)); have f_hb1_2_1 := Below.frozen hb1 (p := ⟨w.heap.size + 1 + 1, 1, none⟩) (by first | (simp; done) | (simp; omega)); have hz_hb1 := Below.size hb1; (try simp at hz_hb1); have ne_hb1_0 : ¬ w1.heap.size = w.heap.size := (by omega); have ne_hb1_1 : ¬ w1.heap.size = w.heap.size + 1 := (by omega); have ne_hb1_2 : ¬ w1.heap.size = w.heap.size + 1 + 1 := (by omega); replace hOv := Lib.hid hOv))
      | (go_at_call 71; ((with_reducible refine (trim_same _ _ _ _ os _ hO hOd (by omega)).mono ?_); rintro e w2 ⟨x2, l2, rfl, h2, hb2⟩; rw [hOv.out, hv.out] at h2; have c_hb2_0_0 := Below.cell hb2 (p := ⟨w.heap.size, 0, none⟩) (by first | (simp; done) | (simp; omega)); have f_hb2_0_0 := Below.frozen hb2 (p := ⟨w.heap.size, 0, none⟩) (by first | (simp; done) | (simp; omega)); have c_hb2_0_1 := Below.cell hb2 (p := ⟨w.heap.size, 1, none⟩) (by first | (simp; done) | (simp; omega)); have f_hb2_0_1 := Below.frozen hb2 (p := ⟨w.heap.size, 1, none⟩) (by first | (simp; done) | (simp; omega)); have c_hb2_1_0 := Below.cell hb2 (p := ⟨w.heap.size + 1, 0, none⟩) (by first | (simp; done) | (simp; omega)); have f_hb2_1_0 := Below.frozen hb2 (p := ⟨w.heap.size + 1, 0, none⟩) (by first | (simp; done) | (simp; omega)); have c_hb2_1_1 := Below.cell hb2 (p := ⟨w.heap.size + 1, 1, none⟩) (by first | (simp; done) | (simp; omega)); have f_hb2_1_1 := Below.frozen hb2 (p := ⟨w.heap.size + 1, 1, none⟩) (by first | (simp; done) | (simp; omega)); have c_hb2_2_0 := Below.cell hb2 (p := ⟨w.heap.size + 1 + 1, 0, none⟩) (by first | (simp; done) | (simp; omega)); have f_hb2_2_0 := Below.frozen hb2 (p := ⟨w.heap.size + 1 + 1, 0, none⟩) (by first | (simp; done) | (simp; omega)); have c_hb2_2_1 := Below.cell hb2 (p := ⟨w.heap.size + 1 + 1, 1, none⟩) (by first | (simp; done) | (simp; omega)); have f_hb2_2_1 := Below.frozen hb2 (p := ⟨w.heap.size + 1 + 1, 1, none⟩) (by first | (simp; done) | (simp; omega)); have hz_hb2 := Below.size hb2; (try simp at hz_hb2); have ne_hb2_0 : ¬ w2.heap.size = w.heap.size := (by omega); have ne_hb2_1 : ¬ w2.heap.size = w.heap.size + 1 := (by omega); have ne_hb2_2 : ¬ w2.heap.size = w.heap.size + 1 + 1 := (by omega))))
  go_wp2_with fail
  refine bodyPost_ret (v := .agg #[.bool x2, .slice A1 l2 c1]) (by simp only [results, Try.results76]; go_simp) rfl ⟨_, _, _, _, rfl, ?_, ?_, fun a e => Nat.le_trans (by simp; omega) (hF a e)⟩
  · (repeat (first | with_reducible assumption | (with_reducible refine IsN.put ?_ ?_) | (focus ((with_reducible refine HasBB.new ?_); simp; done)) | (with_reducible refine HasBB.drew ?_) | (with_reducible refine HasBB.call ?_ hb2) | (with_reducible refine HasBB.call ?_ hb1)))
  · (repeat (first | (with_reducible exact Below.refl _ _) | (with_reducible refine below_alloc ?_ _) | (focus ((with_reducible refine below_set ?_ _ _ _ ?_); rotate_left; omega)) | (with_reducible refine Below.drew ?_) | (with_reducible refine below_call ?_ hb2) | (with_reducible refine below_call ?_ hb1)))
set_option maxHeartbeats 2000000 in
theorem rAdd_lt (x y : Bool) (A B : Option Addr) (l c l' c' : Nat) (n m : Int) (w : World) (h : IsN w x A l c n) (k : IsN w y B l' c' m) (hl : l ≤ 900) (hl' : l' ≤ 900) (hxy : (x == y) = false) (hle : n.natAbs < m.natAbs) :
    Calls Try.prog 76 #[.agg #[.bool x, .slice A l c], .agg #[.bool y, .slice B l' c']] w (RNF (n + m) w) := by
  obtain ⟨ds, hD, hS⟩ := h
  obtain ⟨es, hE, hT⟩ := k
  replace hle : dval ds < dval es := by have := hS.abs; have := hT.abs; omega
  have hv : Hid (sg y (dval es - dval ds) = n + m) := by unfold Hid; rw [hS.val, hT.val]; cases x <;> cases y <;> simp [sg] at hxy ⊢ <;> omega
  have C0 := Lib.hid (fun w h1 h2 => size_any A B l c l' c' ds es w h1 h2 hS.dg hT.dg (by omega) (by omega))
  have C1 := Lib.hid (fun w h1 h2 => rminus_new B A l' c' l c es ds w h2 h1 hT.dg hS.dg hl' hl (by omega))
  have HI := icmp_ge (a := dval ds) (b := dval es)
  have D1 := Lib.hid (((hD.alloc (.cells #[.bool x, .slice A l c] 67)).alloc (.cells #[.bool y, .slice B l' c'] 67)).alloc (.cells #[.bool false, .slice none 0 0] 67))
  have D2 := Lib.hid (((hE.alloc (.cells #[.bool x, .slice A l c] 67)).alloc (.cells #[.bool y, .slice B l' c'] 67)).alloc (.cells #[.bool false, .slice none 0 0] 67))
  have n2 : ¬ (w.heap.size + 1 + 1 = w.heap.size) := by omega
  have n3 : ¬ (w.heap.size + 1 = w.heap.size) := by omega
  have I1 : icmp (dval ds) (dval es) < 0 := by omega
  clear hD hE hS hT HI hle
  generalize icmp (dval ds) (dval es) = ic at *
  go_enter Try.func76, Try.ntmps76
  go_wp2_with (go_at_call 68; ((with_reducible refine (C0.out _ D1.out D2.out).mono ?_); rintro e w0 ⟨rfl, rfl⟩))
  go_region_held3 (fun w' => w'.cell? ⟨w.heap.size + 1, 0, none⟩ = some (.bool y) ∧ w'.cell? ⟨w.heap.size, 1, none⟩ = some (.slice A l c) ∧ w'.cell? ⟨w.heap.size + 1, 1, none⟩ = some (.slice B l' c')) (go_keep)
    (first
      | (go_at_call 86; ((with_reducible refine (C1.out _ (D1.out.call ((Below.refl _ _).drew)) (D2.out.call ((Below.refl _ _).drew))).mono ?_); rintro e w1 ⟨A1, l1, c1, os, rfl, hO, hOd, hOv, hOl, hb1, hF⟩; have c_hb1_0_0 := Below.cell hb1 (p := ⟨w.heap.size, 0, none⟩) (by first | (simp; done) | (simp; omega)); have f_hb1_0_0 := Below.frozen hb1 (p := ⟨w.heap.size, 0, none⟩) (by first | (simp; done) | (simp; omega)); have c_hb1_0_1 := Below.cell hb1 (p := ⟨w.heap.size, 1, none⟩) (by first | (simp; done) | (simp; omega)); have f_hb1_0_1 := Below.frozen hb1 (p := ⟨w.heap.size, 1, none⟩) (by first | (simp; done) | (simp; omega)); have c_hb1_1_0 := Below.cell hb1 (p := ⟨w.heap.size + 1, 0, none⟩) (by first | (simp; done) | (simp; omega)); have f_hb1_1_0 := Below.frozen hb1 (p := ⟨w.heap.size + 1, 0, none⟩) (by first | (simp; done) | (simp; omega)); have c_hb1_1_1 := Below.cell hb1 (p := ⟨w.heap.size + 1, 1, none⟩) (by first | (simp; done) | (simp; omega)); have f_hb1_1_1 := Below.frozen hb1 (p := ⟨w.heap.size + 1, 1, none⟩) (by first | (simp; done) | (simp; omega)); have c_hb1_2_0 := Below.cell hb1 (p := ⟨w.heap.size + 1 + 1, 0, none⟩) (by first | (simp; done) | (simp; omega)); have f_hb1_2_0 := Below.frozen hb1 (p := ⟨w.heap.size + 1 + 1, 0, none⟩) (by first | (simp; done) | (simp; omega)); have c_hb1_2_1 := Below.cell hb1 (p := ⟨w.heap.size + 1 + 1, 1, none⟩) (by first | (simp; done) | (simp; omega)); have f_hb1_2_1 := Below.frozen hb1 (p := ⟨w.heap.size + 1 + 1, 1, none⟩) (by first | (simp; done) | (simp; omega)); have hz_hb1 := Below.size hb1; (try simp at hz_hb1); have ne_hb1_0 : ¬ w1.heap.size = w.heap.size := (by omega); have ne_hb1_1 : ¬ w1.heap.size = w.heap.size + 1 := (by omega); have ne_hb1_2 : ¬ w1.heap.size = w.heap.size + 1 + 1 := (by omega); replace hOv := Lib.hid hOv))
      | (go_at_call 71; ((with_reducible refine (trim_same _ _ _ _ os _ hO hOd (by omega)).mono ?_); rintro e w2 ⟨x2, l2, rfl, h2, hb2⟩; rw [hOv.out, hv.out] at h2; have c_hb2_0_0 := Below.cell hb2 (p := ⟨w.heap.size, 0, none⟩) (by first | (simp; done) | (simp; omega)); have f_hb2_0_0 := Below.frozen hb2 (p := ⟨w.heap.size, 0, none⟩) (by first | (simp; done) | (simp; omega)); have c_hb2_0_1 := Below.cell hb2 (p := ⟨w.heap.size, 1, none⟩) (by first | (simp; done) | (simp; omega)); have f_hb2_0_1 := Below.frozen hb2 (p := ⟨w.heap.size, 1, none⟩) (by first | (simp; done) | (simp; omega)); have c_hb2_1_0 := Below.cell hb2 (p := ⟨w.heap.size + 1, 0, none⟩) (by first | (simp; done) | (simp; omega)); have f_hb2_1_0 := Below.frozen hb2 (p := ⟨w.heap.size + 1, 0, none⟩) (by first | (simp; done) | (simp; omega)); have c_hb2_1_1 := Below.cell hb2 (p := ⟨w.heap.size + 1, 1, none⟩) (by first | (simp; done) | (simp; omega)); have f_hb2_1_1 := Below.frozen hb2 (p := ⟨w.heap.size + 1, 1, none⟩) (by first | (simp; done) | (simp; omega)); have c_hb2_2_0 := Below.cell hb2 (p := ⟨w.heap.size + 1 + 1, 0, none⟩) (by first | (simp; done) | (simp; omega)); have f_hb2_2_0 := Below.frozen hb2 (p := ⟨w.heap.size + 1 + 1, 0, none⟩) (by first | (simp; done) | (simp; omega)); have c_hb2_2_1 := Below.cell hb2 (p := ⟨w.heap.size + 1 + 1, 1, none⟩) (by first | (simp; done) | (simp; omega)); have f_hb2_2_1 := Below.frozen hb2 (p := ⟨w.heap.size + 1 + 1, 1, none⟩) (by first | (simp; done) | (simp; omega)); have hz_hb2 := Below.size hb2; (try simp at hz_hb2); have ne_hb2_0 : ¬ w2.heap.size = w.heap.size := (by omega); have ne_hb2_1 : ¬ w2.heap.size = w.heap.size + 1 := (by omega); have ne_hb2_2 : ¬ w2.heap.size = w.heap.size + 1 + 1 := (by omega))))
  go_wp2_with fail
  refine bodyPost_ret (v := .agg #[.bool x2, .slice A1 l2 c1]) (by simp only [results, Try.results76]; go_simp) rfl ⟨_, _, _, _, rfl, ?_, ?_, fun a e => Nat.le_trans (by simp; omega) (hF a e)⟩
  · (repeat (first | with_reducible assumption | (with_reducible refine IsN.put ?_ ?_) | (focus ((with_reducible refine HasBB.new ?_); simp; done)) | (with_reducible refine HasBB.drew ?_) | (with_reducible refine HasBB.call ?_ hb2) | (with_reducible refine HasBB.call ?_ hb1)))
  · (repeat (first | (with_reducible exact Below.refl _ _) | (with_reducible refine below_alloc ?_ _) | (focus ((with_reducible refine below_set ?_ _ _ _ ?_); rotate_left; omega)) | (with_reducible refine Below.drew ?_) | (with_reducible refine below_call ?_ hb2) | (with_reducible refine below_call ?_ hb1)))
theorem rAdd_new (x y : Bool) (A B : Option Addr) (l c l' c' : Nat) (n m : Int) (w : World) (h : IsN w x A l c n) (k : IsN w y B l' c' m) (hl : l ≤ 900) (hl' : l' ≤ 900) :
    Calls Try.prog 76 #[.agg #[.bool x, .slice A l c], .agg #[.bool y, .slice B l' c']] w (RNF (n + m) w) := by
  by_cases e : x = y
  · subst e
    exact rAdd_same x A B l c l' c' n m w h k hl hl'
  · have hxy : (x == y) = false := by simpa using e
    rcases Nat.lt_or_ge n.natAbs m.natAbs with q | q
    · exact rAdd_lt x y A B l c l' c' n m w h k hl hl' hxy q
    · exact rAdd_ge x y A B l c l' c' n m w h k hl hl' hxy q
end Go.Proofs.Ytlglajaonmpljaa
namespace Go.Proofs.Ytlglajaonmpljaa
open Go.RowKit
set_option linter.unusedVariables false

theorem dvx_ge {os : List Int} (h : IsD os) {y : Int} (hy : 0 ≤ y) : (10000 : Int) ^ os.length * y ≤ dvx os y := by
  induction os with
  | nil => simp [dvx]
  | cons d ds ih =>
    have h1 := h.head
    have h2 := ih h.tail
    rw [List.length_cons, Int.pow_succ, dvx, Int.mul_comm (10000 ^ ds.length) 10000, Int.mul_assoc]
    omega
/-- what the rounds of Of and Unsigned keep: N: the number without its sign; z: what is left of it. -/
structure OfR (w wr : World) (x : Bool) (N : Nat) (v : Value) (k : Nat) (os : List Int) (z : Nat) : Prop where
  b0 : Box wr w.heap.size (.bool false) (.slice none 0 0)
  b1 : Box wr (w.heap.size + 1) (.bool x) v
  own : wr.ownsRow (w.heap.size + 2) 3 1 v k (os.map (Value.int .i64))
  len : os.length = k
  dg : IsD os
  val : dvx os z = N
  nm : z = 0 → NoZ os
  below : Below w.heap.size w wr
theorem OfR.short {w wr : World} {x : Bool} {N : Nat} {v : Value} {k : Nat} {os : List Int} {z : Nat} (h : OfR w wr x N v k os z) (hN : N < 100000000000000000000) (hz : 0 < z) : k < 5 := by
  rcases Nat.lt_or_ge k 5 with q | q
  · exact q
  · exfalso
    have h1 := dvx_ge h.dg (y := z) (by omega)
    rw [h.val, h.len] at h1
    have h2 : (10000 : Int) ^ 5 ≤ 10000 ^ k := pow_mono q
    have h3 : (10000 : Int) ^ k * 1 ≤ 10000 ^ k * z := Int.mul_le_mul_of_nonneg_left (by omega) (Int.le_of_lt (pow_pos' k))
    have h4 : (10000 : Int) ^ 5 = 100000000000000000000 := by decide
    omega
theorem of_round {w wr w1 : World} {x : Bool} {N : Nat} {v v' : Value} {k : Nat} {os : List Int} {z : Nat} {o : Obj} (h : OfR w wr x N v k os z) (hz : 0 < z)
    (hown : w1.ownsRow (w.heap.size + 2) 3 1 v' (k + 1) (os.map (Value.int .i64) ++ [.int .i64 ((z % 10000 : Nat) : Int)])) (hg : (wr.alloc o).grownBy w1 v.ownBlock) :
    Box w1 (w.heap.size + 1) (.bool x) v ∧ OfR w (w1.setCell ⟨w.heap.size + 1, 1, none⟩ v') x N v' (k + 1) (os ++ [((z % 10000 : Nat) : Int)]) (z / 10000) := by
  have hb0 := h.b0.lt
  have hb1 := h.b1.lt
  have hne : ∀ j, j < w.heap.size + 2 → some j ≠ v.ownBlock := fun j hj e => by have := h.own.lt j e.symm; omega
  have keep : ∀ (b : Nat) (u u' : Value), b < w.heap.size + 2 → Box wr b u u' → Box w1 b u u' := fun b u u' hb hB => by
    have hlt := hB.lt
    obtain ⟨⟨c1, c2⟩, f1, f2⟩ := hB
    have hblk := hg.block b (by simp; omega) (hne b hb)
    refine ⟨⟨?_, ?_⟩, ?_, ?_⟩
    · rw [World.cell?_of_block (w := wr.alloc o) (a := ⟨b, 0, none⟩) hblk, World.cell?_alloc_lt _ _ _ (by omega)]; exact c1
    · rw [World.cell?_of_block (w := wr.alloc o) (a := ⟨b, 1, none⟩) hblk, World.cell?_alloc_lt _ _ _ (by omega)]; exact c2
    · rw [World.frozen?_of_block (w := wr.alloc o) (a := ⟨b, 0, none⟩) hblk, World.frozen?_alloc_past _ _ _ (by omega)]; exact f1
    · rw [World.frozen?_of_block (w := wr.alloc o) (a := ⟨b, 1, none⟩) hblk, World.frozen?_alloc_past _ _ _ (by omega)]; exact f2
  have k1 := keep _ _ _ (by omega) h.b1
  refine ⟨k1, ⟨(keep _ _ _ (by omega) h.b0).set _ (by omega), ?_, ?_, by rw [List.length_append, h.len]; rfl, h.dg.snoc (by omega) (by omega), ?_, fun q => ?_, ?_⟩⟩
  · obtain ⟨⟨c1, c2⟩, f1, f2⟩ := k1
    refine ⟨⟨?_, World.cell?_setCell_same _ _ _ c2⟩, ?_, ?_⟩
    · rw [World.cell?_setCell_other _ _ _ _ (by simp)]; exact c1
    · go_simp
    · go_simp
  · rw [List.map_append]; exact ownsRow_setCell_below hown (by simp) _
  · rw [dvx_snoc, ← h.val]; congr 1; omega
  · intro hp
    rw [List.length_append]
    simp
    omega
  · refine (((h.below.alloc h.below.size o).grown hg (by have := h.below.size; simp; omega) (fun j hj => by have := (h.own.lt j hj).1; omega))).setCell (by simp) _
theorem of_std {x : Bool} {N : Nat} {os : List Int} (hd : IsD os) (hv : dvx os 0 = N) (hn : NoZ os) {n : Int} (hx : n = sg x N) (hs : x = true → 0 < N) : Std x os n := by
  refine ⟨hd, hn, fun q e => ?_, by rw [hx]; unfold dval; rw [hv]⟩
  have := hs q
  rw [e] at hv
  simp [dvx] at hv
  omega
theorem of_end {w wr : World} {x : Bool} {N : Nat} {v : Value} {k : Nat} {os : List Int} {z : Nat} (h : OfR w wr x N v k os z) (hz : z = 0) {n : Int} (hx : n = sg x N) (hs : x = true → 0 < N) :
    ∃ A c, v = .slice A k c ∧ IsN wr x A k c n ∧ Fr (w.heap.size + 2) A := by
  obtain ⟨A, c, rfl, hD⟩ := Dg.own h.own
  have hF := Fr.own h.own
  have hv := h.val
  have hn := h.nm hz
  rw [hz] at hv
  exact ⟨A, c, rfl, ⟨os, hD, of_std h.dg hv hn hx hs⟩, hF⟩
end Go.Proofs.Ytlglajaonmpljaa
namespace Go.Proofs.Ytlglajaonmpljaa
open Go.RowKit
set_option linter.unusedVariables false

theorem of_st (w : World) (x : Bool) (n : Nat) : OfR w ((w.alloc (.cells #[.bool false, .slice none 0 0] 67)).alloc (.cells #[.bool x, .slice none 0 0] 67)) x n (.slice none 0 0) 0 [] n :=
  ⟨(Box.new rfl).alloc _, Box.new (by simp), World.ownsRow_nil _ _ _ _, rfl, IsD.nil, rfl, fun _ => nm_nil, by (repeat (first | (with_reducible exact Below.refl _ _) | (with_reducible refine below_alloc ?_ _)))⟩
set_option maxHeartbeats 1000000 in
set_option maxRecDepth 100000 in
theorem of_pos (n : Nat) (w : World) (h : n < 9223372036854775808) : Calls Try.prog 49 #[.int .i64 n] w (RNF n w) := by
  obtain ⟨i0, hi0, hz0, hz1, hz2⟩ := info_parts info_int
  have I0 := Lib.hid hi0
  have I1 := Lib.hid hz0
  have I2 := Lib.hid hz1
  have I3 := Lib.hid hz2
  clear hi0 hz0 hz1 hz2
  have ST := Lib.hid (of_st w false n)
  have hd : decide ((n : Int) < 0) = false := decide_eq_false (by omega)
  go_enter Try.func49, Try.ntmps49
  go_wp2
  go_loopw [0] (fun i wr => ∃ (z k : Nat) (v : Value) (os : List Int), i = .int .i64 z ∧ z ≤ n ∧ OfR w wr false n v k os z) (fun i _ => (intOf i).toNat)
  case atStart => exact ⟨n, 0, _, [], rfl, Nat.le_refl _, ST.out⟩
  case round =>
    obtain ⟨z, k, v, os, rfl, hzn, hr⟩ := hrel
    obtain ⟨⟨c1, c2⟩, f1, f2⟩ := id hr.b1
    obtain ⟨⟨c3, c4⟩, f3, f4⟩ := id hr.b0
    have HO := Lib.hid hr.own
    have HR := Lib.hid hr
    have hsz := hr.b1.lt
    by_cases hz : z = 0
    · obtain ⟨A, c, rfl, hN, hF⟩ := of_end hr hz (n := n) rfl (fun h => by cases h)
      have HB := Lib.hid hr.below
      have HB0 := Lib.hid hr.b0
      subst hz
      clear hr
      go_wp2
      refine bodyPost_ret (v := .agg #[.bool false, .slice A k c]) (by simp only [results, Try.results49]; go_simp) rfl ⟨_, _, _, _, rfl, ?_, ?_, fun a e => Nat.le_trans (by omega) (hF a e)⟩
      · exact hN.put (HasBB.of HB0.out)
      · exact below_set (below_set HB.out _ _ _ (by omega)) _ _ _ (by omega)
    · have hz0 : 0 < z := by omega
      have hk5 := hr.short (by omega) hz0
      have hne : ((z : Int) != 0) = true := by simpa using hz
      have N := Lib.hid (fun (w1 : World) (v' : Value) (o : Obj) hown hg => of_round (w1 := w1) (v' := v') (o := o) HR.out hz0 hown hg)
      clear hr hz
      go_wp2_with (at_builtin; refine wpList_append_own _ rfl _ _ 23 rfl (w.heap.size + 2) 3 i0 (.int .i64 0) 1 8 Try.underlying23 I0.out I1.out I2.out I3.out rfl (by decide) _ _ _ rfl (HO.out.alloc _) ⟨wr.heap.size, 0, none⟩ 1 1 [.int .i64 ((z % 10000 : Nat) : Int)] rfl rfl (cell_one_new _ _ _) (by simp [Value.oneCell']) (by simp only [maxLen]; omega) (by omega) (by simp; omega) ?_; intro v' w1 hown' hgrow hiff; clear hiff; have R := N.out w1 v' _ hown' hgrow; clear hown' hgrow c1 c2 f1 f2 c3 c4 f3 f4; obtain ⟨⟨⟨c1, c2⟩, f1, f2⟩, R⟩ := R; obtain ⟨A', c', rfl, hDD⟩ := Dg.own R.own; clear hDD; replace R := Lib.hid R)
      refine ⟨⟨z / 10000, k + 1, _, _, by go_num, by omega, R.out⟩, ?_⟩
      simp [intOf]; omega
theorem neg_tmod (y : Nat) : (-(y : Int)).tmod 10000 = -((y : Int) % 10000) := by rw [Int.neg_tmod, Int.tmod_eq_emod_of_nonneg (by omega)]
theorem neg_tdiv (y : Nat) : (-(y : Int)).tdiv 10000 = -((y : Int) / 10000) := by rw [Int.neg_tdiv, Int.tdiv_eq_ediv_of_nonneg (by omega)]
set_option maxHeartbeats 1000000 in
set_option maxRecDepth 100000 in
theorem of_neg (n : Nat) (w : World) (h : n ≤ 9223372036854775808) (h0 : 0 < n) : Calls Try.prog 49 #[.int .i64 (-(n : Int))] w (RNF (-(n : Int)) w) := by
  obtain ⟨i0, hi0, hz0, hz1, hz2⟩ := info_parts info_int
  have I0 := Lib.hid hi0
  have I1 := Lib.hid hz0
  have I2 := Lib.hid hz1
  have I3 := Lib.hid hz2
  clear hi0 hz0 hz1 hz2
  have ST := Lib.hid (of_st w true n)
  have hd : decide (-(n : Int) < 0) = true := decide_eq_true (by omega)
  go_enter Try.func49, Try.ntmps49
  go_wp2
  go_loopw [0] (fun i wr => ∃ (z k : Nat) (v : Value) (os : List Int), i = .int .i64 (-(z : Int)) ∧ z ≤ n ∧ OfR w wr true n v k os z) (fun i _ => (-intOf i).toNat)
  case atStart => exact ⟨n, 0, _, [], rfl, Nat.le_refl _, ST.out⟩
  case round =>
    obtain ⟨z, k, v, os, rfl, hzn, hr⟩ := hrel
    obtain ⟨⟨c1, c2⟩, f1, f2⟩ := id hr.b1
    obtain ⟨⟨c3, c4⟩, f3, f4⟩ := id hr.b0
    have HO := Lib.hid hr.own
    have HR := Lib.hid hr
    have hsz := hr.b1.lt
    by_cases hz : z = 0
    · obtain ⟨A, c, rfl, hN, hF⟩ := of_end hr hz (n := -(n : Int)) rfl (fun _ => h0)
      have HB := Lib.hid hr.below
      have HB0 := Lib.hid hr.b0
      subst hz
      clear hr
      rw [show (-(((0 : Nat)) : Int)) = 0 from rfl]
      go_wp2
      refine bodyPost_ret (v := .agg #[.bool true, .slice A k c]) (by simp only [results, Try.results49]; go_simp) rfl ⟨_, _, _, _, rfl, ?_, ?_, fun a e => Nat.le_trans (by omega) (hF a e)⟩
      · exact hN.put (HasBB.of HB0.out)
      · exact below_set (below_set HB.out _ _ _ (by omega)) _ _ _ (by omega)
    · have hz0 : 0 < z := by omega
      have hk5 := hr.short (by omega) hz0
      have hne : (-(z : Int) != 0) = true := by simpa using hz
      have N := Lib.hid (fun (w1 : World) (v' : Value) (o : Obj) hown hg => of_round (w1 := w1) (v' := v') (o := o) HR.out hz0 hown hg)
      have t1 := neg_tmod z
      have t2 := neg_tdiv z
      clear hr hz
      by_cases hm : (z : Int) % 10000 = 0
      · have hmn : z % 10000 = 0 := by omega
        replace N : Hid (∀ (w1 : World) (v' : Value) (o : Obj), w1.ownsRow (w.heap.size + 2) 3 1 v' (k + 1) (os.map (Value.int .i64) ++ [.int .i64 0]) → (wr.alloc o).grownBy w1 v.ownBlock → Box w1 (w.heap.size + 1) (.bool true) v ∧ OfR w (w1.setCell ⟨w.heap.size + 1, 1, none⟩ v') true n v' (k + 1) (os ++ [0]) (z / 10000)) := by
          intro w1 v' o h1 h2
          have := N.out w1 v' o
          rw [hmn] at this
          exact this h1 h2
        rw [hm] at t1
        rw [show (-(0 : Int)) = 0 from rfl] at t1
        clear hm hmn
        go_wp2_with (at_builtin; refine wpList_append_own _ rfl _ _ 23 rfl (w.heap.size + 2) 3 i0 (.int .i64 0) 1 8 Try.underlying23 I0.out I1.out I2.out I3.out rfl (by decide) _ _ _ rfl (HO.out.alloc _) ⟨wr.heap.size, 0, none⟩ 1 1 [.int .i64 0] rfl rfl (cell_one_new _ _ _) (by simp [Value.oneCell']) (by simp only [maxLen]; omega) (by omega) (by simp; omega) ?_; intro v' w1 hown' hgrow hiff; clear hiff; have R := N.out w1 v' _ hown' hgrow; clear hown' hgrow c1 c2 f1 f2 c3 c4 f3 f4; obtain ⟨⟨⟨c1, c2⟩, f1, f2⟩, R⟩ := R; obtain ⟨A', c', rfl, hDD⟩ := Dg.own R.own; clear hDD; replace R := Lib.hid R)
        refine ⟨⟨z / 10000, k + 1, _, _, by go_num, by omega, R.out⟩, ?_⟩
        simp [intOf]; omega
      · have hm' : (0 : Int) < (z : Int) % 10000 := by omega
        clear hm
        go_wp2_with (at_builtin; refine wpList_append_own _ rfl _ _ 23 rfl (w.heap.size + 2) 3 i0 (.int .i64 0) 1 8 Try.underlying23 I0.out I1.out I2.out I3.out rfl (by decide) _ _ _ rfl (HO.out.alloc _) ⟨wr.heap.size, 0, none⟩ 1 1 [.int .i64 ((z % 10000 : Nat) : Int)] rfl rfl (cell_one_new _ _ _) (by simp [Value.oneCell']) (by simp only [maxLen]; omega) (by omega) (by simp; omega) ?_; intro v' w1 hown' hgrow hiff; clear hiff; have R := N.out w1 v' _ hown' hgrow; clear hown' hgrow c1 c2 f1 f2 c3 c4 f3 f4; obtain ⟨⟨⟨c1, c2⟩, f1, f2⟩, R⟩ := R; obtain ⟨A', c', rfl, hDD⟩ := Dg.own R.own; clear hDD; replace R := Lib.hid R)
        refine ⟨⟨z / 10000, k + 1, _, _, by go_num, by omega, R.out⟩, ?_⟩
        simp [intOf]; omega
theorem rOf_new (n : Int) (w : World) (h0 : -9223372036854775808 ≤ n) (h1 : n < 9223372036854775808) : Calls Try.prog 49 #[.int .i64 n] w (RNF n w) := by
  rcases Int.lt_or_le n 0 with q | q
  · obtain ⟨m, rfl⟩ : ∃ m : Nat, n = -(m : Int) := ⟨n.natAbs, by omega⟩
    exact of_neg m w (by omega) (by omega)
  · obtain ⟨m, rfl⟩ := Int.eq_ofNat_of_zero_le q
    exact of_pos m w (by omega)
end Go.Proofs.Ytlglajaonmpljaa
namespace Go.Proofs.Ytlglajaonmpljaa
open Go.RowKit
set_option linter.unusedVariables false

theorem pow2_bd (j : Nat) : (0 : Int) < 2 ^ j ∧ (2 : Int) ^ j < 10000 ^ (j + 1) := by
  induction j with
  | zero => decide
  | succ j ih => rw [Int.pow_succ, Int.pow_succ (10000 : Int) (j + 1)]; omega
theorem pow2_abs (j : Nat) : (((2 : Int) ^ j).natAbs : Int) < 10000 ^ (j + 1) := by have := pow2_bd j; omega
theorem pow2_double (j : Nat) : (2 : Int) ^ j + 2 ^ j = 2 ^ (j + 1) := by rw [Int.pow_succ]; omega
set_option maxHeartbeats 1000000 in
set_option maxRecDepth 100000 in
theorem rPower_new (k : Nat) (w : World) (hk : k ≤ 800) : Calls Try.prog 66 #[.int .i64 k] w (RNF (2 ^ k) w) := by
  go_enter Try.func66, Try.ntmps66
  go_wp2_with fail
  refine (rOf_new 1 _ (by omega) (by omega)).mono ?_
  rintro e w1 ⟨x1, A1, l1, c1, rfl, h1, hb1, hF1⟩
  replace hF1 : Hid (Fr w.heap.size A1) := fun a e => Nat.le_trans (by simp) (hF1 a e)
  have B0 : Box w1 w.heap.size (.bool false) (.slice none 0 0) := (Box.new rfl).call hb1
  have z1 := Lib.hid hb1.size
  have bl1 : Below w.heap.size w w1 := below_call (below_alloc (Below.refl _ _) _) hb1
  clear hb1
  go_wp2_with fail
  go_loopw [4] (fun i wr => ∃ (j : Nat) (x : Bool) (A : Option Addr) (l c : Nat), i = .int .i64 j ∧ j ≤ k ∧ Box wr w.heap.size (.bool false) (.slice none 0 0) ∧ Box wr w1.heap.size (.bool x) (.slice A l c) ∧ IsN wr x A l c (2 ^ j) ∧ Below w.heap.size w wr ∧ Hid (Fr w.heap.size A)) (fun i _ => k - (intOf i).toNat)
  case atStart =>
    refine ⟨0, x1, A1, l1, c1, rfl, Nat.zero_le _, B0.alloc _, Box.new rfl, ?_, below_alloc bl1 _, hF1⟩
    exact h1.alloc _
  case round =>
    obtain ⟨j, x, A, l, c, rfl, hj, hB0, hB1, hN, hbl, hFA⟩ := hrel
    clear hF1
    have hl := hN.len (pow2_abs j)
    obtain ⟨⟨p1, p2⟩, p3, p4⟩ := id hB1
    obtain ⟨⟨q1, q2⟩, q3, q4⟩ := id hB0
    have hlt : w.heap.size < w1.heap.size := by have := z1.out; simp at this; omega
    by_cases hjk : j < k
    · go_wp2_with (go_at_call 76; ((with_reducible refine (rAdd_new _ _ _ _ _ _ _ _ _ _ _ hN hN (by omega) (by omega)).mono ?_); rintro e w2 ⟨x2, A2, l2, c2, rfl, h2, hb2, hF2⟩; replace hF2 : Hid (Fr w.heap.size A2) := (fun a e => Nat.le_trans hbl.size (hF2 a e)); clear hFA; rw [pow2_double] at h2; clear p1 p2 p3 p4 q1 q2 q3 q4; have hB1' := hB1.call hb2; have hB0' := hB0.call hb2; obtain ⟨⟨p1, p2⟩, p3, p4⟩ := id hB1'))
      refine ⟨⟨j + 1, x2, A2, l2, c2, by go_num, by omega, (hB0'.set _ (by omega)).set _ (by omega), Box.put (HasBox.of hB1'), h2.put (HasBB.of hB1'), ?_, hF2⟩, ?_⟩
      · exact below_set (below_set (below_call hbl hb2) _ _ _ (by omega)) _ _ _ (by omega)
      · simp [intOf]; omega
    · obtain rfl : j = k := by omega
      go_wp2
      refine bodyPost_ret (v := .agg #[.bool x, .slice A l c]) (by simp only [results, Try.results66]; go_simp) rfl ⟨_, _, _, _, rfl, ?_, ?_, hFA⟩
      · exact hN.put (HasBB.of hB0)
      · exact below_set (below_set hbl _ _ _ (by omega)) _ _ _ (by omega)
end Go.Proofs.Ytlglajaonmpljaa

namespace Go.Proofs.Ytlglajaonmpljaa
open Go.RowKit
set_option linter.unusedVariables false

/-- the memory of a product under way: its two numbers, the place of its result, and the row os. -/
structure MulW (w wr : World) (x : Bool) (A : Option Addr) (l c : Nat) (ds : List Int) (y : Bool) (B : Option Addr) (m d : Nat) (es : List Int) (os : List Int) : Prop where
  b0 : Box wr w.heap.size (.bool x) (.slice A l c)
  b1 : Box wr (w.heap.size + 1) (.bool y) (.slice B m d)
  b2 : Box wr (w.heap.size + 1 + 1) (.bool false) (.slice none 0 0)
  own : wr.ownsRow (w.heap.size + 1 + 1 + 1) 3 1 (.slice (some ⟨w.heap.size + 1 + 1 + 1, 0, none⟩) (l + m + 1) (l + m + 1)) (l + m + 1) (os.map (Value.int .i64))
  dg : IsD os
  below : Below w.heap.size w wr
section
variable {w wr : World} {x y : Bool} {A B : Option Addr} {l c m d : Nat} {ds es os : List Int}
theorem MulW.len (h : MulW w wr x A l c ds y B m d es os) : os.length = l + m + 1 := by have := h.own.1; simpa using this
theorem MulW.drewN (h : MulW w wr x A l c ds y B m d es os) (n : Nat) : MulW w (wr.drewN n) x A l c ds y B m d es os :=
  ⟨h.b0, h.b1, h.b2, h.own, h.dg, bel_drewN h.below n⟩
theorem MulW.cell (h : MulW w wr x A l c ds y B m d es os) {j : Nat} (hj : j < l + m + 1) : wr.cell? ⟨w.heap.size + 1 + 1 + 1, j, none⟩ = some (.int .i64 (os.getD j 0)) ∧ wr.frozen? ⟨w.heap.size + 1 + 1 + 1, j, none⟩ = false := by
  refine ⟨?_, h.own.frozenAt j⟩
  have hl := h.len
  rw [h.own.cellAt j (by omega), List.getElem?_map, List.getElem?_eq_getElem (by omega), List.getD_eq_getElem?_getD, List.getElem?_eq_getElem (by omega)]
  rfl
theorem MulW.store (h : MulW w wr x A l c ds y B m d es os) (j : Nat) {s : Int} (h0 : 0 ≤ s) (h1 : s < 10000) : MulW w (wr.setCell ⟨w.heap.size + 1 + 1 + 1, j, none⟩ (.int .i64 s)) x A l c ds y B m d es (os.set j s) := by
  refine ⟨h.b0.set _ (by omega), h.b1.set _ (by omega), h.b2.set _ (by omega), ?_, h.dg.set j h0 h1, below_set h.below _ _ _ (by omega)⟩
  rw [List.map_set]
  exact (h.own.stored j _).1
end
/-- what an inner round keeps. -/
structure MulI (os0 : List Int) (i l m : Nat) (a : Int) (es : List Int) (k : Nat) (cc : Int) (os : List Int) : Prop where
  c0 : 0 ≤ cc
  c1 : cc ≤ 9999
  val : MulIn os i k cc a es (hi os0 i + a * dval es)
  low : os.take i = os0.take i
  top : ∀ j, i + m + 1 ≤ j → os.getD j 0 = 0
  at_ : k ≤ m → os.getD (i + m) 0 = 0
  more : 0 < cc → k ≤ m
  kk : k ≤ m + 1
/-- what an outer round keeps. -/
structure MulO (os ds es : List Int) (i l m : Nat) : Prop where
  val : MulOut os ds es i
  top : ∀ j, i + m ≤ j → os.getD j 0 = 0
  ii : i ≤ l
theorem mulI_start {os ds es : List Int} {i l m : Nat} (h : MulO os ds es i l m) (a : Int) : MulI os i l m a es 0 0 os :=
  ⟨by omega, by omega, mulIn_start _ _ _ _, rfl, fun j hj => h.top j (by omega), fun _ => h.top _ (by omega), fun q => absurd q (by omega), by omega⟩
theorem mulI_round {os0 os es : List Int} {i l m k : Nat} {a cc s : Int} (h : MulI os0 i l m a es k cc os) (hlen : os.length = l + m + 1) (hi' : i < l) (hd : IsD os) (hem : es.length = m) (he : IsD es) (ha : 0 ≤ a ∧ a < 10000)
    (hgo : k < m ∨ 0 < cc) (hs : s = cc + os.getD (i + k) 0 + a * es.getD k 0) : MulI os0 i l m a es (k + 1) (s / 10000) (os.set (i + k) (s % 10000)) := by
  have g1 := hd.getD (i + k)
  have g2 := he.getD k
  have g3 := dig_bd ha g2
  have h0 := h.c0; have h1 := h.c1
  have hkm : k ≤ m := by rcases hgo with q | q; omega; exact h.more q
  refine ⟨by omega, by omega, mulIn_step h.val (by omega) hs, by rw [take_set_ge (by omega)]; exact h.low, fun j hj => ?_, fun q => ?_, fun q => ?_, by omega⟩
  · rw [getD_set_ne (by omega)]; exact h.top j hj
  · rw [getD_set_ne (by omega)]; exact h.at_ hkm
  · by_cases e : k < m
    · omega
    · have e1 : k = m := by omega
      have z1 : es.getD k 0 = 0 := by simp [List.getD_eq_getElem?_getD, List.getElem?_eq_none (show es.length ≤ k by omega)]
      have z2 := h.at_ hkm
      rw [z1, e1, z2, Int.mul_zero] at hs
      omega
theorem mulI_end {os0 os ds es : List Int} {i l m k : Nat} {a cc : Int} (h : MulI os0 i l m a es k cc os) (ho : MulO os0 ds es i l m) (hlen : os.length = l + m + 1) (hi' : i < l) (hem : es.length = m) (hk : m ≤ k) (hc : cc ≤ 0) (ha : a = ds.getD i 0) : MulO os ds es (i + 1) l m := by
  have e0 : cc = 0 := by have := h.c0; omega
  have hv := h.val
  rw [e0] at hv
  have he := mulIn_end hv (by omega)
  rw [ha] at he
  exact ⟨mulOut_step ho.val (by omega) h.low he, fun j hj => h.top j (by omega), by omega⟩
theorem mulI_in {os0 os es : List Int} {i l m k : Nat} {a cc : Int} (h : MulI os0 i l m a es k cc os) (hi' : i < l) (hgo : k < m ∨ 0 < cc) : i + k < l + m + 1 := by
  have : k ≤ m := by rcases hgo with q | q; omega; exact h.more q
  omega
theorem mulW_made {w W w3 : World} {x y : Bool} {A B : Option Addr} {l c m d : Nat} {ds es : List Int} {z : Value} (hz : z = .int .i64 0) (hsz : W.heap.size = w.heap.size + 1 + 1 + 1)
    (b0 : Box W w.heap.size (.bool x) (.slice A l c)) (b1 : Box W (w.heap.size + 1) (.bool y) (.slice B m d)) (b2 : Box W (w.heap.size + 1 + 1) (.bool false) (.slice none 0 0)) (hb : Below w.heap.size w W)
    (hown : w3.ownsRow (w.heap.size + 1 + 1 + 1) 3 1 (.slice (some ⟨W.heap.size, 0, none⟩) (l + m + 1) (l + m + 1)) (l + m + 1) (madeCells z.cells ((l + m + 1) * 1)).toList) (hg : W.grownBy w3 none) :
    MulW w w3 x A l c ds y B m d es (List.replicate (l + m + 1) 0) := by
  have hB : Below W.heap.size W w3 := ⟨hg.os, hg.tape, hg.output, hg.size, fun i hi => hg.block i hi (by simp)⟩
  refine ⟨b0.call hB, b1.call hB, b2.call hB, ?_, isD_zeros _, below_call hb hB⟩
  rw [hsz] at hown
  rw [hz] at hown
  have e : (madeCells (Value.int .i64 0).cells ((l + m + 1) * 1)).toList = (List.replicate (l + m + 1) (0 : Int)).map (Value.int .i64) := by
    rw [Nat.mul_one, List.map_replicate]
    exact toList_madeCells_one _ _
  rw [e] at hown
  exact hown
end Go.Proofs.Ytlglajaonmpljaa
namespace Go.Proofs.Ytlglajaonmpljaa
open Go.RowKit
set_option linter.unusedVariables false

theorem sg_mul (x y : Bool) (a b : Int) : sg (x != y) (a * b) = sg x a * sg y b := by
  cases x <;> cases y <;> simp [sg, Int.neg_mul, Int.mul_neg]
theorem IsN.conv {w : World} {neg : Bool} {A : Option Addr} {l c : Nat} {n m : Int} (h : IsN w neg A l c n) (e : n = m) : IsN w neg A l c m := e ▸ h
theorem MulW.row {w wr : World} {x y : Bool} {A B : Option Addr} {l c m d : Nat} {ds es os : List Int} (h : MulW w wr x A l c ds y B m d es os) : Dg wr (some ⟨w.heap.size + 1 + 1 + 1, 0, none⟩) (l + m + 1) (l + m + 1) os := by
  obtain ⟨A', c', e, hD⟩ := Dg.own h.own
  cases e
  exact hD
set_option maxHeartbeats 2000000 in
set_option maxRecDepth 100000 in
theorem rMul_new (x y : Bool) (A B : Option Addr) (l c m d : Nat) (n n' : Int) (w : World) (h : IsN w x A l c n) (k : IsN w y B m d n') (hl : l ≤ 400) (hm : m ≤ 400) :
    Calls Try.prog 51 #[.agg #[.bool x, .slice A l c], .agg #[.bool y, .slice B m d]] w (RNF (n * n') w) := by
  obtain ⟨ds, hD, hS⟩ := h
  obtain ⟨es, hE, hT⟩ := k
  obtain ⟨i0, hi0, hz0, hz1, hz2⟩ := info_parts info_int
  have I0 := Lib.hid hi0
  have I1 := Lib.hid hz0
  have I2 := Lib.hid hz1
  have I3 := Lib.hid hz2
  have D1 := Lib.hid hD
  have D2 := Lib.hid hE
  have L1 := Lib.hid hD.1
  have L2 := Lib.hid hE.1
  have S1 := Lib.hid hS.dg
  have S2 := Lib.hid hT.dg
  have hv : Hid (sg (x != y) (dval ds * dval es) = n * n') := by unfold Hid; rw [sg_mul, hS.val, hT.val]
  clear hi0 hz0 hz1 hz2 hD hE hS hT
  go_enter Try.func51, Try.ntmps51
  go_wp2_with (at_make; refine wpList_make_full _ rfl _ _ 23 rfl (w.heap.size + 1 + 1 + 1) 3 i0 (.int .i64 0) 1 Try.underlying23 I0.out I1.out I2.out .i64 .i64 _ _ (l + m + 1) rfl rfl (by omega) (by omega) (by rw [I3.out]; omega) (by simp only [maxLen]; omega) (by simp) ?_; intro w3 hown hg; have MW := Lib.hid (mulW_made (w := w) (x := x) (A := A) (l := l) (c := c) (ds := ds) (y := y) (B := B) (m := m) (d := d) (es := es) rfl (by simp) (((Box.new rfl).alloc _).alloc _) ((Box.new (by simp)).alloc _) (Box.new (by simp)) (by (repeat (first | (with_reducible exact Below.refl _ _) | (with_reducible refine below_alloc ?_ _)))) hown hg); clear hown hg)
  go_loopw [6] (fun i wr => ∃ (j : Nat) (os : List Int), i = .int .i64 j ∧ j ≤ l ∧ MulW w wr x A l c ds y B m d es os ∧ MulO os ds es j l m) (fun i _ => l - (intOf i).toNat)
  case atStart => exact ⟨0, _, rfl, Nat.zero_le _, MW.out, ⟨mulOut_start (dval_zeros _), fun j _ => getD_zeros _ j, Nat.zero_le _⟩⟩
  case round =>
    obtain ⟨j, os, rfl, hj, hW, hO⟩ := hrel
    clear MW
    obtain ⟨wo, rfl⟩ : ∃ wo : World, wo = wr := ⟨_, rfl⟩
    obtain ⟨⟨p1, p2⟩, p3, p4⟩ := id hW.b0
    obtain ⟨⟨q1, q2⟩, q3, q4⟩ := id hW.b1
    obtain ⟨⟨r1, r2⟩, r3, r4⟩ := id hW.b2
    by_cases hjl : j < l
    · have WO := Lib.hid hW
      have OO := Lib.hid hO
      obtain ⟨a, ha⟩ : ∃ a, a = ds.getD j 0 := ⟨_, rfl⟩
      have HA := Lib.hid ha
      have ga : 0 ≤ a ∧ a < 10000 := by rw [ha]; exact S1.out.getD j
      clear hW hO ha
      go_wp2
      go_loopw [7, 8] (fun u v wr => ∃ (k : Nat) (cc : Int) (ps : List Int), u = .int .i64 cc ∧ v = .int .i64 k ∧ MulW w wr x A l c ds y B m d es ps ∧ MulI os j l m a es k cc ps) (fun _ v _ => m + 2 - (intOf v).toNat)
      case atStart => exact ⟨0, 0, os, rfl, rfl, WO.out, mulI_start OO.out _⟩
      case round =>
        obtain ⟨k, cc, ps, rfl, rfl, hW, hI⟩ := hrel
        clear p1 p2 p3 p4 q1 q2 q3 q4 r1 r2 r3 r4
        obtain ⟨⟨p1, p2⟩, p3, p4⟩ := id hW.b0
        obtain ⟨⟨q1, q2⟩, q3, q4⟩ := id hW.b1
        have b0 := hI.c0
        have b1 := hI.c1
        have b2 := hI.kk
        by_cases hgo : k < m ∨ 0 < cc
        · have hin := mulI_in hI hjl hgo
          obtain ⟨oc, of⟩ := hW.cell hin
          obtain ⟨x1, x2, x3, h4⟩ := D1.out.call hW.below
          obtain ⟨g, hA', hg, hcell⟩ := h4 (by omega)
          have ac := hcell j hjl
          rw [← HA.out] at ac
          have DB := Lib.hid (D2.out.call hW.below)
          have C2 := Lib.hid (fun w h => digit_any B m d es k w h (by omega) (by omega))
          have g2 := S2.out.getD k
          have g1 := hW.dg.getD (j + k)
          have N : Hid (∀ s, s = cc + ps.getD (j + k) 0 + a * es.getD k 0 → MulI os j l m a es (k + 1) (s / 10000) (ps.set (j + k) (s % 10000))) := fun s hs => mulI_round hI hW.len hjl hW.dg L2.out S2.out ga hgo hs
          have HW := Lib.hid hW
          subst hA'
          clear h4 hcell x1 x2 x3 hI hW
          generalize ps.getD (j + k) 0 = o at N oc g1
          generalize es.getD k 0 = b at N C2 g2
          have gp := dig_bd ga g2
          have s0 : (0 : Int) ≤ (j : Int) := by omega
          have s1 : (j : Int) < (l : Int) := by omega
          have s2 : IntKind.i64.wrap ((j : Int) + (k : Int)) = (j : Int) + (k : Int) := IntWalk.i64_in _ (by omega)
          have s3 : (0 : Int) ≤ (j : Int) + (k : Int) := by omega
          have s4 : (j : Int) + (k : Int) < (l : Int) + (m : Int) + 1 := by omega
          have s5 : ((j : Int) + (k : Int)).toNat = j + k := by omega
          have s6 : IntKind.i64.wrap (cc + o) = cc + o := IntWalk.i64_in _ (by omega)
          have s7 : IntKind.i64.wrap (a * b) = a * b := IntWalk.i64_in _ (by omega)
          have s8 : IntKind.i64.wrap (cc + o + a * b) = cc + o + a * b := IntWalk.i64_in _ (by omega)
          have hcs : k < m ∨ (m ≤ k ∧ 0 < cc) := by omega
          rcases hcs with t1 | ⟨t1, t2⟩
          all_goals
            go_wp2_with fail
            go_quiet ((go_at_call 69; exact qt_left (C2.out _ (DB.out.drewN _))))
            clear s2 s5 s6 s7 s8 p1 p2 p3 p4 q1 q2 q3 q4 ac oc of
            have HQ := HW.out.drewN nq
            clear hg DB HW
            generalize wr.drewN nq = wq at *
            have HR := Lib.hid (N.out _ rfl)
            have q0 : 0 ≤ cc + o + a * b := by omega
            have q9 : cc + o + a * b ≤ 1000000000 := by omega
            obtain ⟨oc, of⟩ := HQ.cell hin
            have HS := Lib.hid (HQ.store (j + k) (s := (cc + o + a * b) % 10000) (by omega) (by omega))
            clear HQ N
            generalize cc + o + a * b = s at *
            generalize ps.getD (j + k) 0 = o' at oc
            go_wp2_with (go_at_call 70; (with_reducible refine (base_any _).mono ?_); rintro e w' ⟨rfl, rfl⟩)
            refine ⟨⟨k + 1, _, _, rfl, by go_num, HS.out, HR.out⟩, ?_⟩
            simp [intOf]; omega
        · have t1 : m ≤ k := by omega
          have t2 : cc ≤ 0 := by omega
          have HW := Lib.hid hW
          have OE := Lib.hid (mulI_end hI OO.out hW.len hjl L2.out t1 t2 HA.out)
          clear hW hI
          go_wp2
          refine ⟨⟨j + 1, _, by go_num, by omega, HW.out, OE.out⟩, ?_⟩
          simp [intOf]; omega
    · obtain rfl : j = l := by omega
      have HW := Lib.hid hW
      have HV := Lib.hid (mulOut_end hO.val (by rw [L1.out]; omega))
      clear hW hO
      have HD := Lib.hid HW.out.row
      have Hd := Lib.hid HW.out.dg
      have B0 := Lib.hid HW.out.b0
      have B1 := Lib.hid HW.out.b1
      have B2 := Lib.hid HW.out.b2
      have bl := Lib.hid HW.out.below
      clear HW
      go_wp2_with (go_at_call 71; ((with_reducible refine (trim_same _ _ _ _ os _ HD.out Hd.out (by omega)).mono ?_); rintro e w1 ⟨x1, l1, rfl, h1, hb⟩; have B2' := B2.out.call hb; clear p1 p2 p3 p4 q1 q2 q3 q4 r1 r2 r3 r4; obtain ⟨⟨r1, r2⟩, r3, r4⟩ := id B2'))
      have h2 : IsN w1 x1 (some ⟨w.heap.size + 1 + 1 + 1, 0, none⟩) l1 (j + m + 1) (n * n') := h1.conv (by rw [HV.out]; exact hv.out)
      refine bodyPost_ret (v := .agg #[.bool x1, .slice (some ⟨w.heap.size + 1 + 1 + 1, 0, none⟩) l1 (j + m + 1)]) (by simp only [results, Try.results51]; go_simp) rfl ⟨_, _, _, _, rfl, ?_, ?_, fun a e => (by cases e; show w.heap.size ≤ w.heap.size + 1 + 1 + 1; omega)⟩
      · exact h2.put (HasBB.of B2')
      · exact below_set (below_set (below_call bl.out hb) _ _ _ (by omega)) _ _ _ (by omega)
end Go.Proofs.Ytlglajaonmpljaa
namespace Go.Proofs.Ytlglajaonmpljaa
open Go.RowKit
set_option linter.unusedVariables false

theorem ten10 : (10000 : Int) ^ 10 = 10000000000000000000000000000000000000000 := by decide
end Go.Proofs.Ytlglajaonmpljaa
namespace Go.Proofs.Ytlglajaonmpljaa
open Go.RowKit
set_option linter.unusedVariables false
attribute [local go_sem ↓] Go.wp_at_zero Go.wp_at_succ

/-- one block that holds a number of the reference package, the number itself, and what is below. -/
structure OneN (w : World) (g : Nat) (x : Bool) (A : Option Addr) (l c : Nat) (n : Int) (W : World) : Prop where
  b : Box W g (.bool x) (.slice A l c)
  n : IsN W x A l c n
  below : Below w.heap.size w W
section
variable {w W w1 : World} {g : Nat} {x : Bool} {A : Option Addr} {l c : Nat} {n : Int}
theorem OneN.call (h : OneN w g x A l c n W) (hb : Below W.heap.size W w1) : OneN w g x A l c n w1 := ⟨h.b.call hb, h.n.call hb, below_call h.below hb⟩
theorem OneN.s (h : OneN w g x A l c n W) : W.cell? ⟨g, 0, none⟩ = some (.bool x) ∧ W.cell? ⟨g, 1, none⟩ = some (.slice A l c) := h.b.1
end
end Go.Proofs.Ytlglajaonmpljaa
namespace Go.Proofs.Ytlglajaonmpljaa
open Go.RowKit
set_option linter.unusedVariables false

/-- what an outer round of a division keeps: the digits from k on are divided. -/
def DivO (ds qs : List Int) (k : Nat) (b r : Int) : Prop := hi ds k = hi qs k * b + r ∧ 0 ≤ r ∧ r < b ∧ (∀ j, j < k → qs.getD j 0 = 0)
/-- what an inner round keeps: d is a digit of the quotient that is still counted. -/
def DivI (ds qs : List Int) (k : Nat) (b r d : Int) : Prop := hi ds k = (d + 10000 * hi qs (k + 1)) * b + r ∧ 0 ≤ r ∧ r < (10000 - d) * b ∧ 0 ≤ d ∧ qs.getD k 0 = d ∧ (∀ j, j < k → qs.getD j 0 = 0)
/-- the memory of a division under way. -/
structure DivW (w : World) (g : Nat) (wr : World) (x : Bool) (A : Option Addr) (l c : Nat) (ds : List Int) (y : Bool) (B : Option Addr) (m d : Nat) (b : Int) (qs : List Int) (z : Bool) (C : Option Addr) (p e : Nat) (r : Int) : Prop where
  b0 : Box wr w.heap.size (.bool x) (.slice A l c)
  b1 : Box wr (w.heap.size + 1) (.bool y) (.slice B m d)
  b2 : Box wr (w.heap.size + 1 + 1) (.bool false) (.slice none 0 0)
  b3 : Box wr (w.heap.size + 1 + 1 + 1) (.bool false) (.slice none 0 0)
  own : wr.ownsRow (w.heap.size + 1 + 1 + 1 + 1) 3 1 (.slice (some ⟨w.heap.size + 1 + 1 + 1 + 1, 0, none⟩) l l) l (qs.map (Value.int .i64))
  dg : IsD qs
  br : Box wr (g) (.bool z) (.slice C p e)
  nb : IsN wr y B m d b
  nr : IsN wr z C p e r
  fb : ∀ a, B = some a → a.block ≠ w.heap.size + 1 + 1 + 1 + 1
  fr : ∀ a, C = some a → w.heap.size + 1 + 1 + 1 + 1 < a.block
  below : Below w.heap.size w wr
section
variable {w wr : World} {g : Nat} {x y z : Bool} {A B C : Option Addr} {l c m d p e : Nat} {ds qs : List Int} {b r : Int}
theorem DivW.len (h : DivW w g wr x A l c ds y B m d b qs z C p e r) : qs.length = l := by have := h.own.1; simpa using this
theorem DivW.cell (h : DivW w g wr x A l c ds y B m d b qs z C p e r) {j : Nat} (hj : j < l) : wr.cell? ⟨w.heap.size + 1 + 1 + 1 + 1, j, none⟩ = some (.int .i64 (qs.getD j 0)) ∧ wr.frozen? ⟨w.heap.size + 1 + 1 + 1 + 1, j, none⟩ = false := by
  refine ⟨?_, h.own.frozenAt j⟩
  have hl := h.len
  rw [h.own.cellAt j (by omega), List.getElem?_map, List.getElem?_eq_getElem (by omega), List.getD_eq_getElem?_getD, List.getElem?_eq_getElem (by omega)]
  rfl
/-- the remainder's block, and memory beyond, are written; all else stands. -/
theorem DivW.turn {w1 : World} {z' : Bool} {C' : Option Addr} {p' e' : Nat} {r' : Int} (h : DivW w g wr x A l c ds y B m d b qs z C p e r) (hg : w.heap.size + 1 + 1 + 1 + 1 < g) (hb : Below wr.heap.size wr w1) (hr : IsN w1 z' C' p' e' r') (hf : ∀ a, C' = some a → w.heap.size + 1 + 1 + 1 + 1 < a.block) :
    DivW w g ((w1.setCell ⟨g, 0, none⟩ (.bool z')).setCell ⟨g, 1, none⟩ (.slice C' p' e')) x A l c ds y B m d b qs z' C' p' e' r' := by
  have hbr := HasBB.of (h.br.call hb)
  refine ⟨((h.b0.call hb).set _ (by omega)).set _ (by omega), ((h.b1.call hb).set _ (by omega)).set _ (by omega), ((h.b2.call hb).set _ (by omega)).set _ (by omega), ((h.b3.call hb).set _ (by omega)).set _ (by omega), ?_, h.dg, Box.put (HasBox.of (h.br.call hb)), (h.nb.call hb).put hbr, hr.put hbr, h.fb, hf, below_set (below_set (below_call h.below hb) _ _ _ (by omega)) _ _ _ (by omega)⟩
  have k1 : w1.ownsRow (w.heap.size + 1 + 1 + 1 + 1) 3 1 (.slice (some ⟨w.heap.size + 1 + 1 + 1 + 1, 0, none⟩) l l) l (qs.map (Value.int .i64)) := h.own.kept (row := none) ⟨hb.os, hb.tape, hb.output, hb.size, fun i hi _ => hb.block i hi⟩ (.inr (by simp [Value.ownBlock]))
  have far : ∀ (W : World) (o : Nat) (u : Value), W.ownsRow (w.heap.size + 1 + 1 + 1 + 1) 3 1 (.slice (some ⟨w.heap.size + 1 + 1 + 1 + 1, 0, none⟩) l l) l (qs.map (Value.int .i64)) → (W.setCell ⟨g, o, none⟩ u).ownsRow (w.heap.size + 1 + 1 + 1 + 1) 3 1 (.slice (some ⟨w.heap.size + 1 + 1 + 1 + 1, 0, none⟩) l l) l (qs.map (Value.int .i64)) := fun W o u hW =>
    hW.kept (row := some g) ⟨rfl, rfl, rfl, by simp [World.setCell], fun k _ hk => Below.heap_setCell W ⟨g, o, none⟩ u k (fun e => hk (by rw [e]))⟩ (.inr (by simp [Value.ownBlock]; omega))
  exact far _ _ _ (far _ _ _ k1)
theorem DivW.call {w1 : World} (h : DivW w g wr x A l c ds y B m d b qs z C p e r) (hb : Below wr.heap.size wr w1) : DivW w g w1 x A l c ds y B m d b qs z C p e r :=
  ⟨h.b0.call hb, h.b1.call hb, h.b2.call hb, h.b3.call hb, h.own.kept (row := none) ⟨hb.os, hb.tape, hb.output, hb.size, fun i hi _ => hb.block i hi⟩ (.inr (by simp [Value.ownBlock])), h.dg, h.br.call hb, h.nb.call hb, h.nr.call hb, h.fb, h.fr, below_call h.below hb⟩
theorem DivW.row (h : DivW w g wr x A l c ds y B m d b qs z C p e r) : Dg wr (some ⟨w.heap.size + 1 + 1 + 1 + 1, 0, none⟩) l l qs := by
  obtain ⟨A', c', e', hD⟩ := Dg.own h.own
  cases e'
  exact hD
theorem DivW.drew (h : DivW w g wr x A l c ds y B m d b qs z C p e r) : DivW w g wr.drew x A l c ds y B m d b qs z C p e r :=
  ⟨h.b0.drew, h.b1.drew, h.b2.drew, h.b3.drew, h.own, h.dg, h.br.drew, h.nb.drew, h.nr.drew, h.fb, h.fr, h.below.drew⟩
theorem DivW.store (h : DivW w g wr x A l c ds y B m d b qs z C p e r) (hg : w.heap.size + 1 + 1 + 1 + 1 < g) {j : Nat} (hj : j < l) {s : Int} (h0 : 0 ≤ s) (h1 : s < 10000) :
    DivW w g (wr.setCell ⟨w.heap.size + 1 + 1 + 1 + 1, j, none⟩ (.int .i64 s)) x A l c ds y B m d b (qs.set j s) z C p e r := by
  have keepN : ∀ {z : Bool} {C : Option Addr} {p e : Nat} {r : Int}, IsN wr z C p e r → (∀ a, C = some a → a.block ≠ w.heap.size + 1 + 1 + 1 + 1) → IsN (wr.setCell ⟨w.heap.size + 1 + 1 + 1 + 1, j, none⟩ (.int .i64 s)) z C p e r := fun {z C p e r} hN hne => by
    obtain ⟨es, ⟨k1, k2, k3, k4⟩, hS⟩ := hN
    refine ⟨es, ⟨k1, k2, k3, fun hp => ?_⟩, hS⟩
    obtain ⟨g', e1, e2, e3⟩ := k4 hp
    refine ⟨g', e1, by simpa [World.setCell] using e2, fun i hi => ?_⟩
    rw [World.cell?_setCell_other _ _ _ _ (fun e => hne _ e1 (congrArg Addr.block e).symm)]
    exact e3 i hi
  refine ⟨h.b0.set _ (by omega), h.b1.set _ (by omega), h.b2.set _ (by omega), h.b3.set _ (by omega), ?_, h.dg.set j h0 h1, h.br.set _ (by omega), keepN h.nb h.fb, keepN h.nr (fun a e => by have := h.fr a e; omega), h.fb, h.fr, below_set h.below _ _ _ (by omega)⟩
  rw [List.map_set]
  exact (h.own.stored j _).1
end
end Go.Proofs.Ytlglajaonmpljaa
namespace Go.Proofs.Ytlglajaonmpljaa
open Go.RowKit
set_option linter.unusedVariables false
set_option linter.unusedSimpArgs false
attribute [local go_sem ↓] Go.wp_at_zero Go.wp_at_succ

/-- two numbers come back. -/
def RN2 (n m : Int) (w : World) (e : Ending) (w' : World) : Prop := ∃ x A l c y B k d, e = .returned (.tuple #[.agg #[.bool x, .slice A l c], .agg #[.bool y, .slice B k d]]) ∧ IsN w' x A l c n ∧ IsN w' y B k d m ∧ Below w.heap.size w w'
/-- two numbers come back, in new memory. -/
def RN2F (n m : Int) (w : World) (e : Ending) (w' : World) : Prop := ∃ x A l c y B k d, e = .returned (.tuple #[.agg #[.bool x, .slice A l c], .agg #[.bool y, .slice B k d]]) ∧ IsN w' x A l c n ∧ IsN w' y B k d m ∧ Below w.heap.size w w' ∧ Fr w.heap.size A ∧ Fr w.heap.size B
theorem Std.lt {neg : Bool} {ds : List Int} {n : Int} (h : Std neg ds n) : n < 10000 ^ ds.length := by have := dval_lt h.dg; have := h.abs; omega
end Go.Proofs.Ytlglajaonmpljaa

namespace Go.Proofs
open Go.Shelf
def Try.lays264_ren : Go.Shelf.Ren := ⟨fun | 264 => 81 | n => n, fun | 53 => 125 | 46 => 98 | n => n, fun | n => n⟩
theorem Try.lays264 : Go.Proofs.Lays.n264 Try.prog Try.lays264_ren := {
  mixed := by kernel_rfl
  f264 := Try.func81.trans (congrArg some (by kernel_rfl))
  t46 := Try.underlying98
  a46 := Try.isAgg98
  z46 := Try.sizeOf98
  v46 := Try.zeroValue98
  t53 := Try.underlying125
  a53 := Try.isAgg125
  z53 := Try.sizeOf125
  v53 := Try.zeroValue125 }
open Go.RowKit Go.Lib in
theorem Try.bits_Mul64 (x y : Nat) (hx : x < 18446744073709551616) (hy : y < 18446744073709551616) (w : World) :
    Calls Try.prog 81 #[.int .u64 x, .int .u64 y] w fun e w' => e = .returned (.tuple #[.int .u64 ((x * y / 18446744073709551616 : Nat) : Int), .int .u64 ((x * y % 18446744073709551616 : Nat) : Int)]) ∧ w' = w := Any.bits_Mul64 Try.lays264 x y hx hy w
def Try.lays212_ren : Go.Shelf.Ren := ⟨fun | 212 => 56 | 263 => 80 | 264 => 81 | n => n, fun | 46 => 98 | 51 => 122 | 146 => 123 | 53 => 125 | 148 => 126 | n => n, fun | n => n⟩
end Go.Proofs

namespace Go.Proofs.Ytlglajaonmpljaa
open Go.RowKit
set_option linter.unusedVariables false

theorem IsS.conv {H L n m : Int} (h : IsS H L n) (e : n = m) : IsS H L m := e ▸ h
end Go.Proofs.Ytlglajaonmpljaa
namespace Go.Proofs.Ytlglajaonmpljaa
set_option linter.unusedVariables false

/-- how many bits n needs. -/
def IsLen (n len : Nat) : Prop := (n = 0 ∧ len = 0) ∨ (1 ≤ len ∧ len ≤ 128 ∧ 2 ^ (len - 1) ≤ n ∧ n < 2 ^ len)
end Go.Proofs.Ytlglajaonmpljaa
namespace Go.Proofs.Ytlglajaonmpljaa
open Go.RowKit
set_option linter.unusedVariables false

def RMul (n : Int) (w : World) (e : Ending) (w' : World) : Prop := ∃ H L, e = .returned (.tuple #[.int .u64 H, .int .u64 L]) ∧ IsS H L n ∧ w = w'
def fitS (n : Int) : Bool := decide (n < 340282366920938463463374607431768211456)
def RSF (n : Int) (w : World) (e : Ending) (w' : World) : Prop := ∃ H L, e = .returned (.tuple #[.agg #[.int .u64 H, .int .u64 L], .bool (fitS n)]) ∧ IsS H L (if fitS n then n else 0) ∧ Below w.heap.size w w'
def RLen (n : Int) (w : World) (e : Ending) (w' : World) : Prop := ∃ k : Nat, e = .returned (.int .i64 k) ∧ IsLen n.toNat k ∧ Below w.heap.size w w'
end Go.Proofs.Ytlglajaonmpljaa
namespace Go.Proofs.Ytlglajaonmpljaa
open Go.RowKit
set_option linter.unusedVariables false

def MulCut (w : World) (N : Int) (a b c d : Value) (s6 s7 : Value) (wx : World) : Prop :=
  ∃ (g : Nat) (ph pl : Int), s6 = .pointer (some ⟨g, 0, none⟩) ∧ s7 = .bool (fitS N) ∧ w.heap.size + 3 ≤ g ∧ IsS ph pl (if fitS N then N else 0) ∧
    Box wx g (.int .u64 ph) (.int .u64 pl) ∧ Box wx w.heap.size a b ∧ Box wx (w.heap.size + 1) c d ∧ Box wx (w.heap.size + 1 + 1) (.int .i64 0) (.int .u64 0) ∧ g < wx.heap.size ∧ Below w.heap.size w wx
end Go.Proofs.Ytlglajaonmpljaa
namespace Go.Proofs.Ytlglajaonmpljaa
open Go.RowKit
set_option linter.unusedVariables false

end Go.Proofs.Ytlglajaonmpljaa
namespace Go.Proofs.Ytlglajaonmpljaa
open Go.RowKit
set_option linter.unusedVariables false

end Go.Proofs.Ytlglajaonmpljaa

namespace Go.Proofs.Ytlglajaonmpljaa
set_option linter.unusedVariables false

/-- what holds of the divisor's two digits, of what is divided, and of the next digit. -/
structure Kn (u d a b : Int) : Prop where
  a0 : 2147483648 ≤ a
  a1 : a < 4294967296
  b0 : 0 ≤ b
  b1 : b < 4294967296
  u0 : 0 ≤ u
  u1 : u < a * 4294967296 + b
  d0 : 0 ≤ d
  d1 : d < 4294967296
/-- the right digit. -/
def kq (u d a b : Int) : Int := (u * 4294967296 + d) / (a * 4294967296 + b)
/-- what is left. -/
def kr (u d a b : Int) : Int := (u * 4294967296 + d) % (a * 4294967296 + b)
/-- what holds of a digit that is tried. -/
structure KTry (u d a b q r : Int) : Prop where
  sum : q * a + r = u
  q0 : 0 ≤ q
  r0 : 0 ≤ r
  le : kq u d a b ≤ q

variable {u d a b q r : Int}
theorem Kn.y0 (h : Kn u d a b) : 0 < a * 4294967296 + b := by have := h.a0; have := h.b0; omega
theorem Kn.q0 (h : Kn u d a b) : 0 ≤ kq u d a b := Int.ediv_nonneg (by have := h.u0; have := h.d0; omega) (Int.le_of_lt h.y0)
theorem Kn.qlt (h : Kn u d a b) : kq u d a b < 4294967296 := by
  unfold kq
  refine Int.ediv_lt_of_lt_mul h.y0 ?_
  have h1 := h.u1; have h2 := h.d1
  generalize a * 4294967296 + b = y at *
  omega
/-- q times the divisor is not above just if q is not above the digit. -/
theorem Kn.le_iff (h : Kn u d a b) (q : Int) : q ≤ kq u d a b ↔ q * (a * 4294967296 + b) ≤ u * 4294967296 + d := by
  unfold kq
  exact Int.le_ediv_iff_mul_le h.y0
theorem mul_y (q a b : Int) : q * (a * 4294967296 + b) = q * a * 4294967296 + q * b := by rw [Int.mul_add, Int.mul_assoc]
theorem KTry.down (h : Kn u d a b) (t : KTry u d a b q r) (k : 4294967296 ≤ q ∨ 4294967296 * r + d < q * b) : KTry u d a b (q - 1) (r + a) ∧ 1 ≤ q := by
  have hlt : kq u d a b < q := by
    rcases k with k | k
    · exact Int.lt_of_lt_of_le h.qlt k
    · rcases Int.lt_or_le (kq u d a b) q with l | l
      · exact l
      · have h1 := (h.le_iff q).1 l
        rw [mul_y] at h1
        have h2 := t.sum
        generalize q * a = qa at *
        generalize q * b = qb at *
        omega
  have h0 := h.q0
  refine ⟨⟨?_, by omega, by have := t.r0; have := h.a0; omega, by omega⟩, by omega⟩
  rw [Int.sub_mul, ← t.sum]
  omega
theorem KTry.done (h : Kn u d a b) (t : KTry u d a b q r) (k : q * b ≤ 4294967296 * r + d) : q = kq u d a b := by
  have h1 : q ≤ kq u d a b := by
    rw [h.le_iff, mul_y]
    have h2 := t.sum
    generalize q * a = qa at *
    generalize q * b = qb at *
    omega
  have := t.le
  omega
theorem KTry.small (h : Kn u d a b) (t : KTry u d a b q r) (k : 4294967296 ≤ r) : q < 4294967296 := by
  rcases Int.lt_or_le q 4294967296 with l | l
  · exact l
  · have h1 := Int.mul_le_mul_of_nonneg_right l (show (0 : Int) ≤ a by have := h.a0; omega)
    have h2 := t.sum; have h3 := h.u1; have h4 := h.b1
    omega
theorem KTry.mul_lt (h : Kn u d a b) (t : KTry u d a b q r) (k : q < 4294967296) : 0 ≤ q * b ∧ q * b < 18446744073709551616 := by
  refine ⟨Int.mul_nonneg t.q0 h.b0, ?_⟩
  have h1 : q * b ≤ 4294967295 * 4294967295 := Int.mul_le_mul (by omega) (by have := h.b1; omega) h.b0 (by omega)
  omega
theorem KTry.out (h : Kn u d a b) (t : KTry u d a b q r) (k : 4294967296 ≤ r) : q = kq u d a b := by
  have h1 := t.small h k
  refine t.done h ?_
  have h2 := (t.mul_lt h h1).2
  have h3 := h.d0
  omega
theorem Kn.rest (h : Kn u d a b) : IntKind.u64.wrap (IntKind.u64.wrap (IntKind.u64.wrap (u * 4294967296) + d) - IntKind.u64.wrap (kq u d a b * (a * 4294967296 + b))) = kr u d a b := by
  have h1 : u * 4294967296 + d - kq u d a b * (a * 4294967296 + b) = kr u d a b := by
    unfold kq kr
    rw [Int.emod_def, Int.mul_comm (a * 4294967296 + b)]
  have h2 : 0 ≤ kr u d a b := Int.emod_nonneg _ (by have := h.y0; omega)
  have h3 : kr u d a b < a * 4294967296 + b := Int.emod_lt_of_pos _ h.y0
  have h4 := h.a1; have h5 := h.b1
  simp only [IntKind.wrap_u64]
  generalize kr u d a b = k at *
  generalize kq u d a b * (a * 4294967296 + b) = p at *
  omega
theorem Kn.next (h : Kn u d a b) (e : Int) (e0 : 0 ≤ e ∧ e < 4294967296) : Kn (kr u d a b) e a b :=
  ⟨h.a0, h.a1, h.b0, h.b1, Int.emod_nonneg _ (by have := h.y0; omega), Int.emod_lt_of_pos _ h.y0, e0.1, e0.2⟩
/-- two digits, one behind the other. -/
theorem Kn.two (h : Kn u d a b) (e : Int) (e0 : 0 ≤ e ∧ e < 4294967296) :
    kq u d a b * 4294967296 + kq (kr u d a b) e a b = (u * 18446744073709551616 + d * 4294967296 + e) / (a * 4294967296 + b) ∧ kr (kr u d a b) e a b = (u * 18446744073709551616 + d * 4294967296 + e) % (a * 4294967296 + b) := by
  have k := h.next e e0
  have y0 := h.y0
  have s1 : u * 4294967296 + d = (a * 4294967296 + b) * kq u d a b + kr u d a b := (Int.mul_ediv_add_emod _ _).symm
  have s2 : kr u d a b * 4294967296 + e = (a * 4294967296 + b) * kq (kr u d a b) e a b + kr (kr u d a b) e a b := (Int.mul_ediv_add_emod _ _).symm
  have r0 : 0 ≤ kr (kr u d a b) e a b := Int.emod_nonneg _ (by omega)
  have r1 : kr (kr u d a b) e a b < a * 4294967296 + b := Int.emod_lt_of_pos _ y0
  generalize kr (kr u d a b) e a b = R at *
  generalize kq (kr u d a b) e a b = Q2 at *
  generalize kr u d a b = R1 at *
  generalize kq u d a b = Q1 at *
  generalize a * 4294967296 + b = y at *
  have t : u * 18446744073709551616 + d * 4294967296 + e = R + y * (Q1 * 4294967296 + Q2) := by
    rw [Int.mul_add, ← Int.mul_assoc]
    generalize y * Q1 = p at *
    generalize y * Q2 = p2 at *
    omega
  rw [t]
  constructor
  · rw [Int.add_mul_ediv_left _ _ (by omega), Int.ediv_eq_zero_of_lt r0 r1]
    omega
  · rw [Int.add_mul_emod_self_left, Int.emod_eq_of_lt r0 r1]
/-- y's length, and what it is shifted by. -/
structure Lz (y s : Int) : Prop where
  s0 : 0 ≤ s
  s1 : s < 64
  lo : 9223372036854775808 ≤ y * 2 ^ s.toNat
  hi : y * 2 ^ s.toNat < 18446744073709551616
/-- what is divided, shifted as the divisor is. -/
structure Nm (hi lo y s U V Y : Int) : Prop where
  y : Y = y * 2 ^ s.toNat
  n : (hi * 18446744073709551616 + lo) * 2 ^ s.toNat = U * 18446744073709551616 + V
  u0 : 0 ≤ U
  u1 : U < Y
  v0 : 0 ≤ V
  v1 : V < 18446744073709551616
end Go.Proofs.Ytlglajaonmpljaa
namespace Go.Proofs.Ytlglajaonmpljaa
set_option linter.unusedVariables false

end Go.Proofs.Ytlglajaonmpljaa
namespace Go.Proofs.Ytlglajaonmpljaa
open Go.RowKit
set_option linter.unusedVariables false

def RLz (y : Int) (w : World) (e : Ending) (w' : World) : Prop := ∃ s : Int, e = .returned (.int .i64 s) ∧ Lz y s ∧ w = w'
def RDiv (q r : Int) (w : World) (e : Ending) (w' : World) : Prop := e = .returned (.tuple #[.int .u64 q, .int .u64 r]) ∧ Below w.heap.size w w'
end Go.Proofs.Ytlglajaonmpljaa
namespace Go.Proofs.Ytlglajaonmpljaa
open Go.RowKit
set_option linter.unusedVariables false

def RGuess (q : Int) (w : World) (e : Ending) (w' : World) : Prop := ∃ g : Int, e = .returned (.int .u64 g) ∧ (0 ≤ g ∧ g ≤ q ∧ q ≤ g + 1 ∧ g < 18446744073709551616) ∧ Below w.heap.size w w'
def RSS (q r : Int) (w : World) (e : Ending) (w' : World) : Prop := ∃ a b c d : Int, e = .returned (.tuple #[.agg #[.int .u64 a, .int .u64 b], .agg #[.int .u64 c, .int .u64 d]]) ∧ IsS a b q ∧ IsS c d r ∧ Below w.heap.size w w'
end Go.Proofs.Ytlglajaonmpljaa
namespace Go.Proofs.Ytlglajaonmpljaa
open Go.RowKit
set_option linter.unusedVariables false

end Go.Proofs.Ytlglajaonmpljaa

namespace Go.Proofs.Ytlglajaonmpljaa
open Go.RowKit
set_option linter.unusedVariables false

def DivCut (w : World) (Q R : Int) (a b c d : Value) (s7 s8 : Value) (wx : World) : Prop :=
  ∃ (g7 g8 : Nat) (qh ql rh rl : Int), s7 = .pointer (some ⟨g7, 0, none⟩) ∧ s8 = .pointer (some ⟨g8, 0, none⟩) ∧ w.heap.size + 4 ≤ g7 ∧ w.heap.size + 4 ≤ g8 ∧ IsS qh ql Q ∧ IsS rh rl R ∧
    Box wx g7 (.int .u64 qh) (.int .u64 ql) ∧ Box wx g8 (.int .u64 rh) (.int .u64 rl) ∧ Box wx w.heap.size a b ∧ Box wx (w.heap.size + 1) c d ∧ Box wx (w.heap.size + 1 + 1) (.int .i64 0) (.int .u64 0) ∧ Box wx (w.heap.size + 1 + 1 + 1) (.int .i64 0) (.int .u64 0) ∧ Below w.heap.size w wx
def Div7 (w : World) (x y : Int) (wx : World) : Prop := ∃ c1 c2 e1 e2 : Int, IsW c1 c2 x ∧ IsW e1 e2 y ∧ Box wx (w.heap.size + 1 + 1) (.int .i64 c1) (.int .u64 c2) ∧ Box wx (w.heap.size + 1 + 1 + 1) (.int .i64 e1) (.int .u64 e2) ∧ Below w.heap.size w wx
def RDV (n m : Int) (w : World) (e : Ending) (w' : World) : Prop := ∃ a b c d : Int, e = .returned (.tuple #[.agg #[.int .i64 a, .int .u64 b], .agg #[.int .i64 c, .int .u64 d], .bool true]) ∧ IsW a b (n / m) ∧ IsW c d (n % m) ∧ Below w.heap.size w w'
end Go.Proofs.Ytlglajaonmpljaa

namespace Go.Proofs.Ytlglajaonmpljaa
open Go.RowKit
set_option linter.unusedVariables false

/-- four cells of a block, and that they may be written. -/
def Box4 (w : World) (b : Nat) (u v x y : Value) : Prop := (w.cell? ⟨b, 0, none⟩ = some u ∧ w.cell? ⟨b, 1, none⟩ = some v ∧ w.cell? ⟨b, 2, none⟩ = some x ∧ w.cell? ⟨b, 3, none⟩ = some y) ∧ (w.frozen? ⟨b, 0, none⟩ = false ∧ w.frozen? ⟨b, 1, none⟩ = false ∧ w.frozen? ⟨b, 2, none⟩ = false ∧ w.frozen? ⟨b, 3, none⟩ = false)
section
variable {w W w1 : World} {b g : Nat} {u v x y q : Value}
theorem Box4.lt (h : Box4 w b u v x y) : b < w.heap.size := World.block_lt_of_cell? w _ h.1.1
theorem Box4.call (h : Box4 W b u v x y) (hb : Below W.heap.size W w1) : Box4 w1 b u v x y := by
  have hl := h.lt
  obtain ⟨⟨h1, h2, h3, h4⟩, k1, k2, k3, k4⟩ := h
  exact ⟨⟨(hb.cell (p := ⟨b, 0, none⟩) hl).trans h1, (hb.cell (p := ⟨b, 1, none⟩) hl).trans h2, (hb.cell (p := ⟨b, 2, none⟩) hl).trans h3, (hb.cell (p := ⟨b, 3, none⟩) hl).trans h4⟩, (hb.frozen (p := ⟨b, 0, none⟩) hl).trans k1, (hb.frozen (p := ⟨b, 1, none⟩) hl).trans k2, (hb.frozen (p := ⟨b, 2, none⟩) hl).trans k3, (hb.frozen (p := ⟨b, 3, none⟩) hl).trans k4⟩
theorem Box4.alloc (h : Box4 W b u v x y) (o : Obj) : Box4 (W.alloc o) b u v x y := h.call ((Below.refl _ _).alloc (Nat.le_refl _) o)
theorem Box4.drew (h : Box4 W b u v x y) : Box4 W.drew b u v x y := h.call ((Below.refl _ _).drew)
theorem Box4.new {t : TypeId} (e : b = W.heap.size) : Box4 (W.alloc (.cells #[u, v, x, y] t)) b u v x y := by
  subst e
  unfold Box4
  go_simp
theorem Box4.set (h : Box4 W b u v x y) (o : Nat) (ne : g ≠ b) : Box4 (W.setCell ⟨g, o, none⟩ q) b u v x y := by
  obtain ⟨⟨h1, h2, h3, h4⟩, k1, k2, k3, k4⟩ := h
  have n0 : ∀ i, (⟨g, o, none⟩ : Addr) ≠ ⟨b, i, none⟩ := fun i e => ne (congrArg Addr.block e)
  refine ⟨⟨?_, ?_, ?_, ?_⟩, ?_, ?_, ?_, ?_⟩
  · rw [World.cell?_setCell_other _ _ _ _ (n0 0)]; exact h1
  · rw [World.cell?_setCell_other _ _ _ _ (n0 1)]; exact h2
  · rw [World.cell?_setCell_other _ _ _ _ (n0 2)]; exact h3
  · rw [World.cell?_setCell_other _ _ _ _ (n0 3)]; exact h4
  · go_simp
  · go_simp
  · go_simp
  · go_simp
end
section
variable {W : World} {b : Nat} {u v x y u' v' : Value}
end
/-- the whole part of n over d; 0, where d is not above 0. -/
def flo (n d : Int) : Int := if 0 < d then n / d else 0
end Go.Proofs.Ytlglajaonmpljaa
namespace Go.Proofs.Ytlglajaonmpljaa
open Go.RowKit
set_option linter.unusedVariables false
attribute [local go_sem ↓] Go.wp_at_zero Go.wp_at_succ

theorem Box.both {w : World} {b : Nat} {u v : Value} (h : Box w b u v) : w.cell? ⟨b, 0, none⟩ = some u ∧ w.cell? ⟨b, 1, none⟩ = some v := h.1
/-- the whole number nearest to n over d, of a half the upper one. -/
def nea (n d : Int) : Int := if n % d < d - n % d then n / d else n / d + 1
end Go.Proofs.Ytlglajaonmpljaa
namespace Go.Proofs.Ytlglajaonmpljaa
open Go.RowKit
set_option linter.unusedVariables false
attribute [local go_sem ↓] Go.wp_at_zero Go.wp_at_succ

/-- a fraction comes back. -/
def RF (n d : Int) (w : World) (e : Ending) (w' : World) : Prop := ∃ a b c f, e = .returned (.agg #[.int .i64 a, .int .u64 b, .int .i64 c, .int .u64 f]) ∧ IsW a b n ∧ IsW c f d ∧ Below w.heap.size w w'
/-- a fraction, and whether there is one. -/
def RFB (is : Bool) (n d : Int) (w : World) (e : Ending) (w' : World) : Prop := ∃ a b c f, e = .returned (.tuple #[.agg #[.int .i64 a, .int .u64 b, .int .i64 c, .int .u64 f], .bool is]) ∧ IsW a b n ∧ IsW c f d ∧ Below w.heap.size w w'
/-- what Make answers. -/
def mkIs (n d : Int) : Bool := decide (0 < d) || (decide (d < 0) && fits (-n) && fits (-d))
/-- what Make answers, of a d below 0. -/
def RFM (n d : Int) (w : World) (e : Ending) (w' : World) : Prop := RFB (fits (-n) && fits (-d)) (if (fits (-n) && fits (-d)) = true then -n else 0) (if (fits (-n) && fits (-d)) = true then -d else 0) w e w'
end Go.Proofs.Ytlglajaonmpljaa
namespace Go.Proofs.Ytlglajaonmpljaa
open Go.RowKit
set_option linter.unusedVariables false
attribute [local go_sem ↓] Go.wp_at_zero Go.wp_at_succ

theorem Box4.cs {w : World} {b : Nat} {u v x y : Value} (h : Box4 w b u v x y) : w.cell? ⟨b, 0, none⟩ = some u ∧ w.cell? ⟨b, 1, none⟩ = some v ∧ w.cell? ⟨b, 2, none⟩ = some x ∧ w.cell? ⟨b, 3, none⟩ = some y := h.1
/-- the Int n comes back, and true. -/
def RWT (n : Int) (w : World) (e : Ending) (w' : World) : Prop := ∃ H L, e = .returned (.tuple #[.agg #[.int .i64 H, .int .u64 L], .bool true]) ∧ IsW H L n ∧ Below w.heap.size w w'
/-- what Snap tells. -/
def sna (n d : Int) (k : Nat) : Int := if k = 0 then nea n d else nea (n / d) (2 ^ k)
end Go.Proofs.Ytlglajaonmpljaa
namespace Go.Proofs.Ytlglajaonmpljaa
open Go.RowKit
set_option linter.unusedVariables false
attribute [local go_sem ↓] Go.wp_at_zero Go.wp_at_succ

/-- two rows of two Ints come back. -/
def RBoth (q0 q1 r0 r1 : Int) (w : World) (e : Ending) (w' : World) : Prop := ∃ a b c d x y z t, e = .returned (.tuple #[.agg #[.int .i64 a, .int .u64 b, .int .i64 c, .int .u64 d], .agg #[.int .i64 x, .int .u64 y, .int .i64 z, .int .u64 t]]) ∧ IsW a b q0 ∧ IsW c d q1 ∧ IsW x y r0 ∧ IsW z t r1 ∧ Below w.heap.size w w'
end Go.Proofs.Ytlglajaonmpljaa
namespace Go.Proofs.Ytlglajaonmpljaa
open Go.RowKit
set_option linter.unusedVariables false
attribute [local go_sem ↓] Go.wp_at_zero Go.wp_at_succ

/-- what Cmp keeps from round to round: g, g': the two rows' blocks; C: what is to be told; k: what bounds the rounds. -/
def CmpR (w : World) (g g' : Nat) (C : Int) (k : Nat) (W : World) : Prop := ∃ a0 b0 n0 a1 b1 n1 c0 e0 d0 c1 e1 d1 : Int,
  Box4 W g (.int .i64 a0) (.int .u64 b0) (.int .i64 a1) (.int .u64 b1) ∧ Box4 W g' (.int .i64 c0) (.int .u64 e0) (.int .i64 c1) (.int .u64 e1) ∧ (IsW a0 b0 n0 ∧ IsW a1 b1 n1 ∧ IsW c0 e0 d0 ∧ IsW c1 e1 d1) ∧ (0 < d0 ∧ 0 < d1 ∧ d0 + d1 ≤ k) ∧ icmp (n0 * d1) (n1 * d0) = C ∧ Below w.heap.size w W
/-- two rows in new blocks. -/
def CmpC (w : World) (C : Int) (k : Nat) (s t : Value) (W : World) : Prop := ∃ g g', s = .pointer (some ⟨g, 0, none⟩) ∧ t = .pointer (some ⟨g', 0, none⟩) ∧ g ≠ g' ∧ w.heap.size < g ∧ w.heap.size < g' ∧ CmpR w g g' C k W
/-- what Cmp tells. -/
def cmpv (n0 d0 n1 d1 : Int) : Int := if 0 < d0 ∧ 0 < d1 then icmp (n0 * d1) (n1 * d0) else 0
end Go.Proofs.Ytlglajaonmpljaa
namespace Go.Proofs.Ytlglajaonmpljaa
open Go.RowKit
set_option linter.unusedVariables false
set_option linter.unusedSimpArgs false
attribute [local go_sem ↓] Go.wp_at_zero Go.wp_at_succ

/-- four Ints' halves compared. -/
def eqF (a b c d a' b' c' d' : Int) : Bool := eqW a b a' b' && eqW c d c' d'
/-- blocks of four cells and of two that the walk holds on to. -/
structure AlW (w : World) (g g' : Nat) (a b c d s t : Int) (W : World) : Prop where
  f : Box4 W g (.int .i64 a) (.int .u64 b) (.int .i64 c) (.int .u64 d)
  s : Box W g' (.int .i64 s) (.int .u64 t)
  below : Below w.heap.size w W
section
variable {w W w1 : World} {g g' : Nat} {a b c d s t : Int}
theorem AlW.call (h : AlW w g g' a b c d s t W) (hb : Below W.heap.size W w1) : AlW w g g' a b c d s t w1 := ⟨h.f.call hb, h.s.call hb, below_call h.below hb⟩
theorem AlW.k (h : AlW w g g' a b c d s t W) : (W.cell? ⟨g, 0, none⟩ = some (.int .i64 a) ∧ W.cell? ⟨g, 1, none⟩ = some (.int .u64 b) ∧ W.cell? ⟨g, 2, none⟩ = some (.int .i64 c) ∧ W.cell? ⟨g, 3, none⟩ = some (.int .u64 d)) ∧ (W.cell? ⟨g', 0, none⟩ = some (.int .i64 s) ∧ W.cell? ⟨g', 1, none⟩ = some (.int .u64 t)) := ⟨h.f.1, h.s.1⟩
end
end Go.Proofs.Ytlglajaonmpljaa

namespace Go.Proofs.Ytlglajaonmpljaa
open Go.RowKit
set_option linter.unusedVariables false
set_option linter.unusedSimpArgs false
/-! Ints -/
def hiW (n : Int) : Int := n / 18446744073709551616
def loW (n : Int) : Int := n % 18446744073709551616
abbrev iw (n : Int) : AW := .agg [.c (.int .i64 (hiW n)), .c (.int .u64 (loW n))]
abbrev wv (n : Int) : AV := .w (iw n)
theorem fits_small {n : Int} (h0 : -9223372036854775808 ≤ n) (h1 : n < 9223372036854775808) : fits n = true := by unfold fits; rw [decide_eq_true_eq]; omega
/-- 'z, and true', or zero, and false. -/
abbrev wf (z : Int) : AV := .tup [iw (if fits z then z else 0), .one (.c (.bool (fits z)))]
/-! numbers of the reference package -/
theorem IsN.frame {w w' : World} {neg : Bool} {A : Option Addr} {l c : Nat} {n : Int} (h : IsN w neg A l c n) (hf : ∀ a, A = some a → 0 < l → w'.heap[a.block]? = w.heap[a.block]?) : IsN w' neg A l c n := by
  obtain ⟨ds, ⟨h1, h2, h3, h4⟩, hS⟩ := h
  refine ⟨ds, ⟨h1, h2, h3, fun hp => ?_⟩, hS⟩
  obtain ⟨g, rfl, hg, hc⟩ := h4 hp
  have e := hf _ rfl hp
  refine ⟨g, rfl, ?_, fun j hj => ?_⟩
  · have h5 : w.heap[g]? = some w.heap[g] := Array.getElem?_eq_getElem hg
    have h6 : w'.heap[g]? = some w.heap[g] := e.trans h5
    exact (Array.getElem?_eq_some_iff.1 h6).1
  · have e' : w'.heap[(⟨g, j, none⟩ : Addr).block]? = w.heap[(⟨g, j, none⟩ : Addr).block]? := e
    rw [World.cell?_of_block (w := w) e']; exact hc j hj
def NumP (n : Int) : SP where
  holds w v := ∃ A l c, v = .slice A l c ∧ IsN w (decide (n < 0)) A l c n
  foot w v b := ∃ A l c a, v = .slice A l c ∧ 0 < l ∧ A = some a ∧ a.block = b
  frame w w' v := by
    rintro ⟨A, l, c, rfl, h⟩ hf
    exact ⟨⟨A, l, c, rfl, h.frame fun a ha hl => hf a.block ⟨A, l, c, a, rfl, hl, ha, rfl⟩⟩, fun b hb => hb⟩
  old w v b := by
    rintro ⟨A, l, c, rfl, ds, ⟨h1, h2, h3, h4⟩, hS⟩ ⟨A', l', c', a, e, hl, ha, hb⟩
    cases e
    obtain ⟨g, rfl, hg, hc⟩ := h4 hl
    cases ha
    subst hb
    exact hg
  cell w v := by rintro ⟨A, l, c, rfl, h⟩; rfl
abbrev ni (n : Int) : AW := .agg [.c (.bool (decide (n < 0))), .p (NumP n)]
abbrev nv (n : Int) : AV := .w (ni n)
theorem ni_of {U : Nat → Prop} {ρ : Nat → Nat} {w : World} {x : Bool} {A : Option Addr} {l c : Nat} {n : Int} (h : IsN w x A l c n) (hU : ∀ a, A = some a → 0 < l → U a.block) : RpW U ρ w (ni n) (.agg #[.bool x, .slice A l c]) := by
  obtain rfl := h.neg_iff
  refine ⟨[.bool (decide (n < 0)), .slice A l c], rfl, rfl, fun i y v hy hv => ?_⟩
  match i with
  | 0 => simp at hy hv; subst hy; subst hv; exact ⟨rfl, rfl⟩
  | 1 =>
    simp at hy hv
    subst hy; subst hv
    refine ⟨⟨A, l, c, rfl, h⟩, ?_⟩
    rintro b ⟨A', l', c', a, e, hl, ha, hb⟩
    cases e
    subst hb
    exact hU a ha hl
  | i + 2 => simp at hy
theorem ni_is {U : Nat → Prop} {ρ : Nat → Nat} {w : World} {v : Value} {n : Int} (h : RpW U ρ w (ni n) v) : ∃ A l c, v = .agg #[.bool (decide (n < 0)), .slice A l c] ∧ IsN w (decide (n < 0)) A l c n ∧ ∀ a, A = some a → 0 < l → U a.block := by
  obtain ⟨vs, rfl, hl, hv⟩ := h
  match vs, hl with
  | [x, y], _ =>
    have h0 := hv 0 _ x rfl rfl
    have h1 := hv 1 _ y rfl rfl
    obtain ⟨rfl, _⟩ := h0
    obtain ⟨⟨A, l, c, rfl, h⟩, hf⟩ := h1
    exact ⟨A, l, c, rfl, h, fun a ha hl => hf a.block ⟨A, l, c, a, rfl, hl, ha, rfl⟩⟩
/-- n has no more than k digits. -/
def NB (k : Nat) (n : Int) : Prop := (n.natAbs : Int) < 10000 ^ k
theorem NB.len {w : World} {x : Bool} {A : Option Addr} {l c k : Nat} {n : Int} (b : NB k n) (h : IsN w x A l c n) : l ≤ k := h.len b
theorem NB.up {k j : Nat} {n : Int} (b : NB k n) (h : k ≤ j) : NB j n := by
  unfold NB at *
  have : (10000 : Int) ^ k ≤ 10000 ^ j := by
    have := Nat.pow_le_pow_right (show 0 < 10000 by decide) h
    have e1 : ((10000 : Int) ^ k) = ((10000 ^ k : Nat) : Int) := by simp
    have e2 : ((10000 : Int) ^ j) = ((10000 ^ j : Nat) : Int) := by simp
    rw [e1, e2]; omega
  omega
theorem pow10_pos (k : Nat) : (0 : Int) < 10000 ^ k := Int.pow_pos (by decide)
theorem NB.of_fits {n : Int} (h : fits n = true) : NB 10 n := by
  unfold fits at h
  rw [decide_eq_true_eq] at h
  unfold NB
  rw [ten10]
  omega
theorem NB.add {k : Nat} {n m : Int} (a : NB k n) (b : NB k m) : NB (k + 1) (n + m) := by
  unfold NB at *
  rw [Int.pow_succ]
  omega
theorem NB.neg {k : Nat} {n : Int} (a : NB k n) : NB k (-n) := by unfold NB at *; rw [Int.natAbs_neg]; exact a
theorem NB.mul {k j : Nat} {n m : Int} (a : NB k n) (b : NB j m) : NB (k + j) (n * m) := by
  unfold NB at *
  rw [Int.natAbs_mul, Int.pow_add, Int.natCast_mul]
  exact Int.mul_lt_mul' (Int.le_of_lt a) b (by omega) (pow10_pos k)
theorem NB.pow2 (k : Nat) : NB (k + 1) (2 ^ k) := by unfold NB; exact pow2_abs k
/-- a call of two numbers, or one. -/
theorem rn_ev {U : Nat → Prop} {n : Int} {w w' : World} {e : Ending} (h : RNF n w e w') (hU : ∀ b, w.heap.size ≤ b → U b) : ∃ v, e = .returned v ∧ RpV U id w' (nv n) v ∧ Below w.heap.size w w' := by
  obtain ⟨x, A, l, c, he, hN, hb, hF⟩ := h
  exact ⟨_, he, ni_of hN fun a ha _ => hU _ (hF a ha), hb⟩
theorem pcall_n2 {f : FuncId} {n m : Int} {r : AV} (cr : r.closedB = true)
    (h : ∀ (U : Nat → Prop) (W : World) (A : Option Addr) (l c : Nat) (B : Option Addr) (l' c' : Nat), IsN W (decide (n < 0)) A l c n → IsN W (decide (m < 0)) B l' c' m →
      Calls Try.prog f #[.agg #[.bool (decide (n < 0)), .slice A l c], .agg #[.bool (decide (m < 0)), .slice B l' c']] W fun e W' => ∃ v, e = .returned v ∧ RpV (fun b => U b ∨ W.heap.size ≤ b) id W' r v ∧ Below W.heap.size W W') : PCall Try.prog f [nv n, nv m] r := by
  refine ⟨fun x hx => AV.closed_of (by simp at hx; rcases hx with rfl | rfl <;> rfl), AV.closed_of cr, fun U W vs hvs => ?_⟩
  match vs, hvs with
  | [], hvs => exact absurd hvs.1 (by simp)
  | [_], hvs => exact absurd hvs.1 (by simp)
  | [v1, v2], hvs =>
    obtain ⟨A, l, c, rfl, k1, _⟩ := ni_is (hvs.2 0 _ _ rfl rfl)
    obtain ⟨B, l', c', rfl, k2, _⟩ := ni_is (hvs.2 1 _ _ rfl rfl)
    exact h U W A l c B l' c' k1 k2
  | _ :: _ :: _ :: _, hvs => exact absurd hvs.1 (by simp)
theorem p_rAdd {n m : Int} (a : NB 900 n) (b : NB 900 m) : PCall Try.prog 76 [nv n, nv m] (nv (n + m)) :=
  pcall_n2 rfl fun U W A l c B l' c' h k => (rAdd_new _ _ A B l c l' c' n m W h k (a.len h) (b.len k)).mono fun e w' h => rn_ev h fun b hb => .inr hb
theorem p_rMul {n m : Int} (a : NB 400 n) (b : NB 400 m) : PCall Try.prog 51 [nv n, nv m] (nv (n * m)) :=
  pcall_n2 rfl fun U W A l c B l' c' h k => (rMul_new _ _ A B l c l' c' n m W h k (a.len h) (b.len k)).mono fun e w' h => rn_ev h fun b hb => .inr hb
theorem p_rCmp {n m : Int} (a : NB 1000 n) (b : NB 1000 m) : PCall Try.prog 50 [nv n, nv m] (vI (icmp n m)) :=
  pcall_n2 rfl fun U W A l c B l' c' h k => (rCmp_any _ _ A B l c l' c' n m W h k (a.len h) (b.len k)).mono fun e w' ⟨he, hb⟩ => ⟨_, he, ⟨rfl, rfl⟩, hb⟩
theorem p_rOf {n : Int} (h0 : -9223372036854775808 ≤ n) (h1 : n < 9223372036854775808) : PCall Try.prog 49 [vI n] (nv n) :=
  pcall_vals [.int .i64 n] rfl rfl rfl fun W => (rOf_new n W h0 h1).mono fun e w' ⟨x, A, l, c, he, hN, hb, hF⟩ => ⟨_, he, fun U hU => ni_of hN fun a ha _ => hU _ (hF a ha), hb⟩
theorem p_rPower {k : Nat} (hk : k ≤ 800) : PCall Try.prog 66 [vI k] (nv (2 ^ k)) :=
  pcall_vals [.int .i64 k] rfl rfl rfl fun W => (rPower_new k W hk).mono fun e w' ⟨x, A, l, c, he, hN, hb, hF⟩ => ⟨_, he, fun U hU => ni_of hN fun a ha _ => hU _ (hF a ha), hb⟩
theorem pcall_n1 {f : FuncId} {n : Int} {r : AV} (cr : r.closedB = true)
    (h : ∀ (U : Nat → Prop) (W : World) (A : Option Addr) (l c : Nat), IsN W (decide (n < 0)) A l c n → (∀ a, A = some a → 0 < l → U a.block) →
      Calls Try.prog f #[.agg #[.bool (decide (n < 0)), .slice A l c]] W fun e W' => ∃ v, e = .returned v ∧ RpV (fun b => U b ∨ W.heap.size ≤ b) id W' r v ∧ Below W.heap.size W W') : PCall Try.prog f [nv n] r := by
  refine ⟨fun x hx => AV.closed_of (by simp at hx; subst hx; rfl), AV.closed_of cr, fun U W vs hvs => ?_⟩
  match vs, hvs with
  | [], hvs => exact absurd hvs.1 (by simp)
  | [v1], hvs =>
    obtain ⟨A, l, c, rfl, k1, hf⟩ := ni_is (hvs.2 0 _ _ rfl rfl)
    exact h U W A l c k1 hf
  | _ :: _ :: _, hvs => exact absurd hvs.1 (by simp)
theorem p_rNeg {n : Int} (a : NB 1000 n) : PCall Try.prog 67 [nv n] (nv (-n)) :=
  pcall_n1 rfl fun U W A l c h hf => (rNeg_same _ A l c n W h (a.len h)).mono fun e w' ⟨x, l', he, hN, hle, hb⟩ => ⟨_, he, ni_of hN fun a ha hl => .inl (hf a ha (by omega)), hb⟩
end Go.Proofs.Ytlglajaonmpljaa

namespace Go.Proofs.Ytlglajaonmpljaa
open Go.RowKit
set_option linter.unusedVariables false
set_option linter.unusedSimpArgs false
abbrev fi (n d : Int) : AW := .agg [.c (.int .i64 (hiW n)), .c (.int .u64 (loW n)), .c (.int .i64 (hiW d)), .c (.int .u64 (loW d))]
abbrev fv (n d : Int) : AV := .w (fi n d)
abbrev fx (n d : Int) : Value := .agg #[.int .i64 (hiW n), .int .u64 (loW n), .int .i64 (hiW d), .int .u64 (loW d)]
abbrev wx (n : Int) : Value := .agg #[.int .i64 (hiW n), .int .u64 (loW n)]
/-- a fraction of the reference package. -/
abbrev rfi (n d : Int) : AW := .agg [.c (.bool (decide (n < 0))), .p (NumP n), .c (.bool (decide (d < 0))), .p (NumP d)]
abbrev rfv (n d : Int) : AV := .w (rfi n d)
end Go.Proofs.Ytlglajaonmpljaa

namespace Go.Proofs.Ytlglajaonmpljaa
open Go.RowKit
set_option linter.unusedVariables false

/-- r is the rung nearest to k. -/
def IsR (k : Int) (r : Nat) : Prop := r ≤ 28 ∧ ((k < 0 ∧ r = 0) ∨ (28 < k ∧ r = 28) ∨ (r : Int) = k)
theorem isR_ex (k : Int) : ∃ r, IsR k r := by
  by_cases h : k < 0
  · exact ⟨0, by omega, .inl ⟨h, rfl⟩⟩
  · by_cases h' : 28 < k
    · exact ⟨28, by omega, .inr (.inl ⟨h', rfl⟩)⟩
    · exact ⟨k.toNat, by omega, .inr (.inr (by omega))⟩
theorem rv_int {a b : Int} {w w' : World} (e : a = b) (h : Below w.heap.size w w') : RV (.int .i64 b) w (.returned (.int .i64 a)) w' := ⟨by rw [e], h⟩
theorem rv_bool {a b : Bool} {w w' : World} (e : a = b) (h : Below w.heap.size w w') : RV (.bool b) w (.returned (.bool a)) w' := ⟨by rw [e], h⟩
set_option maxHeartbeats 400000 in
theorem nearestRung_any (k : Int) (r : Nat) (w : World) (h : IsR k r) : Calls Try.prog 52 #[.int .i64 k] w (RV (.int .i64 r) w) := by
  have HI := Lib.hid h
  clear h
  go_enter Try.func52, Try.ntmps52
  go_wp2
  all_goals
    go_ret
    refine rv_int ?_ (Below.refl _ _)
    have h1 := HI.out
    unfold IsR at h1
    omega
theorem wrap64_mid (n : Int) (h : -9223372036854775808 ≤ n ∧ n ≤ 9223372036854775807) : wrap64 n = n := by unfold wrap64; omega
theorem pow28 {r : Nat} (h : r ≤ 28) : (1 : Int) ≤ 2 ^ r ∧ (2 : Int) ^ r ≤ 268435456 := by
  have h1 := Nat.pow_le_pow_right (show 0 < 2 by decide) h
  have h2 := Nat.pow_pos (show 0 < 2 by decide) (n := r)
  have e : ((2 : Int) ^ r) = ((2 ^ r : Nat) : Int) := by simp
  rw [show (2 : Nat) ^ 28 = 268435456 by decide] at h1
  rw [e]
  omega
/-- the number of the pixels in which places with x v are. -/
def gsn (v : Int) (r : Nat) : Int := (2 * v + 2 ^ r) / (2 * 2 ^ r)
theorem gsn_zero (v : Int) : gsn v 0 = v := by unfold gsn; omega
theorem gsn_succ (v : Int) (r : Nat) : gsn v (r + 1) = v / 2 ^ (r + 1) + v / 2 ^ r % 2 := by
  unfold gsn
  have hp : (0 : Int) < 2 ^ r := Int.pow_pos (by decide)
  rw [Int.pow_succ]
  generalize (2 : Int) ^ r = P at *
  have e1 : (2 * v + P * 2) / (2 * (P * 2)) = (v + P) / (P * 2) := by
    rw [show 2 * v + P * 2 = 2 * (v + P) by omega, Int.mul_ediv_mul_of_pos _ _ (by decide)]
  rw [e1, ← Int.ediv_ediv_of_nonneg (by omega), ← Int.ediv_ediv_of_nonneg (by omega), show v + P = v + 1 * P by omega, Int.add_mul_ediv_right _ _ (by omega)]
  omega
theorem and1 (x : Int) : bits BinOp.and IntKind.i64 x 1 = x % 2 := by
  unfold bits
  have h : (BitVec.ofInt 64 x &&& BitVec.ofInt 64 1).toNat = (x % 2).toNat := by
    rw [BitVec.toNat_and, BitVec.toNat_ofInt, BitVec.toNat_ofInt, show ((1 : Int) % ((2 ^ 64 : Nat) : Int)).toNat = 1 by decide, Nat.and_one_is_mod]
    omega
  show IntKind.i64.wrap ((BitVec.ofInt 64 x &&& BitVec.ofInt 64 1).toNat : Int) = x % 2
  rw [h]
  have h2 : ((x % 2).toNat : Int) = x % 2 := by omega
  rw [h2]
  rcases (show x % 2 = 0 ∨ x % 2 = 1 by omega) with e | e <;> rw [e] <;> decide
theorem snap_in {v : Int} (r : Nat) (v0 : -9223372036854775808 ≤ v) (v1 : v < 9223372036854775808) : wrap64 (v / 2 ^ (r + 1) + v / 2 ^ r % 2) = gsn v (r + 1) := by
  rw [gsn_succ]
  refine wrap64_mid _ ?_
  have hp : (0 : Int) < 2 ^ r := Int.pow_pos (by decide)
  rw [Int.pow_succ, ← Int.ediv_ediv_of_nonneg (by omega)]
  have h1 : -9223372036854775808 ≤ v / 2 ^ r := by
    rw [Int.le_ediv_iff_mul_le hp]
    have := Int.mul_le_mul_of_nonneg_left (show (1 : Int) ≤ 2 ^ r by omega) (show (0 : Int) ≤ 9223372036854775808 by omega)
    omega
  have h2 : v / 2 ^ r ≤ 9223372036854775807 := by
    by_cases h : 0 ≤ v
    · have := Int.ediv_le_self (2 ^ r) h
      omega
    · have := Int.ediv_neg_of_neg_of_pos (show v < 0 by omega) hp
      omega
  generalize v / 2 ^ r = q at *
  omega
set_option maxHeartbeats 400000 in
theorem gSnap_zero (v k : Int) (w : World) (h : IsR k 0) : Calls Try.prog 31 #[.int .i64 v, .int .i64 k] w (RV (.int .i64 v) w) := by
  have HI := Lib.hid (fun w => nearestRung_any k 0 w h)
  clear h
  go_enter Try.func31, Try.ntmps31
  go_wp2_with (go_at_call 52; ((with_reducible refine (HI.out _).mono ?_); rintro e w1 ⟨rfl, hb⟩))
  go_ret
  exact rv_int rfl (by (repeat (first | with_reducible assumption)))
set_option maxHeartbeats 400000 in
theorem gSnap_pos (v k : Int) (r : Nat) (w : World) (h : IsR k (r + 1)) (v0 : -9223372036854775808 ≤ v) (v1 : v < 9223372036854775808) : Calls Try.prog 31 #[.int .i64 v, .int .i64 k] w (RV (.int .i64 (gsn v (r + 1))) w) := by
  have HI := Lib.hid (fun w => nearestRung_any k (r + 1) w h)
  have HS := Lib.hid (snap_in r v0 v1)
  have hr : r < 28 := by unfold IsR at h; omega
  clear h v0 v1
  go_enter Try.func31, Try.ntmps31
  go_wp2_with (go_at_call 52; ((with_reducible refine (HI.out _).mono ?_); rintro e w1 ⟨rfl, hb⟩))
  go_region
  go_wp2
  go_ret
  exact rv_int (by rw [and1]; exact HS.out) (by (repeat (first | with_reducible assumption | (with_reducible refine Below.drew ?_))))
theorem gSnap_any (v k : Int) (r : Nat) (w : World) (h : IsR k r) (v0 : -9223372036854775808 ≤ v) (v1 : v < 9223372036854775808) : Calls Try.prog 31 #[.int .i64 v, .int .i64 k] w (RV (.int .i64 (gsn v r)) w) := by
  rcases r with _ | r
  · rw [gsn_zero]; exact gSnap_zero v k w h
  · exact gSnap_pos v k r w h v0 v1
theorem wrap_pow {r : Nat} (h : r ≤ 28) : wrap64 (2 ^ r) = 2 ^ r := wrap64_mid _ (by have := pow28 h; omega)
set_option maxHeartbeats 400000 in
theorem side_any (k : Int) (r : Nat) (w : World) (h : IsR k r) : Calls Try.prog 35 #[.int .i64 k] w (RV (.int .i64 (2 ^ r)) w) := by
  have HI := Lib.hid (fun w => nearestRung_any k r w h)
  have hr : r ≤ 28 := h.1
  clear h
  go_enter Try.func35, Try.ntmps35
  go_wp2_with (go_at_call 52; ((with_reducible refine (HI.out _).mono ?_); rintro e w1 ⟨rfl, hb⟩))
  go_ret
  exact rv_int (wrap_pow hr) (by (repeat (first | with_reducible assumption)))
/-- a closure over the bound m comes back. -/
def RC (m : Int) (w : World) (e : Ending) (w' : World) : Prop := ∃ b, e = .returned (.func (Fn.func 79) #[] #[.pointer (some ⟨b, 0, none⟩)]) ∧ w'.cell? ⟨b, 0, none⟩ = some (.int .i64 m) ∧ Below w.heap.size w w'
set_option maxHeartbeats 400000 in
theorem notTooFar_any (k : Int) (r : Nat) (w : World) (h : IsR k r) : Calls Try.prog 55 #[.int .i64 k] w (RC (134217728 / 2 ^ r) w) := by
  have HI := Lib.hid (fun w => nearestRung_any k r w h)
  have hr : r ≤ 28 := h.1
  clear h
  go_enter Try.func55, Try.ntmps55
  go_wp2_with (go_at_call 52; ((with_reducible refine (HI.out _).mono ?_); rintro e w1 ⟨rfl, hb⟩))
  go_ret
  exact ⟨_, rfl, by go_simp, by (repeat (first | with_reducible assumption | (with_reducible refine below_alloc ?_ _)))⟩
/-- is n from -m to m? -/
def wi (m n : Int) : Bool := decide (-m ≤ n) && decide (n ≤ m)
set_option maxHeartbeats 400000 in
theorem near_any (b : Nat) (m n : Int) (w : World) (hc : w.cell? ⟨b, 0, none⟩ = some (.int .i64 m)) (m0 : 0 ≤ m) (m1 : m ≤ 134217728) : Calls Try.prog 79 #[.int .i64 n, .pointer (some ⟨b, 0, none⟩)] w (RV (.bool (wi m n)) w) := by
  go_enter Try.func79, Try.ntmps79
  go_wp2
  · go_ret
    exact rv_bool (by unfold wi; rw [decide_eq_true (show -m ≤ n by assumption)]; rfl) (Below.refl _ _)
  · go_ret
    exact rv_bool (by unfold wi; rw [decide_eq_false (show ¬ (-m ≤ n) by omega)]; rfl) (Below.refl _ _)
/-- is the center of the pixel (x, y) not too far? -/
def inB (r : Nat) (x y : Int) : Bool := wi (134217728 / 2 ^ r) x && wi (134217728 / 2 ^ r) y
theorem far_bd (r : Nat) : (0 : Int) ≤ 134217728 / 2 ^ r ∧ (134217728 : Int) / 2 ^ r ≤ 134217728 := by
  have hp : (0 : Int) < 2 ^ r := Int.pow_pos (by decide)
  exact ⟨Int.ediv_nonneg (by decide) (by omega), Int.ediv_le_self _ (by decide)⟩
theorem wi_mul (r : Nat) (n : Int) : wi (134217728 / 2 ^ r) n = decide (-134217728 ≤ 2 ^ r * n ∧ 2 ^ r * n ≤ 134217728) := by
  have hp : (0 : Int) < 2 ^ r := Int.pow_pos (by decide)
  unfold wi
  rw [Bool.eq_iff_iff, Bool.and_eq_true, decide_eq_true_eq, decide_eq_true_eq, decide_eq_true_eq, Int.mul_comm]
  generalize (2 : Int) ^ r = P at *
  have h1 := Int.le_ediv_iff_mul_le (a := n) (b := 134217728) hp
  have h2 := Int.le_ediv_iff_mul_le (a := -n) (b := 134217728) hp
  rw [Int.neg_mul] at h2
  constructor
  · intro ⟨q1, q2⟩
    exact ⟨by have := h2.1 (by omega); omega, h1.1 q2⟩
  · intro ⟨q1, q2⟩
    exact ⟨by have := h2.2 (by omega); omega, h1.2 q2⟩
theorem inB_mul (r : Nat) (x y : Int) : inB r x y = true ↔ (-134217728 ≤ 2 ^ r * x ∧ 2 ^ r * x ≤ 134217728) ∧ (-134217728 ≤ 2 ^ r * y ∧ 2 ^ r * y ≤ 134217728) := by
  unfold inB
  rw [wi_mul, wi_mul, Bool.and_eq_true, decide_eq_true_eq, decide_eq_true_eq]
set_option maxHeartbeats 400000 in
theorem In_any (x y k : Int) (r : Nat) (w : World) (h : IsR k r) : Calls Try.prog 34 #[.agg #[.int .i64 x, .int .i64 y], .int .i64 k] w (RV (.bool (inB r x y)) w) := by
  have HI := Lib.hid (fun w => notTooFar_any k r w h)
  obtain ⟨m0, m1⟩ := far_bd r
  have HU := Lib.hid (show inB r x y = (wi (134217728 / 2 ^ r) x && wi (134217728 / 2 ^ r) y) from rfl)
  clear h
  generalize (134217728 : Int) / 2 ^ r = M at *
  have HX := Lib.hid m0
  have HY := Lib.hid m1
  clear m0 m1
  go_enter Try.func34, Try.ntmps34
  go_wp2_with (first
    | (go_at_call 55; ((with_reducible refine (HI.out _).mono ?_); rintro e w1 ⟨b, rfl, hc, hb⟩; have B_w1_0 : Box w1 (w.heap.size) (.int .i64 x) (.int .i64 y) := (by (repeat (first | (focus ((with_reducible refine Box.new ?_); simp; done)) | (with_reducible refine Box.call ?_ hb)))); obtain ⟨⟨c_w1_0, d_w1_0⟩, f_w1_0, g_w1_0⟩ := id B_w1_0))
    | (go_at_call 79; ((with_reducible refine (near_any b M x _ hc HX.out HY.out).mono ?_); rintro e w2 ⟨rfl, hb2⟩; have hc2 := (hb2.cell (p := ⟨b, 0, none⟩) (World.block_lt_of_cell? _ _ hc)).trans hc; clear hc; have B_w2_0 : Box w2 (w.heap.size) (.int .i64 x) (.int .i64 y) := (by (repeat (first | with_reducible assumption | (with_reducible refine Box.call ?_ hb2)))); obtain ⟨⟨c_w2_0, d_w2_0⟩, f_w2_0, g_w2_0⟩ := id B_w2_0))
    | (go_at_call 79; ((with_reducible refine (near_any b M y _ hc2 HX.out HY.out).mono ?_); rintro e w3 ⟨rfl, hb3⟩)))
  · go_ret
    exact rv_bool (by rw [HU.out]; simp_all) (by (repeat (first | (with_reducible exact Below.refl _ _) | (with_reducible refine below_alloc ?_ _) | (with_reducible refine below_call ?_ hb3) | (with_reducible refine below_call ?_ hb2) | (with_reducible refine below_call ?_ hb))))
  · go_ret
    exact rv_bool (by rw [HU.out]; simp_all) (by (repeat (first | (with_reducible exact Below.refl _ _) | (with_reducible refine below_alloc ?_ _) | (with_reducible refine below_call ?_ hb2) | (with_reducible refine below_call ?_ hb))))
set_option maxHeartbeats 400000 in
theorem gRight_any (k : Int) (w : World) : Calls Try.prog 45 #[.int .i64 k] w (RV (.bool (decide (0 ≤ k) && decide (k ≤ 28))) w) := by
  go_enter Try.func45, Try.ntmps45
  go_wp2
  · go_ret
    exact rv_bool (by rw [decide_eq_true (show 0 ≤ k by assumption)]; rfl) (Below.refl _ _)
  · go_ret
    exact rv_bool (by rw [decide_eq_false (show ¬ (0 ≤ k) by omega)]; rfl) (Below.refl _ _)
set_option maxHeartbeats 400000 in
theorem Compare_any (n m : Int) (w : World) : Calls Try.prog 89 #[.int .i64 n, .int .i64 m] w (RV (.int .i64 (icmp n m)) w) := by
  go_enter Try.func89, Try.ntmps89
  go_wp2
  all_goals
    go_ret
    refine rv_int ?_ (Below.refl _ _)
    unfold icmp
    repeat' split
    all_goals omega
/-- how two pixels compare. -/
def pcmp (x y x' y' : Int) : Int := if x = x' then icmp y y' else icmp x x'
end Go.Proofs.Ytlglajaonmpljaa
namespace Go.Proofs.Ytlglajaonmpljaa
open Go.RowKit
set_option linter.unusedVariables false
set_option linter.unusedSimpArgs false
attribute [local go_sem ↓] Go.wp_at_zero Go.wp_at_succ

/-- two pairs come back. -/
def RP (a b c d : Int) (w : World) (e : Ending) (w' : World) : Prop := e = .returned (.tuple #[.agg #[.int .i64 a, .int .i64 b], .agg #[.int .i64 c, .int .i64 d]]) ∧ Below w.heap.size w w'
end Go.Proofs.Ytlglajaonmpljaa
namespace Go.Proofs.Ytlglajaonmpljaa
open Go.RowKit
set_option linter.unusedVariables false
set_option linter.unusedSimpArgs false
attribute [local go_sem ↓] Go.wp_at_zero Go.wp_at_succ

/-- the Int z comes back, and s. -/
def RWB (s : Bool) (z : Int) (w : World) (e : Ending) (w' : World) : Prop := ∃ H L, e = .returned (.tuple #[.agg #[.int .i64 H, .int .u64 L], .bool s]) ∧ IsW H L z ∧ Below w.heap.size w w'
/-- a number comes back, and b. -/
def RT2 (v : Int) (b : Bool) (w : World) (e : Ending) (w' : World) : Prop := e = .returned (.tuple #[.int .i64 v, .bool b]) ∧ Below w.heap.size w w'
/-- behind the first statement: what was snapped, in a block of its own. -/
def SnC (w : World) (s : Bool) (z : Int) (u v : Value) (W : World) : Prop := ∃ g ga gb, u = .pointer (some ⟨g, 0, none⟩) ∧ v = .bool s ∧ IsW ga gb z ∧ Box W g (.int .i64 ga) (.int .u64 gb) ∧ Below w.heap.size w W
end Go.Proofs.Ytlglajaonmpljaa

namespace Go.Proofs.Ytlglajaonmpljaa
open Go.RowKit
set_option linter.unusedVariables false
set_option linter.unusedSimpArgs false
theorem p_gSnap {v k : Int} {r : Nat} (h : IsR k r) (v0 : -9223372036854775808 ≤ v) (v1 : v < 9223372036854775808) : PCall Try.prog 31 [vI v, vI k] (vI (gsn v r)) :=
  pcall_ev [.int .i64 v, .int .i64 k] (.int .i64 (gsn v r)) rfl rfl rfl rfl rfl fun W => gSnap_any v k r W h v0 v1
theorem p_side {k : Int} {r : Nat} (h : IsR k r) : PCall Try.prog 35 [vI k] (vI (2 ^ r)) :=
  pcall_ev [.int .i64 k] (.int .i64 (2 ^ r)) rfl rfl rfl rfl rfl fun W => side_any k r W h
theorem p_gRight {k : Int} : PCall Try.prog 45 [vI k] (vB (decide (0 ≤ k) && decide (k ≤ 28))) :=
  pcall_ev [.int .i64 k] (.bool (decide (0 ≤ k) && decide (k ≤ 28))) rfl rfl rfl rfl rfl fun W => gRight_any k W
theorem p_In {x y k : Int} {r : Nat} {b : Bool} (h : IsR k r) (hb : inB r x y = b) : PCall Try.prog 34 [vP x y, vI k] (vB b) := by
  subst hb
  exact pcall_ev [.agg #[.int .i64 x, .int .i64 y], .int .i64 k] (.bool (inB r x y)) rfl rfl rfl rfl rfl fun W => In_any x y k r W h
set_option maxRecDepth 100000 in
set_option maxHeartbeats 4000000 in
theorem p_gOf {x y k : Int} {r : Nat} (h : IsR k r) (x0 : -9223372036854775808 ≤ x) (x1 : x < 9223372036854775808) (y0 : -9223372036854775808 ≤ y) (y1 : y < 9223372036854775808) : PCall Try.prog 12 [vP x y, vI k] (vP (gsn x r) (gsn y r)) := by
  refine pcall_body (f := 12) Try.func12 rfl rfl rfl rfl ?_
  (repeat (first | ((with_reducible apply al_q); exact rfl) | (refine al_call2 rfl rfl rfl rfl (by (first | exact p_gSnap h x0 x1 | exact p_gSnap h y0 y1)) rfl ?_) | ((with_reducible apply al_nilS); kernel_rfl) | ((with_reducible apply awp_region_draw); kernel_rfl; kernel_rfl; exact rfl) | ((with_reducible apply awp_seq)) | ((with_reducible apply athen_normal)) | ((with_reducible apply awp_region)) | ((with_reducible apply al_nil)) | ((with_reducible apply awp_ret))))
  (first | (refine apost_ret rfl (resl_agg rfl rfl rfl resl_nil) ?_) | (refine apost_ret rfl (resl_one rfl rfl rfl resl_nil) ?_))
  exact AV.Le.refl _
set_option maxRecDepth 100000 in
set_option maxHeartbeats 4000000 in
theorem p_Center {x y k : Int} {r : Nat} (h : IsR k r) (hb : inB r x y = true) : PCall Try.prog 14 [vP x y, vI k] (vP (2 ^ r * x) (2 ^ r * y)) := by
  obtain ⟨⟨q1, q2⟩, q3, q4⟩ := (inB_mul r x y).1 hb
  have C1 := p_In h hb
  have C2 := p_side h
  clear h hb
  generalize (2 : Int) ^ r = P at *
  refine pcall_body (f := 14) Try.func14 rfl rfl rfl rfl ?_
  (repeat (first | ((with_reducible apply al_q); exact rfl) | ((with_reducible apply al_mul); (iterate 3 exact rfl); (first | exact i64_wrap (by omega) | assumption | rfl); exact rfl) | (refine al_call1 rfl rfl rfl (by (first | exact C1 | exact C2)) rfl ?_) | (refine al_call2 rfl rfl rfl rfl (by (first | exact C1 | exact C2)) rfl ?_) | ((with_reducible apply awp_seq)) | ((with_reducible apply athen_normal)) | ((with_reducible apply awp_region)) | ((with_reducible apply al_nil)) | ((with_reducible apply awp_ret)) | ((with_reducible apply awp_skip)) | ((with_reducible apply awp_cond_f); exact rfl)))
  (first | (refine apost_ret rfl (resl_agg rfl rfl rfl resl_nil) ?_) | (refine apost_ret rfl (resl_one rfl rfl rfl resl_nil) ?_))
  exact AV.Le.refl _
def snb (n d : Int) (r : Nat) : Bool := decide (0 < d) && wi (134217728 / 2 ^ r) (sna n d r)
def snv (n d : Int) (r : Nat) : Int := if snb n d r then sna n d r else 0
/-! the reference package -/
set_option maxRecDepth 100000 in
set_option maxHeartbeats 4000000 in
theorem p_Rung {k : Int} {r : Nat} (h : IsR k r) : PCall Try.prog 25 [vI k] (vI r) := by
  obtain ⟨h0, h1⟩ := h
  have hk : (r : Int) ≤ 28 := by omega
  rcases h1 with ⟨h1, rfl⟩ | ⟨h1, rfl⟩ | rfl
  all_goals
    refine pcall_body (f := 25) Try.func25 rfl rfl rfl rfl ?_
    (repeat (first | ((with_reducible apply al_q); exact rfl) | ((with_reducible apply awp_seq)) | ((with_reducible apply athen_normal)) | ((with_reducible apply awp_region)) | ((with_reducible apply al_nil)) | ((with_reducible apply awp_ret)) | ((with_reducible apply awp_skip)) | ((with_reducible apply athen_ret)) | ((with_reducible apply awp_cond_f); exact rfl) | ((with_reducible apply awp_cond_1); exact rfl; (first | assumption | exact decide_eq_true (by omega) | (simp only [Bool.not_eq_true', decide_eq_false_iff_not, decide_eq_true_eq, Bool.not_eq_false']; (first | done | omega)))) | ((with_reducible apply awp_cond_0); exact rfl; (first | assumption | exact decide_eq_false (by omega) | (simp only [Bool.not_eq_true', decide_eq_false_iff_not, decide_eq_true_eq, Bool.not_eq_false']; (first | done | omega))))))
    (first | (refine apost_ret rfl (resl_tmp rfl resl_nil) ?_))
    exact AV.Le.refl _
/-- is a number times 2^r not too far? -/
def nrB (n : Int) (r : Nat) : Bool := decide (-134217728 ≤ n * 2 ^ r) && decide (n * 2 ^ r ≤ 134217728)
theorem nrB_wi (n : Int) (r : Nat) : nrB n r = wi (134217728 / 2 ^ r) n := by
  rw [wi_mul]
  unfold nrB
  rw [Bool.eq_iff_iff, Bool.and_eq_true, decide_eq_true_eq, decide_eq_true_eq, decide_eq_true_eq, Int.mul_comm]
set_option maxRecDepth 100000 in
set_option maxHeartbeats 4000000 in
theorem p_near {n : Int} {r : Nat} {b : Bool} (hn : NB 200 n) (hr : r ≤ 28) (hb : nrB n r = b) : PCall Try.prog 48 [nv n, vI r] (vB b) := by
  have C1 : PCall Try.prog 66 [vI r] (nv (2 ^ r)) := p_rPower (by omega)
  have C2 : PCall Try.prog 66 [vI 27] (nv 134217728) := by
    have e27 : (2 : Int) ^ 27 = 134217728 := by decide
    have := p_rPower (k := 27) (by omega)
    rw [e27] at this
    exact this
  have C3 : PCall Try.prog 51 [nv n, nv (2 ^ r)] (nv (n * 2 ^ r)) := p_rMul (hn.up (by omega)) ((NB.pow2 r).up (by omega))
  have C4 : PCall Try.prog 67 [nv 134217728] (nv (-134217728)) := p_rNeg ((NB.of_fits (by decide)).up (show 10 ≤ 1000 by omega))
  have nb : NB 1000 (n * 2 ^ r) := (hn.mul (NB.pow2 r)).up (by omega)
  have C5 : PCall Try.prog 50 [nv (n * 2 ^ r), nv (-134217728)] (vI (icmp (n * 2 ^ r) (-134217728))) := p_rCmp nb ((NB.of_fits (by decide)).up (show 10 ≤ 1000 by omega))
  have C6 : PCall Try.prog 50 [nv (n * 2 ^ r), nv 134217728] (vI (icmp (n * 2 ^ r) 134217728)) := p_rCmp nb ((NB.of_fits (by decide)).up (show 10 ≤ 1000 by omega))
  have i1 := icmp_ge (a := n * 2 ^ r) (b := -134217728)
  have i2 : icmp (n * 2 ^ r) 134217728 ≤ 0 ↔ n * 2 ^ r ≤ 134217728 := by unfold icmp; repeat' split <;> omega
  unfold nrB at hb
  generalize n * 2 ^ r = z at *
  generalize icmp z (-134217728) = a1 at *
  generalize icmp z 134217728 = a2 at *
  have cs : (0 ≤ a1 ∧ a2 ≤ 0 ∧ b = true) ∨ (0 ≤ a1 ∧ ¬ a2 ≤ 0 ∧ b = false) ∨ (¬ 0 ≤ a1 ∧ b = false) := by
    rw [← hb]
    by_cases p1 : -134217728 ≤ z <;> by_cases p2 : z ≤ 134217728 <;> simp [p1, p2] <;> omega
  clear hb hn nb i1 i2
  have hr' : (r : Int) ≤ 28 := by omega
  rcases cs with ⟨p1, p2, rfl⟩ | ⟨p1, p2, rfl⟩ | ⟨p1, rfl⟩
  · refine pcall_body (f := 48) Try.func48 rfl rfl rfl rfl ?_
    (repeat (first | ((with_reducible apply al_q); exact rfl) | (refine al_call1 rfl rfl rfl (by (first | exact C1 | exact C2 | exact C3 | exact C4 | exact C5 | exact C6)) rfl ?_) | (refine al_call2 rfl rfl rfl rfl (by (first | exact C1 | exact C2 | exact C3 | exact C4 | exact C5 | exact C6)) rfl ?_) | ((with_reducible apply al_guard_b (c := true)); exact rfl; exact rfl; (first | assumption | exact decide_eq_true (by omega) | (simp only [Bool.not_eq_true', decide_eq_false_iff_not, decide_eq_true_eq, Bool.not_eq_false']; (first | done | omega)))) | ((with_reducible apply al_nilS); kernel_rfl) | ((with_reducible apply awp_region_draw); kernel_rfl; kernel_rfl; exact rfl) | ((with_reducible apply awp_seq)) | ((with_reducible apply athen_normal)) | ((with_reducible apply awp_region)) | ((with_reducible apply al_nil)) | ((with_reducible apply awp_ret))))
    (first | (refine apost_ret rfl (resl_tmp rfl resl_nil) ?_))
    exact AV.Le.of_eq (by rw [decide_eq_true p2]; rfl)
  · refine pcall_body (f := 48) Try.func48 rfl rfl rfl rfl ?_
    (repeat (first | ((with_reducible apply al_q); exact rfl) | (refine al_call1 rfl rfl rfl (by (first | exact C1 | exact C2 | exact C3 | exact C4 | exact C5 | exact C6)) rfl ?_) | (refine al_call2 rfl rfl rfl rfl (by (first | exact C1 | exact C2 | exact C3 | exact C4 | exact C5 | exact C6)) rfl ?_) | ((with_reducible apply al_guard_b (c := true)); exact rfl; exact rfl; (first | assumption | exact decide_eq_true (by omega) | (simp only [Bool.not_eq_true', decide_eq_false_iff_not, decide_eq_true_eq, Bool.not_eq_false']; (first | done | omega)))) | ((with_reducible apply al_nilS); kernel_rfl) | ((with_reducible apply awp_region_draw); kernel_rfl; kernel_rfl; exact rfl) | ((with_reducible apply awp_seq)) | ((with_reducible apply athen_normal)) | ((with_reducible apply awp_region)) | ((with_reducible apply al_nil)) | ((with_reducible apply awp_ret))))
    (first | (refine apost_ret rfl (resl_tmp rfl resl_nil) ?_))
    exact AV.Le.of_eq (by rw [decide_eq_false p2]; rfl)
  · refine pcall_body (f := 48) Try.func48 rfl rfl rfl rfl ?_
    (repeat (first | ((with_reducible apply al_q); exact rfl) | (refine al_call1 rfl rfl rfl (by (first | exact C1 | exact C2 | exact C3 | exact C4 | exact C5 | exact C6)) rfl ?_) | (refine al_call2 rfl rfl rfl rfl (by (first | exact C1 | exact C2 | exact C3 | exact C4 | exact C5 | exact C6)) rfl ?_) | ((with_reducible apply al_guard_b (c := false)); exact rfl; exact rfl; (first | assumption | exact decide_eq_false (by omega) | (simp only [Bool.not_eq_true', decide_eq_false_iff_not, decide_eq_true_eq, Bool.not_eq_false']; (first | done | omega)))) | ((with_reducible apply al_nilS); kernel_rfl) | ((with_reducible apply awp_region_draw); kernel_rfl; kernel_rfl; exact rfl) | ((with_reducible apply awp_seq)) | ((with_reducible apply athen_normal)) | ((with_reducible apply awp_region)) | ((with_reducible apply al_nil)) | ((with_reducible apply awp_ret))))
    (first | (refine apost_ret rfl (resl_tmp rfl resl_nil) ?_))
    exact AV.Le.refl _
set_option maxRecDepth 100000 in
set_option maxHeartbeats 4000000 in
theorem p_r3In {x y k : Int} {r : Nat} {b : Bool} (h : IsR k r) (x0 : -9223372036854775808 ≤ x) (x1 : x < 9223372036854775808) (y0 : -9223372036854775808 ≤ y) (y1 : y < 9223372036854775808) (hb : inB r x y = b) : PCall Try.prog 26 [vP x y, vI k] (vB b) := by
  have C1 := p_Rung h
  have C2 := p_rOf x0 x1
  have C3 := p_rOf y0 y1
  have n1 : NB 200 x := (NB.of_fits (fits_small x0 x1)).up (by omega)
  have n2 : NB 200 y := (NB.of_fits (fits_small y0 y1)).up (by omega)
  have C4 := p_near n1 h.1 rfl
  have C5 := p_near n2 h.1 rfl
  rw [nrB_wi] at C4 C5
  unfold inB at hb
  clear h n1 n2
  cases q1 : wi (134217728 / 2 ^ r) x <;> cases q2 : wi (134217728 / 2 ^ r) y <;> rw [q1] at C4 <;> rw [q2] at C5 <;> rw [q1, q2] at hb <;> subst hb <;> clear q1 q2
  all_goals
    refine pcall_body (f := 26) Try.func26 rfl rfl rfl rfl ?_
    (repeat (first | ((with_reducible apply al_q); exact rfl) | (refine al_call1 rfl rfl rfl (by (first | exact C1 | exact C2 | exact C3 | exact C4 | exact C5)) rfl ?_) | (refine al_call2 rfl rfl rfl rfl (by (first | exact C1 | exact C2 | exact C3 | exact C4 | exact C5)) rfl ?_) | ((with_reducible apply awp_seq)) | ((with_reducible apply athen_normal)) | ((with_reducible apply awp_region)) | ((with_reducible apply al_nil)) | ((with_reducible apply awp_ret))))
    (first | (refine apost_ret rfl (resl_tmp rfl resl_nil) ?_))
    exact AV.Le.refl _
end Go.Proofs.Ytlglajaonmpljaa

namespace Go.Proofs.Ytlglajaonmpljaa
set_option linter.unusedVariables false
/-- a pixel's numbers, and a value. -/
abbrev Ent := Int × Int × Int
/-- does the first one's pixel come ahead of the other's? -/
def pLt (x y z w : Int) : Bool := decide (x < z) || (decide (x = z) && decide (y < w))
def putA (l : List Ent) (x y : Int) : List Ent := l.filter fun e => pLt e.1 e.2.1 x y
def putZ (l : List Ent) (x y : Int) : List Ent := l.filter fun e => pLt x y e.1 e.2.1
def putL (l : List Ent) (x y v : Int) : List Ent := putA l x y ++ (x, y, v) :: putZ l x y
def inL (l : List Ent) (a b c d : Int) : List Ent := l.filter fun e => decide (a ≤ e.1) && decide (e.1 ≤ c) && decide (b ≤ e.2.1) && decide (e.2.1 ≤ d)
/-- where a pixel stands; -1: nowhere. -/
def getI (l : List Ent) (x y : Int) : Int := match l.findIdx? fun e => decide (e.1 = x) && decide (e.2.1 = y) with
  | some k => k
  | none => -1
/-- rising. -/
def Rises (l : List Ent) : Prop := l.Pairwise fun a b => pLt a.1 a.2.1 b.1 b.2.1 = true
/-- is the pixel there? -/
def hasE (l : List Ent) (x y : Int) : Bool := l.any fun e => decide (e.1 = x) && decide (e.2.1 = y)
/-- the value that a pixel has; 0: none. -/
def valE (l : List Ent) (x y : Int) : Int := match l.findIdx? fun e => decide (e.1 = x) && decide (e.2.1 = y) with
  | some k => (l.getD k (0, 0, 0)).2.2
  | none => 0
/-- all that were put, one behind the other. -/
def madeL (l : List Ent) : List Ent → List Ent
  | [] => l
  | e :: es => madeL (putL l e.1 e.2.1 e.2.2) es
end Go.Proofs.Ytlglajaonmpljaa

namespace Go.Proofs.Ytlglajaonmpljaa
open Go.RowKit
set_option linter.unusedVariables false
set_option linter.unusedSimpArgs false
/-- the cells of a row of pixels with a value each. -/
def enC : List Ent → List AC
  | [] => []
  | e :: l => .c (.int .i64 e.1) :: .c (.int .i64 e.2.1) :: .c (.int .i64 e.2.2) :: enC l
abbrev vEn (l : List Ent) : AV := vS 3 l.length (enC l)
abbrev mPx (x y : Int) : List AC := [.c (.int .i64 x), .c (.int .i64 y)]
abbrev vOw (k : Nat) : AV := .w (.one (.own k 0))
def G8I (l : List Ent) (x y : Int) (n : Nat) (ts : List (Nat × AV)) (ms : List (Nat × List AC)) : Prop :=
  ∃ (k : Nat) (ki : Int), k ≤ l.length ∧ n = l.length - k ∧ ki = k ∧ (∀ j e, j < k → l[j]? = some e → ¬ (e.1 = x ∧ e.2.1 = y)) ∧ ms = [(3, mPx x y)] ∧ ts = [(0, vEn l), (3, vOw 3), (5, vI ki)]
end Go.Proofs.Ytlglajaonmpljaa

namespace Go.Proofs.Ytlglajaonmpljaa
open Go.RowKit
set_option linter.unusedVariables false
set_option linter.unusedSimpArgs false
abbrev p9Row (v : Value) (l : List (Int × Int)) : HRow := ⟨47, 2, v, l.length, itC l⟩
instance iHotA_1 : RowTy Try.prog 22 47 2 16 := ⟨by kernel_rfl⟩
theorem itC_one9 (l : List (Int × Int)) (x y : Int) : itC l ++ [.c (.int .i64 x), .c (.int .i64 y)] = itC (l ++ [(x, y)]) := by rw [itC_append]; rfl
theorem p9Row_one (v : Value) (l : List (Int × Int)) (x y : Int) : p9Row v (l ++ [(x, y)]) = ⟨47, 2, v, l.length + 1, itC l ++ [.c (.int .i64 x), .c (.int .i64 y)]⟩ := by
  unfold p9Row; rw [← itC_one9, List.length_append]; rfl
/-- a set of the document's. -/
abbrev vSet9 (r : Int) (l : List Px) : AV := .w (.agg [.c (.int .i64 r), .p (SlP 2 l.length (itC l))])
def room9 (n : Int) : Int := if n < 1 then 1 else if 1024 < n then 1024 else n
def btw9 (n a b : Int) : Bool := (decide (a ≤ n) && decide (n ≤ b)) || (decide (b ≤ n) && decide (n ≤ a))
/-- where a pixel stands; -1: nowhere. -/
def numI (l : List Px) (x y : Int) : Int := match l.findIdx? fun e => decide (e.1 = x) && decide (e.2 = y) with
  | some k => k
  | none => -1
def mSet9 (r : Int) (l : List Px) : List AC := [.c (.int .i64 r), .p (SlP 2 l.length (itC l))]
def N9I (r : Int) (l : List Px) (x y : Int) (n : Nat) (ts : List (Nat × AV)) (ms : List (Nat × List AC)) : Prop :=
  ∃ (k : Nat) (ki : Int), k ≤ l.length ∧ n = l.length - k ∧ ki = k ∧ (∀ j e, j < k → l[j]? = some e → ¬ (e.1 = x ∧ e.2 = y)) ∧ ms = [(2, [.c (.int .i64 r), .p (SlP 2 l.length (itC l))]), (3, mPx x y)] ∧ ts = [(2, vOw 2), (3, vOw 3), (5, vI ki)]
/-- what holds ahead of each round of put's loop: those that were taken, and the new one, if it stands already. -/
def P9I (l : List Px) (x y : Int) (fx fy : Bool) (n : Nat) (R : Rws) (ts : List (Nat × AV)) (ms : List (Nat × List AC)) : Prop :=
  ∃ (k : Nat) (v : Value) (ki : Int) (out : List Px) (dn : Bool), k ≤ l.length ∧ n = l.length - k ∧ ki = k ∧ dn = (l.take k).any (ahP fx fy (x, y)) ∧ out = (if dn then insQ fx fy (x, y) (l.take k) else l.take k) ∧ R = row1 0 (p9Row v out) ∧ ms = [(5, mPx x y)] ∧ ts = [(0, vIt l), (2, vB fx), (3, vB fy), (5, vOw 5), (9, vC v), (10, vB dn), (11, vI ki)]
set_option maxRecDepth 100000 in
set_option maxHeartbeats 8000000 in
theorem p_put9 {l : List Px} (hl : l.length ≤ 100000) {x y : Int} {fx fy : Bool} : PCall Try.prog 33 [vIt l, vP x y, vB fx, vB fy] (vIt (insQ fx fy (x, y) l)) := by
  refine pcall_body (f := 33) Try.func33 rfl rfl rfl rfl ?_
  refine awp_rows ?_
  refine rwp_nil 0 47 2 rfl ?_
  (repeat (first | ((with_reducible apply rwp_seq)) | ((with_reducible apply rthen_normal)) | ((with_reducible apply rwp_region)) | ((with_reducible apply hs_nil)) | ((with_reducible apply rwp_block)) | ((with_reducible apply hs_c); exact rfl; (repeat (first | ((with_reducible apply al_q); exact rfl))); (with_reducible apply al_nil))))
  refine rwp_loopL 48 (P9I l x y fx fy) l.length (row1 0 (p9Row (.slice none 0 0) [])) _ [(5, mPx x y)] ⟨0, .slice none 0 0, 0, [], false, Nat.zero_le _, rfl, rfl, rfl, rfl, rfl, rfl, rfl⟩ (row1_le _ _ _) rfl ⟨rfl, rfl, rfl, rfl, rfl, rfl, rfl, trivial⟩ ⟨rfl, trivial⟩ rfl ?_
  rintro n R ts ms ⟨k, v, ki, out, dn, hk, rfl, hki, hdn, hout, rfl, rfl, rfl⟩ hok
  clear hok
  have hol : out.length ≤ k + 1 := by
    rw [hout]
    split
    · rw [(insQ_perm fx fy (x, y) _).length_eq, List.length_cons, List.length_take]; omega
    · rw [List.length_take]; omega
  by_cases hq : k < l.length
  · have q2 : ki < (l.length : Int) := by omega
    have q3 : 0 ≤ ki := by omega
    obtain ⟨a, b, g1⟩ : ∃ a b, l[k]? = some (a, b) := ⟨_, _, List.getElem?_eq_getElem hq⟩
    have E1 := itC_xy hki g1
    have C1 := p_Ahead7 (x := x) (y := y) (z := a) (w := b) (fx := fx) (fy := fy) rfl
    rw [show ahdN x y a b fx fy = ahP fx fy (x, y) (a, b) from rfl] at C1
    have ht : l.take (k + 1) = l.take k ++ [(a, b)] := by
      rw [List.take_succ_eq_append_getElem hq, (List.getElem?_eq_some_iff.1 g1).2]
    have hany : (l.take (k + 1)).any (ahP fx fy (x, y)) = (dn || ahP fx fy (x, y) (a, b)) := by rw [ht, List.any_append, hdn]; simp
    cases dn with
    | true =>
      have hout' : insQ fx fy (x, y) (l.take (k + 1)) = out ++ [(a, b)] := by rw [hout, if_pos rfl, ht, insQ_some [(a, b)] hdn.symm]
      clear hout g1 ht
      (repeat (first | ((with_reducible apply hs_nilS); kernel_rfl) | ((with_reducible apply rwp_draw (id := 6) [0,1,2,3,4,5,6,7,8,9,10,11]); kernel_rfl; kernel_rfl; exact rfl) | ((with_reducible apply rwp_seq)) | ((with_reducible apply rthen_normal)) | ((with_reducible apply rwp_region)) | ((with_reducible apply hs_nil)) | ((with_reducible apply rwp_skip)) | ((with_reducible apply rwp_block)) | ((with_reducible apply rwp_cond_1); exact rfl; (first | assumption | exact decide_eq_true (by omega) | (simp only [Bool.not_eq_true', decide_eq_false_iff_not, decide_eq_true_eq, Bool.not_eq_false']; (first | done | omega)) | exact rfl)) | ((with_reducible apply rwp_cond_0); exact rfl; (first | assumption | exact decide_eq_false (by omega) | (simp only [Bool.not_eq_true', decide_eq_false_iff_not, decide_eq_true_eq, Bool.not_eq_false']; (first | done | omega)) | exact rfl)) | ((with_reducible apply hs_c); exact rfl; (repeat (first | ((with_reducible apply al_q); exact rfl) | ((with_reducible apply al_loadPN); (iterate 5 exact rfl)) | ((with_reducible apply al_idxS); (iterate 3 exact rfl); (first | decide | omega); (first | decide | omega); (first | assumption | rfl); exact rfl) | ((with_reducible apply al_len); (iterate 3 exact rfl)) | ((with_reducible apply al_bslice); (iterate 10 exact rfl)))); (with_reducible apply al_nil))))
      refine hs_app0 0 rfl rfl rfl rfl ?q1 ?q2 rfl rfl (fun v' hv' => ?_)
      case q1 => exact le_maxLen (by show out.length + 1 ≤ 1000000; omega)
      case q2 => show (out.length + 1) * 16 ≤ 140737488355328; omega
      (repeat (first | ((with_reducible apply rthen_normal)) | ((with_reducible apply rwp_region)) | ((with_reducible apply hs_nil)) | ((with_reducible apply rblock_normal)) | ((with_reducible apply hs_c); exact rfl; (repeat (first | ((with_reducible apply al_q); exact rfl) | ((with_reducible apply al_add); (iterate 3 exact rfl); (first | exact i64_wrap (by omega) | assumption | rfl); exact rfl))); (with_reducible apply al_nil))))
      refine ⟨l.length - (k + 1), row1 0 (p9Row v' (out ++ [(a, b)])), _, [(5, mPx x y)], by omega, ⟨k + 1, v', ki + 1, out ++ [(a, b)], true, by omega, rfl, by omega, by rw [hany]; rfl, by rw [if_pos rfl, hout'], rfl, rfl, rfl⟩, ?_, rfl, ⟨rfl, rfl, rfl, rfl, rfl, rfl, rfl, trivial⟩, ⟨rfl, trivial⟩, rfl⟩
      rw [p9Row_one]; exact row1_le _ _ _
    | false =>
      rw [if_neg (by decide)] at hout
      cases hah : ahP fx fy (x, y) (a, b) with
      | true =>
        rw [hah] at C1 hany
        have hout' : insQ fx fy (x, y) (l.take (k + 1)) = (out ++ [(x, y)]) ++ [(a, b)] := by rw [hout, ht, insQ_at hah hdn.symm, List.append_assoc]; rfl
        clear hout g1 ht
        (repeat (first | ((with_reducible apply hs_nilS); kernel_rfl) | ((with_reducible apply rwp_draw (id := 6) [0,1,2,3,4,5,6,7,8,9,10,11]); kernel_rfl; kernel_rfl; exact rfl) | ((with_reducible apply rwp_seq)) | ((with_reducible apply rthen_normal)) | ((with_reducible apply rwp_region)) | ((with_reducible apply hs_nil)) | ((with_reducible apply rwp_skip)) | ((with_reducible apply rwp_block)) | ((with_reducible apply rwp_cond_1); exact rfl; (first | assumption | exact decide_eq_true (by omega) | (simp only [Bool.not_eq_true', decide_eq_false_iff_not, decide_eq_true_eq, Bool.not_eq_false']; (first | done | omega)) | exact rfl)) | ((with_reducible apply hs_c); exact rfl; (repeat (first | ((with_reducible apply al_q); exact rfl) | ((with_reducible apply al_loadPN); (iterate 5 exact rfl)) | ((with_reducible apply al_idxS); (iterate 3 exact rfl); (first | decide | omega); (first | decide | omega); (first | assumption | rfl); exact rfl) | ((with_reducible apply al_len); (iterate 3 exact rfl)) | ((with_reducible apply al_bslice); (iterate 10 exact rfl)) | (refine al_call4 rfl rfl rfl rfl rfl rfl (by (first | exact C1)) rfl ?_))); (with_reducible apply al_nil))))
        refine hs_app0 0 rfl rfl rfl rfl ?q1 ?q2 rfl rfl (fun v1 hv1 => ?_)
        case q1 => exact le_maxLen (by show out.length + 1 ≤ 1000000; omega)
        case q2 => show (out.length + 1) * 16 ≤ 140737488355328; omega
        (repeat (first | ((with_reducible apply rthen_normal)) | ((with_reducible apply rwp_region)) | ((with_reducible apply hs_nil)) | ((with_reducible apply hs_c); exact rfl; (repeat (first | ((with_reducible apply al_q); exact rfl) | ((with_reducible apply al_loadPN); (iterate 5 exact rfl)) | ((with_reducible apply al_idxS); (iterate 3 exact rfl); (first | decide | omega); (first | decide | omega); (first | assumption | rfl); exact rfl) | ((with_reducible apply al_bslice); (iterate 10 exact rfl)))); (with_reducible apply al_nil))))
        refine hs_app0 0 rfl rfl rfl rfl ?q1 ?q2 rfl rfl (fun v' hv' => ?_)
        case q1 => exact le_maxLen (by show (out.length + 1) + 1 ≤ 1000000; omega)
        case q2 => show ((out.length + 1) + 1) * 16 ≤ 140737488355328; omega
        (repeat (first | ((with_reducible apply rthen_normal)) | ((with_reducible apply rwp_region)) | ((with_reducible apply hs_nil)) | ((with_reducible apply rblock_normal)) | ((with_reducible apply hs_c); exact rfl; (repeat (first | ((with_reducible apply al_q); exact rfl) | ((with_reducible apply al_add); (iterate 3 exact rfl); (first | exact i64_wrap (by omega) | assumption | rfl); exact rfl))); (with_reducible apply al_nil))))
        refine ⟨l.length - (k + 1), row1 0 (p9Row v' ((out ++ [(x, y)]) ++ [(a, b)])), _, [(5, mPx x y)], by omega, ⟨k + 1, v', ki + 1, (out ++ [(x, y)]) ++ [(a, b)], true, by omega, rfl, by omega, by rw [hany]; rfl, by rw [if_pos rfl, hout'], rfl, rfl, rfl⟩, ?_, rfl, ⟨rfl, rfl, rfl, rfl, rfl, rfl, rfl, trivial⟩, ⟨rfl, trivial⟩, rfl⟩
        have e1 : p9Row v' ((out ++ [(x, y)]) ++ [(a, b)]) = ⟨47, 2, v', out.length + 1 + 1, (itC out ++ [.c (.int .i64 x), .c (.int .i64 y)]) ++ [.c (.int .i64 a), .c (.int .i64 b)]⟩ := by
          unfold p9Row
          rw [itC_append, itC_append, List.length_append, List.length_append]; rfl
        rw [e1]; exact row1_le _ _ _
      | false =>
        rw [hah] at C1 hany
        have hout' : l.take (k + 1) = out ++ [(a, b)] := by rw [hout, ht]
        clear hout g1 ht
        (repeat (first | ((with_reducible apply hs_nilS); kernel_rfl) | ((with_reducible apply rwp_draw (id := 6) [0,1,2,3,4,5,6,7,8,9,10,11]); kernel_rfl; kernel_rfl; exact rfl) | ((with_reducible apply rwp_seq)) | ((with_reducible apply rthen_normal)) | ((with_reducible apply rwp_region)) | ((with_reducible apply hs_nil)) | ((with_reducible apply rwp_skip)) | ((with_reducible apply rwp_block)) | ((with_reducible apply rwp_cond_1); exact rfl; (first | assumption | exact decide_eq_true (by omega) | (simp only [Bool.not_eq_true', decide_eq_false_iff_not, decide_eq_true_eq, Bool.not_eq_false']; (first | done | omega)) | exact rfl)) | ((with_reducible apply rwp_cond_0); exact rfl; (first | assumption | exact decide_eq_false (by omega) | (simp only [Bool.not_eq_true', decide_eq_false_iff_not, decide_eq_true_eq, Bool.not_eq_false']; (first | done | omega)) | exact rfl)) | ((with_reducible apply hs_c); exact rfl; (repeat (first | ((with_reducible apply al_q); exact rfl) | ((with_reducible apply al_loadPN); (iterate 5 exact rfl)) | ((with_reducible apply al_idxS); (iterate 3 exact rfl); (first | decide | omega); (first | decide | omega); (first | assumption | rfl); exact rfl) | ((with_reducible apply al_len); (iterate 3 exact rfl)) | ((with_reducible apply al_bslice); (iterate 10 exact rfl)) | (refine al_call4 rfl rfl rfl rfl rfl rfl (by (first | exact C1)) rfl ?_))); (with_reducible apply al_nil))))
        refine hs_app0 0 rfl rfl rfl rfl ?q1 ?q2 rfl rfl (fun v' hv' => ?_)
        case q1 => exact le_maxLen (by show out.length + 1 ≤ 1000000; omega)
        case q2 => show (out.length + 1) * 16 ≤ 140737488355328; omega
        (repeat (first | ((with_reducible apply rthen_normal)) | ((with_reducible apply rwp_region)) | ((with_reducible apply hs_nil)) | ((with_reducible apply rblock_normal)) | ((with_reducible apply hs_c); exact rfl; (repeat (first | ((with_reducible apply al_q); exact rfl) | ((with_reducible apply al_add); (iterate 3 exact rfl); (first | exact i64_wrap (by omega) | assumption | rfl); exact rfl))); (with_reducible apply al_nil))))
        refine ⟨l.length - (k + 1), row1 0 (p9Row v' (out ++ [(a, b)])), _, [(5, mPx x y)], by omega, ⟨k + 1, v', ki + 1, out ++ [(a, b)], false, by omega, rfl, by omega, by rw [hany]; rfl, by rw [if_neg (by decide), hout'], rfl, rfl, rfl⟩, ?_, rfl, ⟨rfl, rfl, rfl, rfl, rfl, rfl, rfl, trivial⟩, ⟨rfl, trivial⟩, rfl⟩
        rw [p9Row_one]; exact row1_le _ _ _
  · have q2 : ¬ ki < (l.length : Int) := by omega
    have hkl : k = l.length := by omega
    have e0 : l.take k = l := by rw [hkl, List.take_length]
    rw [e0] at hdn hout
    cases dn with
    | true =>
      rw [if_pos rfl] at hout
      rw [← hout]
      refine rwp_cool 0 9 (p9Row v out) rfl rfl ?_
      (repeat (first | ((with_reducible apply rwp_seq)) | ((with_reducible apply rthen_normal)) | ((with_reducible apply rwp_region)) | ((with_reducible apply hs_nil)) | ((with_reducible apply rwp_ret)) | ((with_reducible apply rwp_skip)) | ((with_reducible apply rblock_same)) | ((with_reducible apply rwp_exit)) | ((with_reducible apply rthen_exit)) | ((with_reducible apply rwp_cond_0); exact rfl; (first | assumption | exact decide_eq_false (by omega) | (simp only [Bool.not_eq_true', decide_eq_false_iff_not, decide_eq_true_eq, Bool.not_eq_false']; (first | done | omega)) | exact rfl)) | ((with_reducible apply hs_c); exact rfl; (repeat (first | ((with_reducible apply al_q); exact rfl) | ((with_reducible apply al_len); (iterate 3 exact rfl)))); (with_reducible apply al_nil))))
      (first | (refine apost_ret rfl (resl_tmp rfl resl_nil) ?_))
      exact AV.Le.refl _
    | false =>
      rw [if_neg (by decide)] at hout
      have hf : insQ fx fy (x, y) l = out ++ [(x, y)] := by rw [hout]; exact insQ_none hdn.symm
      rw [hf]
      (repeat (first | ((with_reducible apply rwp_seq)) | ((with_reducible apply rthen_normal)) | ((with_reducible apply rwp_region)) | ((with_reducible apply hs_nil)) | ((with_reducible apply rblock_same)) | ((with_reducible apply rwp_exit)) | ((with_reducible apply rthen_exit)) | ((with_reducible apply rwp_cond_1); exact rfl; (first | assumption | exact decide_eq_true (by omega) | (simp only [Bool.not_eq_true', decide_eq_false_iff_not, decide_eq_true_eq, Bool.not_eq_false']; (first | done | omega)) | exact rfl)) | ((with_reducible apply rwp_cond_0); exact rfl; (first | assumption | exact decide_eq_false (by omega) | (simp only [Bool.not_eq_true', decide_eq_false_iff_not, decide_eq_true_eq, Bool.not_eq_false']; (first | done | omega)) | exact rfl)) | ((with_reducible apply hs_c); exact rfl; (repeat (first | ((with_reducible apply al_q); exact rfl) | ((with_reducible apply al_len); (iterate 3 exact rfl)) | ((with_reducible apply al_bslice); (iterate 10 exact rfl)))); (with_reducible apply al_nil))))
      refine hs_appC (k := (out ++ [(x, y)]).length) (zs := itC (out ++ [(x, y)])) 0 rfl rfl rfl rfl ?p1 ?p2 ?p3 ?p4 rfl rfl ?_
      case p1 => exact le_maxLen (by show out.length + 1 ≤ 1000000; omega)
      case p2 => show (out.length + 1) * 16 ≤ 140737488355328; omega
      case p3 => show out.length + 1 = (out ++ [(x, y)]).length; rw [List.length_append]; rfl
      case p4 => exact itC_one9 out x y
      (repeat (first | ((with_reducible apply rwp_seq)) | ((with_reducible apply rthen_normal)) | ((with_reducible apply rwp_region)) | ((with_reducible apply hs_nil)) | ((with_reducible apply rwp_ret)) | ((with_reducible apply hs_c); exact rfl; (repeat (first | ((with_reducible apply al_q); exact rfl))); (with_reducible apply al_nil))))
      (first | (refine apost_ret rfl (resl_tmp rfl resl_nil) ?_))
      exact AV.Le.refl _
end Go.Proofs.Ytlglajaonmpljaa

namespace Go.Proofs.Ytlglajaonmpljaa
open Go.RowKit
set_option linter.unusedVariables false
set_option linter.unusedSimpArgs false
/-- a function that is handed a row by its slice. -/
def RCall (P : Program) (f : FuncId) (args : List AV) (r : HRow) (post : AV → HRow → Prop) : Prop :=
  ∀ i, HCall P f args noMem (row1 i r) fun v m' R' => ∃ r', m' = noMem ∧ R' = row1 i r' ∧ post v r'
/-- and that leaves it as it is, and makes another one. -/
def RCall2 (P : Program) (f : FuncId) (args : List AV) (r : HRow) (post : AV → HRow → Prop) : Prop :=
  ∀ i j, i ≠ j → HCall P f args noMem (row1 i r) fun v m' R' => ∃ q, m' = noMem ∧ R' = upd (row1 i r) j q ∧ post v q
section
variable {P : Program} {R : Rws} {s : AS} {ops : Array Oper} {dr : Option (List Nat)} {ty : Nat} {pos : String} {after : Array Edge} {guard : Option (Nat × Bool)} {K : Rws → AS → Prop} {rest : List Oper}
def rowTwo (r q : HRow) : Rws := fun i => if i = 0 then some r else if i = 1 then some q else none
end
/-- of a world: what becomes of the row that was handed in. -/
structure RowTo (W W' : World) (r r' : HRow) (U : Nat → Prop) : Prop where
  grown : W.grownBy W' r.v.ownBlock
  row : ∃ xs, W'.ownsRow 0 r'.e r'.sz r'.v r'.n xs ∧ RpL U id W r'.ys xs
  cl : ∀ y ∈ r'.ys, y.closedB = true
  blk : ∀ g, r'.v.ownBlock = some g → r.v.ownBlock = some g ∨ W.heap.size ≤ g
/-- of a world: another row is made. -/
structure RowNew (W W' : World) (q : HRow) (U : Nat → Prop) : Prop where
  grown : W.grownBy W' none
  row : ∃ xs, W'.ownsRow 0 q.e q.sz q.v q.n xs ∧ RpL U id W q.ys xs
  cl : ∀ y ∈ q.ys, y.closedB = true
  blk : ∀ g, q.v.ownBlock = some g → W.heap.size ≤ g
/-- what a row's slice looks like. -/
theorem rwp_shape (i : Nat) {P : Program} {R : Rws} {s : AS} {c : Code} {Q : Exit → Rws → AS → Prop} {r : HRow} (hi : R i = some r) (h : ∀ A k, r.v = .slice A r.n k → r.n ≤ k → k ≤ maxLen → (0 < r.n → ∃ g, A = some ⟨g, 0, none⟩) → r.ys.length = r.n * r.sz → RWp P c Q R s) (hsz : 0 < r.sz := by first | decide | exact Nat.zero_lt_succ _) : RWp P c Q R s := by
  rintro ok B0 A0 a w ⟨A, ρ, hR⟩
  obtain ⟨xs, ho, hl⟩ := (hR.rows i r hi).cells hsz
  have hlen : r.ys.length = r.n * r.sz := hl.1.trans ho.1
  rcases ho.2 with ⟨e, e0⟩ | ⟨g, cap, cur, e, _, _, hnc, hcm, _⟩
  · exact h none 0 (by rw [e, e0]) (by omega) (Nat.zero_le _) (fun h => by omega) hlen ok B0 A0 a w ⟨A, ρ, hR⟩
  · exact h _ cap e hnc hcm (fun _ => ⟨g, rfl⟩) hlen ok B0 A0 a w ⟨A, ρ, hR⟩
end Go.Proofs.Ytlglajaonmpljaa

namespace Go.Proofs.Ytlglajaonmpljaa
open Go.RowKit
set_option linter.unusedVariables false
set_option linter.unusedSimpArgs false
/-- is a number not too far? -/
def fB (n : Int) : Bool := decide (-536870912 ≤ n) && decide (n ≤ 536870912)
def rB (x y : Int) : Bool := fB x && fB y
/-- the product of three points. -/
def cr (o1 o2 a1 a2 b1 b2 : Int) : Int := (a1 - o1) * (b2 - o2) - (a2 - o2) * (b1 - o1)
/-- the product, or 0, if a point is not right. -/
def crV (o1 o2 a1 a2 b1 b2 : Int) : Int := if (rB o1 o2 && rB a1 a2 && rB b1 b2) = true then cr o1 o2 a1 a2 b1 b2 else 0
/-- the sign of a number. -/
def sgn4 (n : Int) : Int := if n < 0 then -1 else if 0 < n then 1 else 0
/-! boxes -/
abbrev imin (a b : Int) : Int := if b < a then b else a
abbrev imax (a b : Int) : Int := if b > a then b else a
def hB (l1 l2 h1 h2 p1 p2 : Int) : Bool := decide (l1 ≤ p1) && decide (p1 ≤ h1) && decide (l2 ≤ p2) && decide (p2 ≤ h2)
/-- is p on the segment from a to b? -/
def onB (p1 p2 a1 a2 b1 b2 : Int) : Bool := rB p1 p2 && rB a1 a2 && rB b1 b2 && hB (imin a1 b1) (imin a2 b2) (imax a1 b1) (imax a2 b2) p1 p2 && decide (cr a1 a2 b1 b2 p1 p2 = 0)
end Go.Proofs.Ytlglajaonmpljaa

namespace Go.Proofs.Ytlglajaonmpljaa
set_option linter.unusedVariables false
/-- is a point right in layer 5? -/
def rB5 (x y : Int) : Bool := decide (x ≤ 134217728) && decide (y ≤ 134217728) && decide (-134217728 ≤ x) && decide (-134217728 ≤ y)
theorem rB5_iff {x y : Int} : rB5 x y = true ↔ (-134217728 ≤ x ∧ x ≤ 134217728) ∧ -134217728 ≤ y ∧ y ≤ 134217728 := by
  unfold rB5
  simp only [Bool.and_eq_true, decide_eq_true_eq]
  omega
/-- the first point is no greater than the second. -/
def lx (a1 a2 b1 b2 : Int) : Prop := a1 < b1 ∨ (a1 = b1 ∧ a2 ≤ b2)
instance (a1 a2 b1 b2 : Int) : Decidable (lx a1 a2 b1 b2) := by unfold lx; exact inferInstance
theorem lx.trans {a1 a2 b1 b2 c1 c2 : Int} (h : lx a1 a2 b1 b2) (k : lx b1 b2 c1 c2) : lx a1 a2 c1 c2 := by unfold lx at *; omega
/-- p is on the segment from s to t, s no greater than t. -/
def inBox (p1 p2 a1 a2 b1 b2 : Int) : Prop := imin a1 b1 ≤ p1 ∧ p1 ≤ imax a1 b1 ∧ imin a2 b2 ≤ p2 ∧ p2 ≤ imax a2 b2
/-- p is on the segment from s to t. -/
def On (p1 p2 s1 s2 t1 t2 : Int) : Prop := cr s1 s2 t1 t2 p1 p2 = 0 ∧ inBox p1 p2 s1 s2 t1 t2
/-- how two directions turn. -/
def par (s1 s2 s3 s4 t1 t2 t3 t4 : Int) : Int := (s3 - s1) * (t4 - t2) - (s4 - s2) * (t3 - t1)
/-- is n over d between two numbers? -/
def bw (n d a b : Int) : Prop := imin a b * d ≤ n ∧ n ≤ imax a b * d
/-! what two segments have in common -/
structure Mt where
  k : Int
  n : Int
  d : Int
  m : Int
  e : Int
  p1 : Int
  p2 : Int
  q1 : Int
  q2 : Int
def noM : Mt := ⟨0, 0, 0, 0, 0, 0, 0, 0, 0⟩
def plM (n d m e : Int) : Mt := ⟨1, n, d, m, e, 0, 0, 0, 0⟩
def alM (p1 p2 q1 q2 : Int) : Mt := ⟨2, 0, 0, 0, 0, p1, p2, q1, q2⟩
def nr1 (n d : Int) : Int := if d < 0 then -n else n
def nr2 (d : Int) : Int := if d < 0 then -d else d
/-- the lines' numbers. -/
def nX (a1 a2 b1 b2 c1 c2 d1 d2 : Int) : Int := ((b2 - a2) * a1 + (a1 - b1) * a2) * (c1 - d1) - (a1 - b1) * ((d2 - c2) * c1 + (c1 - d1) * c2)
def nY (a1 a2 b1 b2 c1 c2 d1 d2 : Int) : Int := (b2 - a2) * ((d2 - c2) * c1 + (c1 - d1) * c2) - ((b2 - a2) * a1 + (a1 - b1) * a2) * (d2 - c2)
def wD (a1 a2 b1 b2 c1 c2 d1 d2 : Int) : Int := (b2 - a2) * (c1 - d1) - (a1 - b1) * (d2 - c2)
section
variable (a1 a2 b1 b2 c1 c2 d1 d2 : Int)
end
/-- two lines of other directions meet within both segments. -/
def four (a1 a2 b1 b2 c1 c2 d1 d2 x y d : Int) : Prop := bw x d a1 b1 ∧ bw y d a2 b2 ∧ bw x d c1 d1 ∧ bw y d c2 d2
instance (n d a b : Int) : Decidable (bw n d a b) := by unfold bw; exact inferInstance
instance (a1 a2 b1 b2 c1 c2 d1 d2 x y d : Int) : Decidable (four a1 a2 b1 b2 c1 c2 d1 d2 x y d) := by unfold four; exact inferInstance
def meetW (a1 a2 b1 b2 c1 c2 d1 d2 x y d : Int) : Mt := if four a1 a2 b1 b2 c1 c2 d1 d2 x y d then plM x d y d else noM
def meetN (a1 a2 b1 b2 c1 c2 d1 d2 : Int) : Mt :=
  meetW a1 a2 b1 b2 c1 c2 d1 d2 (nr1 (nX a1 a2 b1 b2 c1 c2 d1 d2) (wD a1 a2 b1 b2 c1 c2 d1 d2)) (nr1 (nY a1 a2 b1 b2 c1 c2 d1 d2) (wD a1 a2 b1 b2 c1 c2 d1 d2)) (nr2 (wD a1 a2 b1 b2 c1 c2 d1 d2))
/-- both above 0, or both below. -/
def same (m n : Int) : Prop := (0 < m ∧ 0 < n) ∨ (m < 0 ∧ n < 0)
instance (m n : Int) : Decidable (same m n) := by unfold same; exact inferInstance
/-! the lesser, and the greater, of two points -/
def lo1 (a1 a2 b1 b2 : Int) : Int := if lx a1 a2 b1 b2 then a1 else b1
def lo2 (a1 a2 b1 b2 : Int) : Int := if lx a1 a2 b1 b2 then a2 else b2
def hi1 (a1 a2 b1 b2 : Int) : Int := if lx a1 a2 b1 b2 then b1 else a1
def hi2 (a1 a2 b1 b2 : Int) : Int := if lx a1 a2 b1 b2 then b2 else a2
theorem on_comm {p1 p2 a1 a2 b1 b2 : Int} : On p1 p2 b1 b2 a1 a2 ↔ On p1 p2 a1 a2 b1 b2 := by
  unfold On inBox
  have e : cr b1 b2 a1 a2 p1 p2 = - cr a1 a2 b1 b2 p1 p2 := by unfold cr; grind
  have m : ∀ x y : Int, imin x y = imin y x := fun x y => by unfold imin; split <;> split <;> omega
  have n : ∀ x y : Int, imax x y = imax y x := fun x y => by unfold imax; split <;> split <;> omega
  rw [e, m a1, m a2, n a1, n a2]
  constructor <;> rintro ⟨h, k⟩ <;> exact ⟨by omega, k⟩
instance (p1 p2 a1 a2 b1 b2 : Int) : Decidable (inBox p1 p2 a1 a2 b1 b2) := by unfold inBox; exact inferInstance
instance (p1 p2 a1 a2 b1 b2 : Int) : Decidable (On p1 p2 a1 a2 b1 b2) := by unfold On; exact inferInstance
def inlP (f1 f2 g1 g2 : Int) : Mt := if f1 = g1 ∧ f2 = g2 then plM f1 1 f2 1 else alM f1 f2 g1 g2
def inl (s1 s2 s3 s4 t1 t2 t3 t4 : Int) : Mt :=
  if On (hi1 s1 s2 t1 t2) (hi2 s1 s2 t1 t2) s1 s2 s3 s4 ∧ On (hi1 s1 s2 t1 t2) (hi2 s1 s2 t1 t2) t1 t2 t3 t4 then inlP (hi1 s1 s2 t1 t2) (hi2 s1 s2 t1 t2) (lo1 s3 s4 t3 t4) (lo2 s3 s4 t3 t4) else noM
def ok5 (x y : Int) : Bool := decide (x ≤ 134217728) && decide (y ≤ 134217728) && decide (-134217728 ≤ x) && decide (-134217728 ≤ y)
/-- the sorted segments in one line. -/
def inlS (a1 a2 b1 b2 c1 c2 d1 d2 : Int) : Mt := inl (lo1 a1 a2 b1 b2) (lo2 a1 a2 b1 b2) (hi1 a1 a2 b1 b2) (hi2 a1 a2 b1 b2) (lo1 c1 c2 d1 d2) (lo2 c1 c2 d1 d2) (hi1 c1 c2 d1 d2) (hi2 c1 c2 d1 d2)
/-- what two segments of right points have in common. -/
def meetV (a1 a2 b1 b2 c1 c2 d1 d2 : Int) : Mt := if wD a1 a2 b1 b2 c1 c2 d1 d2 = 0 then inlS a1 a2 b1 b2 c1 c2 d1 d2 else meetN a1 a2 b1 b2 c1 c2 d1 d2
/-- by the ends' sides: s, t in order. -/
def meetS (s1 s2 s3 s4 t1 t2 t3 t4 A B C D : Int) : Mt :=
  if A = B then inl s1 s2 s3 s4 t1 t2 t3 t4
  else if same A B ∨ same C D then noM
  else plM (nr1 (t3 * A - t1 * B) (A - B)) (nr2 (A - B)) (nr1 (t4 * A - t2 * B) (A - B)) (nr2 (A - B))
/-! the least, and the greatest, of a row -/
def lt' (a b : Int × Int) : Prop := a.1 < b.1 ∨ (a.1 = b.1 ∧ a.2 < b.2)
instance (a b : Int × Int) : Decidable (lt' a b) := by unfold lt'; exact inferInstance
def lea (a b : Int × Int) : Int × Int := if lt' a b then a else b
def mos (a b : Int × Int) : Int × Int := if lea a b = a then b else a
/-- the ends that are on both segments. -/
def ends (a1 a2 b1 b2 c1 c2 d1 d2 : Int) : List (Int × Int) := [(a1, a2), (b1, b2), (c1, c2), (d1, d2)].filter fun p => decide (On p.1 p.2 a1 a2 b1 b2) && decide (On p.1 p.2 c1 c2 d1 d2)
def rowM : List (Int × Int) → Mt
  | [] => noM
  | x :: l => inlP (l.foldl lea x).1 (l.foldl lea x).2 (l.foldl mos x).1 (l.foldl mos x).2
end Go.Proofs.Ytlglajaonmpljaa

namespace Go.Proofs.Ytlglajaonmpljaa
open Go.RowKit
set_option linter.unusedVariables false
set_option linter.unusedSimpArgs false
set_option maxRecDepth 100000 in
set_option maxHeartbeats 4000000 in
theorem p_r2Cmp {n d m e : Int} (a : NB 200 n) (b : NB 200 d) (c : NB 200 m) (f : NB 200 e) : PCall Try.prog 30 [rfv n d, rfv m e] (vI (icmp (n * e) (m * d))) := by
  have C1 := p_rMul (n := n) (m := e) (a.up (by omega)) (f.up (by omega))
  have C2 := p_rMul (n := m) (m := d) (c.up (by omega)) (b.up (by omega))
  have C3 := p_rCmp (n := n * e) (m := m * d) ((a.mul f).up (by omega)) ((c.mul b).up (by omega))
  clear a b c f
  refine pcall_body (f := 30) Try.func30 rfl rfl rfl rfl ?_
  (repeat (first | ((with_reducible apply al_q); exact rfl) | (refine al_call2 rfl rfl rfl rfl (by (first | exact C1 | exact C2 | exact C3)) rfl ?_) | ((with_reducible apply al_nilS); kernel_rfl) | ((with_reducible apply awp_region_draw); kernel_rfl; kernel_rfl; exact rfl) | ((with_reducible apply awp_seq)) | ((with_reducible apply athen_normal)) | ((with_reducible apply awp_region)) | ((with_reducible apply al_nil)) | ((with_reducible apply awp_ret))))
  (first | (refine apost_ret rfl (resl_tmp rfl resl_nil) ?_))
  exact AV.Le.refl _
set_option maxRecDepth 100000 in
set_option maxHeartbeats 4000000 in
theorem p_r5Right {x y : Int} {b : Bool} (hb : rB5 x y = b) : PCall Try.prog 10 [vP x y] (vB b) := by
  have cs : (x ≤ 134217728 ∧ y ≤ 134217728 ∧ -134217728 ≤ x ∧ -134217728 ≤ y ∧ b = true) ∨ (x ≤ 134217728 ∧ y ≤ 134217728 ∧ -134217728 ≤ x ∧ ¬ -134217728 ≤ y ∧ b = false) ∨ (x ≤ 134217728 ∧ y ≤ 134217728 ∧ ¬ -134217728 ≤ x ∧ b = false) ∨ (x ≤ 134217728 ∧ ¬ y ≤ 134217728 ∧ b = false) ∨ (¬ x ≤ 134217728 ∧ b = false) := by
    rw [← hb]; unfold rB5
    by_cases q1 : x ≤ 134217728 <;> by_cases q2 : y ≤ 134217728 <;> by_cases q3 : -134217728 ≤ x <;> by_cases q4 : -134217728 ≤ y <;> simp [q1, q2, q3, q4]
  clear hb
  rcases cs with ⟨q1, q2, q3, q4, rfl⟩ | ⟨q1, q2, q3, q4, rfl⟩ | ⟨q1, q2, q3, rfl⟩ | ⟨q1, q2, rfl⟩ | ⟨q1, rfl⟩
  all_goals
    refine pcall_body (f := 10) Try.func10 rfl rfl rfl rfl ?_
    (repeat (first | ((with_reducible apply al_q); exact rfl) | ((with_reducible apply al_guard_b (c := true)); exact rfl; exact rfl; (first | assumption | exact decide_eq_true (by omega) | (simp only [Bool.not_eq_true', decide_eq_false_iff_not, decide_eq_true_eq, Bool.not_eq_false']; (first | done | omega)))) | ((with_reducible apply al_guard_b (c := false)); exact rfl; exact rfl; (first | assumption | exact decide_eq_false (by omega) | (simp only [Bool.not_eq_true', decide_eq_false_iff_not, decide_eq_true_eq, Bool.not_eq_false']; (first | done | omega)))) | ((with_reducible apply awp_seq)) | ((with_reducible apply athen_normal)) | ((with_reducible apply awp_region)) | ((with_reducible apply al_nil)) | ((with_reducible apply awp_ret))))
    (first | (refine apost_ret rfl (resl_tmp rfl resl_nil) ?_))
    first | exact AV.Le.refl _ | exact AV.Le.of_eq (by rw [decide_eq_true q4]; rfl) | exact AV.Le.of_eq (by rw [decide_eq_false q4]; rfl)
theorem NB.i64 {n : Int} (h0 : -9223372036854775808 ≤ n) (h1 : n < 9223372036854775808) : NB 5 n := by unfold NB; omega
end Go.Proofs.Ytlglajaonmpljaa

